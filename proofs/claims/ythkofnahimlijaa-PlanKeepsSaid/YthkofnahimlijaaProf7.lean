/- profile's change: the walk. Conditions: the profile stands in memory, its steps tell what is free; what the closure that is handed in answers. -/
import Derived.Test.YthkofnahimlijaaProf6
import Derived.Test.YthkofnahimlijaaChg
namespace Go.Proofs.Ythkofnahimlijaa
open Go Go.RowKit
def ChgPost (w : World) (p : Nat) (W : V4) (f : Int → V4) (a c : Int) (mv : V4 → V4 × Bool) (r : Int) (en : Ending) (w' : World) : Prop :=
  (en = .returned (.int .i64 r) ∧ (∃ t, a ≤ t ∧ t < c ∧ (mv (f t)).2 = false) ∧ Below w.heap.size w w') ∨
  (en = .returned (.int .i64 0) ∧ (∀ t, a ≤ t → t < c → (mv (f t)).2 = true) ∧ w.grownBy w' (some p) ∧ ∃ b cap n T V, PV w' p b cap W n T V ∧ Rp n T V 1099511627777 (chF f a c fun x => (mv x).1))
theorem Cur.first {w : World} {B b cap n i : Nat} {T : Nat → Int} {V : Nat → V4} {a c : Int} {f : Int → V4} {g : V4 → V4} (hs : Sl w b n T V) (hR : Rp n T V 1099511627777 f) (hi : i < n) (hi1 : T i = a) (ha : 0 ≤ a) (_ : n ≤ cap) : Cur B w (.slice (some ⟨b, 0, none⟩) i i) a (chF f a c g) := by
  refine ⟨none, b, i, i, T, V, rfl, hs.short (by omega), Nat.le_refl _, .inl ⟨rfl, rfl⟩, hR.cut (by omega) ha (fun h0 => ?_) (fun h0 => ?_) (fun _ => by omega) (by have := hR.lt i hi; omega) (fun t ht => chF_out (.inl ht)), .inl rfl⟩
  · subst h0
    rw [← hi1, hR.zero (by omega)]
  · have := hR.ltt (i := i - 1) (j := i) (by omega) hi
    omega
theorem Rp.head {n i : Nat} {T : Nat → Int} {V : Nat → V4} {a c : Int} {f : Int → V4} {g : V4 → V4} (hR : Rp n T V 1099511627777 f) (hi : i < n) (hi1 : T i < a) (hi2 : i + 1 < n → a < T (i + 1)) (ha : 0 ≤ a) (ha2 : a ≤ 1099511627777) : Rp (i + 1) (upd T i (T i)) (upd V i (V i)) a (chF f a c g) := by
  refine (hR.cut (k := i + 1) (e' := a) (by omega) ha (fun h0 => by omega) (fun _ => by rw [Nat.add_sub_cancel]; exact hi1) (fun h => by have := hi2 h; omega) ha2 (fun t ht => chF_out (.inl ht))).congr (fun j hj => ?_) (fun j hj => ?_)
  · unfold upd
    split
    · next h => rw [h]
    · rfl
  · unfold upd
    split
    · next h => rw [h]
    · rfl
set_option maxRecDepth 100000 in
set_option maxHeartbeats 4000000 in
theorem change_any (p b cap : Nat) (W : V4) (n : Nat) (T : Nat → Int) (V : Nat → V4) (fn : Int → V4) (a c : Int) (v : V4) (r : Int) (g : FuncId) (cb : Array Value) (mv : V4 → V4 × Bool) (w : World) (h : PV w p b cap W n T V) (hR : Rp n T V 1099511627777 fn) (hW : ∀ t, (fn t).le W) (ho : ∀ t, (t < 0 ∨ 1099511627776 ≤ t) → fn t = W)
    (hok : ∀ t, (fn t).ok) (hv : v.okB = true) (ha : 0 ≤ a) (hac : a < c) (hc : c ≤ 1099511627776) (eg : ∀ args w, (callFunc g args).run Try.prog w = .ok (.enter g args) w)
    (KC : Hid (∀ (x : V4) (w1 : World), x.ok → x.le W → Below w.heap.size w w1 → Calls Try.prog g (#[.agg #[.int .i64 x.a, .int .i64 x.b, .int .i64 x.c, .int .i64 x.d]] ++ cb) w1 fun e w' => e = .returned (.tuple #[.agg #[.int .i64 ((mv x).1).a, .int .i64 ((mv x).1).b, .int .i64 ((mv x).1).c, .int .i64 ((mv x).1).d], .bool (mv x).2]) ∧ Below w1.heap.size w1 w')) :
    Calls Try.prog 62 #[.pointer (some ⟨p, 0, none⟩), .int .i64 a, .int .i64 c, .agg #[.int .i64 v.a, .int .i64 v.b, .int .i64 v.c, .int .i64 v.d], .int .i64 r, .func (.func g) #[] cb] w (ChgPost w p W fn a c mv r) := by
  have KM : Hid (∀ w1, PV w1 p b cap W n T V → Calls Try.prog 65 #[.pointer (some ⟨p, 0, none⟩)] w1 fun e w' => e = .returned (.bool true) ∧ w1 = w') := hid fun w1 h1 => made_any p b cap W n T V w1 h1
  have KS : Hid (∀ w1, Calls Try.prog 79 #[.int .i64 a, .int .i64 c] w1 fun e w' => e = .returned (.bool true) ∧ w1 = w') := hid fun w1 => by
    have h := span_any a c w1
    rw [show spanB a c = true by simp [spanB]; omega] at h
    exact h
  have KR : Hid (∀ w1, Calls Try.prog 34 #[.agg #[.int .i64 v.a, .int .i64 v.b, .int .i64 v.c, .int .i64 v.d]] w1 fun e w' => e = .returned (.bool true) ∧ Below w1.heap.size w1 w') := hid fun w1 => by
    have h := right4 v w1
    rw [hv] at h
    exact h
  obtain ⟨i, j, hij, hj, ⟨hi1, hi2⟩, hj1, hj2⟩ := hR.range ha hac (by omega)
  have hi : i < n := by omega
  have KA : Hid (∀ w1, PV w1 p b cap W n T V → Calls Try.prog 66 #[.pointer (some ⟨p, 0, none⟩), .int .i64 a] w1 fun e w' => e = .returned (.int .i64 i) ∧ Below w1.heap.size w1 w') := hid fun w1 h1 => place_any p b cap W n T V i _ w1 h1 (fun x y hxy hy => hR.le hxy hy) (by omega) hi1 hi2
  have KB : Hid (∀ w1, PV w1 p b cap W n T V → Calls Try.prog 66 #[.pointer (some ⟨p, 0, none⟩), .int .i64 (c - 1)] w1 fun e w' => e = .returned (.int .i64 j) ∧ Below w1.heap.size w1 w') := hid fun w1 h1 => place_any p b cap W n T V j _ w1 h1 (fun x y hxy hy => hR.le hxy hy) hj hj1 hj2
  have KAt : Hid (∀ w1, PV w1 p b cap W n T V → Calls Try.prog 81 #[.pointer (some ⟨p, 0, none⟩), .int .i64 c] w1 fun e w' => e = .returned (.agg #[.int .i64 (fn c).a, .int .i64 (fn c).b, .int .i64 (fn c).c, .int .i64 (fn c).d]) ∧ Below w1.heap.size w1 w') := hid fun w1 h1 => at_any p b cap W n T V fn c w1 h1 hR hW ho (by omega)
  have HR := hid hR
  have HST := hid (fun k hk => eK_step (k := k) hR hj hi2 hj1 hj2 hac hc hk)
  have HB := hid (beh_start (a := a) (g := fun x => (mv x).1) hR hj hj1 hj2 hc)
  have HW := hid hW
  have HOK := hid hok
  have HFn : Hid (∀ k, i + k ≤ j → fn (max (T (i + k)) a) = V (i + k) ∧ a ≤ max (T (i + k)) a ∧ max (T (i + k)) a < c) := hid fun k hk => by
    obtain ⟨s1, s2, s3⟩ := HST.out k hk
    obtain ⟨s4, s5, s6⟩ := s3 _ (Int.le_refl _) s1
    exact ⟨s6, s4, s5⟩
  have hnc := h.c
  have hnl := h.nl
  have hpl := lt_of h.h
  have hbl := h.s.lt
  have hcap1 : (j : Int) + 1 ≤ (cap : Int) := by omega
  have hic : i < cap := by omega
  have hji : (i : Int) ≤ (j : Int) + 1 := by omega
  have hin : (i : Int) < (n : Int) := by omega
  have X0 := hid (heap_new w (.cells #[.int .i64 v.a, .int .i64 v.b, .int .i64 v.c, .int .i64 v.d] 40))
  have P0 := hid (h.A (.cells #[.int .i64 v.a, .int .i64 v.b, .int .i64 v.c, .int .i64 v.d] 40))
  have g0 := hid (show Below w.heap.size w (w.alloc (.cells #[.int .i64 v.a, .int .i64 v.b, .int .i64 v.c, .int .i64 v.d] 40)) from by go_grown)
  have HP : Hid (∀ w1, Below w.heap.size w w1 → PV w1 p b cap W n T V) := hid fun w1 hb => h.keep hb
  obtain ⟨x0, x1, x2, x3⟩ := four X0.out
  have HI2 := hid hi2
  have hTi := hi1
  have HJ := hid (And.intro hj1 hj2)
  have HC1 := hid (fun (w1 : World) (hs : Sl w1 b n T V) (he : T i = a) => Cur.first (B := w.heap.size) (cap := cap) (c := c) (g := fun x => (mv x).1) hs hR hi he ha hnc)
  have HC2 := hid (fun (he : T i < a) => Rp.head (c := c) (g := fun x => (mv x).1) hR hi he hi2 ha (by omega))
  clear hR hW ho hok hv h hi1 hi2 hj1 hj2
  rcases (by omega : T i < a ∨ T i = a) with hlt | hlt
  · go_enter Try.func62, Try.ntmps62
    go_upto_region 8 with (first
      | (go_at_call 65; (with_reducible refine (KM.out _ P0.out).mono ?_); rintro _ w2 ⟨rfl, rfl⟩)
      | (go_at_call 79; (with_reducible refine (KS.out _).mono ?_); rintro _ w2 ⟨rfl, rfl⟩)
      | (go_at_call 34; (with_reducible refine (KR.out _).mono ?_); rintro _ w3 ⟨rfl, hb⟩; have g3 := hid (below_step g0.out g0.out.size hb); have P3 := hid (P0.out.keep hb); clear hb)
      | (go_at_call 66; (with_reducible refine (KA.out _ P3.out).mono ?_); rintro _ w4 ⟨rfl, hb⟩; have g4 := hid (below_step g3.out g3.out.size hb); have P4 := hid (P3.out.keep hb); clear hb)
      | (go_at_call 66; (with_reducible refine (KB.out _ P4.out).mono ?_); rintro _ w5 ⟨rfl, hb⟩; have g5 := hid (below_step g4.out g4.out.size hb); have P5 := hid (P4.out.keep hb); have c4 := (five P5.out.h).2.2.2.2; obtain ⟨y0, y1, y2, y3, y4⟩ := P5.out.s.cells (i := i) hi; obtain ⟨s0, s1, s2, s3, s4⟩ := five (heap_new w5 (.cells #[.int .i64 (T i), .int .i64 (V i).a, .int .i64 (V i).b, .int .i64 (V i).c, .int .i64 (V i).d] 105)); have SL5 := hid (show Sl ((w5.alloc (.cells #[.int .i64 (T i), .int .i64 (V i).a, .int .i64 (V i).b, .int .i64 (V i).c, .int .i64 (V i).d] 105)).alloc (.cells #[.int .i64 (T i), .int .i64 (V i).a, .int .i64 (V i).b, .int .i64 (V i).c, .int .i64 (V i).d] 105)) b i T V from (P5.out.s.short (Nat.le_of_lt hi)).keep (by go_grown)); have HS5 := hid (show ((w5.alloc (.cells #[.int .i64 (T i), .int .i64 (V i).a, .int .i64 (V i).b, .int .i64 (V i).c, .int .i64 (V i).d] 105)).alloc (.cells #[.int .i64 (T i), .int .i64 (V i).a, .int .i64 (V i).b, .int .i64 (V i).c, .int .i64 (V i).d] 105)).heap[w5.heap.size + 1]? = some (.cells #[.int .i64 (T i), .int .i64 (V i).a, .int .i64 (V i).b, .int .i64 (V i).c, .int .i64 (V i).d] 105 (0, 0)) from by simpa using heap_new (w5.alloc (.cells #[.int .i64 (T i), .int .i64 (V i).a, .int .i64 (V i).b, .int .i64 (V i).c, .int .i64 (V i).d] 105)) (.cells #[.int .i64 (T i), .int .i64 (V i).a, .int .i64 (V i).b, .int .i64 (V i).c, .int .i64 (V i).d] 105)); clear hb)
      | (at_builtin; refine wpList_append_step rfl (.tmp 62) (.tmp 64) rfl none b i i T V rfl SL5.out (Nat.le_refl _) (.inl ⟨rfl, rfl⟩) (w5.heap.size + 1) (T i) (V i) rfl HS5.out (by omega) ?_; rintro v15 w6 hG; have hC := hid (Cur.of_grown (B := w.heap.size) hG (.inl rfl) (by have := g5.out.size; simp; omega) (HC2.out hlt)); clear hG))
    have HC6 := hid hC.out.1
    have G6 := hid (((g5.out.alloc g5.out.size (.cells #[.int .i64 (T i), .int .i64 (V i).a, .int .i64 (V i).b, .int .i64 (V i).c, .int .i64 (V i).d] 105)).alloc (by have := g5.out.size; simp; omega) (.cells #[.int .i64 (T i), .int .i64 (V i).a, .int .i64 (V i).b, .int .i64 (V i).c, .int .i64 (V i).d] 105)).trans hC.out.2)
    clear hC
    have P6 := hid (HP.out w6 G6.out)
    clear KM KS KR KA KB P0 P3 P4 P5 g0 g3 g4 g5 X0 x0 x1 x2 x3 c4 y0 y1 y2 y3 y4 s0 s1 s2 s3 s4 SL5 HS5 HC1 HC2 hlt
    have c4 := (five P6.out.h).2.2.2.2
    go_wp2_with fail
    obtain ⟨L, hL⟩ : ∃ L, j + 1 - i = L := ⟨_, rfl⟩
    simp only [hL]
    have hL1 : i + L ≤ j + 1 := by omega
    have hL2 : j + 1 ≤ i + L := by omega
    have e0 : eK T i j a c 0 = a := by rw [eK_in (by omega), Nat.add_zero]; omega
    clear hL c4
    go_loopw [15, 77] (fun y x wr => ∃ k : Nat, k ≤ L ∧ x = .int .i64 k ∧ Cur w.heap.size wr y (eK T i j a c k) (chF fn a c fun x => (mv x).1) ∧ (∀ l, l < k → (mv (V (i + l))).2 = true) ∧ Below w.heap.size w wr) (fun _ x _ => L - (intOf x).toNat)
    case atStart => exact ⟨0, Nat.zero_le _, rfl, by rw [e0]; exact HC6.out, fun l hl => by omega, G6.out⟩
    case round =>
      clear HC6 G6 P6 e0
      obtain ⟨k, hk, rfl, hC, hm, hg⟩ := hrel
      have HC := hid hC
      have HM := hid hm
      have HG := hid hg
      have HP2 := hid (HP.out _ hg)
      clear hC hm hg
      by_cases hlt : k < L
      · have hlt' : (k : Int) < (L : Int) := by omega
        have hkj : i + k ≤ j := by omega
        have hst := HST.out k hkj
        obtain ⟨hf1, hf2, hf3⟩ := HFn.out k hkj
        have okx : (V (i + k)).ok := by rw [← hf1]; exact HOK.out _
        have lex : (V (i + k)).le W := by rw [← hf1]; exact HW.out _
        have KCk := hid (fun w1 hb => KC.out (V (i + k)) w1 okx lex hb)
        have KJ : Hid (∀ w1 v', Cur w.heap.size w1 v' (max (T (i + k)) a) (chF fn a c fun x => (mv x).1) → w.heap.size ≤ w1.heap.size → Calls Try.prog 80 #[v', .agg #[.int .i64 (max (T (i + k)) a), .int .i64 ((mv (V (i + k))).1).a, .int .i64 ((mv (V (i + k))).1).b, .int .i64 ((mv (V (i + k))).1).c, .int .i64 ((mv (V (i + k))).1).d]] w1 (JC w.heap.size w1 (eK T i j a c (k + 1)) (chF fn a c fun x => (mv x).1))) := hid fun w1 v' hC hB => join_cur hC hB hst.1 (by omega) (fun t t1 t2 => by obtain ⟨q1, q2, q3⟩ := hst.2.2 t t1 t2; rw [chF_in q1 q2, q3])
        have HC2 := hid (show Cur w.heap.size wr u15 (max (T (i + k)) a) (chF fn a c fun x => (mv x).1) from by have hh := HC.out; rw [eK_in hkj] at hh; exact hh)
        have HX := hid (show (mv (V (i + k))).2 = false → ∃ t, a ≤ t ∧ t < c ∧ (mv (fn t)).2 = false from fun h => ⟨max (T (i + k)) a, hf2, hf3, by rw [hf1]; exact h⟩)
        have HM2 := hid (show (mv (V (i + k))).2 = true → ∀ l, l < k + 1 → (mv (V (i + l))).2 = true from fun h l hl => by
          rcases Nat.lt_or_ge l k with h1 | h1
          · exact HM.out l h1
          · obtain rfl : l = k := by omega
            exact h)
        obtain ⟨y0, y1, y2, y3, y4⟩ := HP2.out.s.cells (i := i + k) (by omega)
        rw [Nat.add_mul] at y0 y1 y2 y3 y4
        clear hst hf1 hf2 hf3 okx lex HM HC
        generalize (mv (V (i + k))).1 = z at *
        generalize hq : (mv (V (i + k))).2 = q at *
        generalize V (i + k) = x at *
        generalize T (i + k) = tt at *
        clear hq
        have S0 := hid (heap_new wr (.cells #[.int .i64 tt, .int .i64 x.a, .int .i64 x.b, .int .i64 x.c, .int .i64 x.d] 105))
        have GS := hid (HG.out.alloc HG.out.size (.cells #[.int .i64 tt, .int .i64 x.a, .int .i64 x.b, .int .i64 x.c, .int .i64 x.d] 105))
        obtain ⟨s0, s1, s2, s3, s4⟩ := five S0.out
        cases q with
        | false =>
          have HX2 := hid (HX.out rfl)
          go_wp2_with (go_at_fn g; refine (KCk.out _ GS.out).mono ?_; rintro _ w7 ⟨rfl, hb⟩; have G7 := hid (below_step GS.out GS.out.size hb); have S7 := hid (keep0 hb S0.out); clear hb)
          go_returns
          exact .inl ⟨rfl, HX2.out, G7.out.alloc G7.out.size _⟩
        | true =>
          have HM3 := hid (HM2.out rfl)
          have ZB := hid (show Below wr.heap.size wr (wr.alloc (.cells #[.int .i64 tt, .int .i64 x.a, .int .i64 x.b, .int .i64 x.c, .int .i64 x.d] 105)) from by go_grown)
          go_wp2_with (first
            | (go_at_fn g; refine (KCk.out _ GS.out).mono ?_; rintro _ w7 ⟨rfl, hb⟩; have G7 := hid (below_step GS.out GS.out.size hb); have S8 := hid (heapA (o := .cells #[.int .i64 z.a, .int .i64 z.b, .int .i64 z.c, .int .i64 z.d] 40) (keep0 hb S0.out)); have Z8 := hid (heap_new w7 (.cells #[.int .i64 z.a, .int .i64 z.b, .int .i64 z.c, .int .i64 z.d] 40)); have G8 := hid (G7.out.alloc G7.out.size (.cells #[.int .i64 z.a, .int .i64 z.b, .int .i64 z.c, .int .i64 z.d] 40)); have C8 := hid (HC2.out.keep ((below_step ZB.out ZB.out.size hb).alloc (by have := ZB.out.size; have := hb.size; omega) (.cells #[.int .i64 z.a, .int .i64 z.b, .int .i64 z.c, .int .i64 z.d] 40))); obtain ⟨t0, t1, t2, t3, t4⟩ := five S8.out; obtain ⟨z0, z1, z2, z3⟩ := four Z8.out; clear hb)
            | (go_at_call 80; (with_reducible refine (KJ.out _ _ C8.out G8.out.size).mono ?_); rintro _ w9 ⟨v9, rfl, hC9, hb⟩; have C9 := hid hC9; have G9 := hid (G8.out.trans hb); clear hC9 hb))
          go_roundw
          case rel => exact ⟨k + 1, by omega, by go_num, C9.out, HM3.out, G9.out⟩
          case measure => simp [intOf]; omega
      · obtain rfl : k = L := by omega
        have e1 : eK T i j a c k = c := eK_out (by omega)
        have HCc := hid (show Cur w.heap.size wr u15 c (chF fn a c fun x => (mv x).1) from by have hh := HC.out; rw [e1] at hh; exact hh)
        obtain ⟨e, eb1, eb2, eb3, eb4⟩ := HB.out
        have KJ : Hid (∀ w1, Cur w.heap.size w1 u15 c (chF fn a c fun x => (mv x).1) → w.heap.size ≤ w1.heap.size → Calls Try.prog 80 #[u15, .agg #[.int .i64 c, .int .i64 (fn c).a, .int .i64 (fn c).b, .int .i64 (fn c).c, .int .i64 (fn c).d]] w1 (JC w.heap.size w1 e (chF fn a c fun x => (mv x).1))) := hid fun w1 hC hB => join_cur hC hB eb1 eb2 eb3
        have HBe := hid eb4
        have HM2 := hid (show ∀ t, a ≤ t → t < c → (mv (fn t)).2 = true from fun t t1 t2 => by
          obtain ⟨l, l1, l2, l3⟩ := HR.out.anyT (t := t) (by omega) (by omega)
          rw [HR.out.fn l l1 t l2 l3 (by omega)]
          obtain ⟨j1, j2⟩ := HJ.out
          have hil : i ≤ l := by
            rcases Nat.lt_or_ge l i with hl | hl
            · have := l3 (by omega)
              have := HR.out.le (i := l + 1) (j := i) (by omega) hi
              omega
            · exact hl
          have hlj : l ≤ j := by
            rcases Nat.lt_or_ge j l with hl | hl
            · have := j2 (by omega)
              have := HR.out.le (i := j + 1) (j := l) (by omega) l1
              omega
            · exact hl
          have := HM.out (l - i) (by omega)
          rwa [show i + (l - i) = l by omega] at this)
        have KAt2 := hid (KAt.out _ HP2.out)
        clear KAt HC e1 eb1 eb2 eb3 eb4 HM HB HST HFn
        have hTi2 := hTi
        rcases (by omega : j + 1 < cap ∨ j + 1 = cap) with hjc | hjc
        · have hjn : (j : Int) + 1 ≤ (n : Int) := by omega
          go_wp2_with (first
            | (go_at_call 81; (with_reducible refine KAt2.out.mono ?_); rintro _ w7 ⟨rfl, hb⟩; have G7 := hid (below_step HG.out HG.out.size hb); have C7 := hid (HCc.out.keep hb); clear hb)
            | (go_at_call 80; (with_reducible refine (KJ.out _ C7.out G7.out.size).mono ?_); rintro _ w8 ⟨v8, rfl, hC8, hb⟩; have C8 := hid hC8; have G8 := hid (G7.out.trans hb); have P8 := hid (HP.out _ G8.out); have c4 := (five P8.out.h).2.2.2.2; clear hC8 hb))
          obtain ⟨L2, hL2'⟩ : ∃ L2, n - (j + 1) = L2 := ⟨_, rfl⟩
          simp only [hL2']
          have hL3 : j + 1 + L2 ≤ n := by omega
          have hL4 : n ≤ j + 1 + L2 := by omega
          clear hL2'
          clear KJ KAt2 HCc C7 G7 c4 HG HP2
          go_loopw [15, 115] (fun y x wr => ∃ (k : Nat) (e : Int), k ≤ L2 ∧ x = .int .i64 k ∧ Beh T V n j c (chF fn a c fun x => (mv x).1) k e ∧ Cur w.heap.size wr y e (chF fn a c fun x => (mv x).1) ∧ Below w.heap.size w wr) (fun _ x _ => L2 - (intOf x).toNat)
          case atStart => exact ⟨0, e, Nat.zero_le _, rfl, HBe.out, C8.out, G8.out⟩
          case round =>
            clear C8 G8 P8 HBe
            obtain ⟨q, e, hq, rfl, hBe, hC, hg⟩ := hrel
            have HBe := hid hBe
            have HC := hid hC
            have HG := hid hg
            have HP2 := hid (HP.out _ hg)
            clear hBe hC hg
            by_cases hlt2 : q < L2
            · have hlt3 : (q : Int) < (L2 : Int) := by omega
              obtain ⟨y0, y1, y2, y3, y4⟩ := HP2.out.s.cells (i := j + 1 + q) (by omega)
              rw [Nat.add_mul] at y0 y1 y2 y3 y4
              have KJ2 := hid (fun w1 v' hC hB => join_beh (B := w.heap.size) (w := w1) (v := v') (a := a) (g := fun x => (mv x).1) HR.out (by omega) HBe.out (by omega) hC hB)
              have HN := hid (beh_next HR.out HBe.out (by omega))
              generalize T (j + 1 + q) = tt at *
              generalize V (j + 1 + q) = x at *
              have S0 := hid (heap_new wr (.cells #[.int .i64 tt, .int .i64 x.a, .int .i64 x.b, .int .i64 x.c, .int .i64 x.d] 105))
              have GS := hid (HG.out.alloc HG.out.size (.cells #[.int .i64 tt, .int .i64 x.a, .int .i64 x.b, .int .i64 x.c, .int .i64 x.d] 105))
              have CS := hid (HC.out.keep (show Below wr.heap.size wr (wr.alloc (.cells #[.int .i64 tt, .int .i64 x.a, .int .i64 x.b, .int .i64 x.c, .int .i64 x.d] 105)) from by go_grown))
              obtain ⟨s0, s1, s2, s3, s4⟩ := five S0.out
              go_wp2_with (go_at_call 80; (with_reducible refine (KJ2.out _ _ CS.out GS.out.size).mono ?_); rintro _ w9 ⟨v9, rfl, hC9, hb⟩; have C9 := hid hC9; have G9 := hid (GS.out.trans hb); clear hC9 hb)
              go_roundw
              case rel => exact ⟨q + 1, eN T n j (q + 1), by omega, by go_num, HN.out, C9.out, G9.out⟩
              case measure => simp [intOf]; omega
            · obtain rfl : q = L2 := by omega
              have he := beh_end HBe.out (by omega)
              have HC2 := HC.out
              rw [he] at HC2
              obtain ⟨o, b2, c2, m2, T2, V2, hu, h2, h3, h4, h5, h6⟩ := HC2
              clear he HBe HC h4 h6 o
              have hbp : b2 ≠ p := by
                rintro rfl
                obtain ⟨cs, fr, h7, _⟩ := h2
                rw [HP2.out.h] at h7
                simp at h7
              have H2 := hid h2
              have H5 := hid h5
              subst hu
              have c4 := (five HP2.out.h).2.2.2.2
              have f4 := free_of HP2.out.h 4
              clear h2 h5
              go_wp2_with fail
              go_returns
              refine .inr ⟨rfl, HM2.out, ⟨HG.out.os, HG.out.tape, HG.out.output, by have := HG.out.size; simpa using this, fun z hz hn => ?_⟩, b2, c2, m2, T2, V2, ⟨?_, H2.out.of (heap_setCell_other _ _ _ _ hbp), h3, H5.out.pos (by omega), by have := H5.out.count; omega, hbp⟩, H5.out⟩
              · rw [heap_setCell_other _ _ _ _ (fun h => hn (by rw [h]))]
                exact HG.out.block z hz
              · have h0 := heap_setCell_same _ p 4 _ 108 (.slice (some ⟨b2, 0, none⟩) m2 c2) HP2.out.h
                simpa using h0
        · obtain rfl : n = j + 1 := by omega
          obtain rfl : cap = j + 1 := by omega
          clear hjc
          go_wp2_with (first
            | (go_at_call 81; (with_reducible refine KAt2.out.mono ?_); rintro _ w7 ⟨rfl, hb⟩; have G7 := hid (below_step HG.out HG.out.size hb); have C7 := hid (HCc.out.keep hb); clear hb)
            | (go_at_call 80; (with_reducible refine (KJ.out _ C7.out G7.out.size).mono ?_); rintro _ w8 ⟨v8, rfl, hC8, hb⟩; have C8 := hid hC8; have G8 := hid (G7.out.trans hb); have P8 := hid (HP.out _ G8.out); have c4 := (five P8.out.h).2.2.2.2; clear hC8 hb))
          obtain ⟨L2, hL2'⟩ : ∃ L2 : Nat, L2 = 0 := ⟨_, rfl⟩
          clear KJ KAt2 HCc C7 G7 c4 HG HP2
          go_loopw [15, 115] (fun y x wr => ∃ (k : Nat) (e : Int), k ≤ L2 ∧ x = .int .i64 k ∧ Beh T V (j + 1) j c (chF fn a c fun x => (mv x).1) k e ∧ Cur w.heap.size wr y e (chF fn a c fun x => (mv x).1) ∧ Below w.heap.size w wr) (fun _ x _ => L2 - (intOf x).toNat)
          case atStart => exact ⟨0, e, Nat.zero_le _, rfl, HBe.out, C8.out, G8.out⟩
          case round =>
            clear C8 G8 P8 HBe
            obtain ⟨q, e, hq, rfl, hBe, hC, hg⟩ := hrel
            have HBe := hid hBe
            have HC := hid hC
            have HG := hid hg
            have HP2 := hid (HP.out _ hg)
            clear hBe hC hg
            by_cases hlt2 : q < L2
            · omega
            · obtain rfl : q = L2 := by omega
              have he := beh_end HBe.out (by omega)
              have HC2 := HC.out
              rw [he] at HC2
              obtain ⟨o, b2, c2, m2, T2, V2, hu, h2, h3, h4, h5, h6⟩ := HC2
              clear he HBe HC h4 h6 o
              have hbp : b2 ≠ p := by
                rintro rfl
                obtain ⟨cs, fr, h7, _⟩ := h2
                rw [HP2.out.h] at h7
                simp at h7
              have H2 := hid h2
              have H5 := hid h5
              subst hu
              have c4 := (five HP2.out.h).2.2.2.2
              have f4 := free_of HP2.out.h 4
              clear h2 h5
              go_wp2_with fail
              go_returns
              refine .inr ⟨rfl, HM2.out, ⟨HG.out.os, HG.out.tape, HG.out.output, by have := HG.out.size; simpa using this, fun z hz hn => ?_⟩, b2, c2, m2, T2, V2, ⟨?_, H2.out.of (heap_setCell_other _ _ _ _ hbp), h3, H5.out.pos (by omega), by have := H5.out.count; omega, hbp⟩, H5.out⟩
              · rw [heap_setCell_other _ _ _ _ (fun h => hn (by rw [h]))]
                exact HG.out.block z hz
              · have h0 := heap_setCell_same _ p 4 _ 108 (.slice (some ⟨b2, 0, none⟩) m2 c2) HP2.out.h
                simpa using h0
  · go_enter Try.func62, Try.ntmps62
    go_upto_region 8 with (first
      | (go_at_call 65; (with_reducible refine (KM.out _ P0.out).mono ?_); rintro _ w2 ⟨rfl, rfl⟩)
      | (go_at_call 79; (with_reducible refine (KS.out _).mono ?_); rintro _ w2 ⟨rfl, rfl⟩)
      | (go_at_call 34; (with_reducible refine (KR.out _).mono ?_); rintro _ w3 ⟨rfl, hb⟩; have g3 := hid (below_step g0.out g0.out.size hb); have P3 := hid (P0.out.keep hb); clear hb)
      | (go_at_call 66; (with_reducible refine (KA.out _ P3.out).mono ?_); rintro _ w4 ⟨rfl, hb⟩; have g4 := hid (below_step g3.out g3.out.size hb); have P4 := hid (P3.out.keep hb); clear hb)
      | (go_at_call 66; (with_reducible refine (KB.out _ P4.out).mono ?_); rintro _ w5 ⟨rfl, hb⟩; have g5 := hid (below_step g4.out g4.out.size hb); have P5 := hid (P4.out.keep hb); have c4 := (five P5.out.h).2.2.2.2; obtain ⟨y0, y1, y2, y3, y4⟩ := P5.out.s.cells (i := i) hi; obtain ⟨s0, s1, s2, s3, s4⟩ := five (heap_new w5 (.cells #[.int .i64 (T i), .int .i64 (V i).a, .int .i64 (V i).b, .int .i64 (V i).c, .int .i64 (V i).d] 105)); have SL5 := hid (show Sl ((w5.alloc (.cells #[.int .i64 (T i), .int .i64 (V i).a, .int .i64 (V i).b, .int .i64 (V i).c, .int .i64 (V i).d] 105)).alloc (.cells #[.int .i64 (T i), .int .i64 (V i).a, .int .i64 (V i).b, .int .i64 (V i).c, .int .i64 (V i).d] 105)) b i T V from (P5.out.s.short (Nat.le_of_lt hi)).keep (by go_grown)); have HS5 := hid (show ((w5.alloc (.cells #[.int .i64 (T i), .int .i64 (V i).a, .int .i64 (V i).b, .int .i64 (V i).c, .int .i64 (V i).d] 105)).alloc (.cells #[.int .i64 (T i), .int .i64 (V i).a, .int .i64 (V i).b, .int .i64 (V i).c, .int .i64 (V i).d] 105)).heap[w5.heap.size + 1]? = some (.cells #[.int .i64 (T i), .int .i64 (V i).a, .int .i64 (V i).b, .int .i64 (V i).c, .int .i64 (V i).d] 105 (0, 0)) from by simpa using heap_new (w5.alloc (.cells #[.int .i64 (T i), .int .i64 (V i).a, .int .i64 (V i).b, .int .i64 (V i).c, .int .i64 (V i).d] 105)) (.cells #[.int .i64 (T i), .int .i64 (V i).a, .int .i64 (V i).b, .int .i64 (V i).c, .int .i64 (V i).d] 105)); clear hb)
      | (at_builtin; refine wpList_append_step rfl (.tmp 62) (.tmp 64) rfl none b i i T V rfl SL5.out (Nat.le_refl _) (.inl ⟨rfl, rfl⟩) (w5.heap.size + 1) (T i) (V i) rfl HS5.out (by omega) ?_; rintro v15 w6 hG; have hC := hid (Cur.of_grown (B := w.heap.size) hG (.inl rfl) (by have := g5.out.size; simp; omega) (HC2.out hlt)); clear hG))
    obtain ⟨w6, hw6⟩ : ∃ x, x = w5.alloc (.cells #[.int .i64 a, .int .i64 (V i).a, .int .i64 (V i).b, .int .i64 (V i).c, .int .i64 (V i).d] 105) := ⟨_, rfl⟩
    obtain ⟨v15, hv15⟩ : ∃ x, x = Value.slice (some ⟨b, 0, none⟩) i i := ⟨_, rfl⟩
    have HC6 := hid (show Cur w.heap.size w6 v15 a (chF fn a c fun x => (mv x).1) from by rw [hw6, hv15]; exact HC1.out _ (P5.out.s.keep (by go_grown)) hlt)
    have G6 := hid (show Below w.heap.size w w6 from by rw [hw6]; exact g5.out.alloc g5.out.size _)
    rw [← hw6, ← hv15]
    clear hw6 hv15
    have P6 := hid (HP.out w6 G6.out)
    clear KM KS KR KA KB P0 P3 P4 P5 g0 g3 g4 g5 X0 x0 x1 x2 x3 c4 y0 y1 y2 y3 y4 s0 s1 s2 s3 s4 SL5 HS5 HC1 HC2 hlt
    have c4 := (five P6.out.h).2.2.2.2
    go_wp2_with fail
    obtain ⟨L, hL⟩ : ∃ L, j + 1 - i = L := ⟨_, rfl⟩
    simp only [hL]
    have hL1 : i + L ≤ j + 1 := by omega
    have hL2 : j + 1 ≤ i + L := by omega
    have e0 : eK T i j a c 0 = a := by rw [eK_in (by omega), Nat.add_zero]; omega
    clear hL c4
    go_loopw [15, 77] (fun y x wr => ∃ k : Nat, k ≤ L ∧ x = .int .i64 k ∧ Cur w.heap.size wr y (eK T i j a c k) (chF fn a c fun x => (mv x).1) ∧ (∀ l, l < k → (mv (V (i + l))).2 = true) ∧ Below w.heap.size w wr) (fun _ x _ => L - (intOf x).toNat)
    case atStart => exact ⟨0, Nat.zero_le _, rfl, by rw [e0]; exact HC6.out, fun l hl => by omega, G6.out⟩
    case round =>
      clear HC6 G6 P6 e0
      obtain ⟨k, hk, rfl, hC, hm, hg⟩ := hrel
      have HC := hid hC
      have HM := hid hm
      have HG := hid hg
      have HP2 := hid (HP.out _ hg)
      clear hC hm hg
      by_cases hlt : k < L
      · have hlt' : (k : Int) < (L : Int) := by omega
        have hkj : i + k ≤ j := by omega
        have hst := HST.out k hkj
        obtain ⟨hf1, hf2, hf3⟩ := HFn.out k hkj
        have okx : (V (i + k)).ok := by rw [← hf1]; exact HOK.out _
        have lex : (V (i + k)).le W := by rw [← hf1]; exact HW.out _
        have KCk := hid (fun w1 hb => KC.out (V (i + k)) w1 okx lex hb)
        have KJ : Hid (∀ w1 v', Cur w.heap.size w1 v' (max (T (i + k)) a) (chF fn a c fun x => (mv x).1) → w.heap.size ≤ w1.heap.size → Calls Try.prog 80 #[v', .agg #[.int .i64 (max (T (i + k)) a), .int .i64 ((mv (V (i + k))).1).a, .int .i64 ((mv (V (i + k))).1).b, .int .i64 ((mv (V (i + k))).1).c, .int .i64 ((mv (V (i + k))).1).d]] w1 (JC w.heap.size w1 (eK T i j a c (k + 1)) (chF fn a c fun x => (mv x).1))) := hid fun w1 v' hC hB => join_cur hC hB hst.1 (by omega) (fun t t1 t2 => by obtain ⟨q1, q2, q3⟩ := hst.2.2 t t1 t2; rw [chF_in q1 q2, q3])
        have HC2 := hid (show Cur w.heap.size wr u15 (max (T (i + k)) a) (chF fn a c fun x => (mv x).1) from by have hh := HC.out; rw [eK_in hkj] at hh; exact hh)
        have HX := hid (show (mv (V (i + k))).2 = false → ∃ t, a ≤ t ∧ t < c ∧ (mv (fn t)).2 = false from fun h => ⟨max (T (i + k)) a, hf2, hf3, by rw [hf1]; exact h⟩)
        have HM2 := hid (show (mv (V (i + k))).2 = true → ∀ l, l < k + 1 → (mv (V (i + l))).2 = true from fun h l hl => by
          rcases Nat.lt_or_ge l k with h1 | h1
          · exact HM.out l h1
          · obtain rfl : l = k := by omega
            exact h)
        obtain ⟨y0, y1, y2, y3, y4⟩ := HP2.out.s.cells (i := i + k) (by omega)
        rw [Nat.add_mul] at y0 y1 y2 y3 y4
        clear hst hf1 hf2 hf3 okx lex HM HC
        generalize (mv (V (i + k))).1 = z at *
        generalize hq : (mv (V (i + k))).2 = q at *
        generalize V (i + k) = x at *
        generalize T (i + k) = tt at *
        clear hq
        have S0 := hid (heap_new wr (.cells #[.int .i64 tt, .int .i64 x.a, .int .i64 x.b, .int .i64 x.c, .int .i64 x.d] 105))
        have GS := hid (HG.out.alloc HG.out.size (.cells #[.int .i64 tt, .int .i64 x.a, .int .i64 x.b, .int .i64 x.c, .int .i64 x.d] 105))
        obtain ⟨s0, s1, s2, s3, s4⟩ := five S0.out
        cases q with
        | false =>
          have HX2 := hid (HX.out rfl)
          go_wp2_with (go_at_fn g; refine (KCk.out _ GS.out).mono ?_; rintro _ w7 ⟨rfl, hb⟩; have G7 := hid (below_step GS.out GS.out.size hb); have S7 := hid (keep0 hb S0.out); clear hb)
          go_returns
          exact .inl ⟨rfl, HX2.out, G7.out.alloc G7.out.size _⟩
        | true =>
          have HM3 := hid (HM2.out rfl)
          have ZB := hid (show Below wr.heap.size wr (wr.alloc (.cells #[.int .i64 tt, .int .i64 x.a, .int .i64 x.b, .int .i64 x.c, .int .i64 x.d] 105)) from by go_grown)
          go_wp2_with (first
            | (go_at_fn g; refine (KCk.out _ GS.out).mono ?_; rintro _ w7 ⟨rfl, hb⟩; have G7 := hid (below_step GS.out GS.out.size hb); have S8 := hid (heapA (o := .cells #[.int .i64 z.a, .int .i64 z.b, .int .i64 z.c, .int .i64 z.d] 40) (keep0 hb S0.out)); have Z8 := hid (heap_new w7 (.cells #[.int .i64 z.a, .int .i64 z.b, .int .i64 z.c, .int .i64 z.d] 40)); have G8 := hid (G7.out.alloc G7.out.size (.cells #[.int .i64 z.a, .int .i64 z.b, .int .i64 z.c, .int .i64 z.d] 40)); have C8 := hid (HC2.out.keep ((below_step ZB.out ZB.out.size hb).alloc (by have := ZB.out.size; have := hb.size; omega) (.cells #[.int .i64 z.a, .int .i64 z.b, .int .i64 z.c, .int .i64 z.d] 40))); obtain ⟨t0, t1, t2, t3, t4⟩ := five S8.out; obtain ⟨z0, z1, z2, z3⟩ := four Z8.out; clear hb)
            | (go_at_call 80; (with_reducible refine (KJ.out _ _ C8.out G8.out.size).mono ?_); rintro _ w9 ⟨v9, rfl, hC9, hb⟩; have C9 := hid hC9; have G9 := hid (G8.out.trans hb); clear hC9 hb))
          go_roundw
          case rel => exact ⟨k + 1, by omega, by go_num, C9.out, HM3.out, G9.out⟩
          case measure => simp [intOf]; omega
      · obtain rfl : k = L := by omega
        have e1 : eK T i j a c k = c := eK_out (by omega)
        have HCc := hid (show Cur w.heap.size wr u15 c (chF fn a c fun x => (mv x).1) from by have hh := HC.out; rw [e1] at hh; exact hh)
        obtain ⟨e, eb1, eb2, eb3, eb4⟩ := HB.out
        have KJ : Hid (∀ w1, Cur w.heap.size w1 u15 c (chF fn a c fun x => (mv x).1) → w.heap.size ≤ w1.heap.size → Calls Try.prog 80 #[u15, .agg #[.int .i64 c, .int .i64 (fn c).a, .int .i64 (fn c).b, .int .i64 (fn c).c, .int .i64 (fn c).d]] w1 (JC w.heap.size w1 e (chF fn a c fun x => (mv x).1))) := hid fun w1 hC hB => join_cur hC hB eb1 eb2 eb3
        have HBe := hid eb4
        have HM2 := hid (show ∀ t, a ≤ t → t < c → (mv (fn t)).2 = true from fun t t1 t2 => by
          obtain ⟨l, l1, l2, l3⟩ := HR.out.anyT (t := t) (by omega) (by omega)
          rw [HR.out.fn l l1 t l2 l3 (by omega)]
          obtain ⟨j1, j2⟩ := HJ.out
          have hil : i ≤ l := by
            rcases Nat.lt_or_ge l i with hl | hl
            · have := l3 (by omega)
              have := HR.out.le (i := l + 1) (j := i) (by omega) hi
              omega
            · exact hl
          have hlj : l ≤ j := by
            rcases Nat.lt_or_ge j l with hl | hl
            · have := j2 (by omega)
              have := HR.out.le (i := j + 1) (j := l) (by omega) l1
              omega
            · exact hl
          have := HM.out (l - i) (by omega)
          rwa [show i + (l - i) = l by omega] at this)
        have KAt2 := hid (KAt.out _ HP2.out)
        clear KAt HC e1 eb1 eb2 eb3 eb4 HM HB HST HFn
        have hTi2 := hTi
        rcases (by omega : j + 1 < cap ∨ j + 1 = cap) with hjc | hjc
        · have hjn : (j : Int) + 1 ≤ (n : Int) := by omega
          go_wp2_with (first
            | (go_at_call 81; (with_reducible refine KAt2.out.mono ?_); rintro _ w7 ⟨rfl, hb⟩; have G7 := hid (below_step HG.out HG.out.size hb); have C7 := hid (HCc.out.keep hb); clear hb)
            | (go_at_call 80; (with_reducible refine (KJ.out _ C7.out G7.out.size).mono ?_); rintro _ w8 ⟨v8, rfl, hC8, hb⟩; have C8 := hid hC8; have G8 := hid (G7.out.trans hb); have P8 := hid (HP.out _ G8.out); have c4 := (five P8.out.h).2.2.2.2; clear hC8 hb))
          obtain ⟨L2, hL2'⟩ : ∃ L2, n - (j + 1) = L2 := ⟨_, rfl⟩
          simp only [hL2']
          have hL3 : j + 1 + L2 ≤ n := by omega
          have hL4 : n ≤ j + 1 + L2 := by omega
          clear hL2'
          clear KJ KAt2 HCc C7 G7 c4 HG HP2
          go_loopw [15, 115] (fun y x wr => ∃ (k : Nat) (e : Int), k ≤ L2 ∧ x = .int .i64 k ∧ Beh T V n j c (chF fn a c fun x => (mv x).1) k e ∧ Cur w.heap.size wr y e (chF fn a c fun x => (mv x).1) ∧ Below w.heap.size w wr) (fun _ x _ => L2 - (intOf x).toNat)
          case atStart => exact ⟨0, e, Nat.zero_le _, rfl, HBe.out, C8.out, G8.out⟩
          case round =>
            clear C8 G8 P8 HBe
            obtain ⟨q, e, hq, rfl, hBe, hC, hg⟩ := hrel
            have HBe := hid hBe
            have HC := hid hC
            have HG := hid hg
            have HP2 := hid (HP.out _ hg)
            clear hBe hC hg
            by_cases hlt2 : q < L2
            · have hlt3 : (q : Int) < (L2 : Int) := by omega
              obtain ⟨y0, y1, y2, y3, y4⟩ := HP2.out.s.cells (i := j + 1 + q) (by omega)
              rw [Nat.add_mul] at y0 y1 y2 y3 y4
              have KJ2 := hid (fun w1 v' hC hB => join_beh (B := w.heap.size) (w := w1) (v := v') (a := a) (g := fun x => (mv x).1) HR.out (by omega) HBe.out (by omega) hC hB)
              have HN := hid (beh_next HR.out HBe.out (by omega))
              generalize T (j + 1 + q) = tt at *
              generalize V (j + 1 + q) = x at *
              have S0 := hid (heap_new wr (.cells #[.int .i64 tt, .int .i64 x.a, .int .i64 x.b, .int .i64 x.c, .int .i64 x.d] 105))
              have GS := hid (HG.out.alloc HG.out.size (.cells #[.int .i64 tt, .int .i64 x.a, .int .i64 x.b, .int .i64 x.c, .int .i64 x.d] 105))
              have CS := hid (HC.out.keep (show Below wr.heap.size wr (wr.alloc (.cells #[.int .i64 tt, .int .i64 x.a, .int .i64 x.b, .int .i64 x.c, .int .i64 x.d] 105)) from by go_grown))
              obtain ⟨s0, s1, s2, s3, s4⟩ := five S0.out
              go_wp2_with (go_at_call 80; (with_reducible refine (KJ2.out _ _ CS.out GS.out.size).mono ?_); rintro _ w9 ⟨v9, rfl, hC9, hb⟩; have C9 := hid hC9; have G9 := hid (GS.out.trans hb); clear hC9 hb)
              go_roundw
              case rel => exact ⟨q + 1, eN T n j (q + 1), by omega, by go_num, HN.out, C9.out, G9.out⟩
              case measure => simp [intOf]; omega
            · obtain rfl : q = L2 := by omega
              have he := beh_end HBe.out (by omega)
              have HC2 := HC.out
              rw [he] at HC2
              obtain ⟨o, b2, c2, m2, T2, V2, hu, h2, h3, h4, h5, h6⟩ := HC2
              clear he HBe HC h4 h6 o
              have hbp : b2 ≠ p := by
                rintro rfl
                obtain ⟨cs, fr, h7, _⟩ := h2
                rw [HP2.out.h] at h7
                simp at h7
              have H2 := hid h2
              have H5 := hid h5
              subst hu
              have c4 := (five HP2.out.h).2.2.2.2
              have f4 := free_of HP2.out.h 4
              clear h2 h5
              go_wp2_with fail
              go_returns
              refine .inr ⟨rfl, HM2.out, ⟨HG.out.os, HG.out.tape, HG.out.output, by have := HG.out.size; simpa using this, fun z hz hn => ?_⟩, b2, c2, m2, T2, V2, ⟨?_, H2.out.of (heap_setCell_other _ _ _ _ hbp), h3, H5.out.pos (by omega), by have := H5.out.count; omega, hbp⟩, H5.out⟩
              · rw [heap_setCell_other _ _ _ _ (fun h => hn (by rw [h]))]
                exact HG.out.block z hz
              · have h0 := heap_setCell_same _ p 4 _ 108 (.slice (some ⟨b2, 0, none⟩) m2 c2) HP2.out.h
                simpa using h0
        · obtain rfl : n = j + 1 := by omega
          obtain rfl : cap = j + 1 := by omega
          clear hjc
          go_wp2_with (first
            | (go_at_call 81; (with_reducible refine KAt2.out.mono ?_); rintro _ w7 ⟨rfl, hb⟩; have G7 := hid (below_step HG.out HG.out.size hb); have C7 := hid (HCc.out.keep hb); clear hb)
            | (go_at_call 80; (with_reducible refine (KJ.out _ C7.out G7.out.size).mono ?_); rintro _ w8 ⟨v8, rfl, hC8, hb⟩; have C8 := hid hC8; have G8 := hid (G7.out.trans hb); have P8 := hid (HP.out _ G8.out); have c4 := (five P8.out.h).2.2.2.2; clear hC8 hb))
          obtain ⟨L2, hL2'⟩ : ∃ L2 : Nat, L2 = 0 := ⟨_, rfl⟩
          clear KJ KAt2 HCc C7 G7 c4 HG HP2
          go_loopw [15, 115] (fun y x wr => ∃ (k : Nat) (e : Int), k ≤ L2 ∧ x = .int .i64 k ∧ Beh T V (j + 1) j c (chF fn a c fun x => (mv x).1) k e ∧ Cur w.heap.size wr y e (chF fn a c fun x => (mv x).1) ∧ Below w.heap.size w wr) (fun _ x _ => L2 - (intOf x).toNat)
          case atStart => exact ⟨0, e, Nat.zero_le _, rfl, HBe.out, C8.out, G8.out⟩
          case round =>
            clear C8 G8 P8 HBe
            obtain ⟨q, e, hq, rfl, hBe, hC, hg⟩ := hrel
            have HBe := hid hBe
            have HC := hid hC
            have HG := hid hg
            have HP2 := hid (HP.out _ hg)
            clear hBe hC hg
            by_cases hlt2 : q < L2
            · omega
            · obtain rfl : q = L2 := by omega
              have he := beh_end HBe.out (by omega)
              have HC2 := HC.out
              rw [he] at HC2
              obtain ⟨o, b2, c2, m2, T2, V2, hu, h2, h3, h4, h5, h6⟩ := HC2
              clear he HBe HC h4 h6 o
              have hbp : b2 ≠ p := by
                rintro rfl
                obtain ⟨cs, fr, h7, _⟩ := h2
                rw [HP2.out.h] at h7
                simp at h7
              have H2 := hid h2
              have H5 := hid h5
              subst hu
              have c4 := (five HP2.out.h).2.2.2.2
              have f4 := free_of HP2.out.h 4
              clear h2 h5
              go_wp2_with fail
              go_returns
              refine .inr ⟨rfl, HM2.out, ⟨HG.out.os, HG.out.tape, HG.out.output, by have := HG.out.size; simpa using this, fun z hz hn => ?_⟩, b2, c2, m2, T2, V2, ⟨?_, H2.out.of (heap_setCell_other _ _ _ _ hbp), h3, H5.out.pos (by omega), by have := H5.out.count; omega, hbp⟩, H5.out⟩
              · rw [heap_setCell_other _ _ _ _ (fun h => hn (by rw [h]))]
                exact HG.out.block z hz
              · have h0 := heap_setCell_same _ p 4 _ 108 (.slice (some ⟨b2, 0, none⟩) m2 c2) HP2.out.h
                simpa using h0
end Go.Proofs.Ythkofnahimlijaa
