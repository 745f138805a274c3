/- The reader's Ints, called at any reader: the row, what is left, the error. Conditions: the bytes stand in memory, at most 10^7. -/
import Derived.Test.YtanjgobcfgmpfaaInts
import Derived.Test.YtanjgobcfgmpfaaAwake
namespace Go.Proofs.Ytanjgobcfgmpfaa
open Go Go.RowKit
/-- What the call owns: a slice of so many numbers that reads as these. -/
def OwnI (w : World) (B : Nat) (v : Value) (zs : List Int) : Prop := w.ownsRow B 3 1 v zs.length (zs.map (Value.int .i64))
theorem OwnI.is {w : World} {B : Nat} {v : Value} {zs : List Int} (h : OwnI w B v zs) : ∃ A cap, v = .slice A zs.length cap ∧ Its w A zs := by
  obtain ⟨hl, ⟨rfl, h0⟩ | ⟨g, cap, cur, rfl, hb, hh, hn, hcap, hcur, htake⟩⟩ := h
  · have e : zs = [] := List.eq_nil_of_length_eq_zero h0
    subst e
    exact ⟨none, 0, rfl, .inl rfl⟩
  · refine ⟨some ⟨g, 0, none⟩, cap, rfl, .inr ⟨g, 0, rfl, lt_of hh, fun j x hx => ?_⟩⟩
    have hj : j < zs.length := (List.getElem?_eq_some_iff.1 hx).1
    rw [cell_of hh, Nat.zero_add, ← Array.getElem?_toList]
    have h1 : (cur.toList.take (zs.length * 1))[j]? = some (.int .i64 x) := by
      rw [htake, List.getElem?_map, hx]
      rfl
    rw [List.getElem?_take, if_pos (by omega)] at h1
    exact h1
theorem ownI_rs {w : World} {B rb : Nat} {v : Value} {zs : List Int} {bs : List UInt8} {e : Int} (h : OwnI w B v zs) (hr : RS w rb bs e) : v.ownBlock = none ∨ v.ownBlock ≠ some rb := by
  obtain ⟨A, cap, hR, _⟩ := hr
  obtain ⟨_, ⟨rfl, _⟩ | ⟨g, cap, cur, rfl, hb, hh, _⟩⟩ := h
  · exact .inl rfl
  · refine .inr fun he => ?_
    have e : g = rb := by simpa [Value.ownBlock] using he
    subst e
    rw [hR] at hh
    simp at hh
theorem OwnI.grown {w w' : World} {B rb : Nat} {v : Value} {zs : List Int} {bs : List UInt8} {e : Int} (h : OwnI w B v zs) (hr : RS w rb bs e) (hg : w.grownBy w' (some rb)) : OwnI w' B v zs :=
  World.ownsRow.kept h hg (ownI_rs h hr)
theorem RS.own {w w' : World} {B rb : Nat} {v : Value} {zs : List Int} {bs : List UInt8} {e : Int} (h : OwnI w B v zs) (hr : RS w rb bs e) (hg : w.grownBy w' v.ownBlock) : RS w' rb bs e := by
  have key : ∀ (g : Nat) (cs : Array Value) (T : TypeId), w.heap[g]? = some (.cells cs T (0, 0)) → T ≠ 3 → w'.heap[g]? = w.heap[g]? := by
    intro g cs T hh hT
    refine hg.block g (lt_of hh) fun he => ?_
    obtain ⟨_, ⟨rfl, _⟩ | ⟨g', cap, cur, rfl, hb, hh', _⟩⟩ := h
    · simp [Value.ownBlock] at he
    · have e : g' = g := by simpa [Value.ownBlock] using he.symm
      subst e
      rw [hh] at hh'
      simp at hh'
      exact hT hh'.2
  obtain ⟨A, cap, hR, ⟨hcap, ht⟩, hb⟩ := hr
  refine ⟨A, cap, by rw [key _ _ _ hR (by decide)]; exact hR, ⟨hcap, fun a ha => ?_⟩, ?_⟩
  · obtain ⟨cs, hc⟩ := ht a ha
    exact ⟨cs, by rw [key _ _ _ hc (by decide)]; exact hc⟩
  · rcases hb with rfl | ⟨b, off, rfl, hlt, hc⟩
    · exact .inl rfl
    · obtain ⟨cs, hh⟩ := ht ⟨b, off, none⟩ rfl
      refine .inr ⟨b, off, rfl, Nat.lt_of_lt_of_le hlt hg.size, fun j x hx => ?_⟩
      rw [World.cell?_of_block (w := w) (a := ⟨b, off + j, none⟩) (key b _ _ hh (by decide))]
      exact hc j x hx
theorem OwnI.mono {w : World} {B C : Nat} {v : Value} {zs : List Int} (h : OwnI w B v zs) (hC : C ≤ B) : OwnI w C v zs := by
  obtain ⟨hl, h0 | ⟨g, cap, cur, rfl, hB, r⟩⟩ := h
  · exact ⟨hl, .inl h0⟩
  · exact ⟨hl, .inr ⟨g, cap, cur, rfl, Nat.le_trans hC hB, r⟩⟩
theorem OwnI.keep {w w' : World} {B : Nat} {v : Value} {zs : List Int} (h : OwnI w B v zs) (hb : Below w.heap.size w w') : OwnI w' B v zs := by
  obtain ⟨hl, h0 | ⟨g, cap, cur, rfl, hB, hh, r⟩⟩ := h
  · exact ⟨hl, .inl h0⟩
  · exact ⟨hl, .inr ⟨g, cap, cur, rfl, hB, keep0 hb hh, r⟩⟩
theorem grown_own {w w3 w4 : World} {rb : Nat} {row : Option Nat} (h : w.grownBy w3 (some rb)) (hg : w3.grownBy w4 row) (hr : ∀ k, row = some k → w.heap.size ≤ k) : w.grownBy w4 (some rb) :=
  ⟨hg.os.trans h.os, hg.tape.trans h.tape, hg.output.trans h.output, Nat.le_trans h.size hg.size, fun k hk hne => (hg.block k (Nat.lt_of_lt_of_le hk h.size) (fun e => by
    have := hr k e.symm
    omega)).trans (h.block k hk hne)⟩
/-- The row, taken number by number behind what is taken. -/
def rowI : List Int → Nat → List UInt8 → Int → List Int × List UInt8 × Int
  | xs, 0, bs, e => (xs, bs, e)
  | xs, n + 1, bs, e => if (takeU bs e).2.2 = 0 then rowI (xs ++ [unfoldF (takeU bs e).1]) n (takeU bs e).2.1 (takeU bs e).2.2 else ([], (takeU bs e).2.1, (takeU bs e).2.2)
/-- A row that is taken: its numbers, what is left, the error. -/
def takeI (m : Nat) (bs : List UInt8) (e : Int) : List Int × List UInt8 × Int := rowI [] (takeL m bs e).1 (takeL m bs e).2.1 (takeL m bs e).2.2
theorem uR_less (bs : List UInt8) : ∀ i n, (uR bs i n).2.2 = 0 → (uR bs i n).2.1.length < bs.length := by
  induction bs with
  | nil => intro i n h; simp [uR] at h
  | cons c t ih =>
    intro i n h
    rw [uR_cons] at h ⊢
    split
    · simp
    · rename_i hb
      rw [if_neg hb] at h
      split
      · simp
      · rename_i hc
        rw [if_neg hc] at h
        have := ih _ _ h
        simp only [List.length_cons]
        omega
theorem takeU_less {bs : List UInt8} {e : Int} (h : (takeU bs e).2.2 = 0) : (takeU bs e).2.1.length < bs.length := by
  unfold takeU at *
  split
  · rename_i h0
    rw [if_pos h0] at h
    exact uR_less bs 0 0 h
  · rename_i h0
    rw [if_neg h0] at h
    exact absurd h h0
theorem ret_slice {a : Value} : Ending.returned a = .returned a := rfl
set_option maxHeartbeats 2000000 in
theorem rints_any (rb : Nat) (bs : List UInt8) (e most : Int) (w : World) (h : RS w rb bs e) (hlen : bs.length ≤ 10000000) (hm : -9223372036854775808 ≤ most ∧ most ≤ 9223372036854775807) :
    Calls Try.prog 26 #[.pointer (some ⟨rb, 0, none⟩), .int .i64 most] w fun en w' => ∃ v, en = .returned v ∧ OwnI w' w.heap.size v (takeI (mostF most) bs e).1 ∧ RS w' rb (takeI (mostF most) bs e).2.1 (takeI (mostF most) bs e).2.2 ∧ w.grownBy w' (some rb) := by
  have K := hid (rlen_any rb bs e most w h (by omega) hm)
  have hn63 : (takeL (mostF most) bs e).1 ≤ 9223372036854775807 := by
    have := takeL_le (mostF most) bs e
    have h2 : mostF most ≤ 9223372036854775807 := by unfold mostF; split <;> omega
    omega
  have hll := takeL_len (mostF most) bs e
  have hlt := takeU_lt
  have ht : takeI (mostF most) bs e = rowI [] (takeL (mostF most) bs e).1 (takeL (mostF most) bs e).2.1 (takeL (mostF most) bs e).2.2 := rfl
  rw [ht]
  have hrb : rb < w.heap.size := by
    obtain ⟨_, _, hR, _⟩ := h
    exact lt_of hR
  clear h ht hlt
  generalize takeL (mostF most) bs e = r at *
  obtain ⟨n, l, e1⟩ := r
  simp only at hn63 K hll ⊢
  obtain ⟨q1, q2, q3, hq⟩ : ∃ a b c, rowI [] n l e1 = (a, b, c) := ⟨_, _, _, rfl⟩
  rw [hq]
  have HQ := hid hq
  obtain ⟨i0, hi, hz0, hz1, hz2⟩ := info_parts Try.info3
  have hn1 : (n : Int) ≤ 9223372036854775807 := by omega
  have hl1 : (l.length : Int) ≤ 10000000 := by omega
  have hmk : ∃ c : Nat, (l.length < n ∧ l.length = c ∨ ¬ l.length < n ∧ n = c) ∧ Hid (∀ w, (Instr.makeSlice 24 (.int .i64 0) (.int .i64 (c : Int))).run Try.prog w = .ok (.slice (some ⟨w.heap.size, 0, none⟩) 0 c) (w.alloc (.cells (madeCells #[.int .i64 0] c) 3))) := by
    by_cases hc : l.length < n
    · exact ⟨l.length, .inl ⟨hc, rfl⟩, hid (fun w => make_ints _ (by omega) w)⟩
    · exact ⟨n, .inr ⟨hc, rfl⟩, hid (fun w => make_ints _ (by omega) w)⟩
  obtain ⟨c, hc, hmk⟩ := hmk
  have hO : Hid (∀ w : World, w.heap.size ≤ w.heap.size → OwnI (w.alloc (.cells (madeCells #[.int .i64 0] c) 3)) w.heap.size (.slice (some ⟨w.heap.size, 0, none⟩) 0 c) []) := hid fun w _ => by
    refine ⟨by simp, .inr ⟨w.heap.size, c, _, rfl, Nat.le_refl _, heap_new w _, Nat.zero_le _, by unfold maxLen; omega, ?_, ?_⟩⟩
    · simp [size_madeCells]
    · simp
  clear hq
  go_enter Try.func26, Try.ntmps26
  go_wp2_with fail
  refine K.out.mono ?_
  rintro _ w1 ⟨rfl, hs, hg⟩
  have S1 := hid hs
  have G1 := hid hg
  clear hs hg K
  go_wp2_with fail
  refine (left_any rb _ _ _ S1.out).mono ?_
  rintro _ w2 ⟨rfl, rfl⟩
  have hmk' := hmk.out w1
  have hO1 := hid ((hO.out w1 (Nat.le_refl _)))
  have hsz := hid G1.out.size
  have S1a := hid (S1.out.keep (show Below w1.heap.size w1 (w1.alloc (.cells (madeCells #[.int .i64 0] c) 3)) from by go_grown))
  have G1a := hid (grown_trans G1.out (World.grownBy_alloc w1 (.cells (madeCells #[.int .i64 0] c) 3) (some rb)))
  clear hmk hO
  rcases hc with ⟨hc, rfl⟩ | ⟨hc, rfl⟩
  all_goals
    go_wp2_with fail
    go_loopw [6, 16] (fun o i wr => ∃ (k : Nat) (xs : List Int) (ls : List UInt8) (es : Int), k ≤ n ∧ i = .int .i64 k ∧ xs.length + ls.length ≤ l.length ∧ OwnI wr w1.heap.size o xs ∧ RS wr rb ls es ∧ w.grownBy wr (some rb) ∧ Hid (rowI xs (n - k) ls es = (q1, q2, q3)) ∧ w1.heap.size ≤ wr.heap.size) (fun _ i _ => n - (intOf i).toNat)
    case atStart => exact ⟨0, [], l, e1, Nat.zero_le _, rfl, by simp, hO1.out, S1a.out, G1a.out, HQ, by simp⟩
    case round =>
      obtain ⟨k, xs, ls, es, hk, rfl, hle, ho, hs, hg, hq, hw1⟩ := hrel
      have HO := hid ho
      have HS := hid hs
      have HG := hid hg
      clear ho hs hg S1 S1a G1 G1a hO1 HQ hmk'
      by_cases hlt : k < n
      · have hlt' : (k : Int) < (n : Int) := by omega
        obtain ⟨j, hj⟩ : ∃ j, n - k = j + 1 := ⟨n - k - 1, by omega⟩
        have hj2 : n - (k + 1) = j := by omega
        have hq2 := hq.out
        rw [hj, rowI] at hq2
        have KI := hid (rint_any rb ls es wr HS.out (by omega))
        have hless := takeU_less (bs := ls) (e := es)
        have htl := takeU_len ls es
        clear hq
        generalize takeU ls es = t at *
        obtain ⟨m, ls', es'⟩ := t
        simp only at hq2 KI hless htl
        generalize unfoldF m = z at *
        have HQ2 := hid hq2
        clear hq2
        go_wp2_with fail
        refine KI.out.mono ?_
        rintro _ w3 ⟨rfl, hs, hg⟩
        have O3 := hid (HO.out.grown HS.out hg)
        have S3 := hid hs
        have G3 := hid (grown_trans HG.out hg)
        have hsz3 := hid (Nat.le_trans hw1 hg.size)
        have hown : w3.ownsRow w1.heap.size 3 1 _ xs.length (xs.map (Value.int .i64)) := O3.out
        clear hs hg HO KI
        go_wp2_with (at_builtin; refine wpList_append_own _ rfl _ _ 24 rfl w1.heap.size 3 i0 (.int .i64 0) 1 8 Try.underlying24 hi hz0 hz1 hz2 rfl (by decide) _ _ _ rfl (hown.alloc _) ⟨w3.heap.size, 0, none⟩ 1 1 [.int .i64 z] rfl rfl ?c1 ?c2 ?c3 ?c4 ?c5 ?_)
        case c1 =>
          intro j u hj
          match j, hj with
          | 0, hj => simp at hj; subst hj; rw [add_off, cell_of (heap_new _ _)]; rfl
        case c2 => first | rfl | (intro u hu; obtain rfl := List.mem_singleton.1 hu; rfl)
        case c3 => unfold maxLen; omega
        case c4 => omega
        case c5 => have := hsz3.out; simp; omega
        · intro v' w4 hown2 hgrow _
          have hk5 := own_base hown
          have S3a := S3.out.keep (show Below w3.heap.size w3 (w3.alloc (.cells #[.int .i64 z] 3)) from by go_grown)
          have S4 := hid (S3a.own (hown.alloc _) hgrow)
          have G4 := hid (grown_own (grown_trans G3.out (World.grownBy_alloc w3 (.cells #[.int .i64 z] 3) (some rb))) hgrow fun k hk => Nat.le_trans hsz.out (hk5 k hk))
          have hsz4 := hid (Nat.le_trans (Nat.le_trans hsz3.out (World.grownBy_alloc w3 (.cells #[.int .i64 z] 3) none).size) hgrow.size)
          have O4 := hid (show OwnI w4 w1.heap.size v' (xs ++ [z]) from by simpa [OwnI] using hown2)
          clear hown2 hgrow hown hk5 S3a O3 S3 G3 hsz3
          have KE := hid (err_any rb ls' es' w4 S4.out)
          by_cases h0 : es' = 0
          · subst h0
            have hl0 := hless rfl
            have HQ3 := hid (show rowI (xs ++ [z]) j ls' 0 = (q1, q2, q3) from by
              have := HQ2.out
              rw [if_pos rfl] at this
              exact this)
            go_wp2_with fail
            refine KE.out.mono ?_
            rintro _ w5 ⟨rfl, rfl⟩
            go_wp2_with fail
            go_roundw
            case rel => exact ⟨k + 1, xs ++ [z], ls', 0, by omega, by go_num, by simp; omega, O4.out, S4.out, G4.out, by rw [hj2]; exact HQ3, hsz4.out⟩
            case measure => simp [intOf]; omega
          · have hQ2 := HQ2.out
            rw [if_neg h0] at hQ2
            simp only [Prod.mk.injEq] at hQ2
            obtain ⟨rfl, rfl, rfl⟩ := hQ2
            have n1 : (es' != 0) = true := by simp [h0]
            go_wp2_with fail
            refine KE.out.mono ?_
            rintro _ w5 ⟨rfl, rfl⟩
            go_wp2_with fail
            all_goals go_returns
            all_goals exact ⟨_, rfl, World.ownsRow_nil _ _ _ _, S4.out, G4.out⟩
      · obtain rfl : k = n := by omega
        have hq2 := hq.out
        rw [Nat.sub_self, rowI] at hq2
        simp only [Prod.mk.injEq] at hq2
        obtain ⟨rfl, rfl, rfl⟩ := hq2
        have HO2 := hid (HO.out.mono hsz.out)
        go_wp2_with fail
        all_goals go_returns
        all_goals exact ⟨_, rfl, HO2.out, HS.out, HG.out⟩
end Go.Proofs.Ytanjgobcfgmpfaa
