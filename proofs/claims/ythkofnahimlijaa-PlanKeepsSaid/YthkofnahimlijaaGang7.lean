/- gang's Open of any pool, none included. Conditions: the pool and the places stand in memory. -/
import Derived.Test.YthkofnahimlijaaGang6
namespace Go.Proofs.Ythkofnahimlijaa
open Go Go.RowKit
theorem Nl.of_any {w : World} {B : Nat} {v : Value} {l : List Nat} (h : w.ownsRow B 3 1 v l.length (nums l)) : (v = .slice none 0 0 ∧ l = []) ∨ ∃ b cap, v = .slice (some ⟨b, 0, none⟩) l.length cap ∧ B ≤ b ∧ Nl w b cap l := by
  obtain ⟨_, ⟨hv, h0⟩ | ⟨b, cap, cs, rfl, hB, h1, h3, h4, h5, h6⟩⟩ := h
  · exact .inl ⟨hv, List.eq_nil_of_length_eq_zero h0⟩
  · refine .inr ⟨b, cap, rfl, hB, cs, h1, by omega, h3, h4, fun i x hx => ?_⟩
    have hi := (List.getElem?_eq_some_iff.1 hx).1
    have h7 := nums_at l hx
    rw [← h6, Nat.mul_one, List.getElem?_take_of_lt hi] at h7
    simpa using h7
/-- What DeleteFunc leaves of any numbers of the call's own. -/
theorem del_row (g : FuncId) (cb : Array Value) (Q : Nat → Bool) (w0 w : World) (v : Value) (l : List Nat) (eg : ∀ args w, (callFunc g args).run Try.prog w = .ok (.enter g args) w) (hp : Pred g cb Q w0 l) (hw : Below w0.heap.size w0 w) (ho : w.ownsRow w0.heap.size 3 1 v l.length (nums l)) (hn : l.length ≤ 16) :
    Calls Try.prog 58 #[v, .func (.func g) #[] cb] w (DelPost w0 (l.filter fun x => !Q x)) := by
  rcases Nl.of_any ho with ⟨rfl, rfl⟩ | ⟨b, cap, rfl, hB, hl⟩
  · refine (del_nil g cb w).mono ?_
    rintro e w' ⟨rfl, rfl⟩
    exact ⟨_, rfl, World.ownsRow_nil _ _ _ _, hw⟩
  · exact del_any g cb Q w0 w b cap l eg hp hw hl hn hB
def OpenPost (w : World) (l : List Nat) (e : Ending) (w' : World) : Prop := ∃ v', e = .returned v' ∧ w'.ownsRow w.heap.size 3 1 v' l.length (nums l) ∧ Below w.heap.size w w'
theorem eg_open1 : ∀ args w, (callFunc 59 args).run Try.prog w = .ok (.enter 59 args) w := enters_of Try.func59 (by kernel_rfl) rfl
theorem open_bad (po : Option Addr) (av : Value) (a c : Int) (v : V4) (w : World) (hb : spanB a c = false ∨ v.okB = false) : Calls Try.prog 35 #[.pointer po, av, .int .i64 a, .int .i64 c, .agg #[.int .i64 v.a, .int .i64 v.b, .int .i64 v.c, .int .i64 v.d]] w (OpenPost w []) := by
  have KS := hid (gspan_any a c)
  have KR := hid (right4 v)
  have V0 := hid (show ((((w.alloc (.cells #[.pointer po] 49)).alloc (.cells #[.int .i64 a] 3)).alloc (.cells #[.int .i64 c] 3)).alloc (.cells #[.int .i64 v.a, .int .i64 v.b, .int .i64 v.c, .int .i64 v.d] 40)).heap[w.heap.size + 1 + 1 + 1]? = some (.cells #[.int .i64 v.a, .int .i64 v.b, .int .i64 v.c, .int .i64 v.d] 40 (0, 0)) from by simpa using heap_new (((w.alloc (.cells #[.pointer po] 49)).alloc (.cells #[.int .i64 a] 3)).alloc (.cells #[.int .i64 c] 3)) (.cells #[.int .i64 v.a, .int .i64 v.b, .int .i64 v.c, .int .i64 v.d] 40))
  have g0 := hid (show Below w.heap.size w ((((w.alloc (.cells #[.pointer po] 49)).alloc (.cells #[.int .i64 a] 3)).alloc (.cells #[.int .i64 c] 3)).alloc (.cells #[.int .i64 v.a, .int .i64 v.b, .int .i64 v.c, .int .i64 v.d] 40)) from by go_grown)
  obtain ⟨v0, v1, v2, v3⟩ := four V0.out
  cases hs : spanB a c with
  | false =>
    rw [hs] at KS
    clear hs hb
    go_enter Try.func35, Try.ntmps35
    go_wp2_with (go_at_call 33; (with_reducible refine (KS.out _).mono ?_); rintro _ w2 ⟨rfl, rfl⟩)
    go_returns
    exact ⟨_, rfl, World.ownsRow_nil _ _ _ _, g0.out⟩
  | true =>
    have hv : v.okB = false := by
      rcases hb with hb | hb
      · rw [hs] at hb
        cases hb
      · exact hb
    rw [hs] at KS
    rw [hv] at KR
    clear hs hb hv
    go_enter Try.func35, Try.ntmps35
    go_wp2_with (first
      | (go_at_call 33; (with_reducible refine (KS.out _).mono ?_); rintro _ w2 ⟨rfl, rfl⟩)
      | (go_at_call 34; (with_reducible refine (KR.out _).mono ?_); rintro _ w3 ⟨rfl, hb⟩; have g3 := hid (below_step g0.out g0.out.size hb); clear hb))
    go_returns
    exact ⟨_, rfl, World.ownsRow_nil _ _ _ _, g3.out⟩
set_option maxHeartbeats 1000000 in
theorem open_core (po : Option Addr) (n : Nat) (Q : Nat → Bool) (A : Option Addr) (cap : Nat) (xs : List Int) (a c : Int) (v : V4) (w : World) (hq : HasK (.pointer po) n w) (hn : n ≤ 16) (hN : Ns w A xs) (hl : xs.length ≤ 9223372036854775807) (hs : spanB a c = true) (hv : v.okB = true)
    (hP : ∀ w1, Below w.heap.size w w1 → w1.heap[w.heap.size]? = some (.cells #[.pointer po] 49 (0, 0)) → w1.heap[w.heap.size + 1]? = some (.cells #[.int .i64 a] 3 (0, 0)) → w1.heap[w.heap.size + 1 + 1]? = some (.cells #[.int .i64 c] 3 (0, 0)) → w1.heap[w.heap.size + 1 + 1 + 1]? = some (.cells #[.int .i64 v.a, .int .i64 v.b, .int .i64 v.c, .int .i64 v.d] 40 (0, 0)) →
      Pred 59 #[.pointer (some ⟨w.heap.size + 1 + 1 + 1, 0, none⟩), .pointer (some ⟨w.heap.size, 0, none⟩), .pointer (some ⟨w.heap.size + 1, 0, none⟩), .pointer (some ⟨w.heap.size + 1 + 1, 0, none⟩)] Q w1 (cntL n xs 16)) :
    Calls Try.prog 35 #[.pointer po, .slice A xs.length cap, .int .i64 a, .int .i64 c, .agg #[.int .i64 v.a, .int .i64 v.b, .int .i64 v.c, .int .i64 v.d]] w (OpenPost w ((cntL n xs 16).filter fun x => !Q x)) := by
  have KS : Hid (∀ w1, Calls Try.prog 33 #[.int .i64 a, .int .i64 c] w1 fun e w' => e = .returned (.bool true) ∧ w1 = w') := hid fun w1 => by
    have h := gspan_any a c w1
    rw [hs] at h
    exact h
  have KR : Hid (∀ w1, Calls Try.prog 34 #[.agg #[.int .i64 v.a, .int .i64 v.b, .int .i64 v.c, .int .i64 v.d]] w1 fun e w' => e = .returned (.bool true) ∧ Below w1.heap.size w1 w') := hid fun w1 => by
    have h := right4 v w1
    rw [hv] at h
    exact h
  obtain ⟨W1, hW1⟩ : ∃ W1, W1 = (((w.alloc (.cells #[.pointer po] 49)).alloc (.cells #[.int .i64 a] 3)).alloc (.cells #[.int .i64 c] 3)).alloc (.cells #[.int .i64 v.a, .int .i64 v.b, .int .i64 v.c, .int .i64 v.d] 40) := ⟨_, rfl⟩
  have Q0 := hid (show W1.heap[w.heap.size]? = some (.cells #[.pointer po] 49 (0, 0)) from by rw [hW1]; exact heapA (heapA (heapA (heap_new w _))))
  have F0 := hid (show W1.heap[w.heap.size + 1]? = some (.cells #[.int .i64 a] 3 (0, 0)) from by rw [hW1]; exact heapA (heapA (by simpa using heap_new (w.alloc (.cells #[.pointer po] 49)) (.cells #[.int .i64 a] 3))))
  have T0 := hid (show W1.heap[w.heap.size + 1 + 1]? = some (.cells #[.int .i64 c] 3 (0, 0)) from by rw [hW1]; exact heapA (by simpa using heap_new ((w.alloc (.cells #[.pointer po] 49)).alloc (.cells #[.int .i64 a] 3)) (.cells #[.int .i64 c] 3)))
  have V0 := hid (show W1.heap[w.heap.size + 1 + 1 + 1]? = some (.cells #[.int .i64 v.a, .int .i64 v.b, .int .i64 v.c, .int .i64 v.d] 40 (0, 0)) from by rw [hW1]; simpa using heap_new (((w.alloc (.cells #[.pointer po] 49)).alloc (.cells #[.int .i64 a] 3)).alloc (.cells #[.int .i64 c] 3)) (.cells #[.int .i64 v.a, .int .i64 v.b, .int .i64 v.c, .int .i64 v.d] 40))
  have g0 := hid (show Below w.heap.size w W1 from by rw [hW1]; go_grown)
  have KC := hid (fun w1 (hb : Below w.heap.size w w1) => counting_any (.pointer po) n A cap xs w1 (fun i w2 h2 => hq i w2 (hb.trans (h2.mono hb.size))) hn (hN.keep hb) hl)
  have HP := hid hP
  have hll := cntL_le n xs 16
  have hW1' := hid hW1
  obtain ⟨m, hm⟩ : ∃ m, m = xs.length := ⟨_, rfl⟩
  rw [← hm] at KC ⊢
  clear hq hN hs hv hP hl hm
  go_enter Try.func35, Try.ntmps35
  go_upto_region 1 with (fail)
  rw [← hW1'.out]
  clear hW1 hW1'
  obtain ⟨v0, v1, v2, v3⟩ := four V0.out
  have q0 := one Q0.out
  have f0 := one F0.out
  have t0 := one T0.out
  go_wp2_with (first
    | (go_at_call 33; (with_reducible refine (KS.out _).mono ?_); rintro _ w2 ⟨rfl, rfl⟩)
    | (go_at_call 34; (with_reducible refine (KR.out _).mono ?_); rintro _ w3 ⟨rfl, hb⟩; have g3 := hid (below_step g0.out g0.out.size hb); have Q3 := hid (keep0 hb Q0.out); have F3 := hid (keep0 hb F0.out); have T3 := hid (keep0 hb T0.out); have V3 := hid (keep0 hb V0.out); have q3 := one Q3.out; clear hb))
  refine (KC.out _ g3.out).mono ?_
  rintro _ w4 ⟨vc, rfl, ho, hb⟩
  have KD := hid (del_row 59 _ Q w3 w4 vc (cntL n xs 16) eg_open1 (HP.out w3 g3.out Q3.out F3.out T3.out V3.out) hb ho hll)
  have hz3 := g3.out.size
  clear ho hb
  go_wp2_with fail
  refine KD.out.mono ?_
  rintro _ w5 ⟨vd, rfl, ho, hb⟩
  have O5 := hid (own_weak ho hz3)
  have g5 := hid (below_step g3.out hz3 hb)
  clear ho hb
  go_wp2_with fail
  go_returns
  exact ⟨_, rfl, O5.out, g5.out⟩
/-- The nodes of some that have an amount free. -/
noncomputable def openL (n : Nat) (fs : Nat → Int → V4) (xs : List Int) (a c : Int) (v : V4) : List Nat := (cntL n xs 16).filter fun i => opB (fs i) v a c
theorem cntL_lt {n k i : Nat} {xs : List Int} (h : i ∈ cntL n xs k) : i < n := by
  unfold cntL at h
  have := (List.mem_filter.1 h).2
  simp [cntS] at this
  exact this.1
theorem open_any (q : Nat) (sv : Value) (n : Nat) (ps : Nat → Nat) (Ws : Nat → V4) (fs : Nat → Int → V4) (A : Option Addr) (cap : Nat) (xs : List Int) (a c : Int) (v : V4) (w : World) (h : PL w q sv n ps Ws fs) (hN : Ns w A xs) (hl : xs.length ≤ 9223372036854775807) (hs : spanB a c = true) (hv : v.okB = true) :
    Calls Try.prog 35 #[.pointer (some ⟨q, 0, none⟩), .slice A xs.length cap, .int .i64 a, .int .i64 c, .agg #[.int .i64 v.a, .int .i64 v.b, .int .i64 v.c, .int .i64 v.d]] w (OpenPost w (openL n fs xs a c v)) := by
  obtain ⟨s1, s2, s3⟩ := (spanB_iff a c).1 hs
  have h0 := open_core (some ⟨q, 0, none⟩) n (fun i => !(opB (fs i) v a c)) A cap xs a c v w (hasK_any q sv n ps Ws fs w h) h.m hN hl hs hv (fun w1 hb e1 e2 e3 e4 i hi w2 hb2 => by
    have hb3 := hb.trans (hb2.mono hb.size)
    exact open1_any q sv n ps Ws fs _ _ _ _ i v a c w2 (h.keep hb3) (cntL_lt hi) (keep0 hb2 e4) (keep0 hb2 e1) (keep0 hb2 e2) (keep0 hb2 e3) s1 s2 s3)
  have he : ((cntL n xs 16).filter fun x => !(fun i => !(opB (fs i) v a c)) x) = openL n fs xs a c v := by
    unfold openL
    congr 1
    funext i
    simp
  rw [he] at h0
  exact h0
theorem open_nil (A : Option Addr) (cap : Nat) (xs : List Int) (a c : Int) (v : V4) (w : World) (hN : Ns w A xs) (hl : xs.length ≤ 9223372036854775807) :
    Calls Try.prog 35 #[.pointer none, .slice A xs.length cap, .int .i64 a, .int .i64 c, .agg #[.int .i64 v.a, .int .i64 v.b, .int .i64 v.c, .int .i64 v.d]] w (OpenPost w []) := by
  by_cases hs : spanB a c = true ∧ v.okB = true
  · have h0 := open_core none 0 (fun _ => false) A cap xs a c v w (hasK_nil w) (by omega) hN hl hs.1 hs.2 (fun w1 hb e1 e2 e3 e4 i hi => absurd (cntL_lt hi) (by omega))
    have he : cntL 0 xs 16 = [] := by
      rw [List.eq_nil_iff_forall_not_mem]
      intro i hi
      exact absurd (cntL_lt hi) (by omega)
    rw [he] at h0
    exact h0
  · refine open_bad _ _ a c v w ?_
    cases k1 : spanB a c
    · exact .inl rfl
    · cases k2 : v.okB
      · exact .inr rfl
      · exact absurd ⟨k1, k2⟩ hs
end Go.Proofs.Ythkofnahimlijaa
