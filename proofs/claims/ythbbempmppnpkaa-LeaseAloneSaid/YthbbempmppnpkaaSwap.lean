/- The disk's Swap at any claims. Condition: the disk stands in memory. -/
import Derived.Test.YthbbempmppnpkaaDisk
namespace Go.Proofs.Ythbbempmppnpkaa
open Go Go.RowKit
theorem quiet_below {B : Nat} {a w : World} (h : Below B a w) (n : Nat) : Below B a (w.drewN n) := ⟨h.os, h.tape, h.output, h.size, h.block⟩
theorem dk_set {w : World} {db : Nat} {c : Clm} {e2 w2 u2 : Int} (h : DK w db c) : DK (((w.setCell ⟨db, 1, none⟩ (.int .i64 e2)).setCell ⟨db, 2, none⟩ (.int .i64 w2)).setCell ⟨db, 3, none⟩ (.int .i64 u2)) db ⟨e2, w2, u2⟩ := by
  have h1 := heap_setCell_same w db 1 _ 61 (.int .i64 e2) h
  have h2 := heap_setCell_same _ db 2 _ 61 (.int .i64 w2) h1
  have h3 := heap_setCell_same _ db 3 _ 61 (.int .i64 u2) h2
  simpa [DK] using h3
theorem grown_set (w : World) (b i : Nat) (v : Value) : w.grownBy (w.setCell ⟨b, i, none⟩ v) (some b) :=
  ⟨rfl, rfl, rfl, by simp, fun k _ hk => heap_setCell_other _ _ _ _ (fun e => hk (by rw [e]))⟩
theorem grown_trans {w1 w2 w3 : World} {r : Option Nat} (h1 : w1.grownBy w2 r) (h2 : w2.grownBy w3 r) : w1.grownBy w3 r :=
  ⟨h2.os.trans h1.os, h2.tape.trans h1.tape, h2.output.trans h1.output, Nat.le_trans h1.size h2.size, fun k hk hne => (h2.block k (Nat.lt_of_lt_of_le hk h1.size) hne).trans (h1.block k hk hne)⟩
theorem grown_below {w1 w2 : World} (h : Below w1.heap.size w1 w2) (r : Option Nat) : w1.grownBy w2 r := ⟨h.os, h.tape, h.output, h.size, fun k hk _ => h.block k hk⟩
theorem grown_three {w w' : World} {db : Nat} (v1 v2 v3 : Value) (h : Below w.heap.size w w') : w.grownBy (((w'.setCell ⟨db, 1, none⟩ v1).setCell ⟨db, 2, none⟩ v2).setCell ⟨db, 3, none⟩ v3) (some db) :=
  grown_trans (grown_trans (grown_trans (grown_below h _) (grown_set _ _ _ _)) (grown_set _ _ _ _)) (grown_set _ _ _ _)
theorem swap_arg (db : Nat) (a b : Clm) (w : World) (h : b.e < a.e ∨ 1099511627776 < b.e) :
    Calls Try.prog 10 #[.pointer (some ⟨db, 0, none⟩), .agg a.cells, .agg b.cells] w fun e w' => e = .returned (.int .i64 1) ∧ Below w.heap.size w w' := by
  obtain ⟨e1, w1, u1⟩ := a
  obtain ⟨e2, w2, u2⟩ := b
  simp only [Clm.cells] at h ⊢
  by_cases h1 : e2 < e1
  · clear h
    go_enter Try.func10, Try.ntmps10
    go_wp2_with fail
    all_goals go_returns
    all_goals exact ⟨rfl, by go_grown⟩
  · have h2 : 1099511627776 < e2 := by omega
    clear h
    go_enter Try.func10, Try.ntmps10
    go_wp2_with fail
    all_goals go_returns
    all_goals exact ⟨rfl, by go_grown⟩
theorem swap_ok (db : Nat) (a b : Clm) (w : World) (hd : DK w db a) (h : ¬ b.e < a.e) (h2 : ¬ 1099511627776 < b.e) :
    Calls Try.prog 10 #[.pointer (some ⟨db, 0, none⟩), .agg a.cells, .agg b.cells] w fun e w' => e = .returned (.int .i64 0) ∧ DK w' db b ∧ w.grownBy w' (some db) := by
  obtain ⟨c1, c2, c3⟩ := dk_cells hd
  obtain ⟨f1, f2, f3⟩ : w.frozen? ⟨db, 1, none⟩ = false ∧ w.frozen? ⟨db, 2, none⟩ = false ∧ w.frozen? ⟨db, 3, none⟩ = false := ⟨free_of hd 1, free_of hd 2, free_of hd 3⟩
  have HD := hid hd
  have hlt := lt_of hd
  obtain ⟨e1, w1, u1⟩ := a
  obtain ⟨e2, w2, u2⟩ := b
  simp only [Clm.cells] at c1 c2 c3 h h2 ⊢
  clear hd
  go_enter Try.func10, Try.ntmps10
  go_wp2_with fail
  go_quiet (fail)
  go_wp2_with fail
  all_goals go_returns
  have hd2 := hid (show DK (((w.alloc (.cells #[.int .i64 e1, .int .i64 w1, .int .i64 u1] 23)).alloc (.cells #[.int .i64 e2, .int .i64 w2, .int .i64 u2] 23)).drewN nq) db ⟨e1, w1, u1⟩ from HD.out.keep (quiet_below (by go_grown) nq))
  exact ⟨rfl, dk_set hd2.out, grown_three _ _ _ (quiet_below (by go_grown) nq)⟩
theorem swap_fenced (db : Nat) (c a b : Clm) (w : World) (hd : DK w db c) (h : ¬ b.e < a.e) (h2 : ¬ 1099511627776 < b.e) (hne : c ≠ a) :
    Calls Try.prog 10 #[.pointer (some ⟨db, 0, none⟩), .agg a.cells, .agg b.cells] w fun e w' => e = .returned (.int .i64 150) ∧ Below w.heap.size w w' := by
  obtain ⟨c1, c2, c3⟩ := dk_cells hd
  have hlt := lt_of hd
  obtain ⟨e0, w0, u0⟩ := c
  obtain ⟨e1, w1, u1⟩ := a
  obtain ⟨e2, w2, u2⟩ := b
  have hx : e0 = e1 → w0 = w1 → u0 = u1 → False := fun h1 h2 h3 => hne (by rw [h1, h2, h3])
  simp only [Clm.cells] at c1 c2 c3 h h2 ⊢
  clear hd hne
  by_cases k1 : e0 = e1
  · by_cases k2 : w0 = w1
    · have k3 : (u0 == u1) = false := by simpa using hx k1 k2
      subst k1 k2
      clear hx
      go_enter Try.func10, Try.ntmps10
      go_wp2_with fail
      go_quiet (fail)
      go_wp2_with fail
      all_goals go_returns
      exact ⟨rfl, quiet_below (by go_grown) nq⟩
    · have k3 : (w0 == w1) = false := by simpa using k2
      subst k1
      clear hx k2
      go_enter Try.func10, Try.ntmps10
      go_wp2_with fail
      go_quiet (fail)
      go_wp2_with fail
      all_goals go_returns
      exact ⟨rfl, quiet_below (by go_grown) nq⟩
  · have k3 : (e0 == e1) = false := by simpa using k1
    clear hx k1
    go_enter Try.func10, Try.ntmps10
    go_wp2_with fail
    go_quiet (fail)
    go_wp2_with fail
    all_goals go_returns
    exact ⟨rfl, quiet_below (by go_grown) nq⟩
end Go.Proofs.Ythbbempmppnpkaa
