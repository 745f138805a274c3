/- The reader's functions at a reader that is none; what is put is taken again. Condition: none. -/
import Derived.Test.YtanjgobcfgmpfaaAwake
namespace Go.Proofs.Ytanjgobcfgmpfaa
open Go Go.RowKit
theorem nfail (c : Int) (w : World) : Calls Try.prog 28 #[.pointer none, .int .i64 c] w fun en w' => en = .returned (.tuple #[]) ∧ w = w' := by
  go_enter Try.func28, Try.ntmps28
  go_wp2
  all_goals go_returns
  all_goals exact ⟨rfl, rfl⟩
theorem nuint (w : World) : Calls Try.prog 19 #[.pointer none] w fun en w' => en = .returned (.int .u64 0) ∧ w = w' := by
  go_enter Try.func19, Try.ntmps19
  go_wp2
  all_goals go_returns
  all_goals exact ⟨rfl, rfl⟩
theorem nint (w : World) : Calls Try.prog 21 #[.pointer none] w fun en w' => en = .returned (.int .i64 0) ∧ w = w' := by
  have KU := hid (fun w => unfold_any 0 w (by decide))
  go_enter Try.func21, Try.ntmps21
  go_wp2_with fail
  refine (nuint _).mono ?_
  rintro _ w2 ⟨rfl, rfl⟩
  go_wp2_with fail
  refine (KU.out _).mono ?_
  rintro _ w2 ⟨rfl, rfl⟩
  go_wp2_with fail
  all_goals go_returns
  all_goals exact ⟨rfl, rfl⟩
theorem nleft (w : World) : Calls Try.prog 30 #[.pointer none] w fun en w' => en = .returned (.int .i64 0) ∧ w = w' := by
  go_enter Try.func30, Try.ntmps30
  go_wp2
  all_goals go_returns
  all_goals exact ⟨rfl, rfl⟩
theorem nerr (w : World) : Calls Try.prog 31 #[.pointer none] w fun en w' => en = .returned (.int .i64 1) ∧ w = w' := by
  go_enter Try.func31, Try.ntmps31
  go_wp2
  all_goals go_returns
  all_goals exact ⟨rfl, rfl⟩
theorem nend (w : World) : Calls Try.prog 32 #[.pointer none] w fun en w' => en = .returned (.int .i64 1) ∧ w = w' := by
  go_enter Try.func32, Try.ntmps32
  go_wp2_with fail
  refine (nleft _).mono ?_
  rintro _ w2 ⟨rfl, rfl⟩
  go_wp2_with fail
  refine (nerr _).mono ?_
  rintro _ w2 ⟨rfl, rfl⟩
  go_wp2_with fail
  all_goals go_returns
  all_goals exact ⟨rfl, rfl⟩
theorem nlen (w : World) : Calls Try.prog 38 #[.pointer none, .int .i64 5] w fun en w' => en = .returned (.int .i64 0) ∧ w = w' := by
  go_enter Try.func38, Try.ntmps38
  go_wp2_with fail
  refine (nuint _).mono ?_
  rintro _ w2 ⟨rfl, rfl⟩
  go_wp2_with fail
  all_goals go_returns
  all_goals exact ⟨rfl, rfl⟩
theorem ntext (w : World) : Calls Try.prog 23 #[.pointer none, .int .i64 5] w fun en w' => en = .returned (.string ⟨#[]⟩) ∧ w = w' := by
  go_enter Try.func23, Try.ntmps23
  go_wp2_with fail
  refine (nlen _).mono ?_
  rintro _ w2 ⟨rfl, rfl⟩
  go_wp2_with fail
  refine (nleft _).mono ?_
  rintro _ w2 ⟨rfl, rfl⟩
  go_wp2_with fail
  all_goals go_returns
  all_goals exact ⟨rfl, rfl⟩
theorem Try.info3 : (Try.prog.info? 3).map (fun i => (i.zero, i.size, i.bytes)) = some (some (.int .i64 0), 1, 8) := by kernel_rfl
theorem make_ints (c : Nat) (hc : c ≤ 35184372088832) (w : World) : (Instr.makeSlice 24 (.int .i64 0) (.int .i64 (c : Int))).run Try.prog w = .ok (.slice (some ⟨w.heap.size, 0, none⟩) 0 c) (w.alloc (.cells (madeCells #[.int .i64 0] c) 3)) := by
  obtain ⟨i0, hi, hz0, hz1, hz2⟩ := info_parts Try.info3
  have := run_make (P := Try.prog) (w := w) 24 3 i0 (.int .i64 0) Try.underlying24 hi hz0 .i64 .i64 0 (c : Int) (by omega) (by omega) (by rw [hz2]; omega) (by omega)
  rw [this, hz1]
  simp [Value.cells]
theorem nints (w : World) : Calls Try.prog 26 #[.pointer none, .int .i64 5] w fun en w' => (∃ A c, en = .returned (.slice A 0 c)) ∧ Below w.heap.size w w' := by
  have hmk : ∀ w, (Instr.makeSlice 24 (.int .i64 0) (.int .i64 0)).run Try.prog w = .ok (.slice (some ⟨w.heap.size, 0, none⟩) 0 0) (w.alloc (.cells (madeCells #[.int .i64 0] 0) 3)) := make_ints 0 (by decide)
  go_enter Try.func26, Try.ntmps26
  go_wp2_with fail
  refine (nlen _).mono ?_
  rintro _ w2 ⟨rfl, rfl⟩
  go_wp2_with fail
  refine (nleft _).mono ?_
  rintro _ w2 ⟨rfl, rfl⟩
  go_wp2_with fail
  go_rounds 1
  all_goals go_wp2_with fail
  all_goals go_returns
  all_goals exact ⟨⟨_, _, rfl⟩, by go_grown⟩
theorem ofNat_toNat_lt {n : Nat} (h : n < 256) : (UInt8.ofNat n).toNat = n := by
  rw [UInt8.toNat_ofNat']
  omega
/-- What is put is taken again. -/
theorem uR_enc (n : Nat) : ∀ (l : List UInt8) (i m : Nat), n * 128 ^ i < 18446744073709551616 → (i = 0 ∨ 0 < n) → i ≤ 9 → uR (encU n ++ l) i m = (m + n * 128 ^ i, l, 0) := by
  induction n using Nat.strongRecOn with
  | _ n ih =>
    intro l i m hn hi h9
    have hp9 : (128 : Nat) ^ 9 = 9223372036854775808 := by decide
    by_cases hs : n < 128
    · rw [encU_small hs, List.singleton_append, uR_cons, ofNat_toNat_lt (by omega), if_neg, if_pos hs, Nat.mod_eq_of_lt hs]
      rintro (⟨rfl, h2⟩ | ⟨h1, h2⟩)
      · rw [hp9] at hn
        omega
      · omega
    · have hi8 : i ≤ 8 := by
        by_cases h : i = 9
        · subst h
          rw [hp9] at hn
          omega
        · omega
      have e : n * 128 ^ i = (n % 128) * 128 ^ i + (n / 128) * 128 ^ (i + 1) := by
        rw [Nat.pow_succ, Nat.mul_comm (128 ^ i) 128, ← Nat.mul_assoc, ← Nat.add_mul]
        congr 1
        omega
      rw [encU_big hs, List.cons_append, uR_cons, ofNat_toNat_lt (by omega), if_neg (by omega), if_neg (by omega), ih (n / 128) (by omega) l (i + 1) _ (by omega) (.inr (by omega)) (by omega)]
      have e2 : (n % 128 + 128) % 128 = n % 128 := by omega
      rw [e2, e]
      congr 1
      omega
theorem takeU_enc (n : Nat) (l : List UInt8) (h : n < 18446744073709551616) : takeU (encU n ++ l) 0 = (n, l, 0) := by
  rw [takeU, if_pos rfl, uR_enc n l 0 0 (by simpa using h) (.inl rfl) (by decide)]
  simp
/-- A text that was put is taken, or refused where it is longer than may be. -/
theorem takeT_put (m : Nat) (s : List UInt8) (h : s.length < 18446744073709551616) : takeT m (encU s.length ++ s) 0 = if m < s.length then ([], [], 11) else (s, [], 0) := by
  have e : takeL m (encU s.length ++ s) 0 = if m < s.length then (0, [], 11) else (s.length, s, 0) := by
    unfold takeL
    rw [takeU_enc _ _ h]
  unfold takeT
  rw [e]
  by_cases hm : m < s.length
  · rw [if_pos hm, if_pos hm]
    simp
  · rw [if_neg hm, if_neg hm]
    by_cases h0 : s.length = 0
    · have e0 : s = [] := List.eq_nil_of_length_eq_zero h0
      subst e0
      rfl
    · simp only
      rw [if_neg (Nat.lt_irrefl _), if_neg h0, List.take_length, List.drop_length]
end Go.Proofs.Ytanjgobcfgmpfaa
