/- A disk that is none: what each method answers. Condition: none. -/
import Derived.Test.YtbpgeghenninnaaDoorMore
namespace Go.Proofs.YtbpgeghenninnaaDoor
open Go Go.RowKit
theorem cut_nil (n : Int) (w : World) : Calls Tryd.prog 22 #[.pointer none, .int .i64 n] w fun e w' => e = .returned (.tuple #[]) ∧ w = w' := by
  go_enter Tryd.func22, Tryd.ntmps22
  go_wp2_with fail
  all_goals go_returns
  all_goals exact ⟨rfl, rfl⟩
theorem claim_nil (w : World) : Calls Tryd.prog 14 #[.pointer none] w fun e w' => e = .returned (.agg #[.int .i64 0, .int .i64 0, .int .i64 0]) ∧ Below w.heap.size w w' := by
  go_enter Tryd.func14, Tryd.ntmps14
  go_wp2_with fail
  all_goals go_returns
  all_goals exact ⟨rfl, by go_grown⟩
theorem swap_nil (a b : Int × Int × Int) (w : World) : Calls Tryd.prog 21 #[.pointer none, cl a, cl b] w fun e w' => e = .returned (.int .i64 1) ∧ Below w.heap.size w w' := by
  simp only [cl]
  go_enter Tryd.func21, Tryd.ntmps21
  go_wp2_with fail
  all_goals go_returns
  all_goals exact ⟨rfl, by go_grown⟩
theorem room_nil (w : World) : Calls Tryd.prog 10 #[.pointer none] w fun e w' => e = .returned (.int .i64 0) ∧ Below w.heap.size w w' := by
  have hF := @fieldRoom
  go_enter Tryd.func10, Tryd.ntmps10
  go_wp2_with fail
  refine (bytes_nil _).mono ?_
  rintro _ w1 ⟨rfl, hb⟩
  have g := hid hb
  clear hb
  go_wp2_with fail
  all_goals go_returns
  all_goals exact ⟨rfl, g.out⟩
theorem log_nil (w : World) : Calls Tryd.prog 12 #[.pointer none] w fun e w' => ∃ v, e = .returned v ∧ Own w' w.heap.size v [] ∧ Below w.heap.size w w' := by
  have hF := @fieldLog
  go_enter Tryd.func12, Tryd.ntmps12
  go_wp2_with fail
  refine (bytes_nil _).mono ?_
  rintro _ w1 ⟨rfl, hb⟩
  have g := hid hb
  clear hb
  have KF := hid (fresh_any none 0 [] w1 (.inl rfl) (by decide))
  rw [List.length_nil] at KF
  go_wp2_with fail
  refine KF.out.mono ?_
  rintro _ w2 ⟨v, rfl, ho, hb⟩
  have HO := hid (ho.mono g.out.size)
  have g2 := hid (below_step g.out g.out.size hb)
  clear ho hb
  go_wp2_with fail
  all_goals go_returns
  all_goals exact ⟨_, rfl, HO.out, g2.out⟩
theorem snap_nil (w : World) : Calls Tryd.prog 13 #[.pointer none] w fun e w' => ∃ v, e = .returned v ∧ Own w' w.heap.size v [] ∧ Below w.heap.size w w' := by
  have hF := @fieldSnap
  go_enter Tryd.func13, Tryd.ntmps13
  go_wp2_with fail
  refine (bytes_nil _).mono ?_
  rintro _ w1 ⟨rfl, hb⟩
  have g := hid hb
  clear hb
  have KF := hid (fresh_any none 0 [] w1 (.inl rfl) (by decide))
  rw [List.length_nil] at KF
  go_wp2_with fail
  refine KF.out.mono ?_
  rintro _ w2 ⟨v, rfl, ho, hb⟩
  have HO := hid (ho.mono g.out.size)
  have g2 := hid (below_step g.out g.out.size hb)
  clear ho hb
  go_wp2_with fail
  all_goals go_returns
  all_goals exact ⟨_, rfl, HO.out, g2.out⟩
theorem chop_nil (ep t : Int) (w : World) : Calls Tryd.prog 17 #[.pointer none, .int .i64 ep, .int .i64 t] w fun e w' => e = .returned (.int .i64 1) ∧ w = w' := by
  have KF := hid (fenced_nil ep w)
  go_enter Tryd.func17, Tryd.ntmps17
  go_wp2_with (go_at_call 32; refine KF.out.mono ?_; rintro _ w1 ⟨rfl, rfl⟩)
  all_goals go_returns
  all_goals exact ⟨rfl, rfl⟩
theorem commit_nil (ep sum t : Int) (w : World) : Calls Tryd.prog 19 #[.pointer none, .int .i64 ep, .int .u32 sum, .int .i64 t] w fun e w' => e = .returned (.int .i64 1) ∧ w = w' := by
  have KF := hid (fenced_nil ep w)
  go_enter Tryd.func19, Tryd.ntmps19
  go_wp2_with (go_at_call 32; refine KF.out.mono ?_; rintro _ w1 ⟨rfl, rfl⟩)
  all_goals go_returns
  all_goals exact ⟨rfl, rfl⟩
theorem writing_nil (ep : Int) (w : World) : Calls Tryd.prog 31 #[.pointer none, .int .i64 ep] w fun e w' => e = .returned (.func (Fn.func 35) #[] #[.pointer (some ⟨w.heap.size, 0, none⟩), .pointer (some ⟨w.heap.size + 1, 0, none⟩)]) ∧
    w' = (w.alloc (.cells #[.pointer none] 24)).alloc (.cells #[.int .i64 ep] 3) := by
  go_enter Tryd.func31, Tryd.ntmps31
  go_wp2_with fail
  all_goals go_returns
  all_goals exact ⟨rfl, rfl⟩
theorem clos_nil (ep used : Int) (atEnd : Bool) (v : Value) (w : World) :
    Calls Tryd.prog 35 #[.int .i64 used, .bool atEnd, v, .pointer (some ⟨w.heap.size, 0, none⟩), .pointer (some ⟨w.heap.size + 1, 0, none⟩)] ((w.alloc (.cells #[.pointer none] 24)).alloc (.cells #[.int .i64 ep] 3)) fun e w' => e = .returned (.tuple #[.slice none 0 0, .int .i64 1]) ∧ Below w.heap.size w w' := by
  have KF := hid (fenced_nil ep ((w.alloc (.cells #[.pointer none] 24)).alloc (.cells #[.int .i64 ep] 3)))
  go_enter Tryd.func35, Tryd.ntmps35
  go_wp2_with (go_at_call 32; refine KF.out.mono ?_; rintro _ w1 ⟨rfl, rfl⟩)
  all_goals go_ret2
  all_goals exact ⟨rfl, by go_grown⟩
theorem stage_nil (ep : Int) (A : Option Addr) (n cap : Nat) (w : World) : Calls Tryd.prog 18 #[.pointer none, .int .i64 ep, .slice A n cap] w fun e w' => e = .returned (.int .i64 1) ∧ Below w.heap.size w w' := by
  go_enter Tryd.func18, Tryd.ntmps18
  go_wp2_with fail
  refine (writing_nil ep _).mono ?_
  rintro _ w2 ⟨rfl, rfl⟩
  go_wp2_with fail
  refine (clos_nil ep 0 true _ w).mono ?_
  rintro _ w3 ⟨rfl, hb⟩
  have g := hid hb
  clear hb
  go_wp2_with fail
  all_goals go_returns
  all_goals exact ⟨rfl, g.out⟩
theorem append_nil (ep at_ : Int) (A : Option Addr) (n cap : Nat) (w : World) : Calls Tryd.prog 16 #[.pointer none, .int .i64 ep, .int .i64 at_, .slice A n cap] w fun e w' => e = .returned (.tuple #[.int .i64 0, .int .i64 1]) ∧ Below w.heap.size w w' := by
  have hF := @fieldLog
  go_enter Tryd.func16, Tryd.ntmps16
  go_wp2_with fail
  refine (bytes_nil _).mono ?_
  rintro _ w1 ⟨rfl, hb⟩
  have g := hid hb
  clear hb
  go_wp2_with fail
  refine (writing_nil ep _).mono ?_
  rintro _ w2 ⟨rfl, rfl⟩
  have KC := hid (fun u b v => clos_nil ep u b v w1)
  go_wp2_with fail
  refine (KC.out _ _ _).mono ?_
  rintro _ w3 ⟨rfl, hb⟩
  have g3 := hid (below_step g.out g.out.size hb)
  clear hb KC
  go_wp2_with fail
  all_goals go_ret2
  all_goals exact ⟨rfl, g3.out⟩
end Go.Proofs.YtbpgeghenninnaaDoor
