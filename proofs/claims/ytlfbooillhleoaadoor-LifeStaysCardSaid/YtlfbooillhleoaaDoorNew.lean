/- life.New and the reference's New at any arguments. Conditions: none. -/
import Derived.Test.YtlfbooillhleoaaDoorProg
import Derived.WalkKit
import Derived.Handy
import Derived.WalkLawsBesides
import Derived.WalkSpells
namespace Go.Proofs.YtlfbooillhleoaaDoor
open Go Go.RowKit

theorem new_bad (r : Int) (h : Bool) (w : World) (hb : r < 0 ∨ 5 < r) :
    Calls Tryd.prog 20 #[.int .i64 r, .bool h] w fun e w' => e = .returned (.tuple #[.agg #[.int .i64 0, .int .i64 0, .int .i64 0, .bool false, .bool false], .int .i64 1]) ∧ w.alloc (.cells #[.int .i64 0, .int .i64 0, .int .i64 0, .bool false, .bool false] 24) = w' := by
  rcases hb with hb | hb
  · go_enter Tryd.func20, Tryd.ntmps20
    go_wp2
    go_returns
    exact ⟨rfl, rfl⟩
  · have h0 : ¬ r < 0 := by omega
    go_enter Tryd.func20, Tryd.ntmps20
    go_wp2
    go_returns
    exact ⟨rfl, rfl⟩

theorem new_ok (r : Int) (h : Bool) (w : World) (h0 : 0 ≤ r) (h5 : r ≤ 5) :
    Calls Tryd.prog 20 #[.int .i64 r, .bool h] w fun e w' => e = .returned (.tuple #[.agg #[.int .i64 (if h then 2 else 1), .int .i64 0, .int .i64 r, .bool false, .bool false], .int .i64 0]) ∧ (w.alloc (.cells #[.int .i64 (if h then 2 else 1), .int .i64 0, .int .i64 r, .bool false, .bool false] 24)).alloc (.cells #[.int .i64 (if h then 2 else 1), .int .i64 0, .int .i64 r, .bool false, .bool false] 24) = w' := by
  cases h
  all_goals
    go_enter Tryd.func20, Tryd.ntmps20
    go_wp2
    go_returns
    exact ⟨rfl, rfl⟩
theorem rnew_ok (r : Int) (h : Bool) (w : World) (h0 : 0 ≤ r) (h5 : r ≤ 5) :
    Calls Tryd.prog 21 #[.int .i64 r, .bool h] w fun e w' => e = .returned (.tuple #[.agg #[.int .i64 (if h then 2 else 1), .int .i64 0, .int .i64 r, .bool false, .bool false], .int .i64 0]) ∧ (w.alloc (.cells #[.int .i64 (if h then 2 else 1), .int .i64 0, .int .i64 r, .bool false, .bool false] 24)).alloc (.cells #[.int .i64 (if h then 2 else 1), .int .i64 0, .int .i64 r, .bool false, .bool false] 24) = w' := by
  cases h
  all_goals
    go_enter Tryd.func21, Tryd.ntmps21
    go_wp2
    go_returns
    exact ⟨rfl, rfl⟩
theorem rnew_bad (r : Int) (h : Bool) (w : World) (hb : r < 0 ∨ 5 < r) :
    Calls Tryd.prog 21 #[.int .i64 r, .bool h] w fun e w' => e = .returned (.tuple #[.agg #[.int .i64 0, .int .i64 0, .int .i64 0, .bool false, .bool false], .int .i64 1]) ∧ w.alloc (.cells #[.int .i64 0, .int .i64 0, .int .i64 0, .bool false, .bool false] 24) = w' := by
  rcases hb with hb | hb
  · go_enter Tryd.func21, Tryd.ntmps21
    go_wp2
    go_returns
    exact ⟨rfl, rfl⟩
  · have h0 : ¬ r < 0 := by omega
    go_enter Tryd.func21, Tryd.ntmps21
    go_wp2
    go_returns
    exact ⟨rfl, rfl⟩
end Go.Proofs.YtlfbooillhleoaaDoor
