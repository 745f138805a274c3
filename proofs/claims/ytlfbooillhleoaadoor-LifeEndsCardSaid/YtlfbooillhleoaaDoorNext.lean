/- life.Next at any life and sign: what nextF gives. Condition: the tables stand as the program's text lays them. -/
import Derived.Test.YtlfbooillhleoaaDoorParts
import Derived.Laws.Rows
import Derived.LoopTactic
namespace Go.Proofs.YtlfbooillhleoaaDoor
open Go Go.RowKit
def stA (sg a : Int) : Int := if sg = 3 then a + 1 else a
def stB (sg : Int) (b : Bool) : Bool := if sg = 4 then true else b
def stT (sg n : Int) (t : Bool) : Bool := if sg = 6 ∧ n = 4 then true else t
theorem step_any (s a l : Int) (b t : Bool) (sg n : Int) (w : World) (ha : 0 ≤ a) (ha6 : a ≤ 6) :
    Calls Tryd.prog 23 #[.agg #[.int .i64 s, .int .i64 a, .int .i64 l, .bool b, .bool t], .int .i64 sg, .int .i64 n] w fun e w' => e = .returned (.agg #[.int .i64 n, .int .i64 (stA sg a), .int .i64 l, .bool (stB sg b), .bool (stT sg n t)]) ∧ (w.alloc (.cells #[.int .i64 n, .int .i64 (stA sg a), .int .i64 l, .bool (stB sg b), .bool (stT sg n t)] 24)).alloc (.cells #[.int .i64 n, .int .i64 (stA sg a), .int .i64 l, .bool (stB sg b), .bool (stT sg n t)] 24) = w' := by
  rcases (by omega : sg = 3 ∨ sg = 4 ∨ (sg = 6 ∧ n = 4) ∨ (sg = 6 ∧ ¬ n = 4) ∨ (¬ sg = 3 ∧ ¬ sg = 4 ∧ ¬ sg = 6)) with rfl | rfl | ⟨rfl, rfl⟩ | ⟨rfl, h⟩ | ⟨h3, h4, h6⟩
  · go_enter Tryd.func23, Tryd.ntmps23
    go_wp2
    go_returns
    exact ⟨rfl, rfl⟩
  · go_enter Tryd.func23, Tryd.ntmps23
    go_wp2
    go_returns
    exact ⟨rfl, rfl⟩
  · go_enter Tryd.func23, Tryd.ntmps23
    go_wp2
    go_returns
    exact ⟨rfl, rfl⟩
  · have e : stT 6 n t = t := if_neg (fun hh => h hh.2)
    rw [e]
    clear e
    go_enter Tryd.func23, Tryd.ntmps23
    go_wp2
    go_returns
    exact ⟨rfl, rfl⟩
  · have e1 : stA sg a = a := if_neg h3
    have e2 : stB sg b = b := if_neg h4
    have e3 : stT sg n t = t := if_neg (fun hh => h6 hh.1)
    rw [e1, e2, e3]
    clear e1 e2 e3
    go_enter Tryd.func23, Tryd.ntmps23
    go_wp2
    go_returns
    exact ⟨rfl, rfl⟩
end Go.Proofs.YtlfbooillhleoaaDoor
