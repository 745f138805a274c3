/- The closure of share.Dominant, called at any place: the share of that place. Conditions: the two amounts stand in memory. -/
import Derived.Test.YtafcajojepigiaaProg
import Derived.Test.YtafcajojepigiaaKit
import Derived.RegionTactic
import Derived.Deep.RegionWith
namespace Go.Proofs.Ytafcajojepigiaa
open Go Go.RowKit
theorem results_row_tmp {P : Program} {fn : Func} {p u : Tmp} {ty : TypeId} (h : fn.results = #[.cell p ty, .tmp u]) (tmps : Array Value) (w : World) (g : Nat) (t : TypeId) (cs : Array Value) (fr : Nat × Nat) (d : TypeDesc)
    (v : Value) (hp : tmps.getD p undef = .pointer (some ⟨g, 0, none⟩)) (hv : tmps.getD u undef = v) (hg : w.heap[g]? = some (.cells cs t fr))
    (hu : P.underlying ty = some d) (hd : (match d with | .struct _ | .array _ _ => true | _ => false) = true) (hi : (P.info? ty).map (·.size) = some cs.size) :
    (results fn tmps).run P w = .ok (.tuple #[.agg cs, v]) w := by
  subst hv
  have hp' : tmps[p]?.getD undef = .pointer (some ⟨g, 0, none⟩) := by simpa using hp
  simp [results, h, hp', asAddr, run_loadVar_row w g t ty cs fr d hg hu hd hi]
def mx0 (n : Int) : Int := if n < 0 then 0 else n
theorem part_any (i B1 B2 : Nat) (h g : Int) (w : World) (hi : i < 4) (c1 : w.cell? ⟨B1, i, none⟩ = some (.int .i64 h)) (c2 : w.cell? ⟨B2, i, none⟩ = some (.int .i64 g)) :
    Calls Try.prog 28 #[.int .i64 i, .pointer (some ⟨B1, 0, none⟩), .pointer (some ⟨B2, 0, none⟩)] w fun e w' => e = .returned (.agg #[.int .i64 (mx0 h), .int .i64 (mx0 g)]) ∧ Below w.heap.size w w' := by
  have hi' : (i : Int) < 4 := by omega
  have z1 := block_lt_of_cell c1
  have z2 := block_lt_of_cell c2
  simp only at z1 z2
  have e1 : (h < 0 ∧ mx0 h = 0) ∨ (¬ h < 0 ∧ mx0 h = h) := by unfold mx0; split <;> simp_all
  have e2 : (g < 0 ∧ mx0 g = 0) ∨ (¬ g < 0 ∧ mx0 g = g) := by unfold mx0; split <;> simp_all
  rcases e1 with ⟨a1, e1⟩ | ⟨a1, e1⟩ <;> rcases e2 with ⟨a2, e2⟩ | ⟨a2, e2⟩
  all_goals
    rw [e1, e2]
    clear e1 e2
    go_enter Try.func28, Try.ntmps28
    go_wp2_with fail
    go_region
    all_goals
      go_wp2
      go_returns
      exact ⟨rfl, by go_grown⟩
end Go.Proofs.Ytafcajojepigiaa
