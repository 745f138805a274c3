/- Amounts: four numbers; two of them held against one another; an array that is filled place by place. Condition: none. -/
import Derived.Test.YthkofnahimlijaaProg
import Derived.Test.YthkofnahimlijaaKit
import Derived.ChangeKeysEq
import Derived.Laws.StructEq
namespace Go.Proofs.Ythkofnahimlijaa
open Go Go.RowKit
/-- Four numbers held against four. -/
def eq4 (a0 a1 a2 a3 b0 b1 b2 b3 : Int) : Bool := a0 == b0 && (a1 == b1 && (a2 == b2 && a3 == b3))
theorem eq_vec (a0 a1 a2 a3 b0 b1 b2 b3 : Int) (w : World) :
    (Op.equalIn 10000 40 (.agg #[.int .i64 a0, .int .i64 a1, .int .i64 a2, .int .i64 a3]) (.agg #[.int .i64 b0, .int .i64 b1, .int .i64 b2, .int .i64 b3])).run Try.prog w = .ok (eq4 a0 a1 a2 a3 b0 b1 b2 b3) w := by
  have hc : Try.prog.cellsOf 3 = 1 := by kernel_rfl
  obtain ⟨i, hi⟩ := Option.isSome_iff_exists.1 (show (Try.prog.info? 3).isSome = true by kernel_rfl)
  rw [show (10000 : Nat) = 9998 + 1 + 1 from rfl, run_equalIn_array w (9998 + 1) _ _ Try.underlying40 hi, hc]
  have he : Try.prog.plainKey 3 = true := by kernel_rfl
  have hp : ∀ (c0 c1 c2 c3 : Value), (part 3 #[c0, c1, c2, c3] (0 * 1)).run Try.prog w = .ok c0 w ∧ (part 3 #[c0, c1, c2, c3] (1 * 1)).run Try.prog w = .ok c1 w ∧ (part 3 #[c0, c1, c2, c3] (2 * 1)).run Try.prog w = .ok c2 w ∧ (part 3 #[c0, c1, c2, c3] (3 * 1)).run Try.prog w = .ok c3 w := fun c0 c1 c2 c3 =>
    ⟨run_part_plain w he rfl, run_part_plain w he rfl, run_part_plain w he rfl, run_part_plain w he rfl⟩
  have hq : ∀ a b : Int, (Op.equalIn (9998 + 1) 3 (.int .i64 a) (.int .i64 b)).run Try.prog w = .ok (a == b) w := fun a b => run_equalIn_int w 9998 3 .i64 .i64 a b Try.underlying3
  simp only [show List.range 4 = [0, 1, 2, 3] from rfl, Op.eqItems, Sem.run_bind, (hp _ _ _ _).1, (hp _ _ _ _).2.1, (hp _ _ _ _).2.2.1, (hp _ _ _ _).2.2.2, Result.andThen_ok, hq, Sem.run_ite, Sem.run_pure, eq4]
  generalize (a0 == b0) = x0
  generalize (a1 == b1) = x1
  generalize (a2 == b2) = x2
  generalize (a3 == b3) = x3
  cases x0 <;> cases x1 <;> cases x2 <;> cases x3 <;> rfl
end Go.Proofs.Ythkofnahimlijaa
