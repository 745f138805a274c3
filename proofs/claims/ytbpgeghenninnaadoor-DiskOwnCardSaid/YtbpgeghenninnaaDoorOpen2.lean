/- How the laws' arguments open: an act; the table as the rows list it. Condition: the list is met. -/
import Derived.Test.YtbpgeghenninnaaDoorBehind
import Derived.Test.YtbpgeghenninnaaDoorRows
import Derived.Test.YtbpgeghenninnaaDoorLaid
namespace Go.Proofs.YtbpgeghenninnaaDoor
open Go Go.Joins Go.ChangeShapes Go.WideShapes Go.RowKit
theorem act_is {H : Type} {enc : TypeId × Value → H} {W : World} {base : Nat} {v : Value} {d : DataW H} {p : List MemPlace}
    (hv : Value.okWide Tryd.prog W .any base 35 v) (h : DataW.Trod enc Tryd.prog W 0 (fun _ => true) true 35 v d p) : ∃ a : ActS, v = .agg a.cells.toArray ∧ a.Ok W := by
  obtain ⟨cs, rfl, hsz⟩ := okWide_struct Tryd.underlying35 hv
  obtain ⟨fuel, hf⟩ := h
  have hl : cs.toList.length = 12 := by
    rw [Array.length_toList, hsz]
    kernel_rfl
  obtain ⟨a, ha, hok⟩ := act_of hl hf
  refine ⟨a, ?_, hok⟩
  rw [← ha]
theorem gH : Tryd.prog.globalNamed "corvee/frame.halves" = some 0 := by kernel_rfl
theorem tH : (Tryd.prog.globals[0]?).map (·.type) = some 74 := by kernel_rfl
theorem cH : plainCells (H := Unit) Tryd.prog 8 74 Rows.laid_corvee_frame_halves = some halfCells := by kernel_rfl
theorem tab_of {W : World} (h : laidMetH Tryd.prog [("corvee/frame.halves", Rows.laid_corvee_frame_halves)] W) : Tab W := by
  have h' : laidMet Tryd.prog [("corvee/frame.halves", Rows.laid_corvee_frame_halves)] W := h
  obtain ⟨ps, hv, _⟩ := h'
  exact (laid_head 8 gH tH cH hv).1
theorem xor_ne (x : Int) : bits .xor .i64 x 1 ≠ x := by
  intro h
  have hN := (BitVec.ofInt 64 x ^^^ BitVec.ofInt 64 1).isLt
  have hb : bits .xor .i64 x 1 = IntKind.i64.wrap (((BitVec.ofInt 64 x ^^^ BitVec.ofInt 64 1).toNat : Nat) : Int) := rfl
  rw [hb, IntKind.wrap_i64] at h
  have hx : x % 18446744073709551616 = (((BitVec.ofInt 64 x ^^^ BitVec.ofInt 64 1).toNat : Nat) : Int) := by
    generalize (BitVec.ofInt 64 x ^^^ BitVec.ofInt 64 1).toNat = n at *
    omega
  have h2 : (BitVec.ofInt 64 x).toNat = (BitVec.ofInt 64 x ^^^ BitVec.ofInt 64 1).toNat := by
    generalize (BitVec.ofInt 64 x ^^^ BitVec.ofInt 64 1).toNat = n at *
    rw [BitVec.toNat_ofInt]
    omega
  have h3 := BitVec.eq_of_toNat_eq h2
  have h4 : BitVec.ofInt 64 x ^^^ BitVec.ofInt 64 x = BitVec.ofInt 64 x ^^^ (BitVec.ofInt 64 x ^^^ BitVec.ofInt 64 1) := by rw [← h3]
  rw [BitVec.xor_self, ← BitVec.xor_assoc, BitVec.xor_self, BitVec.zero_xor] at h4
  exact absurd h4 (by decide)
theorem ap_fenced {d : Dsk} {ep at_ : Int} {bs : List UInt8} (h : ep ≠ d.e) : apE d ep at_ bs = 150 ∧ apN d ep at_ bs = 0 ∧ apD d ep at_ bs = d := ap_150 h
theorem ch_fenced {d : Dsk} {ep t : Int} (h : ep ≠ d.e) : chE d ep t = 150 ∧ chD d ep t = d := by
  have h1 : chE d ep t = 150 := if_pos h
  exact ⟨h1, by unfold chD; rw [h1]; rfl⟩
theorem st_fenced {d : Dsk} {ep : Int} {bs : List UInt8} (h : ep ≠ d.e) : stE d ep bs = 150 ∧ stD d ep bs = d := by
  have h1 : stE d ep bs = 150 := wrE_150 h
  exact ⟨h1, by unfold stD; rw [h1]; rfl⟩
theorem co_fenced {d : Dsk} {ep sum from_ : Int} (h : ep ≠ d.e) : coE d ep sum from_ = 150 ∧ coD d ep sum from_ = d := by
  have h1 : coE d ep sum from_ = 150 := if_pos h
  exact ⟨h1, by unfold coD; rw [h1]; rfl⟩
end Go.Proofs.YtbpgeghenninnaaDoor
