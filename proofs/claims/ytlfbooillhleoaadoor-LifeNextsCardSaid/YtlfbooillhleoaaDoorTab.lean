/- The two tables stand as the rows list them. Condition: the list is met. -/
import Derived.Test.YtlfbooillhleoaaDoorParts
import Derived.Test.YtlfbooillhleoaaDoorRows
import Derived.Test.YtlfbooillhleoaaDoorLaid
namespace Go.Proofs.YtlfbooillhleoaaDoor
open Go Go.ChangeShapes Go.WideShapes Go.RowKit
theorem gRows : Tryd.prog.globalNamed "corvee/life.rows" = some 0 := by kernel_rfl
theorem gNames : Tryd.prog.globalNamed "corvee/life.names" = some 1 := by kernel_rfl
theorem tRows : (Tryd.prog.globals[0]?).map (·.type) = some 47 := by kernel_rfl
theorem tNames : (Tryd.prog.globals[1]?).map (·.type) = some 49 := by kernel_rfl
theorem cNames : plainCells (H := Unit) Tryd.prog 8 49 Rows.laid_corvee_life_names = some nameCells := by kernel_rfl
theorem cRows : plainCells (H := Unit) Tryd.prog 8 47 Rows.laid_corvee_life_rows = some rowCells := by kernel_rfl
theorem tab_of {W : World} (h : laidMetH Tryd.prog [("corvee/life.names", Rows.laid_corvee_life_names), ("corvee/life.rows", Rows.laid_corvee_life_rows)] W) : Tab W := by
  have h' : laidMet Tryd.prog [("corvee/life.names", Rows.laid_corvee_life_names), ("corvee/life.rows", Rows.laid_corvee_life_rows)] W := h
  obtain ⟨ps, hv, _⟩ := h'
  obtain ⟨h1, q, hv⟩ := laid_head 8 gNames tNames cNames hv
  obtain ⟨h0, _⟩ := laid_head 8 gRows tRows cRows hv
  exact ⟨h0, h1⟩
end Go.Proofs.YtlfbooillhleoaaDoor
