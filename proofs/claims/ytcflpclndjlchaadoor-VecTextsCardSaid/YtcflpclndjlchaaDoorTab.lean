/- The library's table of powers stands as the rows list it, in every world that leaves the old heap; vec.Text at any amount. Condition: the list is met. -/
import Derived.Test.YtcflpclndjlchaaDoorTextMath
import Derived.Test.YtcflpclndjlchaaDoorAwake
import Derived.Test.YtcflpclndjlchaaDoorRows
import Derived.Lib.AppendIntMem
namespace Go.Proofs.YtcflpclndjlchaaDoor
open Go Go.ChangeShapes Go.WideShapes Go.RowKit
def Tab (W : World) : Prop := Lib.TabIs Tryd.prog W "internal/strconv.uint64pow10" .u64 Lib.pow10Tab
theorem tab_below {W w : World} (h : Tab W) (hb : Below W.heap.size W w) : Tab w := by
  unfold Tab Lib.TabIs World.var? at *
  obtain ⟨g, hg, h⟩ := Option.bind_eq_some_iff.1 h
  refine Option.bind_eq_some_iff.2 ⟨g, hg, ?_⟩
  have hlt : g < W.heap.size := by
    by_cases hlt : g < W.heap.size
    · exact hlt
    · exfalso
      rw [Array.getElem?_eq_none (by omega)] at h
      cases h
  rw [hb.block g hlt]
  exact h
theorem tab_of {W : World} (h : laidMetH Tryd.prog Rows.vecBackRow.laid W) : Tab W := by
  have h' : laidMet Tryd.prog [("math/bits.deBruijn32tab", Rows.laid_math_bits_deBruijn32tab), ("math/bits.deBruijn64tab", Rows.laid_math_bits_deBruijn64tab), ("internal/strconv.uint64pow10", Rows.laid_internal_strconv_uint64pow10), ("unicode/utf8.acceptRanges", Rows.laid_unicode_utf8_acceptRanges), ("unicode/utf8.first", Rows.laid_unicode_utf8_first)] W := h
  obtain ⟨ps, ⟨_, _, _, _, _, _, _, _, _, _, ⟨_, _, _, _, _, _, _, _, _, _, ⟨g', t', cs, fuel, p, q, hg', ht', hvar, hd, _, _⟩, _⟩, _⟩, _⟩ := h'
  have hg : Tryd.prog.globalNamed "internal/strconv.uint64pow10" = some 1 := by kernel_rfl
  have hty : (Tryd.prog.globals[1]?).map (·.type) = some 78 := by kernel_rfl
  obtain rfl := Option.some.inj (hg.symm.trans hg')
  obtain rfl := Option.some.inj (hty.symm.trans ht')
  have he : (Rows.laid_internal_strconv_uint64pow10 : DataW Unit) = Lib.tabData .u64 Lib.pow10Tab := by rfl
  rw [he] at hd
  unfold Tab Lib.TabIs
  rw [hvar, ← Lib.cells_of_tab Tryd.underlying78 Tryd.underlying68 (by kernel_rfl) (by kernel_rfl) hd]
theorem text_all (N : Nat → Int) (hN : ∀ i, N i ≤ 9223372036854775807 ∧ -9223372036854775808 ≤ N i) {W : World} (hT : Tab W) (w : World) (hw : Below W.heap.size W w) :
    Calls Tryd.prog 24 #[.agg #[.int .i64 (N 0), .int .i64 (N 1), .int .i64 (N 2), .int .i64 (N 3)]] w fun e w' => e = .returned (.string ⟨(joinS fun i => itoaB (N i)).toArray⟩) ∧ Below w.heap.size w w' :=
  text_any N (fun i => itoaB (N i)) w (hid fun i W1 hi hb => by
    have hb2 : Below W.heap.size W W1 := below_step hw hw.size hb
    refine (Tryd.strconv_Itoa (N i) (hN i).2 (hN i).1 W1 (tab_below hT hb2)).mono fun e w' ⟨h1, k, os, h2⟩ => ⟨h1, ?_⟩
    rw [h2]
    exact Lib.below_grow _ _ (Nat.le_refl _) k os) (by have := join_len N hN; omega)
theorem one_num {W : World} (h : W.ShapedOpen Tryd.prog) : ∃ m : Int, W.cell? ⟨0, 0, none⟩ = some (.int .i64 m) := Tryd.laysM147.s1_3 W h
end Go.Proofs.YtcflpclndjlchaaDoor
