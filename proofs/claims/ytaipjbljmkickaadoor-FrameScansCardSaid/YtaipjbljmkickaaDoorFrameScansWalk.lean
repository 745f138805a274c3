/- The Go function FrameScans, called with any arguments, returns true and leaves all that was there. Condition: the table stands as the rows list it. -/
import Derived.Test.YtaipjbljmkickaaDoorOpen
import Derived.Deep.DeepCutAuto
import Derived.StillTailTactics
namespace Go.Proofs.YtaipjbljmkickaaDoor
open Go Go.ChangeShapes Go.WideShapes Go.RowKit
theorem own_set {w : World} {B : Nat} {u : Value} {x : List UInt8} (g k : Nat) (y : UInt8) (h : Own w B u x) : ∃ x', x'.length = x.length ∧ Own (w.setCell ⟨g, k, none⟩ (bv y)) B u x' := by
  obtain ⟨hl, ⟨rfl, h0⟩ | ⟨g', cap, cur, rfl, hb, hh, hn, hcap, hcur, htake⟩⟩ := h
  · exact ⟨x, rfl, hl, .inl ⟨rfl, h0⟩⟩
  · by_cases hg : g' = g
    · subst hg
      refine ⟨x.set k y, by simp, by simp, .inr ⟨g', cap, cur.setIfInBounds k (bv y), by simp, hb, heap_setCell_same w g' k _ 5 (bv y) hh, by simpa using hn, hcap, by simpa using hcur, ?_⟩⟩
      rw [List.length_set, Array.toList_setIfInBounds, List.take_set, htake, List.map_set]
    · exact ⟨x, rfl, hl, .inr ⟨g', cap, cur, rfl, hb, (heap_setCell_other _ _ _ _ hg).trans hh, hn, hcap, hcur, htake⟩⟩
theorem row_set {w : World} {B n g : Nat} {v u : Value} {cells : List Value} {x : List UInt8} (k : Nat) (y : Value) (h : w.ownsRow B 22 1 v n cells) (hu : Own w B u x) (hg : u.ownBlock = some g) : (w.setCell ⟨g, k, none⟩ y).ownsRow B 22 1 v n cells := by
  obtain ⟨hl, ⟨rfl, h0⟩ | ⟨g', cap, cur, rfl, hb, hh, r⟩⟩ := h
  · exact ⟨hl, .inl ⟨rfl, h0⟩⟩
  · have hne : g' ≠ g := by
      rintro rfl
      exact ownsRow_apart hu (show w.ownsRow B 22 1 (.slice (some ⟨g', 0, none⟩) n cap) n cells from ⟨hl, .inr ⟨g', cap, cur, rfl, hb, hh, r⟩⟩) (by decide) g' rfl hg
    exact ⟨hl, .inr ⟨g', cap, cur, rfl, hb, (heap_setCell_other _ _ _ _ hne).trans hh, r⟩⟩
theorem xor255 (n : Nat) (h : n < 256) : bits .xor .u8 (n : Int) 255 = ((UInt8.ofNat (n ^^^ 255)).toNat : Int) := by
  have hx : n ^^^ 255 < 2 ^ 8 := Nat.xor_lt_two_pow (by omega) (by omega)
  rw [ofNat_toNat_lt hx]
  exact u8_xor_nat n 255 h (by omega)
theorem own_at {w : World} {B m c : Nat} {A : Option Addr} {x : List UInt8} (h : Own w B (.slice A m c) x) (hl : x.length = m) (j : Nat) (hj : j < m) : ∃ g, A = some ⟨g, 0, none⟩ ∧ w.cell? ⟨g, j, none⟩ = some (bv (x[j]'(by omega))) ∧ w.frozen? ⟨g, j, none⟩ = false := by
  obtain ⟨_, ⟨he, h0⟩ | ⟨g, cap, cur, he, hb, hh, hn, hcap, hcur, htake⟩⟩ := h
  · omega
  · cases he
    refine ⟨g, rfl, ?_, free_of hh j⟩
    rw [cell_of hh, ← Array.getElem?_toList]
    have : (cur.toList.take (x.length * 1))[j]? = some (bv (x[j]'(by omega))) := by rw [htake, List.getElem?_map, List.getElem?_eq_getElem (by omega)]; rfl
    rw [List.getElem?_take, if_pos (by omega)] at this
    exact this
/-- What the flips leave: the row as it was, each of its slices owned still. -/
def FlipRel (B n : Nat) (v : Value) (cells : List Value) (w wr : World) : Prop :=
  wr.ownsRow B 22 1 v n cells ∧ (∀ (j : Nat) u, cells[j]? = some u → ∃ x, Own wr B u x) ∧ Below B w wr
theorem FlipRel.set {B n g : Nat} {v u : Value} {cells : List Value} {w wr : World} {x : List UInt8} (k : Nat) (y : UInt8) (h : FlipRel B n v cells w wr) (hu : Own wr B u x) (hg : u.ownBlock = some g) : FlipRel B n v cells w (wr.setCell ⟨g, k, none⟩ (bv y)) := by
  obtain ⟨h1, h2, h3⟩ := h
  refine ⟨row_set k (bv y) h1 hu hg, fun j z hz => ?_, h3.setCell (p := ⟨g, k, none⟩) (own_base hu g hg) _⟩
  obtain ⟨x', hx'⟩ := h2 j z hz
  obtain ⟨x2, _, h⟩ := own_set g k y hx'
  exact ⟨x2, h⟩
theorem FlipRel.drew {B n : Nat} {v : Value} {cells : List Value} {w wr : World} (h : FlipRel B n v cells w wr) : FlipRel B n v cells w wr.drew := ⟨h.1, h.2.1, h.2.2.drew⟩
set_option maxRecDepth 10000 in
set_option maxHeartbeats 2000000 in
theorem frameScans_walk {H : Type} {enc : TypeId × Value → H} (W : World) (base : Nat) (args : Array Value) (ds : List (DataW H))
    (hval : ∀ (j : Nat) t v, Tryd.f5.params[j]? = some t → args[j]? = some v → Value.okWide Tryd.prog W .any base t v)
    (hA : ∃ p, DataW.TrodAll enc Tryd.prog W 0 (fun _ => true) true Tryd.f5.params.toList args.toList ds p) 
    (_ : (DataW.weightsEach Tryd.prog (Tryd.f5.params.toList ++ (OpenSpec.ofChange Rows.frameScansSpec).bare.plain.varTypes Tryd.prog) (ds ++ [])).all (· ≤ reachBytes) = true)
    (hL : laidMetH Tryd.prog Rows.frameScansRow.laid W) (_ : W.ShapedOpen Tryd.prog) :
    Calls Tryd.prog 5 args W fun e W' => e = .returned (.bool true) ∧ Below W.heap.size W W' := by
  obtain ⟨p, hA⟩ := hA
  rw [Tryd.params5] at hA hval
  obtain ⟨v0, d0, hargs, rfl, h0⟩ := trodAll_one hA
  subst hargs
  obtain ⟨A, cap, bs, rfl, hb, hcap, hl63, hnil⟩ := bytes_is (hval 0 22 v0 rfl rfl) h0
  clear h0 hval hA
  have hT := tab_of hL
  have HT := hid hT
  have HB := hid hb
  have hl1 : (bs.length : Int) ≤ 9223372036854775807 := by omega
  clear hT hb
  by_cases hlen : 20000 < bs.length
  · have hlen' : (20000 : Int) < (bs.length : Int) := by omega
    go_enter Tryd.func5, Tryd.ntmps5
    go_wp2_with fail
    refine (awake_any _ HT.out).mono ?_
    rintro _ w1 ⟨rfl, hbb⟩
    have g1 := hid hbb
    clear hbb
    go_wp2_with fail
    all_goals go_returns
    all_goals exact ⟨rfl, g1.out⟩
  · have hlen' : ¬ (20000 : Int) < (bs.length : Int) := by omega
    have K16 := hid (fun w (h : Below W.heap.size W w) => scan_any A cap bs w (HB.out.keep h) hcap (tab_below HT.out h) (by omega))
    have K17 := hid (fun w (h : Below W.heap.size W w) => refscan_any A cap bs w (HB.out.keep h) hcap (by omega))
    have CS := hid (fun w (h : Below W.heap.size W w) => str_of cap (HB.out.keep h))
    have hsl : (scanS bs).1.length ≤ 20000 := by
      have := scanS_few bs.length bs rfl
      omega
    generalize (⟨bs.toArray⟩ : ByteArray) = S at *
    generalize scanS bs = R at *
    obtain ⟨X, at'⟩ := R
    simp only at K16 K17 hsl
    clear HB hnil
    go_enter Tryd.func5, Tryd.ntmps5
    go_wp2_with fail
    refine (awake_any _ HT.out).mono ?_
    rintro _ w1 ⟨rfl, hbb⟩
    have g1 := hid hbb
    clear hbb
    have c1 := CS.out w1 g1.out
    go_wp2_with fail
    refine (K16.out w1 g1.out).mono ?_
    rintro _ w2 ⟨v2, rfl, ho2, hbb⟩
    have g2 := hid (below_step g1.out g1.out.size hbb)
    have O2 := hid ho2
    clear ho2 hbb c1
    go_wp2_with fail
    refine (K17.out w2 g2.out).mono ?_
    rintro _ w3 ⟨v3, rfl, ho3, hbb⟩
    have g3 := hid (below_step g2.out g2.out.size hbb)
    have O3 := hid (show OwnB w3 W.heap.size v2 X from (O2.out.grown (grown_below hbb none) (fun k hk => by cases hk)).mono g1.out.size)
    obtain ⟨A2, c2, rfl, hr2, _⟩ := O3.out.is
    obtain ⟨A3, c3, rfl, hr3, _⟩ := ho3.is
    have K18 := hid (same_any A2 A3 c2 c3 X w3 hr2 hr3 (by omega))
    clear ho3 hbb hr2 hr3 O2 K16 K17
    go_wp2_with fail
    refine K18.out.mono ?_
    rintro _ w4 ⟨rfl, q, hw4⟩
    have g4 := hid (show Below W.heap.size W w4 by rw [hw4]; exact quiet_below g3.out q)
    have O4 := hid (show OwnB w4 W.heap.size (.slice A2 X.length c2) X by rw [hw4]; exact O3.out.grown (grown_below (quiet_below (Below.refl _ w3) q) none) (fun k hk => by cases hk))
    clear hw4 K18 O3
    obtain ⟨cells, ho1, ho2, ho3⟩ := O4.out
    have F0 := hid (show FlipRel W.heap.size X.length (.slice A2 X.length c2) cells W w4 from ⟨ho1, fun j u hu => by
      have hj := (List.getElem?_eq_some_iff.1 hu).1
      obtain ⟨u', hu', ho⟩ := ho3 j X[j] (List.getElem?_eq_getElem (by omega))
      rw [hu] at hu'
      cases hu'
      exact ⟨_, ho⟩, g4.out⟩)
    have hcl : cells.length = X.length := ho2
    generalize X.length = n at *
    have hn : (n : Int) ≤ 20000 := by omega
    clear ho1 ho2 ho3 O4 g4
    go_wp2_with fail
    go_loopw [9, 10] (fun i j wr => (∃ k : Nat, k ≤ n ∧ i = .int .i64 k) ∧ FlipRel W.heap.size n (.slice A2 n c2) cells W wr) (fun i _ _ => n - (intOf i).toNat)
    case atStart => exact ⟨⟨0, Nat.zero_le _, rfl⟩, F0.out⟩
    case round =>
      obtain ⟨⟨k, hk, rfl⟩, hF⟩ := hrel
      have HF := hid hF
      clear hF F0
      by_cases hlt : k < n
      · have hlt' : (k : Int) < (n : Int) := by omega
        obtain ⟨u, hu⟩ : ∃ u, cells[k]? = some u := ⟨_, List.getElem?_eq_getElem (by omega)⟩
        obtain ⟨x0, hx0⟩ := HF.out.2.1 k u hu
        obtain ⟨A4, c4, rfl, _, hmc, _⟩ := hx0.is
        generalize x0.length = m at *
        obtain ⟨rb, rfl⟩ : ∃ rb, A2 = some ⟨rb, 0, none⟩ := by
          obtain ⟨A5, c5, he, _, _, h0 | ⟨b, rfl, _⟩⟩ := row_cells HF.out.1 hcl
          · omega
          · cases he
            exact ⟨b, rfl⟩
        have HCELL : Hid (∀ ws, FlipRel W.heap.size n (.slice (some ⟨rb, 0, none⟩) n c2) cells W ws → ws.cell? ⟨rb, k, none⟩ = some (.slice A4 m c4)) := hid fun ws h => by
          obtain ⟨A5, c5, he, _, _, h0 | ⟨b, rfl, _, _, _, hc⟩⟩ := row_cells h.1 hcl
          · omega
          · cases he
            exact hc k _ hu
        have HOWN : Hid (∀ ws, FlipRel W.heap.size n (.slice (some ⟨rb, 0, none⟩) n c2) cells W ws → ∃ x, Own ws W.heap.size (.slice A4 m c4) x ∧ x.length = m) := hid fun ws h => by
          obtain ⟨x, hx⟩ := h.2.1 k _ hu
          exact ⟨x, hx, (slen_own hx).symm⟩
        have hml : (m : Int) ≤ 9223372036854775807 := by
          have := hx0.2
          rcases this with ⟨h, _⟩ | ⟨g, cap, cur, h, _, _, _, hc, _⟩
          · cases h; omega
          · cases h
            unfold maxLen at hc
            omega
        clear hx0 hu
        go_wp2_with fail
        go_loopw [10] (fun j ws => (∃ l : Nat, l ≤ m ∧ j = .int .i64 l) ∧ FlipRel W.heap.size n (.slice (some ⟨rb, 0, none⟩) n c2) cells W ws) (fun j _ => m - (intOf j).toNat)
        case atStart => exact ⟨⟨0, Nat.zero_le _, rfl⟩, HF.out⟩
        case round =>
          obtain ⟨⟨l, hl, rfl⟩, hF2⟩ := hrel
          have HF2 := hid hF2
          have k1 := HCELL.out wr hF2
          clear hF2 HF
          by_cases hlm : l < m
          · have hlm' : (l : Int) < (m : Int) := by omega
            obtain ⟨x, hx, hxl⟩ := HOWN.out wr HF2.out
            obtain ⟨g, rfl, k2, k3⟩ := own_at hx hxl l hlm
            have HX := hid hx
            have hlt8 := (x[l]'(by omega)).toNat_lt
            have k4 := xor255 _ hlt8
            unfold bv at k2
            generalize (x[l]'(by omega)).toNat = n0 at *
            obtain ⟨y, hy⟩ : ∃ y, y = UInt8.ofNat (n0 ^^^ 255) := ⟨_, rfl⟩
            rw [← hy] at k4
            clear hx hxl hy
            have HS := hid (FlipRel.set l y HF2.out.drew (ownsRow_grown HX.out (grown_below (Below.drew (Below.refl _ wr)) none) (fun k hk => by cases hk)) rfl)
            go_wp2_with fail
            go_still_tail 14, (by kernel_rfl)
            change wpList _ _ _ _ _ wr.drew
            go_wp2_with fail
            go_roundw
            case rel => exact ⟨⟨l + 1, by omega, by go_num⟩, HS.out⟩
            case measure => simp [intOf]; omega
          · obtain rfl : l = m := by omega
            go_wp2_with fail
            go_roundw
            case rel => exact ⟨⟨k + 1, by omega, by go_num⟩, HF2.out⟩
            case measure => simp [intOf]; omega
      · obtain rfl : k = n := by omega
        have c5 := CS.out wr HF.out.2.2
        have G := hid HF.out.2.2
        clear HF
        go_wp2_with fail
        all_goals go_returns
        all_goals exact ⟨by first | rfl | simp, G.out⟩
end Go.Proofs.YtaipjbljmkickaaDoor
