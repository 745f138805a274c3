/- Words of four bytes put and read; frame.Frame and the document's. Conditions: the bytes and the table stand in memory. -/
import Derived.Test.YtaipjbljmkickaaDoorSum
import Derived.Laws.AppendOwnNone
import Derived.BigQuiet
import Derived.Deep.QuietTactic
namespace Go.Proofs.YtaipjbljmkickaaDoor
open Go Go.RowKit
theorem add_off (b off j : Nat) : (⟨b, off, none⟩ : Addr).add j = ⟨b, off + j, none⟩ := by
  unfold Addr.add
  split <;> simp_all
def wordB (n : Nat) : List UInt8 := [UInt8.ofNat (n / 16777216), UInt8.ofNat (n / 65536), UInt8.ofNat (n / 256), UInt8.ofNat n]
theorem tab_below {W w : World} (h : Tab W) (hb : Below W.heap.size W w) : Tab w := by
  obtain ⟨T, fr, h⟩ := h
  exact ⟨T, fr, keep0 hb h⟩
theorem bv_of (k : Nat) (m : Int) (h : m = ((k % 256 : Nat) : Int)) : Value.int .u8 m = bv (UInt8.ofNat k) := by
  rw [h]
  simp [bv]
set_option maxHeartbeats 1000000 in
theorem putWord_any (B n : Nat) (v : Value) (bs : List UInt8) (w : World) (hn : n < 4294967296) (ho : Own w B v bs) (hB : B ≤ w.heap.size) (hlen : bs.length ≤ 1099511627776) :
    Calls Tryd.prog 19 #[v, .int .u32 n] w fun e w' => ∃ v', e = .returned v' ∧ Own w' B v' (bs ++ wordB n) ∧ Below B w w' := by
  obtain ⟨i0, hi, hz0, hz1, hz2⟩ := info_parts Tryd.info5
  have hown : w.ownsRow B 5 1 v bs.length (bs.map bv) := ho
  clear ho
  have hn' : (n : Int) < 4294967296 := by omega
  go_enter Tryd.func19, Tryd.ntmps19
  go_wp2_with (at_builtin; refine wpList_append_own _ rfl _ _ 22 rfl B 5 i0 (.int .u8 0) 1 1 Tryd.underlying22 hi hz0 hz1 hz2 rfl (by decide) _ _ _ rfl (hown.alloc _) ⟨w.heap.size, 0, none⟩ 4 4 ((wordB n).map bv) rfl rfl ?c1 ?c2 ?c3 ?c4 ?c5 ?_)
  case c1 =>
    intro j u hj
    rw [add_off, cell_of (heap_new w _), Nat.zero_add]
    match j, hj with
    | 0, hj => simp [wordB] at hj; subst hj; simp; exact bv_of _ _ (by omega)
    | 1, hj => simp [wordB] at hj; subst hj; simp; exact bv_of _ _ (by omega)
    | 2, hj => simp [wordB] at hj; subst hj; simp; exact bv_of _ _ (by omega)
    | 3, hj => simp [wordB] at hj; subst hj; simp; exact bv_of _ _ (by omega)
  case c2 =>
    intro u hu
    obtain ⟨y, _, rfl⟩ := List.mem_map.1 hu
    rfl
  case c3 => unfold maxLen; omega
  case c4 => omega
  case c5 => simp; omega
  · intro v' w1 hown2 hgrow _
    have hb := own_base hown
    have G1 := hid (Below.grown ((Below.refl B w).alloc hB _) hgrow (by simp; omega) hb)
    have O1 := hid (show Own w1 B v' (bs ++ wordB n) from by simpa [Own, wordB] using hown2)
    clear hown2 hgrow hown hb
    go_wp2_with fail
    all_goals go_returns
    all_goals exact ⟨_, rfl, O1.out, G1.out⟩
theorem own_new {w : World} {cs : List UInt8} (vs : Array Value) (h : vs.toList = cs.map bv) (hl : cs.length ≤ 1099511627776) : Own (w.alloc (.cells vs 5)) w.heap.size (.slice (some ⟨w.heap.size, 0, none⟩) cs.length cs.length) cs := by
  have hs : vs.size = cs.length := by
    have := congrArg List.length h
    simpa using this
  refine ⟨by simp, .inr ⟨w.heap.size, cs.length, vs, rfl, Nat.le_refl _, heap_new w _, Nat.le_refl _, by unfold maxLen; omega, by omega, ?_⟩⟩
  rw [h, Nat.mul_one, List.take_of_length_le (by simp)]
set_option maxHeartbeats 1000000 in
theorem four_any (n : Nat) (w : World) (hn : n < 4294967296) :
    Calls Tryd.prog 20 #[.int .u32 n] w fun e w' => ∃ v, e = .returned v ∧ Own w' w.heap.size v (wordB n) ∧ Below w.heap.size w w' := by
  have hn' : (n : Int) < 4294967296 := by omega
  have H := hid (own_new (w := w) (cs := wordB n) #[.int .u8 ((n : Int) / 16777216), .int .u8 ((n : Int) / 65536 % 256), .int .u8 ((n : Int) / 256 % 256), .int .u8 ((n : Int) % 256)] (by
    simp only [wordB, List.map_cons, List.map_nil]
    rw [bv_of (n / 16777216) ((n : Int) / 16777216) (by omega), bv_of (n / 65536) ((n : Int) / 65536 % 256) (by omega), bv_of (n / 256) ((n : Int) / 256 % 256) (by omega), bv_of n ((n : Int) % 256) (by omega)]) (by simp [wordB]))
  go_enter Tryd.func20, Tryd.ntmps20
  go_wp2_with fail
  all_goals go_returns
  exact ⟨_, rfl, H.out, by go_grown⟩
/-- A slice that reads as these bytes, as it may come in. -/
def Sl (w : World) (A : Option Addr) (cap : Nat) (bs : List UInt8) : Prop := Bts w A bs ∧ bs.length ≤ cap ∧ (A = none → cap = 0)
theorem Sl.keep {w w' : World} {A : Option Addr} {cap : Nat} {bs : List UInt8} (h : Sl w A cap bs) (hb : Below w.heap.size w w') : Sl w' A cap bs := ⟨h.1.keep hb, h.2⟩
theorem bts_cells {w : World} {a : Addr} {bs : List UInt8} (h : Bts w (some a) bs) : ∀ (j : Nat) u, (bs.map bv)[j]? = some u → w.cell? (a.add j) = some u := by
  intro j u hj
  rw [List.getElem?_map] at hj
  obtain ⟨y, hy, rfl⟩ := Option.map_eq_some_iff.1 hj
  rcases h with rfl | ⟨b, off, he, _, hc⟩
  · simp at hy
  · cases he
    rw [add_off]
    exact hc j y hy
theorem bv_cells (bs : List UInt8) : ∀ u ∈ bs.map bv, u.oneCell' = true := by
  intro u hu
  obtain ⟨y, _, rfl⟩ := List.mem_map.1 hu
  rfl
def frameB (bs : List UInt8) : List UInt8 := wordB bs.length ++ bs ++ wordB (crc (wordB bs.length ++ bs))
theorem wordB_len (n : Nat) : (wordB n).length = 4 := rfl
theorem own_made (w : World) (n : Nat) (hn : n ≤ 1099511627776) : Own (w.alloc (.cells (madeCells #[.int .u8 0] n) 5)) w.heap.size (.slice (some ⟨w.heap.size, 0, none⟩) 0 n) [] :=
  ⟨by simp, .inr ⟨w.heap.size, n, _, rfl, Nat.le_refl _, heap_new w _, Nat.zero_le _, by unfold maxLen; omega, by simp [size_madeCells], by simp⟩⟩
theorem frame_long (A : Option Addr) (cap n : Nat) (w : World) (h : 65536 < n) :
    Calls Tryd.prog 10 #[.slice A n cap] w fun e w' => e = .returned (.tuple #[.slice none 0 0, .int .i64 2]) ∧ w = w' := by
  have h' : (65536 : Int) < (n : Int) := by omega
  go_enter Tryd.func10, Tryd.ntmps10
  go_wp2_with fail
  go_ret2
  exact ⟨rfl, rfl⟩
set_option maxHeartbeats 2000000 in
theorem frame_any (A : Option Addr) (cap : Nat) (bs : List UInt8) (w : World) (hs : Sl w A cap bs) (hT : Tab w) (hlen : bs.length ≤ 65536) :
    Calls Tryd.prog 10 #[.slice A bs.length cap] w fun e w' => ∃ v, e = .returned (.tuple #[v, .int .i64 0]) ∧ Own w' w.heap.size v (frameB bs) ∧ Below w.heap.size w w' := by
  obtain ⟨i0, hi, hz0, hz1, hz2⟩ := info_parts Tryd.info5
  have hl : ¬ (65536 : Int) < (bs.length : Int) := by omega
  have hmk : (Instr.makeSlice 22 (.int .i64 0) (.int .i64 (4 + (bs.length : Int) + 4))).run Tryd.prog w = .ok (.slice (some ⟨w.heap.size, 0, none⟩) 0 (4 + bs.length + 4)) (w.alloc (.cells (madeCells #[.int .u8 0] (4 + bs.length + 4)) 5)) := by
    have h := make_bytes 0 (4 + bs.length + 4) (Nat.zero_le _) (by omega) w
    rw [show ((4 + bs.length + 4 : Nat) : Int) = 4 + (bs.length : Int) + 4 by omega] at h
    exact h
  have g1 := hid (show Below w.heap.size w (w.alloc (.cells (madeCells #[.int .u8 0] (4 + bs.length + 4)) 5)) from by go_grown)
  have K1 := hid (putWord_any w.heap.size bs.length _ [] _ (by omega) (own_made w (4 + bs.length + 4) (by omega)) (by simp) (by simp))
  rw [List.nil_append] at K1
  have HS := hid hs
  have HT := hid hT
  clear hs hT
  go_enter Tryd.func10, Tryd.ntmps10
  go_wp2_with fail
  refine K1.out.mono ?_
  rintro _ w1 ⟨v, rfl, ho, hbb⟩
  have G1 := hid (g1.out.trans hbb)
  have hown : w1.ownsRow w.heap.size 5 1 v 4 ((wordB bs.length).map bv) := ho
  have S1 := hid (HS.out.keep G1.out)
  clear ho hbb K1 g1 hmk
  have hz := G1.out.size
  obtain ⟨X, hX⟩ : ∃ X, X = wordB bs.length ++ bs := ⟨_, rfl⟩
  obtain ⟨c, hc⟩ : ∃ c, c = crc X := ⟨_, rfl⟩
  have hcl : c < 4294967296 := by rw [hc]; exact crc_lt X
  have hXl : X.length ≤ 70000 := by rw [hX]; simp [wordB_len]; omega
  have LAST : Hid (∀ (v2 : Value) (w2 : World), Own w2 w.heap.size v2 X → Below w.heap.size w w2 → Calls Tryd.prog 12 #[v2] w2 fun e w' => e = .returned (.int .u32 c) ∧ w2 = w') := hid fun v2 w2 ho hb => by
    obtain ⟨A2, c2, rfl, hb2, _, _⟩ := ho.is
    rw [hc]
    exact sum_any A2 c2 _ w2 hb2 (tab_below HT.out hb) (by omega)
  have HF := hid (show X ++ wordB c = frameB bs by rw [hc, hX]; rfl)
  have HX := hid hX
  clear hX hc
  have fin : Hid (∀ (v2 : Value) (w2 : World), Own w2 w.heap.size v2 X → Below w.heap.size w w2 → Calls Tryd.prog 19 #[v2, .int .u32 c] w2 fun e w' => ∃ v', e = .returned v' ∧ Own w' w.heap.size v' (frameB bs) ∧ Below w.heap.size w w') := hid fun v2 w2 ho hb => by
    refine (putWord_any w.heap.size c v2 X w2 hcl ho hb.size (by omega)).mono ?_
    rintro _ w4 ⟨v4, rfl, ho, hbb⟩
    rw [HF.out] at ho
    exact ⟨_, rfl, ho, hb.trans hbb⟩
  cases A with
  | none =>
    obtain ⟨h1, h2, h3⟩ := HS.out
    obtain rfl := h3 rfl
    obtain rfl : bs = [] := List.eq_nil_of_length_eq_zero (by omega)
    go_wp2_with (at_builtin; refine wpList_append_own_none rfl _ _ 22 rfl w.heap.size 5 i0 1 Tryd.underlying22 hi _ _ _ rfl hown rfl ?_)
    have O2 := hid (show Own w1 w.heap.size v X from by rw [HX.out]; simpa [Own, wordB_len] using hown)
    clear hown
    go_wp2_with fail
    refine (LAST.out v w1 O2.out G1.out).mono ?_
    rintro _ w3 ⟨rfl, rfl⟩
    go_wp2_with fail
    refine (fin.out v w1 O2.out G1.out).mono ?_
    rintro _ w4 ⟨v4, rfl, ho, hbb⟩
    have O4 := hid ho
    have G4 := hid hbb
    clear ho hbb
    go_wp2_with fail
    all_goals go_ret2
    all_goals exact ⟨_, rfl, O4.out, G4.out⟩
  | some a =>
    have hc := bts_cells S1.out.1
    go_wp2_with (at_builtin; refine wpList_append_own _ rfl _ _ 22 rfl w.heap.size 5 i0 (.int .u8 0) 1 1 Tryd.underlying22 hi hz0 hz1 hz2 rfl (by decide) _ _ _ rfl hown a bs.length cap (bs.map bv) rfl (by simp) hc (bv_cells _) ?c3 ?c4 ?c5 ?_)
    case c3 => unfold maxLen; omega
    case c4 => omega
    case c5 => omega
    intro v2 w2 hown2 hgrow _
    have hb := own_base hown
    have G2 := hid (Below.grown G1.out hgrow hz hb)
    have O2 := hid (show Own w2 w.heap.size v2 X from by rw [HX.out]; simpa [Own, wordB_len] using hown2)
    clear hown2 hgrow hown hb hc
    go_wp2_with fail
    refine (LAST.out v2 w2 O2.out G2.out).mono ?_
    rintro _ w3 ⟨rfl, rfl⟩
    go_wp2_with fail
    refine (fin.out v2 w2 O2.out G2.out).mono ?_
    rintro _ w4 ⟨v4, rfl, ho, hbb⟩
    have O4 := hid ho
    have G4 := hid hbb
    clear ho hbb
    go_wp2_with fail
    all_goals go_ret2
    all_goals exact ⟨_, rfl, O4.out, G4.out⟩
set_option maxHeartbeats 2000000 in
theorem refframe_any (A : Option Addr) (cap : Nat) (bs : List UInt8) (w : World) (hs : Sl w A cap bs) (hlen : bs.length ≤ 65536) :
    Calls Tryd.prog 11 #[.slice A bs.length cap] w fun e w' => ∃ v, e = .returned (.tuple #[v, .int .i64 0]) ∧ Own w' w.heap.size v (frameB bs) ∧ Below w.heap.size w w' := by
  obtain ⟨i0, hi, hz0, hz1, hz2⟩ := info_parts Tryd.info5
  have hl : ¬ (65536 : Int) < (bs.length : Int) := by omega
  have K1 := hid (four_any bs.length w (by omega))
  have HS := hid hs
  clear hs
  go_enter Tryd.func11, Tryd.ntmps11
  go_wp2_with fail
  refine K1.out.mono ?_
  rintro _ w1 ⟨v, rfl, ho, hbb⟩
  have G1 := hid hbb
  have hown : w1.ownsRow w.heap.size 5 1 v 4 ((wordB bs.length).map bv) := ho
  have S1 := hid (HS.out.keep G1.out)
  clear ho hbb K1
  have hz := G1.out.size
  obtain ⟨X, hX⟩ : ∃ X, X = wordB bs.length ++ bs := ⟨_, rfl⟩
  obtain ⟨c, hc⟩ : ∃ c, c = crc X := ⟨_, rfl⟩
  have hcl : c < 4294967296 := by rw [hc]; exact crc_lt X
  have hXl : X.length ≤ 70000 := by rw [hX]; simp [wordB_len]; omega
  have LAST : Hid (∀ (v2 : Value) (w2 : World), Own w2 w.heap.size v2 X → Calls Tryd.prog 13 #[v2] w2 fun e w' => e = .returned (.int .u32 c) ∧ w2 = w') := hid fun v2 w2 ho => by
    obtain ⟨A2, c2, rfl, hb2, _, _⟩ := ho.is
    rw [hc]
    exact refsum_any A2 c2 _ w2 hb2 (by omega)
  have HF := hid (show X ++ wordB c = frameB bs by rw [hc, hX]; rfl)
  have HX := hid hX
  clear hX hc
  have K20 := hid (fun w => four_any c w hcl)
  cases A with
  | none =>
    obtain ⟨h1, h2, h3⟩ := HS.out
    obtain rfl := h3 rfl
    obtain rfl : bs = [] := List.eq_nil_of_length_eq_zero (by omega)
    go_wp2_with (at_builtin; refine wpList_append_own_none rfl _ _ 22 rfl w.heap.size 5 i0 1 Tryd.underlying22 hi _ _ _ rfl hown rfl ?_)
    have O2 := hid (show Own w1 w.heap.size v X from by rw [HX.out]; simpa [Own, wordB_len] using hown)
    clear hown
    go_wp2_with fail
    refine (LAST.out v w1 O2.out).mono ?_
    rintro _ w3 ⟨rfl, rfl⟩
    go_wp2_with fail
    refine (K20.out w1).mono ?_
    rintro _ w4 ⟨v4, rfl, ho, hbb⟩
    obtain ⟨A4, c4, rfl, hb4, _, _⟩ := ho.is
    have hA4 : ∃ a4, A4 = some a4 := by
      rcases hb4 with h | ⟨b, off, h, _⟩
      · cases h
      · exact ⟨_, h⟩
    obtain ⟨a4, rfl⟩ := hA4
    have hc4 := bts_cells hb4
    have hown4 : w4.ownsRow w.heap.size 5 1 v X.length (X.map bv) := O2.out.keep hbb
    have G4 := hid (below_step G1.out hz hbb)
    have hz4 := G4.out.size
    clear hbb hb4 ho
    go_wp2_with (at_builtin; refine wpList_append_own _ rfl _ _ 22 rfl w.heap.size 5 i0 (.int .u8 0) 1 1 Tryd.underlying22 hi hz0 hz1 hz2 rfl (by decide) _ _ _ rfl hown4 a4 4 c4 ((wordB c).map bv) rfl rfl hc4 (bv_cells _) ?c3 ?c4 ?c5 ?_)
    case c3 => unfold maxLen; omega
    case c4 => omega
    case c5 => omega
    intro v5 w5 hown5 hgrow _
    have G5 := hid (Below.grown G4.out hgrow hz4 (own_base hown4))
    have O5 := hid (show Own w5 w.heap.size v5 (frameB []) from by rw [← HF.out]; simpa [Own, wordB_len] using hown5)
    clear hown5 hgrow hown4 hc4
    go_wp2_with fail
    all_goals go_ret2
    all_goals exact ⟨_, rfl, O5.out, G5.out⟩
  | some a =>
    have hc := bts_cells S1.out.1
    go_wp2_with (at_builtin; refine wpList_append_own _ rfl _ _ 22 rfl w.heap.size 5 i0 (.int .u8 0) 1 1 Tryd.underlying22 hi hz0 hz1 hz2 rfl (by decide) _ _ _ rfl hown a bs.length cap (bs.map bv) rfl (by simp) hc (bv_cells _) ?c3 ?c4 ?c5 ?_)
    case c3 => unfold maxLen; omega
    case c4 => omega
    case c5 => omega
    intro v2 w2 hown2 hgrow _
    have hb := own_base hown
    have G2 := hid (Below.grown G1.out hgrow hz hb)
    have O2 := hid (show Own w2 w.heap.size v2 X from by rw [HX.out]; simpa [Own, wordB_len] using hown2)
    clear hown2 hgrow hown hb hc
    have hz2' := G2.out.size
    go_wp2_with fail
    refine (LAST.out v2 w2 O2.out).mono ?_
    rintro _ w3 ⟨rfl, rfl⟩
    go_wp2_with fail
    refine (K20.out w2).mono ?_
    rintro _ w4 ⟨v4, rfl, ho, hbb⟩
    obtain ⟨A4, c4, rfl, hb4, _, _⟩ := ho.is
    have hA4 : ∃ a4, A4 = some a4 := by
      rcases hb4 with h | ⟨b, off, h, _⟩
      · cases h
      · exact ⟨_, h⟩
    obtain ⟨a4, rfl⟩ := hA4
    have hc4 := bts_cells hb4
    have hown4 : w4.ownsRow w.heap.size 5 1 v2 X.length (X.map bv) := O2.out.keep hbb
    have G4 := hid (below_step G2.out hz2' hbb)
    have hz4 := G4.out.size
    clear hbb hb4 ho
    go_wp2_with (at_builtin; refine wpList_append_own _ rfl _ _ 22 rfl w.heap.size 5 i0 (.int .u8 0) 1 1 Tryd.underlying22 hi hz0 hz1 hz2 rfl (by decide) _ _ _ rfl hown4 a4 4 c4 ((wordB c).map bv) rfl rfl hc4 (bv_cells _) ?d3 ?d4 ?d5 ?_)
    case d3 => unfold maxLen; omega
    case d4 => omega
    case d5 => omega
    intro v5 w5 hown5 hgrow _
    have G5 := hid (Below.grown G4.out hgrow hz4 (own_base hown4))
    have O5 := hid (show Own w5 w.heap.size v5 (frameB bs) from by rw [← HF.out]; simpa [Own, wordB_len] using hown5)
    clear hown5 hgrow hown4 hc4
    go_wp2_with fail
    all_goals go_ret2
    all_goals exact ⟨_, rfl, O5.out, G5.out⟩
end Go.Proofs.YtaipjbljmkickaaDoor
