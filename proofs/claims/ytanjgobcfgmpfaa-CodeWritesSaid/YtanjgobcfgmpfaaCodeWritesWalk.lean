/- The Go function CodeWrites, called with any bytes and word, returns true and leaves all that was there. Condition: none. -/
import Derived.Test.YtanjgobcfgmpfaaCodeCutWalk
import Derived.Test.YtanjgobcfgmpfaaRefR
import Derived.Deep.RegionHeld3
import Derived.Deep.DeepCutAuto
namespace Go.Proofs.Ytanjgobcfgmpfaa
open Go Go.ChangeShapes Go.WideShapes Go.RowKit
theorem cut_cells4 {W w : World} {a0 a1 a2 a3 : Value} {T : TypeId} (h : Below (W.heap.size + 1) (W.alloc (.cells #[a0, a1, a2, a3] T)) w) :
    w.cell? ⟨W.heap.size, 0, none⟩ = some a0 ∧ w.cell? ⟨W.heap.size, 1, none⟩ = some a1 ∧ w.cell? ⟨W.heap.size, 2, none⟩ = some a2 ∧ w.cell? ⟨W.heap.size, 3, none⟩ = some a3 := by
  have hh := heap_new W (.cells #[a0, a1, a2, a3] T)
  refine ⟨(cut_cells h).1, ?_, (cut_cells h).2.1, (cut_cells h).2.2⟩
  rw [h.cell (p := ⟨W.heap.size, 1, none⟩) (Nat.lt_succ_self _), cell_of hh]
  rfl
theorem str_sum (a b : List UInt8) : (⟨a.toArray⟩ : ByteArray) ++ ⟨b.toArray⟩ = ⟨(a ++ b).toArray⟩ := by
  apply ByteArray.ext
  simp
theorem bytes_nil {H : Type} {enc : TypeId × Value → H} {W : World} {len cap : Nat} {d : DataW H} {p : List MemPlace}
    (h : DataW.Trod enc Try.prog W 0 (fun _ => true) true 22 (.slice none len cap) d p) : cap = 0 := by
  obtain ⟨fuel, hf⟩ := h
  rcases Go.Deep.open_slice Try.underlying22 hf with ⟨hcs, _⟩ | ⟨a, l, c, m, n, D, Pl, hcs, _⟩
  · simp [Value.cells] at hcs
    exact hcs.2
  · simp [Value.cells] at hcs
theorem bts_cells {w : World} {a : Addr} {bs : List UInt8} (h : Bts w (some a) bs) : ∀ (j : Nat) u, (bs.map bv)[j]? = some u → w.cell? (a.add j) = some u := by
  intro j u hj
  rw [List.getElem?_map] at hj
  obtain ⟨y, hy, rfl⟩ := Option.map_eq_some_iff.1 hj
  rcases h with rfl | ⟨b, off, he, _, hc⟩
  · simp at hy
  · cases he
    rw [add_off]
    exact hc j y hy
set_option maxRecDepth 10000 in
set_option maxHeartbeats 4000000 in
theorem codeWrites_walk {H : Type} {enc : TypeId × Value → H} (W : World) (base : Nat) (args : Array Value) (ds : List (DataW H))
    (hval : ∀ (j : Nat) t v, Try.f3.params[j]? = some t → args[j]? = some v → Value.okWide Try.prog W .any base t v)
    (hA : ∃ p, DataW.TrodAll enc Try.prog W 0 (fun _ => true) true Try.f3.params.toList args.toList ds p) 
    (_ : (DataW.weightsEach Try.prog (Try.f3.params.toList ++ (OpenSpec.ofChange Rows.codeWritesSpec).bare.plain.varTypes Try.prog) (ds ++ [])).all (· ≤ reachBytes) = true)
    (_ : laidMetH Try.prog Rows.codeWritesRow.laid W) (_ : W.ShapedOpen Try.prog) :
    Calls Try.prog 3 args W fun e W' => e = .returned (.bool true) ∧ Below W.heap.size W W' := by
  obtain ⟨p, hA⟩ := hA
  rw [Try.params3] at hA hval
  obtain ⟨v0, v1, d0, d1, p0, p1, hargs, rfl, rfl, h0, h1⟩ := trodAll_two hA
  subst hargs
  obtain ⟨A, cap, bs, rfl, hb, hcap, hl63⟩ := bytes_is (hval 0 22 v0 rfl rfl) h0
  have hnil : A = none → cap = 0 := fun e => by
    subst e
    exact bytes_nil h0
  obtain ⟨cs, rfl, _⟩ := okWide_struct Try.underlying26 (hval 1 26 v1 rfl rfl)
  obtain ⟨fu1, h1⟩ := h1
  obtain ⟨n, z, s, C, cap2, zs, hcs, hn, hzr0, hs63, hI, hcap2, hz63, hzr⟩ := words_is h1
  have hcs' : cs = #[.int .u64 n, .int .i64 z, .string s, .slice C zs.length cap2] := by
    cases cs
    simpa [Value.cells] using hcs
  subst hcs'
  clear h0 h1 hval hA hcs
  have HB := hid hb
  have HZR := hid hzr
  have HI := hid hI
  clear hb hzr hI
  by_cases hbl : bs.length ≤ 10000
  · have hbl' : ¬ (10000 : Int) < (bs.length : Int) := by omega
    by_cases hs : s.size ≤ 100000
    · have hs' : ¬ (100000 : Int) < (s.size : Int) := by omega
      by_cases hz : zs.length ≤ 10000
      · have hz' : ¬ (10000 : Int) < (zs.length : Int) := by omega
        have CS := hid (fun w (h : Below W.heap.size W w) => str_of cap (HB.out.keep h))
        have CS1 := hid (fun w (h : Below W.heap.size W w) => HB.out.keep h)
        obtain ⟨i0, hi, hz0, hz1, hz2⟩ := info_parts Try.info5
        have hmk : Hid (∀ w, (Instr.makeSlice 22 (.int .i64 0) (.int .i64 ((bs.length : Int) + 20))).run Try.prog w = .ok (.slice (some ⟨w.heap.size, 0, none⟩) 0 (bs.length + 20)) (w.alloc (.cells (madeCells #[.int .u8 0] (bs.length + 20)) 5))) := hid fun w => make_bytes 0 (bs.length + 20) (Nat.zero_le _) (by omega) w
        go_enter Try.func3, Try.ntmps3
        go_wp2_with fail
        refine (awake_any _).mono ?_
        rintro _ w1 ⟨rfl, hbb⟩
        have g1 := hid (cut_g hbb)
        obtain ⟨c0, c1, c2, c3⟩ := cut_cells4 g1.out
        have f1 := hid (cut_f g1.out)
        have cv := CS.out w1 f1.out
        clear hbb
        go_upto_region 7 with fail
        go_cut [7] (fun v wx => Own wx (W.heap.size + 1) v (bs ++ [7, 7, 7]) ∧ Below (W.heap.size + 1) (W.alloc (.cells #[.int .u64 n, .int .i64 z, .string s, .slice C zs.length cap2] 26)) wx)
        case first =>
          have hmk1 := hmk.out w1
          clear hmk c0 c1 c2 c3 cv
          have O0 : (w1.alloc (.cells (madeCells #[.int .u8 0] (bs.length + 20)) 5)).ownsRow (W.heap.size + 1) 5 1 (.slice (some ⟨w1.heap.size, 0, none⟩) 0 (bs.length + 20)) 0 [] :=
            ⟨by simp, .inr ⟨w1.heap.size, bs.length + 20, _, rfl, cut_size g1.out, heap_new w1 _, Nat.zero_le _, by unfold maxLen; omega, by simp [size_madeCells], by simp⟩⟩
          have g2 := hid (g1.out.alloc (cut_size g1.out) (.cells (madeCells #[.int .u8 0] (bs.length + 20)) 5))
          have hb2 := hid ((CS1.out w1 f1.out).keep (show Below w1.heap.size w1 (w1.alloc (.cells (madeCells #[.int .u8 0] (bs.length + 20)) 5)) from by go_grown))
          have hn1 : A = none → bs.length = 0 ∧ cap = 0 := fun e => by
            refine ⟨?_, hnil e⟩
            rcases HB.out with h | ⟨b, off, h, _⟩
            · rw [h]; rfl
            · rw [e] at h; cases h
          have HN := hid hn1
          have HC2 := hid (show ∀ ad, A = some ad → ∀ (j : Nat) u, (bs.map bv)[j]? = some u → (w1.alloc (.cells (madeCells #[.int .u8 0] (bs.length + 20)) 5)).cell? (ad.add j) = some u from fun ad e => by
            have := hb2.out
            rw [e] at this
            exact bts_cells this)
          clear hn1 hnil
          go_wp2_with (at_builtin; refine wpList_append_fits_any _ rfl _ _ 22 rfl (W.heap.size + 1) 5 i0 1 Try.underlying22 hi hz1 w1.heap.size 0 (bs.length + 20) [] rfl O0 A bs.length cap (bs.map bv) rfl (by simp) HN.out HC2.out ?c3 ?c4 ?_)
          case c3 =>
            intro u hu
            obtain ⟨y, _, rfl⟩ := List.mem_map.1 hu
            rfl
          case c4 => omega
          · intro w2 hown2 hgrow
            have G1 := hid (Below.grown g2.out hgrow (cut_size g2.out) (fun k hk => by cases hk; exact cut_size g1.out))
            have O1 : w2.ownsRow (W.heap.size + 1) 5 1 (.slice (some ⟨w1.heap.size, 0, none⟩) bs.length (bs.length + 20)) bs.length (bs.map bv) := by simpa using hown2
            clear hown2 hgrow O0 g2
            have hb9 := own_base O1
            go_wp2_with (at_builtin; refine wpList_append_own _ rfl _ _ 22 rfl (W.heap.size + 1) 5 i0 (.int .u8 0) 1 1 Try.underlying22 hi hz0 hz1 hz2 rfl (by decide) _ _ _ rfl (O1.alloc _) ⟨w2.heap.size, 0, none⟩ 3 3 [bv 7, bv 7, bv 7] rfl rfl ?d1 ?d2 ?d3 ?d4 ?d5 ?_)
            case d1 =>
              intro j u hj
              rw [add_off, cell_of (heap_new _ _), Nat.zero_add]
              match j, hj with
              | 0, hj => simp at hj; subst hj; rfl
              | 1, hj => simp at hj; subst hj; rfl
              | 2, hj => simp at hj; subst hj; rfl
            case d2 =>
              intro u hu
              simp at hu
              subst hu
              rfl
            case d3 => unfold maxLen; omega
            case d4 => omega
            case d5 => have := cut_size G1.out; simp; omega
            · intro v3 w3 hown3 hgrow _
              have G3 := hid (Below.grown (G1.out.alloc (cut_size G1.out) _) hgrow (by have := cut_size G1.out; simp; omega) hb9)
              have O3 := hid (show Own w3 (W.heap.size + 1) v3 (bs ++ [7, 7, 7]) from by simpa [Own] using hown3)
              clear hown3 hgrow O1 hb9
              go_wp2_with fail
              all_goals go_meet
              all_goals exact ⟨O3.out, G3.out⟩
        case rest =>
          obtain ⟨ho, hg⟩ := hcut
          obtain ⟨wq, hwq⟩ : ∃ w, w = wc := ⟨_, rfl⟩
          subst hwq
          obtain ⟨A7, c7, rfl, hb7, hc7, _⟩ := ho.is
          have GQ := hid hg
          have B7 := hid hb7
          have hlen7 : (bs ++ [7, 7, 7]).length = bs.length + 3 := by simp
          rw [hlen7] at hc7 ho ⊢
          have hc7' : (bs.length : Int) ≤ (c7 : Int) := by omega
          have F7 := hid (fun w (h : Below wq.heap.size wq w) => str_of (w := w) (bs := bs ++ [7, 7, 7]) c7 (hb7.keep h))
          have B8 := hid (show Bts wq A7 bs from by
            have := bts_take bs.length hb7
            rw [List.take_left] at this
            exact this)
          rcases hb7 with h0 | ⟨b7, off7, rfl, _, _⟩
          · simp at h0
          · clear ho hg c0 c1 c2 c3 cv f1 g1 hmk CS CS1
            have hf := foldF_lt hzr0
            go_upto_region 9 with fail
            generalize hSB : (⟨bs.toArray⟩ : ByteArray) = SB at *
            have zSB : SB.size = bs.length := by rw [← hSB]; exact List.size_toArray
            obtain ⟨U, hU⟩ : ∃ l, l = encU n := ⟨_, rfl⟩
            obtain ⟨BU, hBU⟩ : ∃ l, l = bs ++ U := ⟨_, rfl⟩
            obtain ⟨SU, hSU⟩ : ∃ a : ByteArray, (⟨U.toArray⟩ : ByteArray) = a := ⟨_, rfl⟩
            obtain ⟨SBU, hSBU⟩ : ∃ a : ByteArray, (⟨BU.toArray⟩ : ByteArray) = a := ⟨_, rfl⟩
            have eU := hid (show SB ++ SU = SBU from by rw [← hSB, ← hSU, ← hSBU, hBU]; exact str_sum bs U)
            have zU : SU.size = U.length := by rw [← hSU]; exact List.size_toArray
            have CU : Hid (∀ w A cap, Bts w A U → (convert 22 9 (.slice A U.length cap)).run Try.prog w = .ok (.string SU) w) := hid fun w A cap h => by rw [← hSU]; exact str_of cap h
            have CBU : Hid (∀ w A cap, Bts w A BU → (convert 22 9 (.slice A BU.length cap)).run Try.prog w = .ok (.string SBU) w) := hid fun w A cap h => by rw [← hSBU]; exact str_of cap h
            obtain ⟨I, hI⟩ : ∃ l, l = encU (foldF z) := ⟨_, rfl⟩
            obtain ⟨BI, hBI⟩ : ∃ l, l = bs ++ I := ⟨_, rfl⟩
            obtain ⟨SI, hSI⟩ : ∃ a : ByteArray, (⟨I.toArray⟩ : ByteArray) = a := ⟨_, rfl⟩
            obtain ⟨SBI, hSBI⟩ : ∃ a : ByteArray, (⟨BI.toArray⟩ : ByteArray) = a := ⟨_, rfl⟩
            have eI := hid (show SB ++ SI = SBI from by rw [← hSB, ← hSI, ← hSBI, hBI]; exact str_sum bs I)
            have zI : SI.size = I.length := by rw [← hSI]; exact List.size_toArray
            have CI : Hid (∀ w A cap, Bts w A I → (convert 22 9 (.slice A I.length cap)).run Try.prog w = .ok (.string SI) w) := hid fun w A cap h => by rw [← hSI]; exact str_of cap h
            have CBI : Hid (∀ w A cap, Bts w A BI → (convert 22 9 (.slice A BI.length cap)).run Try.prog w = .ok (.string SBI) w) := hid fun w A cap h => by rw [← hSBI]; exact str_of cap h
            obtain ⟨T, hT⟩ : ∃ l, l = (encU s.size ++ s.data.toList) := ⟨_, rfl⟩
            obtain ⟨BT, hBT⟩ : ∃ l, l = bs ++ T := ⟨_, rfl⟩
            obtain ⟨ST, hST⟩ : ∃ a : ByteArray, (⟨T.toArray⟩ : ByteArray) = a := ⟨_, rfl⟩
            obtain ⟨SBT, hSBT⟩ : ∃ a : ByteArray, (⟨BT.toArray⟩ : ByteArray) = a := ⟨_, rfl⟩
            have eT := hid (show SB ++ ST = SBT from by rw [← hSB, ← hST, ← hSBT, hBT]; exact str_sum bs T)
            have zT : ST.size = T.length := by rw [← hST]; exact List.size_toArray
            have CT : Hid (∀ w A cap, Bts w A T → (convert 22 9 (.slice A T.length cap)).run Try.prog w = .ok (.string ST) w) := hid fun w A cap h => by rw [← hST]; exact str_of cap h
            have CBT : Hid (∀ w A cap, Bts w A BT → (convert 22 9 (.slice A BT.length cap)).run Try.prog w = .ok (.string SBT) w) := hid fun w A cap h => by rw [← hSBT]; exact str_of cap h
            obtain ⟨N, hN⟩ : ∃ l, l = (encU zs.length ++ encR zs) := ⟨_, rfl⟩
            obtain ⟨BN, hBN⟩ : ∃ l, l = bs ++ N := ⟨_, rfl⟩
            obtain ⟨SN, hSN⟩ : ∃ a : ByteArray, (⟨N.toArray⟩ : ByteArray) = a := ⟨_, rfl⟩
            obtain ⟨SBN, hSBN⟩ : ∃ a : ByteArray, (⟨BN.toArray⟩ : ByteArray) = a := ⟨_, rfl⟩
            have eN := hid (show SB ++ SN = SBN from by rw [← hSB, ← hSN, ← hSBN, hBN]; exact str_sum bs N)
            have zN : SN.size = N.length := by rw [← hSN]; exact List.size_toArray
            have CN : Hid (∀ w A cap, Bts w A N → (convert 22 9 (.slice A N.length cap)).run Try.prog w = .ok (.string SN) w) := hid fun w A cap h => by rw [← hSN]; exact str_of cap h
            have CBN : Hid (∀ w A cap, Bts w A BN → (convert 22 9 (.slice A BN.length cap)).run Try.prog w = .ok (.string SBN) w) := hid fun w A cap h => by rw [← hSBN]; exact str_of cap h
            have F8 := hid (show ∀ w, Below wq.heap.size wq w → Below W.heap.size W w from fun w h => cut_f (cut_step GQ.out h))
            have K10 : Hid (∀ w, Below wq.heap.size wq w → Calls Try.prog 10 #[.slice (some ⟨b7, off7, none⟩) bs.length c7, .int .u64 n] w fun e w' => ∃ v, e = .returned v ∧ Own w' w.heap.size v BU ∧ Below w.heap.size w w') := hid fun w h => by
              rw [hBU, hU]
              have k := uint_any _ c7 n bs w (B8.out.keep h) (by omega) hn
              simpa only [List.append_assoc] using k
            have K11 : Hid (∀ w, Below wq.heap.size wq w → Calls Try.prog 11 #[.int .u64 n] w fun e w' => ∃ v, e = .returned v ∧ Own w' w.heap.size v U ∧ Below w.heap.size w w') := hid fun w h => by
              rw [hU]
              exact refU_any n w hn
            have K12 : Hid (∀ w, Below wq.heap.size wq w → Calls Try.prog 12 #[.slice (some ⟨b7, off7, none⟩) bs.length c7, .int .i64 z] w fun e w' => ∃ v, e = .returned v ∧ Own w' w.heap.size v BI ∧ Below w.heap.size w w') := hid fun w h => by
              rw [hBI, hI]
              have k := int_any _ c7 z bs w (B8.out.keep h) (by omega) hzr0
              simpa only [List.append_assoc] using k
            have K13 : Hid (∀ w, Below wq.heap.size wq w → Calls Try.prog 13 #[.int .i64 z] w fun e w' => ∃ v, e = .returned v ∧ Own w' w.heap.size v I ∧ Below w.heap.size w w') := hid fun w h => by
              rw [hI]
              exact refI_any z w hzr0
            have K14 : Hid (∀ w, Below wq.heap.size wq w → Calls Try.prog 14 #[.slice (some ⟨b7, off7, none⟩) bs.length c7, .string s] w fun e w' => ∃ v, e = .returned v ∧ Own w' w.heap.size v BT ∧ Below w.heap.size w w') := hid fun w h => by
              rw [hBT, hT]
              have k := textP_any _ c7 bs s w (B8.out.keep h) (by omega) (by omega)
              simpa only [List.append_assoc] using k
            have K15 : Hid (∀ w, Below wq.heap.size wq w → Calls Try.prog 15 #[.string s] w fun e w' => ∃ v, e = .returned v ∧ Own w' w.heap.size v T ∧ Below w.heap.size w w') := hid fun w h => by
              rw [hT]
              exact refT_any s w (by omega)
            have K16 : Hid (∀ w, Below wq.heap.size wq w → Calls Try.prog 16 #[.slice (some ⟨b7, off7, none⟩) bs.length c7, .slice C zs.length cap2] w fun e w' => ∃ v, e = .returned v ∧ Own w' w.heap.size v BN ∧ Below w.heap.size w w') := hid fun w h => by
              rw [hBN, hN]
              have k := ints_any _ C c7 cap2 bs zs w (B8.out.keep h) (HI.out.below (F8.out w h)) HZR.out (by omega) (by omega)
              simpa only [List.append_assoc] using k
            have K17 : Hid (∀ w, Below wq.heap.size wq w → Calls Try.prog 17 #[.slice C zs.length cap2] w fun e w' => ∃ v, e = .returned v ∧ Own w' w.heap.size v N ∧ Below w.heap.size w w') := hid fun w h => by
              rw [hN]
              exact refR_any C cap2 zs w (HI.out.below (F8.out w h)) HZR.out (by omega)
            have m1 := encU_ten hn
            have m2 := encU_ten (foldF_lt hzr0)
            have m3 := encU_ten (n := s.size) (by omega)
            have m4 := encU_ten (n := zs.length) (by omega)
            have m5 := encR_len zs HZR.out
            have m6 : s.data.toList.length = s.size := by simp
            have sU : SB.size + SU.size ≤ 9223372036854775807 := by rw [zSB, zU, hU]; omega
            have sI : SB.size + SI.size ≤ 9223372036854775807 := by rw [zSB, zI, hI]; omega
            have sT : SB.size + ST.size ≤ 9223372036854775807 := by rw [zSB, zT, hT, List.length_append]; omega
            have sN : SB.size + SN.size ≤ 9223372036854775807 := by rw [zSB, zN, hN, List.length_append]; omega
            clear hU hBU hSU hSBU zU hI hBI hSI hSBI zI hT hBT hST hSBT zT hN hBN hSN hSBN zN m1 m2 m3 m4 m5 m6 zSB
            go_cut [9] (fun v wx => v = .bool true ∧ Below wq.heap.size wq wx)
            case first =>
              have EU := eU.out
              have EI := eI.out
              clear K14 K15 K16 K17 CT CBT CN CBN eT eN sT sN F7 HB HZR HI B7 B8 F8 eU eI hz0 hz1 hz2 hi hc7 hc7' hcap hl63 hs63 hcap2 hz63
              have Qz := hid (show Below wq.heap.size wq (World.drew wq) from (show Below wq.heap.size wq wq from Below.refl _ _).drew)
              obtain ⟨d0, d1, d2, d3⟩ := cut_cells4 (cut_step GQ.out Qz.out)
              go_wp2_with fail
              go_region_held (fun w' => w'.cell? ⟨W.heap.size, 0, none⟩ = some (.int .u64 n) ∧ w'.cell? ⟨W.heap.size, 1, none⟩ = some (.int .i64 z) ∧ w'.cell? ⟨W.heap.size, 2, none⟩ = some (.string s) ∧ w'.cell? ⟨W.heap.size, 3, none⟩ = some (.slice C zs.length cap2)) (first | exact cut_cells4 (cut_step GQ.out Qz.out) | exact cut_cells4 (cut_step GQ.out Q0.out) | exact cut_cells4 (cut_step GQ.out Q1.out) | exact cut_cells4 (cut_step GQ.out Q2.out) | exact cut_cells4 (cut_step GQ.out Q3.out) | go_keep)
                (first
                  | (go_at_call 10; refine (K10.out (World.drew wq) Qz.out).mono ?_; rintro _ wa ⟨v, rfl, ho, hbb⟩; obtain ⟨A1, e1, rfl, hb, _⟩ := ho.is; have Q0 := hid (below_step Qz.out Qz.out.size hbb); have V1 := hid hb; have t1 := CBU.out wa _ e1 hb; clear ho hbb hb)
                  | (go_at_call 11; refine (K11.out wa Q0.out).mono ?_; rintro _ wb ⟨v, rfl, ho, hbb⟩; obtain ⟨A2, e2, rfl, hb, _⟩ := ho.is; have Q1 := hid (below_step Q0.out Q0.out.size hbb); have V2 := hid hb; have t2 := CU.out wb _ e2 hb; have t1x := CBU.out wb _ e1 (V1.out.keep hbb); clear ho hbb hb)
                  | (go_at_call 12; refine (K12.out wb Q1.out).mono ?_; rintro _ wd ⟨v, rfl, ho, hbb⟩; obtain ⟨A3, e3, rfl, hb, _⟩ := ho.is; have Q2 := hid (below_step Q1.out Q1.out.size hbb); have V3 := hid hb; have t3 := CBI.out wd _ e3 hb; clear ho hbb hb)
                  | (go_at_call 13; refine (K13.out wd Q2.out).mono ?_; rintro _ we ⟨v, rfl, ho, hbb⟩; obtain ⟨A4, e4, rfl, hb, _⟩ := ho.is; have Q3 := hid (below_step Q2.out Q2.out.size hbb); have V4 := hid hb; have t4 := CI.out we _ e4 hb; have t3x := CBI.out we _ e3 (V3.out.keep hbb); clear ho hbb hb))
              all_goals
                go_wp2_with fail
                all_goals go_meet
                all_goals exact ⟨rfl, Q3.out⟩
            case rest =>
              obtain ⟨rfl, hg9⟩ := hcut
              have QR := hid hg9
              clear hg9
              obtain ⟨wr, hwr⟩ : ∃ w, w = wc := ⟨_, rfl⟩
              subst hwr
              go_upto_region 10 with fail
              go_cut [9] (fun v wx => v = .bool true ∧ Below wq.heap.size wq wx)
              case first =>
                have ET := eT.out
                have EN := eN.out
                clear K10 K11 K12 K13 CU CBU CI CBI eU eI sU sI F7 HB HZR HI B7 B8 F8 eT eN hz0 hz1 hz2 hi hc7 hc7' hcap hl63 hs63 hcap2 hz63
                have Qz := hid (show Below wq.heap.size wq (World.drew wr) from (show Below wq.heap.size wq wr from QR.out).drew)
                obtain ⟨d0, d1, d2, d3⟩ := cut_cells4 (cut_step GQ.out Qz.out)
                go_wp2_with fail
                go_region_held (fun w' => w'.cell? ⟨W.heap.size, 0, none⟩ = some (.int .u64 n) ∧ w'.cell? ⟨W.heap.size, 1, none⟩ = some (.int .i64 z) ∧ w'.cell? ⟨W.heap.size, 2, none⟩ = some (.string s) ∧ w'.cell? ⟨W.heap.size, 3, none⟩ = some (.slice C zs.length cap2)) (first | exact cut_cells4 (cut_step GQ.out Qz.out) | exact cut_cells4 (cut_step GQ.out Q0.out) | exact cut_cells4 (cut_step GQ.out Q1.out) | exact cut_cells4 (cut_step GQ.out Q2.out) | exact cut_cells4 (cut_step GQ.out Q3.out) | go_keep)
                  (first
                    | (go_at_call 14; refine (K14.out (World.drew wr) Qz.out).mono ?_; rintro _ wa ⟨v, rfl, ho, hbb⟩; obtain ⟨A1, e1, rfl, hb, _⟩ := ho.is; have Q0 := hid (below_step Qz.out Qz.out.size hbb); have V1 := hid hb; have t1 := CBT.out wa _ e1 hb; clear ho hbb hb)
                    | (go_at_call 15; refine (K15.out wa Q0.out).mono ?_; rintro _ wb ⟨v, rfl, ho, hbb⟩; obtain ⟨A2, e2, rfl, hb, _⟩ := ho.is; have Q1 := hid (below_step Q0.out Q0.out.size hbb); have V2 := hid hb; have t2 := CT.out wb _ e2 hb; have t1x := CBT.out wb _ e1 (V1.out.keep hbb); clear ho hbb hb)
                    | (go_at_call 16; refine (K16.out wb Q1.out).mono ?_; rintro _ wd ⟨v, rfl, ho, hbb⟩; obtain ⟨A3, e3, rfl, hb, _⟩ := ho.is; have Q2 := hid (below_step Q1.out Q1.out.size hbb); have V3 := hid hb; have t3 := CBN.out wd _ e3 hb; clear ho hbb hb)
                    | (go_at_call 17; refine (K17.out wd Q2.out).mono ?_; rintro _ we ⟨v, rfl, ho, hbb⟩; obtain ⟨A4, e4, rfl, hb, _⟩ := ho.is; have Q3 := hid (below_step Q2.out Q2.out.size hbb); have V4 := hid hb; have t4 := CN.out we _ e4 hb; have t3x := CBN.out we _ e3 (V3.out.keep hbb); clear ho hbb hb))
                all_goals
                  go_wp2_with fail
                  all_goals go_meet
                  all_goals exact ⟨rfl, Q3.out⟩
              case rest =>
                obtain ⟨rfl, hg9⟩ := hcut
                have QE := hid hg9
                have t7 := F7.out wc hg9
                have e7 : SB ++ (⟨#[7, 7, 7]⟩ : ByteArray) = ⟨(bs ++ [7, 7, 7]).toArray⟩ := by rw [← hSB]; exact str_sum bs [7, 7, 7]
                have s7 : SB.size + (⟨#[7, 7, 7]⟩ : ByteArray).size ≤ 9223372036854775807 := by rw [← hSB]; show bs.toArray.size + 3 ≤ _; rw [List.size_toArray]; omega
                rw [hlen7] at t7
                generalize (⟨(bs ++ [7, 7, 7]).toArray⟩ : ByteArray) = S7 at *
                have QF := hid (F8.out wc hg9)
                clear hg9
                go_wp2_with fail
                all_goals go_returns
                all_goals exact ⟨by first | rfl | simp, QF.out⟩
      · have hz' : (10000 : Int) < (zs.length : Int) := by omega
        go_enter Try.func3, Try.ntmps3
        go_wp2_with fail
        refine (awake_any _).mono ?_
        rintro _ w1 ⟨rfl, hbb⟩
        have g1 := hid (cut_g hbb)
        obtain ⟨c0, c1, c2, c3⟩ := cut_cells4 g1.out
        have f1 := hid (cut_f g1.out)
        clear hbb
        go_wp2_with fail
        all_goals go_returns
        all_goals exact ⟨rfl, f1.out⟩
    · have hs' : (100000 : Int) < (s.size : Int) := by omega
      go_enter Try.func3, Try.ntmps3
      go_wp2_with fail
      refine (awake_any _).mono ?_
      rintro _ w1 ⟨rfl, hbb⟩
      have g1 := hid (cut_g hbb)
      obtain ⟨c0, c1, c2, c3⟩ := cut_cells4 g1.out
      have f1 := hid (cut_f g1.out)
      clear hbb
      go_wp2_with fail
      all_goals go_returns
      all_goals exact ⟨rfl, f1.out⟩
  · have hbl' : (10000 : Int) < (bs.length : Int) := by omega
    go_enter Try.func3, Try.ntmps3
    go_wp2_with fail
    refine (awake_any _).mono ?_
    rintro _ w1 ⟨rfl, hbb⟩
    have g1 := hid (cut_g hbb)
    obtain ⟨c0, c1, c2, c3⟩ := cut_cells4 g1.out
    have f1 := hid (cut_f g1.out)
    clear hbb
    go_wp2_with fail
    all_goals go_returns
    all_goals exact ⟨rfl, f1.out⟩
end Go.Proofs.Ytanjgobcfgmpfaa
