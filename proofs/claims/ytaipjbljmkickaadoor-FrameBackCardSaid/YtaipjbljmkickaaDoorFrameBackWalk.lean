/- The Go function FrameBack, called with any arguments, returns true and leaves all that was there. Condition: the table stands as the rows list it. -/
import Derived.Test.YtaipjbljmkickaaDoorRows2
import Derived.Deep.DeepCutAuto
namespace Go.Proofs.YtaipjbljmkickaaDoor
open Go Go.ChangeShapes Go.WideShapes Go.RowKit
set_option maxRecDepth 10000 in
set_option maxHeartbeats 2000000 in
theorem frameBack_walk {H : Type} {enc : TypeId × Value → H} (W : World) (base : Nat) (args : Array Value) (ds : List (DataW H))
    (hval : ∀ (j : Nat) t v, Tryd.f6.params[j]? = some t → args[j]? = some v → Value.okWide Tryd.prog W .any base t v)
    (hA : ∃ p, DataW.TrodAll enc Tryd.prog W 0 (fun _ => true) true Tryd.f6.params.toList args.toList ds p) 
    (_ : (DataW.weightsEach Tryd.prog (Tryd.f6.params.toList ++ (OpenSpec.ofChange Rows.frameBackSpec).bare.plain.varTypes Tryd.prog) (ds ++ [])).all (· ≤ reachBytes) = true)
    (hL : laidMetH Tryd.prog Rows.frameBackRow.laid W) (_ : W.ShapedOpen Tryd.prog) :
    Calls Tryd.prog 6 args W fun e W' => e = .returned (.bool true) ∧ Below W.heap.size W W' := by
  obtain ⟨p, hA⟩ := hA
  rw [Tryd.params6] at hA hval
  obtain ⟨v0, v1, d0, d1, p0, p1, hargs, rfl, rfl, h0, h1⟩ := trodAll_two hA
  subst hargs
  obtain ⟨A, cap, xs, rfl, hr, hx63⟩ := rows_is (hval 0 34 v0 rfl rfl) h0
  obtain ⟨AB, capB, be, rfl, hb, hcapB, hl63, hnilB⟩ := bytes_is (hval 1 22 v1 rfl rfl) h1
  clear h0 h1 hval hA
  have hT := tab_of hL
  have HT := hid hT
  have HR := hid hr
  have SB := hid (show Sl W AB capB be from ⟨hb, hcapB, hnilB⟩)
  have hl1 : (be.length : Int) ≤ 9223372036854775807 := by omega
  have hl2 : (xs.length : Int) ≤ 9223372036854775807 := by omega
  clear hT hr hb hcapB hnilB
  by_cases hmany : 20 < xs.length
  · have hmany' : (20 : Int) < (xs.length : Int) := by omega
    go_enter Tryd.func6, Tryd.ntmps6
    go_wp2_with fail
    refine (awake_any _ HT.out).mono ?_
    rintro _ w1 ⟨rfl, hbb⟩
    have g1 := hid hbb
    clear hbb
    go_wp2_with fail
    all_goals go_returns
    all_goals exact ⟨rfl, g1.out⟩
  · have hmany' : ¬ (20 : Int) < (xs.length : Int) := by omega
    by_cases hlong : 7 < be.length
    · have hlong' : (7 : Int) < (be.length : Int) := by omega
      go_enter Tryd.func6, Tryd.ntmps6
      go_wp2_with fail
      refine (awake_any _ HT.out).mono ?_
      rintro _ w1 ⟨rfl, hbb⟩
      have g1 := hid hbb
      clear hbb
      go_wp2_with fail
      all_goals go_returns
      all_goals exact ⟨rfl, g1.out⟩
    · have hlong' : ¬ (7 : Int) < (be.length : Int) := by omega
      go_enter Tryd.func6, Tryd.ntmps6
      go_wp2_with fail
      refine (awake_any _ HT.out).mono ?_
      rintro _ w1 ⟨rfl, hbb⟩
      have g1 := hid hbb
      clear hbb
      go_wp2_with fail
      go_loopw [6, 7] (fun v i wr => ∃ k : Nat, k ≤ xs.length ∧ i = .int .i64 k ∧ Own wr W.heap.size v (((xs.take k).map frameB).flatten) ∧ (∀ x ∈ xs.take k, x.length ≤ 500) ∧ Below W.heap.size W wr) (fun _ i _ => xs.length - (intOf i).toNat)
      case atStart => exact ⟨0, Nat.zero_le _, rfl, by simpa using own_nil _ _, by simp, g1.out⟩
      case round =>
        obtain ⟨k, hk, rfl, ho, hsm, hg⟩ := hrel
        have HO := hid ho
        have HG := hid hg
        have HS := hid hsm
        have hfl := flat_len (xs.take k) hsm
        have hfl2 : (xs.take k).length ≤ 20 := by simp only [List.length_take]; omega
        clear ho hg hsm g1
        by_cases hlt : k < xs.length
        · have hlt' : (k : Int) < (xs.length : Int) := by omega
          rcases HR.out with rfl | ⟨rb, off, rfl, hrb, hc⟩
          · simp at hlt
          · obtain ⟨A3, c3, hx, hs, hx63'⟩ := hc k xs[k] (List.getElem?_eq_getElem hlt)
            have htk := hid (show ((xs.take (k + 1)).map frameB).flatten = ((xs.take k).map frameB).flatten ++ frameB xs[k] by rw [List.take_succ_eq_append_getElem hlt, List.map_append, List.flatten_append, List.map_singleton, List.flatten_singleton])
            have htk2 := hid (show xs[k].length ≤ 500 → ∀ x ∈ xs.take (k + 1), x.length ≤ 500 from fun h x hx => by
              rw [List.take_succ_eq_append_getElem hlt, List.mem_append, List.mem_singleton] at hx
              rcases hx with hx | rfl
              · exact HS.out x hx
              · exact h)
            generalize xs[k] = x at *
            generalize hP : ((xs.take k).map frameB).flatten = P at *
            have HX := hid hx
            have S3 := hid hs
            have k1 := (HG.out.cell (p := ⟨rb, off + k, none⟩) hrb).trans HX.out
            clear hx hs hc hP
            by_cases h5 : 500 < x.length
            · have h5' : (500 : Int) < (x.length : Int) := by omega
              go_wp2_with fail
              all_goals go_returns
              all_goals exact ⟨rfl, HG.out⟩
            · have h5' : ¬ (500 : Int) < (x.length : Int) := by omega
              have K10 := hid (fun w (h : Below W.heap.size W w) => frame_any A3 c3 x w (S3.out.keep h) (tab_below HT.out h) (by omega))
              have hFl := frameB_len x
              generalize frameB x = F at *
              go_wp2_with fail
              refine (K10.out _ HG.out).mono ?_
              rintro _ w2 ⟨v2, rfl, ho2, hbb⟩
              have g2 := hid (below_step HG.out HG.out.size hbb)
              have O2 := hid (HO.out.keep hbb)
              obtain ⟨A4, c4, rfl, hs4⟩ := own_sl ho2
              have S4 := hid hs4
              have k2 := (g2.out.cell (p := ⟨rb, off + k, none⟩) hrb).trans HX.out
              have hz := g2.out.size
              rw [hFl]
              clear ho2 hbb hs4 k1 HO K10
              go_wp2_with (at_builtin; refine wpList_append_sl rfl _ _ rfl W.heap.size _ P rfl O2.out A4 c4 (x.length + 8) F rfl hFl.symm S4.out (by omega) hz ?_)
              intro v5 w5 ho5 hgrow
              have g5 := hid (Below.grown g2.out hgrow hz (own_base O2.out))
              have O5 := hid ho5
              clear ho5 hgrow O2 S4 k2
              go_wp2_with fail
              go_roundw
              case rel => exact ⟨k + 1, by omega, by go_num, by rw [htk.out]; exact O5.out, htk2.out (by omega), g5.out⟩
              case measure => simp [intOf]; omega
        · obtain rfl : k = xs.length := by omega
          have hall : ∀ x ∈ xs, x.length ≤ 500 := fun x hx => HS.out x (by rw [List.take_length]; exact hx)
          have hsc := scanS_all be (by omega) xs fun x hx => by have := hall x hx; omega
          rw [List.take_length] at HO hfl hfl2
          generalize (xs.map frameB).flatten = P at *
          have HSC := hid hsc
          obtain ⟨A6, c6, rfl, hs6⟩ := own_sl HO.out
          have S6 := hid hs6
          have hz := HG.out.size
          have O0 : Own (World.alloc _ (.cells #[] 5)) _ (.slice (some ⟨_, 0, none⟩) 0 0) [] := own_empty wr
          have S7 := hid (S6.out.keep (show Below wr.heap.size wr (wr.alloc (.cells #[] 5)) from by go_grown))
          have g7 := hid (HG.out.alloc hz (.cells #[] 5))
          have hPl : P.length ≤ 20000 := by omega
          clear hall hsc hs6 HS
          go_wp2_with (at_builtin; refine wpList_append_sl rfl _ _ rfl wr.heap.size _ [] rfl O0 A6 c6 P.length P rfl rfl S7.out (by simp; omega) (by simp) ?_)
          intro v8 w8 ho8 hgrow
          have g8 := hid (Below.grown g7.out hgrow (by simp; omega) (fun k hk => Nat.le_trans hz (own_base O0 k hk)))
          have O8 := hid (show Own w8 W.heap.size v8 P from ho8.mono hz)
          have hz8 := g8.out.size
          clear ho8 hgrow O0
          go_wp2_with (at_builtin; refine wpList_append_sl rfl _ _ rfl W.heap.size _ P rfl O8.out AB capB be.length be rfl rfl (SB.out.keep g8.out) (by omega) hz8 ?_)
          intro v9 w9 ho9 hgrow
          have g9 := hid (Below.grown g8.out hgrow hz8 (own_base O8.out))
          obtain ⟨A9, c9, rfl, hs9⟩ := own_sl ho9
          have K16 := hid (scan_any A9 c9 (P ++ be) w9 hs9.1 hs9.2.1 (tab_below HT.out g9.out) (by simp; omega))
          rw [HSC.out, List.length_append] at K16
          rw [List.length_append]
          clear ho9 hgrow O8 hs9
          go_wp2_with fail
          ((with_reducible refine K16.out.mono ?_))
          rintro _ w10 ⟨v10, rfl, ho10, hbb⟩
          have g10 := hid (below_step g9.out g9.out.size hbb)
          obtain ⟨A10, c10, rfl, hr10, _⟩ := ho10.is
          have K18 := hid (same_any A10 A c10 cap xs w10 hr10 (HR.out.rd.keep g10.out) (by omega))
          clear ho10 hbb hr10 K16
          go_wp2_with fail
          refine K18.out.mono ?_
          rintro _ w11 ⟨rfl, q, rfl⟩
          go_wp2_with fail
          all_goals go_returns
          all_goals exact ⟨by first | rfl | simp, quiet_below g10.out _⟩
end Go.Proofs.YtaipjbljmkickaaDoor
