/- The Go function FrameSums, called with any arguments, returns true and leaves all that was there. Condition: the table stands as the rows list it. -/
import Derived.Test.YtaipjbljmkickaaDoorOpen
import Derived.Deep.DeepCutAuto
namespace Go.Proofs.YtaipjbljmkickaaDoor
open Go Go.ChangeShapes Go.WideShapes Go.RowKit
set_option maxRecDepth 10000 in
set_option maxHeartbeats 2000000 in
theorem frameSums_walk {H : Type} {enc : TypeId × Value → H} (W : World) (base : Nat) (args : Array Value) (ds : List (DataW H))
    (hval : ∀ (j : Nat) t v, Tryd.f3.params[j]? = some t → args[j]? = some v → Value.okWide Tryd.prog W .any base t v)
    (hA : ∃ p, DataW.TrodAll enc Tryd.prog W 0 (fun _ => true) true Tryd.f3.params.toList args.toList ds p) 
    (_ : (DataW.weightsEach Tryd.prog (Tryd.f3.params.toList ++ (OpenSpec.ofChange Rows.frameSumsSpec).bare.plain.varTypes Tryd.prog) (ds ++ [])).all (· ≤ reachBytes) = true)
    (hL : laidMetH Tryd.prog Rows.frameSumsRow.laid W) (_ : W.ShapedOpen Tryd.prog) :
    Calls Tryd.prog 3 args W fun e W' => e = .returned (.bool true) ∧ Below W.heap.size W W' := by
  obtain ⟨p, hA⟩ := hA
  rw [Tryd.params3] at hA hval
  obtain ⟨v0, d0, hargs, rfl, h0⟩ := trodAll_one hA
  subst hargs
  obtain ⟨A, cap, bs, rfl, hb, hcap, hl63, hnil⟩ := bytes_is (hval 0 22 v0 rfl rfl) h0
  clear h0 hval hA
  have hT := tab_of hL
  have HT := hid hT
  have HB := hid hb
  have hl1 : (bs.length : Int) ≤ 9223372036854775807 := by omega
  clear hT hb
  by_cases hlen : 20000 < bs.length
  · have hlen' : (20000 : Int) < (bs.length : Int) := by omega
    go_enter Tryd.func3, Tryd.ntmps3
    go_wp2_with fail
    refine (awake_any _ HT.out).mono ?_
    rintro _ w1 ⟨rfl, hbb⟩
    have g1 := hid hbb
    clear hbb
    go_wp2_with fail
    all_goals go_returns
    all_goals exact ⟨rfl, g1.out⟩
  · have hlen' : ¬ (20000 : Int) < (bs.length : Int) := by omega
    have K10 := hid (fun w (h : Below W.heap.size W w) => frame_any A cap bs w ⟨HB.out.keep h, hcap, hnil⟩ (tab_below HT.out h) (by omega))
    have K11 := hid (fun w (h : Below W.heap.size W w) => refframe_any A cap bs w ⟨HB.out.keep h, hcap, hnil⟩ (by omega))
    have K12 := hid (fun w (h : Below W.heap.size W w) => sum_any A cap bs w (HB.out.keep h) (tab_below HT.out h) (by omega))
    have K13 := hid (fun w (h : Below W.heap.size W w) => refsum_any A cap bs w (HB.out.keep h) (by omega))
    generalize frameB bs = F at *
    have hcl := crc_lt bs
    generalize crc bs = c at *
    clear hnil hcap
    go_enter Tryd.func3, Tryd.ntmps3
    go_wp2_with fail
    refine (awake_any _ HT.out).mono ?_
    rintro _ w1 ⟨rfl, hbb⟩
    have g1 := hid hbb
    clear hbb
    go_wp2_with fail
    refine (K10.out w1 g1.out).mono ?_
    rintro _ w2 ⟨v2, rfl, ho2, hbb⟩
    have g2 := hid (below_step g1.out g1.out.size hbb)
    have O2 := hid ho2
    clear ho2 hbb
    go_wp2_with fail
    refine (K11.out w2 g2.out).mono ?_
    rintro _ w3 ⟨v3, rfl, ho3, hbb⟩
    have g3 := hid (below_step g2.out g2.out.size hbb)
    obtain ⟨A2, c2, rfl, hb2, _, _⟩ := (O2.out.keep hbb).is
    obtain ⟨A3, c3, rfl, hb3, _, _⟩ := ho3.is
    have s2 := str_of c2 hb2
    have s3 := str_of c3 hb3
    generalize (⟨F.toArray⟩ : ByteArray) = S at *
    generalize F.length = n at *
    clear ho3 hbb hb2 hb3 O2
    go_wp2_with (first | (go_at_call 12; refine (K12.out w3 g3.out).mono ?_; rintro _ w4 ⟨rfl, rfl⟩) | (go_at_call 13; refine (K13.out w3 g3.out).mono ?_; rintro _ w4 ⟨rfl, rfl⟩))
    all_goals go_returns
    all_goals exact ⟨by first | rfl | simp, g3.out⟩
end Go.Proofs.YtaipjbljmkickaaDoor
