/- The Go function FrameNexts, called with any arguments, returns true and leaves all that was there. Condition: the table stands as the rows list it. -/
import Derived.Test.YtaipjbljmkickaaDoorOpen
import Derived.Deep.DeepCutAuto
namespace Go.Proofs.YtaipjbljmkickaaDoor
open Go Go.ChangeShapes Go.WideShapes Go.RowKit
set_option maxRecDepth 10000 in
set_option maxHeartbeats 2000000 in
theorem frameNexts_walk {H : Type} {enc : TypeId × Value → H} (W : World) (base : Nat) (args : Array Value) (ds : List (DataW H))
    (hval : ∀ (j : Nat) t v, Tryd.f4.params[j]? = some t → args[j]? = some v → Value.okWide Tryd.prog W .any base t v)
    (hA : ∃ p, DataW.TrodAll enc Tryd.prog W 0 (fun _ => true) true Tryd.f4.params.toList args.toList ds p) 
    (_ : (DataW.weightsEach Tryd.prog (Tryd.f4.params.toList ++ (OpenSpec.ofChange Rows.frameNextsSpec).bare.plain.varTypes Tryd.prog) (ds ++ [])).all (· ≤ reachBytes) = true)
    (hL : laidMetH Tryd.prog Rows.frameNextsRow.laid W) (_ : W.ShapedOpen Tryd.prog) :
    Calls Tryd.prog 4 args W fun e W' => e = .returned (.bool true) ∧ Below W.heap.size W W' := by
  obtain ⟨p, hA⟩ := hA
  rw [Tryd.params4] at hA hval
  obtain ⟨v0, d0, hargs, rfl, h0⟩ := trodAll_one hA
  subst hargs
  obtain ⟨A, cap, bs, rfl, hb, hcap, hl63, hnil⟩ := bytes_is (hval 0 22 v0 rfl rfl) h0
  clear h0 hval hA
  have hT := tab_of hL
  have HT := hid hT
  have HB := hid hb
  have hl1 : (bs.length : Int) ≤ 9223372036854775807 := by omega
  clear hT hb
  by_cases hlen : 20000 < bs.length
  · have hlen' : (20000 : Int) < (bs.length : Int) := by omega
    go_enter Tryd.func4, Tryd.ntmps4
    go_wp2_with fail
    refine (awake_any _ HT.out).mono ?_
    rintro _ w1 ⟨rfl, hbb⟩
    have g1 := hid hbb
    clear hbb
    go_wp2_with fail
    all_goals go_returns
    all_goals exact ⟨rfl, g1.out⟩
  · have hlen' : ¬ (20000 : Int) < (bs.length : Int) := by omega
    by_cases h0 : (nextS bs).1 = 0
    · obtain ⟨n, hn⟩ : ∃ n, nextS bs = (0, n) := ⟨_, by rw [← h0]⟩
      obtain ⟨hn1, hn2, hn3, hn4⟩ := nextS_yes hn
      obtain ⟨b, off, rfl⟩ := sl_some HB.out (by omega)
      have K14 := hid (fun w (h : Below W.heap.size W w) => next_yes b off cap n bs w (HB.out.keep h) hcap (tab_below HT.out h) (by omega) hn)
      have K15 := hid (fun w (h : Below W.heap.size W w) => refnext_yes b off cap n bs w (HB.out.keep h) hcap (by omega) hn)
      have C4 : Hid (∀ w, Below W.heap.size W w → (convert 22 9 (.slice (some ⟨b, off + 4, none⟩) n (cap - 4))).run Tryd.prog w = .ok (.string ⟨(bodyS bs n).toArray⟩) w) := hid fun w h => by
        have k := str_of (cap - 4) (bts_take n (bts_drop 4 (HB.out.keep h)))
        rw [show ((bs.drop 4).take n).length = n by simp; omega] at k
        exact k
      obtain ⟨A', hsl, hbts, -⟩ := slice_from (some ⟨b, off, none⟩) bs.length cap (n + 8) (by omega)
      have hsl' : Hid (∀ w, (Instr.sliceAt 22 (.slice (some ⟨b, off, none⟩) bs.length cap) (some (.int .i64 ((n : Int) + 8))) none none).run Tryd.prog w = .ok (.slice A' (bs.length - (n + 8)) (cap - (n + 8))) w) := hid hsl
      have C5 : Hid (∀ w, Below W.heap.size W w → (convert 22 9 (.slice A' (bs.length - (n + 8)) (cap - (n + 8)))).run Tryd.prog w = .ok (.string ⟨(bs.drop (n + 8)).toArray⟩) w) := hid fun w h => by
        have k := str_of (cap - (n + 8)) (hbts w bs (HB.out.keep h) rfl hcap)
        rw [List.length_drop] at k
        exact k
      have z4 : (n : Int) + 8 ≤ (bs.length : Int) := by omega
      generalize bodyS bs n = X at *
      generalize bs.drop (n + 8) = Y at *
      clear hsl hbts hn hn1 hn4 h0 HB hnil
      go_enter Tryd.func4, Tryd.ntmps4
      go_wp2_with fail
      refine (awake_any _ HT.out).mono ?_
      rintro _ w1 ⟨rfl, hbb⟩
      have g1 := hid hbb
      clear hbb
      go_wp2_with fail
      refine (K14.out w1 g1.out).mono ?_
      rintro _ w2 ⟨v2, v3, rfl, ho2, ho3, hbb⟩
      have g2 := hid (below_step g1.out g1.out.size hbb)
      have O2 := hid ho2
      have O3 := hid ho3
      clear ho2 ho3 hbb
      go_wp2_with fail
      refine (K15.out w2 g2.out).mono ?_
      rintro _ w3 ⟨rfl, k, hw3⟩
      have hbb : Below w2.heap.size w2 w3 := by rw [hw3]; exact quiet_below (Below.refl _ _) k
      have g3 := hid (below_step g2.out g2.out.size hbb)
      obtain ⟨A2, c2, rfl, hb2, _, _⟩ := (O2.out.keep hbb).is
      obtain ⟨A3, c3, rfl, hb3, _, _⟩ := (O3.out.keep hbb).is
      have s2 : ∀ q, (convert 22 9 (.slice A2 X.length c2)).run Tryd.prog (w3.drewN q) = .ok (.string ⟨X.toArray⟩) (w3.drewN q) := fun q => str_of c2 hb2
      have s3 : ∀ q, (convert 22 9 (.slice A3 Y.length c3)).run Tryd.prog (w3.drewN q) = .ok (.string ⟨Y.toArray⟩) (w3.drewN q) := fun q => str_of c3 hb3
      have s4 := fun q => C4.out (w3.drewN q) (quiet_below g3.out q)
      have s5 := fun q => C5.out (w3.drewN q) (quiet_below g3.out q)
      have s6 := hsl'.out
      generalize (⟨X.toArray⟩ : ByteArray) = SX at *
      generalize (⟨Y.toArray⟩ : ByteArray) = SY at *
      clear hw3 hbb hb2 hb3 O2 O3 C4 C5 hsl' K14 K15
      go_wp2_with fail
      go_quiet (fail)
      go_wp2_with fail
      all_goals go_returns
      all_goals exact ⟨by first | rfl | simp, quiet_below g3.out _⟩
    · have K14 := hid (fun w (h : Below W.heap.size W w) => next_no A cap _ bs w (HB.out.keep h) hcap (tab_below HT.out h) (by omega) rfl h0)
      have K15 := hid (fun w (h : Below W.heap.size W w) => refnext_no A cap _ bs w (HB.out.keep h) hcap (by omega) rfl h0)
      generalize (nextS bs).1 = E at *
      have z : ((E : Int) != 0) = true := by simpa using h0
      clear h0 HB hnil
      go_enter Tryd.func4, Tryd.ntmps4
      go_wp2_with fail
      refine (awake_any _ HT.out).mono ?_
      rintro _ w1 ⟨rfl, hbb⟩
      have g1 := hid hbb
      clear hbb
      go_wp2_with fail
      refine (K14.out w1 g1.out).mono ?_
      rintro _ w2 ⟨rfl, hbb⟩
      have g2 := hid (below_step g1.out g1.out.size hbb)
      clear hbb
      go_wp2_with fail
      refine (K15.out w2 g2.out).mono ?_
      rintro _ w3 ⟨rfl, k, rfl⟩
      go_wp2_with fail
      all_goals go_returns
      all_goals exact ⟨by first | rfl | simp, quiet_below g2.out _⟩
end Go.Proofs.YtaipjbljmkickaaDoor
