/- The Go function VecBack, called with any amount, returns true and leaves all that was there. Condition: the listed tables stand. -/
import Derived.Test.YtcflpclndjlchaaDoorTab
import Derived.Test.YtcflpclndjlchaaDoorVecFitsWalk
namespace Go.Proofs.YtcflpclndjlchaaDoor
open Go Go.ChangeShapes Go.WideShapes Go.RowKit
theorem read_all (s : ByteArray) (hs : s.size < 4294967281) {W : World} (hm : ∃ m : Int, W.cell? ⟨0, 0, none⟩ = some (.int .i64 m)) (w : World) (hw : Below W.heap.size W w) :
    Calls Tryd.prog 22 #[.string s] w fun en w' => en = .returned (.tuple #[.agg #[.int .i64 ((readF (wordsOf s)).1 0), .int .i64 ((readF (wordsOf s)).1 1), .int .i64 ((readF (wordsOf s)).1 2), .int .i64 ((readF (wordsOf s)).1 3)], .int .i64 (readF (wordsOf s)).2]) ∧ Below w.heap.size w w' := by
  obtain ⟨m, hm⟩ := hm
  refine read_any s w hs ⟨m, ?_⟩
  rw [Below.cell hw (p := ⟨0, 0, none⟩) (block_lt_of_cell hm)]
  exact hm
set_option maxRecDepth 100000 in
set_option maxHeartbeats 4000000 in
theorem vecBack_walk {H : Type} {enc : TypeId × Value → H} (W : World) (base : Nat) (args : Array Value) (ds : List (DataW H))
    (hval : ∀ (j : Nat) t v, Tryd.f6.params[j]? = some t → args[j]? = some v → Value.okWide Tryd.prog W .any base t v)
    (hA : ∃ p, DataW.TrodAll enc Tryd.prog W 0 (fun _ => true) true Tryd.f6.params.toList args.toList ds p) 
    (_ : (DataW.weightsEach Tryd.prog (Tryd.f6.params.toList ++ (OpenSpec.ofChange Rows.vecBackSpec).bare.plain.varTypes Tryd.prog) (ds ++ [])).all (· ≤ reachBytes) = true)
    (hL : laidMetH Tryd.prog Rows.vecBackRow.laid W) (hsh : W.ShapedOpen Tryd.prog) :
    Calls Tryd.prog 6 args W fun e W' => e = .returned (.bool true) ∧ Below W.heap.size W W' := by
  obtain ⟨p, hA⟩ := hA
  rw [Tryd.params6] at hA hval
  obtain ⟨v0, d0, hargs, rfl, h0⟩ := trodAll_one hA
  subst hargs
  obtain ⟨A, rfl, bA⟩ := vec_is (hval 0 23 v0 rfl rfl) h0
  clear h0 hval hA
  have hE := eq_vec
  have KT := hid (fun w hw => text_all A bA (tab_of hL) (W := W) w hw)
  have hsz : (⟨(joinS fun i => itoaB (A i)).toArray⟩ : ByteArray).size < 4294967281 := by
    have := join_len A bA
    show (joinS fun i => itoaB (A i)).toArray.size < _
    rw [List.size_toArray]
    omega
  have KD := hid (fun w hw => read_all ⟨(joinS fun i => itoaB (A i)).toArray⟩ hsz (one_num hsh) (W := W) w hw)
  rw [words_text, read_text] at KD
  have qr : rightB A = true → eq4 (readN [itoaB (A 0), itoaB (A 1), itoaB (A 2), itoaB (A 3)] 0) (readN [itoaB (A 0), itoaB (A 1), itoaB (A 2), itoaB (A 3)] 1) (readN [itoaB (A 0), itoaB (A 1), itoaB (A 2), itoaB (A 3)] 2) (readN [itoaB (A 0), itoaB (A 1), itoaB (A 2), itoaB (A 3)] 3) (A 0) (A 1) (A 2) (A 3) = true := fun h => by
    rw [readN_text h 0 (by decide), readN_text h 1 (by decide), readN_text h 2 (by decide), readN_text h 3 (by decide)]
    exact eq4_self A
  generalize readN [itoaB (A 0), itoaB (A 1), itoaB (A 2), itoaB (A 3)] = X at *
  generalize (joinS fun i => itoaB (A i)).toArray = s at *
  clear hL hsh hsz bA
  have A0 := hid (heap_new W (.cells #[.int .i64 (A 0), .int .i64 (A 1), .int .i64 (A 2), .int .i64 (A 3)] 23))
  have g0 := hid (show Below W.heap.size W (W.alloc (.cells #[.int .i64 (A 0), .int .i64 (A 1), .int .i64 (A 2), .int .i64 (A 3)] 23)) from by go_grown)
  cases hR : rightB A
  · have KR := hid (right_is hR)
    have q1 : eq4 0 0 0 0 0 0 0 0 = true := by decide
    have KB : Hid (∀ w, Below W.heap.size W w → Calls Tryd.prog 22 #[.string ⟨s⟩] w fun en w' => en = .returned (.tuple #[.agg #[.int .i64 0, .int .i64 0, .int .i64 0, .int .i64 0], .int .i64 11]) ∧ Below w.heap.size w w') := hid fun w hw => by
      have k := KD.out w hw
      rw [if_neg (by rw [hR]; decide)] at k
      exact k
    clear KD hR qr
    go_enter Tryd.func6, Tryd.ntmps6
    go_wp2_with fail
    refine (awake_any _).mono ?_
    rintro _ w1 ⟨rfl, hbb⟩
    have g1 := hid (below_step g0.out g0.out.size hbb)
    have A1 := hid (keep0 hbb A0.out)
    clear hbb A0 g0
    obtain ⟨aa0, aa1, aa2, aa3⟩ := four A1.out
    go_wp2_with fail
    refine (KT.out _ g1.out).mono ?_
    rintro _ w2 ⟨rfl, hbb⟩
    have g2 := hid (below_step g1.out g1.out.size hbb)
    have A2 := hid (keep0 hbb A1.out)
    clear hbb aa0 aa1 aa2 aa3
    obtain ⟨aa0, aa1, aa2, aa3⟩ := four A2.out
    go_wp2_with fail
    refine (KB.out _ g2.out).mono ?_
    rintro _ w3 ⟨rfl, hbb⟩
    have g3 := hid ((below_step g2.out g2.out.size hbb).alloc (by have := g2.out.size; have := hbb.size; go_size) (.cells #[.int .i64 0, .int .i64 0, .int .i64 0, .int .i64 0] 23))
    have A3 := hid (heapA (o := (.cells #[.int .i64 0, .int .i64 0, .int .i64 0, .int .i64 0] 23)) (keep0 hbb A2.out))
    have X3 := hid (heap_new w3 (.cells #[.int .i64 0, .int .i64 0, .int .i64 0, .int .i64 0] 23))
    clear hbb aa0 aa1 aa2 aa3
    obtain ⟨aa0, aa1, aa2, aa3⟩ := four A3.out
    obtain ⟨xx0, xx1, xx2, xx3⟩ := four X3.out
    go_wp2_with fail
    refine (KR.out _).mono ?_
    rintro _ w4 ⟨rfl, hbb⟩
    have g4 := hid (below_step g3.out g3.out.size hbb)
    have A4 := hid (keep0 hbb A3.out)
    have X4 := hid (keep0 hbb X3.out)
    clear hbb aa0 aa1 aa2 aa3 xx0 xx1 xx2 xx3
    obtain ⟨aa0, aa1, aa2, aa3⟩ := four A4.out
    obtain ⟨xx0, xx1, xx2, xx3⟩ := four X4.out
    go_wp2_with fail
    all_goals go_returns
    all_goals exact ⟨by first | rfl | simp, g4.out⟩
  · have KR := hid (right_is hR)
    have q1 := qr hR
    have KB : Hid (∀ w, Below W.heap.size W w → Calls Tryd.prog 22 #[.string ⟨s⟩] w fun en w' => en = .returned (.tuple #[.agg #[.int .i64 (X 0), .int .i64 (X 1), .int .i64 (X 2), .int .i64 (X 3)], .int .i64 0]) ∧ Below w.heap.size w w') := hid fun w hw => by
      have k := KD.out w hw
      rw [if_pos hR] at k
      exact k
    clear KD hR qr
    go_enter Tryd.func6, Tryd.ntmps6
    go_wp2_with fail
    refine (awake_any _).mono ?_
    rintro _ w1 ⟨rfl, hbb⟩
    have g1 := hid (below_step g0.out g0.out.size hbb)
    have A1 := hid (keep0 hbb A0.out)
    clear hbb A0 g0
    obtain ⟨aa0, aa1, aa2, aa3⟩ := four A1.out
    go_wp2_with fail
    refine (KT.out _ g1.out).mono ?_
    rintro _ w2 ⟨rfl, hbb⟩
    have g2 := hid (below_step g1.out g1.out.size hbb)
    have A2 := hid (keep0 hbb A1.out)
    clear hbb aa0 aa1 aa2 aa3
    obtain ⟨aa0, aa1, aa2, aa3⟩ := four A2.out
    go_wp2_with fail
    refine (KB.out _ g2.out).mono ?_
    rintro _ w3 ⟨rfl, hbb⟩
    have g3 := hid ((below_step g2.out g2.out.size hbb).alloc (by have := g2.out.size; have := hbb.size; go_size) (.cells #[.int .i64 (X 0), .int .i64 (X 1), .int .i64 (X 2), .int .i64 (X 3)] 23))
    have A3 := hid (heapA (o := (.cells #[.int .i64 (X 0), .int .i64 (X 1), .int .i64 (X 2), .int .i64 (X 3)] 23)) (keep0 hbb A2.out))
    have X3 := hid (heap_new w3 (.cells #[.int .i64 (X 0), .int .i64 (X 1), .int .i64 (X 2), .int .i64 (X 3)] 23))
    clear hbb aa0 aa1 aa2 aa3
    obtain ⟨aa0, aa1, aa2, aa3⟩ := four A3.out
    obtain ⟨xx0, xx1, xx2, xx3⟩ := four X3.out
    go_wp2_with fail
    refine (KR.out _).mono ?_
    rintro _ w4 ⟨rfl, hbb⟩
    have g4 := hid (below_step g3.out g3.out.size hbb)
    have A4 := hid (keep0 hbb A3.out)
    have X4 := hid (keep0 hbb X3.out)
    clear hbb aa0 aa1 aa2 aa3 xx0 xx1 xx2 xx3
    obtain ⟨aa0, aa1, aa2, aa3⟩ := four A4.out
    obtain ⟨xx0, xx1, xx2, xx3⟩ := four X4.out
    go_wp2_with fail
    all_goals go_returns
    all_goals exact ⟨by first | rfl | simp, g4.out⟩
end Go.Proofs.YtcflpclndjlchaaDoor
