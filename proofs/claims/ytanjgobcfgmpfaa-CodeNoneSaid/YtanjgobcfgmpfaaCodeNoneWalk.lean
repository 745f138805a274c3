/- The Go function CodeNone, called with any text and number, returns true and leaves all that was there. Condition: none. -/
import Derived.Test.YtanjgobcfgmpfaaNils
import Derived.Test.YtanjgobcfgmpfaaRows
import Derived.OpenShut
import Derived.ProofKit
namespace Go.Proofs.Ytanjgobcfgmpfaa
open Go Go.ChangeShapes Go.WideShapes Go.RowKit
theorem wf_le {n : Int} (h : (Lit.int .i64 n).wf = true) : -9223372036854775808 ≤ n ∧ n ≤ 9223372036854775807 := by
  simpa [Lit.wf, IntKind.min, IntKind.max, IntKind.signed, IntKind.bits] using h
set_option maxHeartbeats 4000000 in
theorem codeNone_walk {H : Type} {enc : TypeId × Value → H} (W : World) (base : Nat) (args : Array Value) (ds : List (DataW H))
    (hval : ∀ (j : Nat) t v, Try.f8.params[j]? = some t → args[j]? = some v → Value.okWide Try.prog W .any base t v)
    (hA : ∃ p, DataW.TrodAll enc Try.prog W 0 (fun _ => true) true Try.f8.params.toList args.toList ds p) 
    (_ : (DataW.weightsEach Try.prog (Try.f8.params.toList ++ (OpenSpec.ofChange Rows.codeNoneSpec).bare.plain.varTypes Try.prog) (ds ++ [])).all (· ≤ reachBytes) = true)
    (_ : laidMetH Try.prog Rows.codeNoneRow.laid W) (_ : W.ShapedOpen Try.prog) :
    Calls Try.prog 8 args W fun e W' => e = .returned (.bool true) ∧ Below W.heap.size W W' := by
  obtain ⟨p, hA⟩ := hA
  rw [Try.params8] at hA hval
  obtain ⟨v0, v1, d0, d1, p0, p1, hargs, rfl, rfl, h0, h1⟩ := trodAll_two hA
  subst hargs
  obtain ⟨s, rfl⟩ := okWide_string Try.underlying9 (hval 0 9 v0 rfl rfl)
  obtain ⟨m, rfl, _, _, wn⟩ := open_int Try.underlying3 (hval 1 3 v1 rfl rfl) h1
  obtain ⟨n0, n1⟩ := wf_le wn
  clear h0 h1 hval hA wn
  by_cases hs : s.size ≤ 10000
  · have hs' : ¬ (10000 : Int) < (s.size : Int) := by omega
    have hsl : s.data.toList.length = s.size := by simp
    have KT := hid (fun w => textP_any none 0 [] s w (.inl rfl) (by decide) (by omega))
    have KX : Hid (∀ w rb, RS w rb (encU s.size ++ s.data.toList) 0 → Calls Try.prog 23 #[.pointer (some ⟨rb, 0, none⟩), .int .i64 m] w fun en w' => en = .returned (.string ⟨(takeT (mostF m) (encU s.size ++ s.data.toList) 0).1.toArray⟩) ∧ RS w' rb (takeT (mostF m) (encU s.size ++ s.data.toList) 0).2.1 (takeT (mostF m) (encU s.size ++ s.data.toList) 0).2.2 ∧ w.grownBy w' (some rb)) := hid fun w rb h => rtext_any rb _ 0 m w h (by have := encU_ten (n := s.size) (by omega); simp only [List.length_append]; omega) ⟨n0, n1⟩
    have ht := takeT_put (mostF m) s.data.toList (by omega)
    rw [hsl] at ht
    rw [ht] at KX
    have hb : (encU s.size ++ s.data.toList).length ≤ 549755813888 := by
      have := encU_ten (n := s.size) (by omega)
      simp only [List.length_append]
      omega
    have KR := hid (fun A cap w hb1 => read_any A cap (encU s.size ++ s.data.toList) w hb1 hb)
    simp only [List.nil_append] at KT
    generalize encU s.size ++ s.data.toList = E at *
    clear ht hb
    by_cases hm : mostF m < s.size
    · rw [if_pos hm] at KX
      have hw : (m < 0 ∧ (0 : Int) < (s.size : Int)) ∨ (¬ m < 0 ∧ m < (s.size : Int)) := by unfold mostF at hm; split at hm <;> omega
      clear hsl hm
      rcases hw with ⟨hm, hm2⟩ | ⟨hm, hm2⟩
      all_goals
        go_enter Try.func8, Try.ntmps8
        go_wp2_with fail
        refine (awake_any _).mono ?_
        rintro _ w1 ⟨rfl, hbb⟩
        have g1 := hid hbb
        clear hbb
        go_wp2_with fail
        refine (nfail _ _).mono ?_
        rintro _ w2 ⟨rfl, rfl⟩
        go_wp2_with fail
        refine (nuint _).mono ?_
        rintro _ w2 ⟨rfl, rfl⟩
        go_wp2_with fail
        refine (nint _).mono ?_
        rintro _ w2 ⟨rfl, rfl⟩
        go_wp2_with fail
        refine (ntext _).mono ?_
        rintro _ w2 ⟨rfl, rfl⟩
        go_wp2_with fail
        refine (nints _).mono ?_
        rintro _ w2 ⟨⟨A, c, rfl⟩, hbb⟩
        have g2 := hid (below_step g1.out g1.out.size hbb)
        clear hbb
        go_wp2_with fail
        refine (nleft _).mono ?_
        rintro _ w3 ⟨rfl, rfl⟩
        go_wp2_with fail
        refine (nerr _).mono ?_
        rintro _ w3 ⟨rfl, rfl⟩
        go_wp2_with fail
        refine (nend _).mono ?_
        rintro _ w3 ⟨rfl, rfl⟩
        go_wp2_with fail
        refine (KT.out _).mono ?_
        rintro _ w3 ⟨v, rfl, ho, hbb⟩
        have g3 := hid (below_step g2.out g2.out.size hbb)
        obtain ⟨A3, c3, rfl, hb3, _⟩ := ho.is
        have B3 := hid hb3
        clear ho hb3 hbb
        go_wp2_with fail
        refine (KR.out A3 c3 _ B3.out).mono ?_
        rintro _ w4 ⟨rb, rfl, hrb, hs4, hbb⟩
        have g4 := hid (below_step g3.out g3.out.size hbb)
        have S4 := hid hs4
        have hr := hid (show ∀ k, some rb = some k → W.heap.size ≤ k from fun k hk => by
          cases hk
          have := g3.out.size
          omega)
        clear hs4 hbb hrb
        go_wp2_with fail
        refine (KX.out _ rb S4.out).mono ?_
        rintro _ w5 ⟨rfl, hs5, hg5⟩
        have g5 := hid (Below.grown g4.out hg5 g4.out.size hr.out)
        have S5 := hid hs5
        clear hs5 hg5
        go_wp2_with fail
        refine (err_any rb _ _ _ S5.out).mono ?_
        rintro _ w6 ⟨rfl, rfl⟩
        go_wp2_with fail
        all_goals go_returns
        all_goals exact ⟨by first | rfl | simp, g5.out⟩
    · rw [if_neg hm] at KX
      have hw : (m < 0 ∧ ¬ (0 : Int) < (s.size : Int)) ∨ (¬ m < 0 ∧ ¬ m < (s.size : Int)) := by unfold mostF at hm; split at hm <;> omega
      have he : (⟨s.data.toList.toArray⟩ : ByteArray) = s := by simp
      rw [he] at KX
      clear hsl hm he
      rcases hw with ⟨hm, hm2⟩ | ⟨hm, hm2⟩
      all_goals
        go_enter Try.func8, Try.ntmps8
        go_wp2_with fail
        refine (awake_any _).mono ?_
        rintro _ w1 ⟨rfl, hbb⟩
        have g1 := hid hbb
        clear hbb
        go_wp2_with fail
        refine (nfail _ _).mono ?_
        rintro _ w2 ⟨rfl, rfl⟩
        go_wp2_with fail
        refine (nuint _).mono ?_
        rintro _ w2 ⟨rfl, rfl⟩
        go_wp2_with fail
        refine (nint _).mono ?_
        rintro _ w2 ⟨rfl, rfl⟩
        go_wp2_with fail
        refine (ntext _).mono ?_
        rintro _ w2 ⟨rfl, rfl⟩
        go_wp2_with fail
        refine (nints _).mono ?_
        rintro _ w2 ⟨⟨A, c, rfl⟩, hbb⟩
        have g2 := hid (below_step g1.out g1.out.size hbb)
        clear hbb
        go_wp2_with fail
        refine (nleft _).mono ?_
        rintro _ w3 ⟨rfl, rfl⟩
        go_wp2_with fail
        refine (nerr _).mono ?_
        rintro _ w3 ⟨rfl, rfl⟩
        go_wp2_with fail
        refine (nend _).mono ?_
        rintro _ w3 ⟨rfl, rfl⟩
        go_wp2_with fail
        refine (KT.out _).mono ?_
        rintro _ w3 ⟨v, rfl, ho, hbb⟩
        have g3 := hid (below_step g2.out g2.out.size hbb)
        obtain ⟨A3, c3, rfl, hb3, _⟩ := ho.is
        have B3 := hid hb3
        clear ho hb3 hbb
        go_wp2_with fail
        refine (KR.out A3 c3 _ B3.out).mono ?_
        rintro _ w4 ⟨rb, rfl, hrb, hs4, hbb⟩
        have g4 := hid (below_step g3.out g3.out.size hbb)
        have S4 := hid hs4
        have hr := hid (show ∀ k, some rb = some k → W.heap.size ≤ k from fun k hk => by
          cases hk
          have := g3.out.size
          omega)
        clear hs4 hbb hrb
        go_wp2_with fail
        refine (KX.out _ rb S4.out).mono ?_
        rintro _ w5 ⟨rfl, hs5, hg5⟩
        have g5 := hid (Below.grown g4.out hg5 g4.out.size hr.out)
        have S5 := hid hs5
        clear hs5 hg5
        go_wp2_with fail
        refine (rend_any rb _ _ _ S5.out).mono ?_
        rintro _ w6 ⟨rfl, hs6, hg6⟩
        have g6 := hid (Below.grown g5.out hg6 g5.out.size hr.out)
        clear hs6 hg6
        have e0 : endF [] 0 = 0 := by decide
        go_wp2_with fail
        all_goals go_returns
        all_goals exact ⟨by first | rfl | simp, g6.out⟩
  · have hs' : (10000 : Int) < (s.size : Int) := by omega
    go_enter Try.func8, Try.ntmps8
    go_wp2_with fail
    refine (awake_any _).mono ?_
    rintro _ w1 ⟨rfl, hbb⟩
    have g1 := hid hbb
    clear hbb
    go_wp2_with fail
    all_goals go_returns
    all_goals exact ⟨rfl, g1.out⟩
end Go.Proofs.Ytanjgobcfgmpfaa
