/- The Go function CodeOne, called with any bytes, returns true and leaves all that was there. Condition: none. -/
import Derived.Test.YtanjgobcfgmpfaaOneMath
import Derived.Test.YtanjgobcfgmpfaaRows
import Derived.Deep.QuietTactic
import Derived.BigQuiet
namespace Go.Proofs.Ytanjgobcfgmpfaa
open Go Go.ChangeShapes Go.WideShapes Go.RowKit
theorem below_quiet {B : Nat} {a w : World} (h : Below B a w) (n : Nat) : Below B a (w.drewN n) := ⟨h.os, h.tape, h.output, h.size, h.block⟩
theorem str_drewN {w : World} {A : Option Addr} {bs : List UInt8} (cap n : Nat) (h : Bts w A bs) : (convert 22 9 (.slice A bs.length cap)).run Try.prog (w.drewN n) = .ok (.string ⟨bs.toArray⟩) (w.drewN n) :=
  str_of cap (h.keep (below_quiet (Below.refl _ _) n))
theorem rs_other {w w' : World} {rb rb2 : Nat} {bs bs2 : List UInt8} {e e2 : Int} (hne : rb ≠ rb2) (h : RS w rb bs e) (h2 : RS w rb2 bs2 e2) (hg : w.grownBy w' (some rb2)) : RS w' rb bs e := by
  obtain ⟨A, cap, hR, hcap, hb⟩ := h
  obtain ⟨A2, cap2, hR2, _, _⟩ := h2
  refine ⟨A, cap, ?_, hcap, bts_grown hR2 hb hg⟩
  rw [hg.block rb (lt_of hR) (fun e => hne (Option.some.inj e))]
  exact hR
theorem bts_rs {w w' : World} {rb2 : Nat} {A : Option Addr} {bs bs2 : List UInt8} {e2 : Int} (h2 : RS w rb2 bs2 e2) (h : Bts w A bs) (hg : w.grownBy w' (some rb2)) : Bts w' A bs := by
  obtain ⟨A2, cap2, hR2, _, _⟩ := h2
  exact bts_grown hR2 h hg
set_option maxHeartbeats 4000000 in
theorem codeOne_walk {H : Type} {enc : TypeId × Value → H} (W : World) (base : Nat) (args : Array Value) (ds : List (DataW H))
    (hval : ∀ (j : Nat) t v, Try.f6.params[j]? = some t → args[j]? = some v → Value.okWide Try.prog W .any base t v)
    (hA : ∃ p, DataW.TrodAll enc Try.prog W 0 (fun _ => true) true Try.f6.params.toList args.toList ds p) 
    (_ : (DataW.weightsEach Try.prog (Try.f6.params.toList ++ (OpenSpec.ofChange Rows.codeOneSpec).bare.plain.varTypes Try.prog) (ds ++ [])).all (· ≤ reachBytes) = true)
    (_ : laidMetH Try.prog Rows.codeOneRow.laid W) (_ : W.ShapedOpen Try.prog) :
    Calls Try.prog 6 args W fun e W' => e = .returned (.bool true) ∧ Below W.heap.size W W' := by
  obtain ⟨p, hA⟩ := hA
  rw [Try.params6] at hA hval
  obtain ⟨v0, d0, hargs, rfl, h0⟩ := trodAll_one hA
  subst hargs
  obtain ⟨A, cap, bs, rfl, hb, hcap, hl63⟩ := bytes_is (hval 0 22 v0 rfl rfl) h0
  clear h0 hval hA
  by_cases hs : bs.length ≤ 10000
  · have hs' : ¬ (10000 : Int) < (bs.length : Int) := by omega
    have KR := hid (fun w (hw : Below W.heap.size W w) => read_any A cap bs w (hb.keep hw) (by omega))
    have KU := hid (fun w rb h => ruint_any rb bs 0 w h (by omega))
    have KI := hid (fun w rb h => rint_any rb bs 0 w h (by omega))
    have hlt := takeU_lt bs 0
    have he : (takeU bs 0).2.2 ≠ 0 → (takeU bs 0).1 = 0 ∧ (takeU bs 0).2.1 = [] := fun h => ⟨takeU_err h, uR_none bs 0 0 (by simpa [takeU] using h)⟩
    have hd : (takeU bs 0).2.2 = 0 → bs = encU (takeU bs 0).1 ++ (takeU bs 0).2.1 := fun h => by
      have e0 : takeU bs 0 = uR bs 0 0 := by rw [takeU, if_pos rfl]
      have hu : uR bs 0 0 = ((takeU bs 0).1, (takeU bs 0).2.1, 0) := by
        rw [e0] at h ⊢
        exact Prod.ext rfl (Prod.ext rfl h)
      obtain ⟨n, h1, h2, _⟩ := uR_dec bs 0 0 (takeU bs 0).1 (takeU bs 0).2.1 hu
      have e : (takeU bs 0).1 = n := by simpa using h1
      rw [e]
      exact h2
    generalize takeU bs 0 = r at *
    obtain ⟨n, l, e1⟩ := r
    simp only at hlt he hd KU KI
    by_cases h0 : e1 = 0
    · have hbs := hd h0
      subst h0
      have KX : Hid (∀ w, Calls Try.prog 10 #[.slice none 0 0, .int .u64 n] w fun e w' => ∃ v, e = .returned v ∧ Own w' w.heap.size v (encU n) ∧ Below w.heap.size w w') := hid fun w => uint_any none 0 n [] w (.inl rfl) (by decide) hlt
      have KY : Hid (∀ w, Calls Try.prog 12 #[.slice none 0 0, .int .i64 (unfoldF n)] w fun e w' => ∃ v, e = .returned v ∧ Own w' w.heap.size v (encU n) ∧ Below w.heap.size w w') := hid fun w => by
        have k := int_any none 0 (unfoldF n) [] w (.inl rfl) (by decide) (unfold_rng n hlt)
        rw [fold_unfold n hlt] at k
        exact k
      have hpos := encU_pos n
      have hbl : bs.length = (encU n).length + l.length := by rw [hbs, List.length_append]
      have htk : bs.take (encU n).length = encU n := by rw [hbs, List.take_left]
      rcases hb with rfl | ⟨b, off, rfl, hblk, hc⟩
      · simp at hbl
        omega
      · have hb : Bts W (some ⟨b, off, none⟩) bs := .inr ⟨b, off, rfl, hblk, hc⟩
        have HB := hid hb
        have hcap1 : ((encU n).length : Int) ≤ (cap : Int) := by omega
        have hsub : (bs.length : Int) - (l.length : Int) = ((encU n).length : Int) := by omega
        have HTK := hid htk
        generalize unfoldF n = un at *
        clear hbs he hd hc hb hbl htk
        go_enter Try.func6, Try.ntmps6
        go_wp2_with fail
        refine (awake_any _).mono ?_
        rintro _ w1 ⟨rfl, hbb⟩
        have g1 := hid hbb
        clear hbb
        go_wp2_with fail
        refine (KR.out w1 g1.out).mono ?_
        rintro _ w2 ⟨rb, rfl, hrb, hs2, hbb⟩
        have g2 := hid (below_step g1.out g1.out.size hbb)
        have S2 := hid hs2
        have hr := hid (show ∀ k, some rb = some k → W.heap.size ≤ k from fun k hk => by
          cases hk
          have := g1.out.size
          omega)
        clear hs2 hbb hrb
        go_wp2_with fail
        refine (KU.out w2 rb S2.out).mono ?_
        rintro _ w3 ⟨rfl, hs3, hg3⟩
        have g3 := hid (Below.grown g2.out hg3 g2.out.size hr.out)
        have S3 := hid hs3
        clear hs3 hg3
        go_wp2_with fail
        refine (err_any rb _ _ _ S3.out).mono ?_
        rintro _ w4 ⟨rfl, rfl⟩
        go_wp2_with fail
        refine (KX.out _).mono ?_
        rintro _ w4 ⟨v4, rfl, ho, hbb⟩
        obtain ⟨A4, c4, rfl, hb4, _⟩ := ho.is
        have g4 := hid (below_step g3.out g3.out.size hbb)
        have S4 := hid (S3.out.keep hbb)
        have B4 := hid hb4
        clear ho hb4 hbb
        go_wp2_with fail
        refine (KR.out w4 g4.out).mono ?_
        rintro _ w5 ⟨rb2, rfl, hrb, hs5, hbb⟩
        have g5 := hid (below_step g4.out g4.out.size hbb)
        have S5 := hid (S4.out.keep hbb)
        have T5 := hid hs5
        have B5 := hid (B4.out.keep hbb)
        have hr2 := hid (show ∀ k, some rb2 = some k → W.heap.size ≤ k from fun k hk => by
          cases hk
          have := g4.out.size
          omega)
        have hne := hid (show rb ≠ rb2 from fun e => by
          obtain ⟨_, _, hR, _⟩ := S4.out
          have := lt_of hR
          omega)
        clear hs5 hbb hrb
        go_wp2_with fail
        refine (KI.out w5 rb2 T5.out).mono ?_
        rintro _ w6 ⟨rfl, hs6, hg6⟩
        have g6 := hid (Below.grown g5.out hg6 g5.out.size hr2.out)
        have S6 := hid (rs_other hne.out S5.out T5.out hg6)
        have B6 := hid (bts_rs T5.out B5.out hg6)
        clear hs6 hg6
        go_wp2_with fail
        refine (KY.out _).mono ?_
        rintro _ w7 ⟨v7, rfl, ho, hbb⟩
        obtain ⟨A7, c7, rfl, hb7, _⟩ := ho.is
        have g7 := hid (below_step g6.out g6.out.size hbb)
        have S7 := hid (S6.out.keep hbb)
        have t1 : ∀ k, (convert 22 9 (.slice A4 (encU n).length c4)).run Try.prog (w7.drewN k) = .ok (.string ⟨(encU n).toArray⟩) (w7.drewN k) := fun k => str_drewN c4 k (B6.out.keep hbb)
        have t2 : ∀ k, (convert 22 9 (.slice A7 (encU n).length c7)).run Try.prog (w7.drewN k) = .ok (.string ⟨(encU n).toArray⟩) (w7.drewN k) := fun k => str_drewN c7 k hb7
        have t3 : ∀ k c, (convert 22 9 (.slice (some ⟨b, off, none⟩) (encU n).length c)).run Try.prog (w7.drewN k) = .ok (.string ⟨(encU n).toArray⟩) (w7.drewN k) := fun k c => by
          have := str_drewN c k (bts_take (encU n).length (HB.out.keep g7.out))
          have e := HTK.out
          rw [e] at this
          exact this
        have KL : Hid (∀ k, Calls Try.prog 30 #[.pointer (some ⟨rb, 0, none⟩)] (w7.drewN k) fun en w' => en = .returned (.int .i64 l.length) ∧ w' = w7.drewN k) := hid fun k => (left_any rb l 0 (w7.drewN k) (S7.out.keep (below_quiet (Below.refl _ _) k))).mono fun _ _ h => ⟨h.1, h.2.symm⟩
        generalize encU n = E at *
        clear ho hb7 hbb
        go_wp2_with fail
        go_quiet (first | (go_at_call 30; exact Calls.quiet_of_same (KL.out _)))
        go_wp2
        all_goals go_returns
        all_goals exact ⟨by first | rfl | simp, below_quiet g7.out _⟩
    · obtain ⟨rfl, rfl⟩ := he h0
      have h0' : (e1 != 0) = true := by simp [h0]
      clear hd hb
      go_enter Try.func6, Try.ntmps6
      go_wp2_with fail
      refine (awake_any _).mono ?_
      rintro _ w1 ⟨rfl, hbb⟩
      have g1 := hid hbb
      clear hbb
      go_wp2_with fail
      refine (KR.out w1 g1.out).mono ?_
      rintro _ w2 ⟨rb, rfl, hrb, hs2, hbb⟩
      have g2 := hid (below_step g1.out g1.out.size hbb)
      have S2 := hid hs2
      have hr := hid (show ∀ k, some rb = some k → W.heap.size ≤ k from fun k hk => by
        cases hk
        have := g1.out.size
        omega)
      clear hs2 hbb hrb
      go_wp2_with fail
      refine (KU.out w2 rb S2.out).mono ?_
      rintro _ w3 ⟨rfl, hs3, hg3⟩
      have g3 := hid (Below.grown g2.out hg3 g2.out.size hr.out)
      have S3 := hid hs3
      clear hs3 hg3
      go_wp2_with fail
      refine (err_any rb _ _ _ S3.out).mono ?_
      rintro _ w4 ⟨rfl, rfl⟩
      go_wp2_with fail
      refine (left_any rb _ _ _ S3.out).mono ?_
      rintro _ w4 ⟨rfl, rfl⟩
      go_wp2_with fail
      all_goals go_returns
      all_goals exact ⟨by first | rfl | simp, g3.out⟩
  · have hs' : (10000 : Int) < (bs.length : Int) := by omega
    clear hb
    go_enter Try.func6, Try.ntmps6
    go_wp2_with fail
    refine (awake_any _).mono ?_
    rintro _ w1 ⟨rfl, hbb⟩
    have g1 := hid hbb
    clear hbb
    go_wp2_with fail
    all_goals go_returns
    all_goals exact ⟨rfl, g1.out⟩
end Go.Proofs.Ytanjgobcfgmpfaa
