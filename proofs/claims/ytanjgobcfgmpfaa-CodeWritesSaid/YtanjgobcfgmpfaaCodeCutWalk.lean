/- The Go function CodeCut, called with any word and place, returns true and leaves all that was there. Condition: none. -/
import Derived.Test.YtanjgobcfgmpfaaCutMath
import Derived.Test.YtanjgobcfgmpfaaRows
import Derived.Deep.RegionWith
namespace Go.Proofs.Ytanjgobcfgmpfaa
open Go Go.ChangeShapes Go.WideShapes Go.RowKit
theorem takeT_len (m : Nat) (bs : List UInt8) (e : Int) : (takeT m bs e).2.1.length ≤ bs.length := by
  have := takeL_len m bs e
  unfold takeT
  split
  · exact Nat.zero_le _
  · split
    · exact this
    · simp only [List.length_drop]
      omega
theorem cut_g {W w : World} {x : Obj} (h : Below (W.alloc x).heap.size (W.alloc x) w) : Below (W.heap.size + 1) (W.alloc x) w := h.mono (by simp)
theorem cut_f {W w : World} {x : Obj} (h : Below (W.heap.size + 1) (W.alloc x) w) : Below W.heap.size W w :=
  (show Below W.heap.size W (W.alloc x) from by go_grown).trans (h.mono (Nat.le_succ _))
theorem cut_cells {W w : World} {a0 a1 a2 a3 : Value} {T : TypeId} (h : Below (W.heap.size + 1) (W.alloc (.cells #[a0, a1, a2, a3] T)) w) :
    w.cell? ⟨W.heap.size, 0, none⟩ = some a0 ∧ w.cell? ⟨W.heap.size, 2, none⟩ = some a2 ∧ w.cell? ⟨W.heap.size, 3, none⟩ = some a3 := by
  have hh := heap_new W (.cells #[a0, a1, a2, a3] T)
  refine ⟨?_, ?_, ?_⟩
  · rw [h.cell (p := ⟨W.heap.size, 0, none⟩) (Nat.lt_succ_self _), cell_of hh]
    rfl
  · rw [h.cell (p := ⟨W.heap.size, 2, none⟩) (Nat.lt_succ_self _), cell_of hh]
    rfl
  · rw [h.cell (p := ⟨W.heap.size, 3, none⟩) (Nat.lt_succ_self _), cell_of hh]
    rfl
theorem cut_size {W w : World} {x : Obj} (h : Below (W.heap.size + 1) (W.alloc x) w) : W.heap.size + 1 ≤ w.heap.size := by
  have := h.size
  simpa using this
theorem cut_step {W w w' : World} {x : Obj} (h : Below (W.heap.size + 1) (W.alloc x) w) (hb : Below w.heap.size w w') : Below (W.heap.size + 1) (W.alloc x) w' := below_step h (cut_size h) hb
set_option maxHeartbeats 4000000 in
theorem codeCut_walk {H : Type} {enc : TypeId × Value → H} (W : World) (base : Nat) (args : Array Value) (ds : List (DataW H))
    (hval : ∀ (j : Nat) t v, Try.f7.params[j]? = some t → args[j]? = some v → Value.okWide Try.prog W .any base t v)
    (hA : ∃ p, DataW.TrodAll enc Try.prog W 0 (fun _ => true) true Try.f7.params.toList args.toList ds p) 
    (_ : (DataW.weightsEach Try.prog (Try.f7.params.toList ++ (OpenSpec.ofChange Rows.codeCutSpec).bare.plain.varTypes Try.prog) (ds ++ [])).all (· ≤ reachBytes) = true)
    (_ : laidMetH Try.prog Rows.codeCutRow.laid W) (_ : W.ShapedOpen Try.prog) :
    Calls Try.prog 7 args W fun e W' => e = .returned (.bool true) ∧ Below W.heap.size W W' := by
  obtain ⟨p, hA⟩ := hA
  rw [Try.params7] at hA hval
  obtain ⟨v0, v1, d0, d1, p0, p1, hargs, rfl, rfl, h0, h1⟩ := trodAll_two hA
  subst hargs
  obtain ⟨cs, rfl, _⟩ := okWide_struct Try.underlying26 (hval 0 26 v0 rfl rfl)
  obtain ⟨k0, rfl⟩ := okWide_int Try.underlying3 (hval 1 3 v1 rfl rfl)
  obtain ⟨fu, h0⟩ := h0
  obtain ⟨fu1, h1⟩ := h1
  obtain ⟨kn, ek, _, wk⟩ := DataW.trod_int Try.underlying3 h1
  obtain ⟨n, z, s, C, cap2, zs, hcs, hn, _, hs63, hI, hcap2, hz63, hzr⟩ := words_is h0
  have hcs' : cs = #[.int .u64 n, .int .i64 z, .string s, .slice C zs.length cap2] := by
    cases cs
    simpa [Value.cells] using hcs
  have hkn : kn = k0 := by simpa [Value.cells] using ek.symm
  subst hkn hcs'
  obtain ⟨k1, k2⟩ := wf_i64 wk
  clear h0 h1 hval hA hcs ek wk
  by_cases hs : s.size ≤ 1000
  · have hs' : ¬ (1000 : Int) < (s.size : Int) := by omega
    by_cases hz : zs.length ≤ 1000
    · have hz' : ¬ (1000 : Int) < (zs.length : Int) := by omega
      have hsl : s.data.toList.length = s.size := by simp
      have he1 := encU_ten hn
      have he2 := encU_ten (n := s.size) (by omega)
      have he3 := encU_ten (n := zs.length) (by omega)
      have he4 := encR_len zs hzr
      obtain ⟨q1, hq1⟩ : ∃ q, q = encU n := ⟨_, rfl⟩
      obtain ⟨q2, hq2⟩ : ∃ q, q = encU n ++ encU s.size ++ s.data.toList := ⟨_, rfl⟩
      obtain ⟨q3, hq3⟩ : ∃ q, q = encU n ++ encU s.size ++ s.data.toList ++ encU zs.length ++ encR zs := ⟨_, rfl⟩
      have KU : Hid (∀ w, Calls Try.prog 10 #[.slice none 0 0, .int .u64 n] w fun e w' => ∃ v, e = .returned v ∧ Own w' w.heap.size v q1 ∧ Below w.heap.size w w') := hid fun w => by
        rw [hq1]
        exact uint_any none 0 n [] w (.inl rfl) (by decide) hn
      have KT : Hid (∀ A cap w, Bts w A q1 → Calls Try.prog 14 #[.slice A q1.length cap, .string s] w fun e w' => ∃ v, e = .returned v ∧ Own w' w.heap.size v q2 ∧ Below w.heap.size w w') := hid fun A cap w hb => by
        rw [hq1] at hb
        rw [hq2, hq1]
        exact textP_any A cap (encU n) s w hb (by omega) (by omega)
      have KI : Hid (∀ A cap w, Bts w A q2 → Its w C zs → Calls Try.prog 16 #[.slice A q2.length cap, .slice C zs.length cap2] w fun e w' => ∃ v, e = .returned v ∧ Own w' w.heap.size v q3 ∧ Below w.heap.size w w') := hid fun A cap w hb hi => by
        rw [hq2] at hb
        rw [hq3, hq2]
        exact ints_any A C cap cap2 _ zs w hb hi hzr (by simp only [List.length_append]; omega) (by omega)
      have hl3 : q3.length = (encU n).length + (encU s.size).length + s.size + (encU zs.length).length + (encR zs).length := by
        rw [hq3]
        simp only [List.length_append]
        omega
      have hpos := encU_pos n
      have hdry : ∀ k : Nat, k < q3.length → takeI 1000 (takeT 1000 (takeU (q3.take k) 0).2.1 (takeU (q3.take k) 0).2.2).2.1 (takeT 1000 (takeU (q3.take k) 0).2.1 (takeU (q3.take k) 0).2.2).2.2 = ([], [], 10) := fun k hk => by
        refine cut_all n k 1000 s.data.toList zs hn (by omega) hz (by decide) hzr _ _ ?_ rfl (by rw [hsl]; omega)
        rw [hq3, hsl]
        simp only [List.append_assoc]
      have HI := hid hI
      have HD := hid hdry
      clear hdry hq1 hq2 hq3 hI hzr
      have hl4 : q3.length ≤ 20000 := by omega
      have hp3 : 0 < q3.length := by omega
      clear hl3 he1 he2 he3 he4 hpos
      go_enter Try.func7, Try.ntmps7
      go_wp2_with fail
      refine (awake_any _).mono ?_
      rintro _ w1 ⟨rfl, hbb⟩
      have g1 := hid (cut_g  hbb)
      obtain ⟨c0, c2, c3⟩ := cut_cells g1.out
      have f1 := hid (cut_f g1.out)
      clear hbb
      go_wp2_with fail
      go_upto_region 6 with fail
      go_cut [6] (fun v wx => ∃ A cap, v = .slice A q3.length cap ∧ Bts wx A q3 ∧ q3.length ≤ cap ∧ Below (W.heap.size + 1) (W.alloc (.cells #[.int .u64 n, .int .i64 z, .string s, .slice C zs.length cap2] 26)) wx)
      case first =>
        go_wp2_with fail
        go_region_with (first
          | (go_at_call 10; refine (KU.out (World.drew w1)).mono ?_; rintro _ w2 ⟨v, rfl, ho, hb⟩; obtain ⟨A2, cp2, rfl, hb2, _⟩ := ho.is; have g2 := hid (cut_step g1.out (unD hb)); obtain ⟨c02, c22, c32⟩ := cut_cells g2.out; have B2 := hid hb2; clear ho hb hb2)
          | (go_at_call 14; refine (KT.out A2 cp2 w2 B2.out).mono ?_; rintro _ w3 ⟨v, rfl, ho, hb⟩; obtain ⟨A3, cp3, rfl, hb3, _⟩ := ho.is; have g3 := hid (cut_step g2.out hb); obtain ⟨c03, c23, c33⟩ := cut_cells g3.out; have B3 := hid hb3; have I3 := hid (HI.out.below (cut_f g3.out)); clear ho hb hb3)
          | (go_at_call 16; refine (KI.out A3 cp3 w3 B3.out I3.out).mono ?_; rintro _ w4 ⟨v, rfl, ho, hb⟩; obtain ⟨A4, cp4, rfl, hb4, hcp4, _⟩ := ho.is; have g4 := hid (cut_step g3.out hb); have B4 := hid hb4; clear ho hb hb4))
        all_goals
          go_wp2_with fail
          all_goals go_meet
          all_goals exact ⟨A4, cp4, rfl, B4.out, hcp4, g4.out⟩
      case rest =>
        obtain ⟨A4, cp4, rfl, hb4, hcp4, hg4⟩ := hcut
        have B4 := hid hb4
        have g4 := hid hg4
        have hl1 : (q3.length : Int) ≤ 20000 := by omega
        have hp1 : (0 : Int) < (q3.length : Int) := by omega
        clear hb4 hg4 c0 c2 c3 g1 f1
        rcases B4.out with h0 | ⟨b, off, rfl, hbl, hc⟩
        · rw [h0] at hp3
          simp at hp3
        · have hb : Bts wc (some ⟨b, off, none⟩) q3 := .inr ⟨b, off, rfl, hbl, hc⟩
          by_cases hk0 : kn < 0
          · obtain ⟨k, hkl, hv⟩ : ∃ k : Nat, k < q3.length ∧ -(kn + 1).tmod (q3.length : Int) = (k : Int) := by
              have e : -(kn + 1).tmod (q3.length : Int) = (-(kn + 1)) % (q3.length : Int) := by rw [← Int.neg_tmod, Int.tmod_eq_emod_of_nonneg (by omega)]
              have h1 := Int.emod_nonneg (-(kn + 1)) (b := (q3.length : Int)) (by omega)
              have h2 := Int.emod_lt_of_pos (-(kn + 1)) hp1
              exact ⟨((-(kn + 1)) % (q3.length : Int)).toNat, by omega, by rw [e]; omega⟩
            have HB := hid hb
            have KR : Hid (Calls Try.prog 18 #[.slice (some ⟨b, off, none⟩) k cp4] wc fun e w' => ∃ rb, e = .returned (.pointer (some ⟨rb, 0, none⟩)) ∧ wc.heap.size ≤ rb ∧ RS w' rb (q3.take k) 0 ∧ Below wc.heap.size wc w') := hid (by
              have h := read_any (some ⟨b, off, none⟩) cp4 (q3.take k) wc (bts_take k HB.out) (by simp only [List.length_take]; omega)
              have e : (q3.take k).length = k := by simp only [List.length_take]; omega
              rw [e] at h
              exact h)
            have hd := HD.out k hkl
            have hlen0 : (q3.take k).length ≤ 20000 := by simp only [List.length_take]; omega
            have hkc : (k : Int) ≤ (cp4 : Int) := by omega
            generalize q3.take k = p at *
            have K19 := hid (fun w rb h => ruint_any rb p 0 w h (by omega))
            have hlen1 := takeU_len p 0
            generalize takeU p 0 = r1 at *
            obtain ⟨n1, l1, e1⟩ := r1
            simp only at hd K19 hlen1
            have K23 := hid (fun w rb h => rtext_any rb l1 e1 1000 w h (by omega) (by decide))
            rw [show mostF 1000 = 1000 from rfl] at K23
            have hlen2 := takeT_len 1000 l1 e1
            generalize takeT 1000 l1 e1 = r2 at *
            obtain ⟨t2, l2, e2⟩ := r2
            simp only at hd K23 hlen2
            have K26 := hid (fun w rb h => rints_any rb l2 e2 1000 w h (by omega) (by decide))
            rw [show mostF 1000 = 1000 from rfl, hd] at K26
            simp only at K26
            have K32 : Hid (∀ w rb, RS w rb [] 10 → Calls Try.prog 32 #[.pointer (some ⟨rb, 0, none⟩)] w fun en w' => en = .returned (.int .i64 10) ∧ RS w' rb [] 10 ∧ w.grownBy w' (some rb)) := hid fun w rb h => rend_any rb [] 10 w h
            have hw := hid (cut_f g4.out)
            clear hd HD hb hc B4 HB KU KT KI HI
            go_wp2_with fail
            refine KR.out.mono ?_
            rintro _ w5 ⟨rb, rfl, hrb, hs5, hbb⟩
            have g5 := hid (below_step hw.out hw.out.size hbb)
            have S5 := hid hs5
            have hr := hid (show ∀ k, some rb = some k → W.heap.size ≤ k from fun k hk => by
              cases hk
              have := hw.out.size
              omega)
            clear hs5 hbb hrb
            go_wp2_with fail
            refine (K19.out w5 rb S5.out).mono ?_
            rintro _ w6 ⟨rfl, hs6, hg6⟩
            have g6 := hid (Below.grown g5.out hg6 g5.out.size hr.out)
            have S6 := hid hs6
            clear hs6 hg6
            go_wp2_with fail
            refine (K23.out w6 rb S6.out).mono ?_
            rintro _ w7 ⟨rfl, hs6, hg6⟩
            have g7 := hid (Below.grown g6.out hg6 g6.out.size hr.out)
            have S7 := hid hs6
            clear hs6 hg6
            go_wp2_with fail
            refine (K26.out w7 rb S7.out).mono ?_
            rintro _ w8 ⟨v8, rfl, _, hs6, hg6⟩
            have g8 := hid (Below.grown g7.out hg6 g7.out.size hr.out)
            have S8 := hid hs6
            clear hs6 hg6
            go_wp2_with fail
            refine (err_any rb [] 10 w8 S8.out).mono ?_
            rintro _ w9 ⟨rfl, rfl⟩
            go_wp2_with fail
            refine (K32.out w8 rb S8.out).mono ?_
            rintro _ w9 ⟨rfl, hs6, hg6⟩
            have g9 := hid (Below.grown g8.out hg6 g8.out.size hr.out)
            have S9 := hid hs6
            clear hs6 hg6
            go_wp2_with fail
            refine (left_any rb [] 10 w9 S9.out).mono ?_
            rintro _ w10 ⟨rfl, rfl⟩
            go_wp2_with fail
            all_goals go_returns
            all_goals exact ⟨by first | rfl | simp, g9.out⟩
          · obtain ⟨k, hkl, hv⟩ : ∃ k : Nat, k < q3.length ∧ kn % (q3.length : Int) = (k : Int) := by
              have h1 := Int.emod_nonneg kn (b := (q3.length : Int)) (by omega)
              have h2 := Int.emod_lt_of_pos kn hp1
              exact ⟨(kn % (q3.length : Int)).toNat, by omega, by omega⟩
            have HB := hid hb
            have KR : Hid (Calls Try.prog 18 #[.slice (some ⟨b, off, none⟩) k cp4] wc fun e w' => ∃ rb, e = .returned (.pointer (some ⟨rb, 0, none⟩)) ∧ wc.heap.size ≤ rb ∧ RS w' rb (q3.take k) 0 ∧ Below wc.heap.size wc w') := hid (by
              have h := read_any (some ⟨b, off, none⟩) cp4 (q3.take k) wc (bts_take k HB.out) (by simp only [List.length_take]; omega)
              have e : (q3.take k).length = k := by simp only [List.length_take]; omega
              rw [e] at h
              exact h)
            have hd := HD.out k hkl
            have hlen0 : (q3.take k).length ≤ 20000 := by simp only [List.length_take]; omega
            have hkc : (k : Int) ≤ (cp4 : Int) := by omega
            generalize q3.take k = p at *
            have K19 := hid (fun w rb h => ruint_any rb p 0 w h (by omega))
            have hlen1 := takeU_len p 0
            generalize takeU p 0 = r1 at *
            obtain ⟨n1, l1, e1⟩ := r1
            simp only at hd K19 hlen1
            have K23 := hid (fun w rb h => rtext_any rb l1 e1 1000 w h (by omega) (by decide))
            rw [show mostF 1000 = 1000 from rfl] at K23
            have hlen2 := takeT_len 1000 l1 e1
            generalize takeT 1000 l1 e1 = r2 at *
            obtain ⟨t2, l2, e2⟩ := r2
            simp only at hd K23 hlen2
            have K26 := hid (fun w rb h => rints_any rb l2 e2 1000 w h (by omega) (by decide))
            rw [show mostF 1000 = 1000 from rfl, hd] at K26
            simp only at K26
            have K32 : Hid (∀ w rb, RS w rb [] 10 → Calls Try.prog 32 #[.pointer (some ⟨rb, 0, none⟩)] w fun en w' => en = .returned (.int .i64 10) ∧ RS w' rb [] 10 ∧ w.grownBy w' (some rb)) := hid fun w rb h => rend_any rb [] 10 w h
            have hw := hid (cut_f g4.out)
            clear hd HD hb hc B4 HB KU KT KI HI
            go_wp2_with fail
            refine KR.out.mono ?_
            rintro _ w5 ⟨rb, rfl, hrb, hs5, hbb⟩
            have g5 := hid (below_step hw.out hw.out.size hbb)
            have S5 := hid hs5
            have hr := hid (show ∀ k, some rb = some k → W.heap.size ≤ k from fun k hk => by
              cases hk
              have := hw.out.size
              omega)
            clear hs5 hbb hrb
            go_wp2_with fail
            refine (K19.out w5 rb S5.out).mono ?_
            rintro _ w6 ⟨rfl, hs6, hg6⟩
            have g6 := hid (Below.grown g5.out hg6 g5.out.size hr.out)
            have S6 := hid hs6
            clear hs6 hg6
            go_wp2_with fail
            refine (K23.out w6 rb S6.out).mono ?_
            rintro _ w7 ⟨rfl, hs6, hg6⟩
            have g7 := hid (Below.grown g6.out hg6 g6.out.size hr.out)
            have S7 := hid hs6
            clear hs6 hg6
            go_wp2_with fail
            refine (K26.out w7 rb S7.out).mono ?_
            rintro _ w8 ⟨v8, rfl, _, hs6, hg6⟩
            have g8 := hid (Below.grown g7.out hg6 g7.out.size hr.out)
            have S8 := hid hs6
            clear hs6 hg6
            go_wp2_with fail
            refine (err_any rb [] 10 w8 S8.out).mono ?_
            rintro _ w9 ⟨rfl, rfl⟩
            go_wp2_with fail
            refine (K32.out w8 rb S8.out).mono ?_
            rintro _ w9 ⟨rfl, hs6, hg6⟩
            have g9 := hid (Below.grown g8.out hg6 g8.out.size hr.out)
            have S9 := hid hs6
            clear hs6 hg6
            go_wp2_with fail
            refine (left_any rb [] 10 w9 S9.out).mono ?_
            rintro _ w10 ⟨rfl, rfl⟩
            go_wp2_with fail
            all_goals go_returns
            all_goals exact ⟨by first | rfl | simp, g9.out⟩

    · have hz' : (1000 : Int) < (zs.length : Int) := by omega
      go_enter Try.func7, Try.ntmps7
      go_wp2_with fail
      refine (awake_any _).mono ?_
      rintro _ w1 ⟨rfl, hbb⟩
      have g1 := hid (cut_g  hbb)
      obtain ⟨c0, c2, c3⟩ := cut_cells g1.out
      have f1 := hid (cut_f g1.out)
      clear hbb
      go_wp2_with fail
      all_goals go_returns
      all_goals exact ⟨rfl, f1.out⟩
  · have hs' : (1000 : Int) < (s.size : Int) := by omega
    go_enter Try.func7, Try.ntmps7
    go_wp2_with fail
    refine (awake_any _).mono ?_
    rintro _ w1 ⟨rfl, hbb⟩
    have g1 := hid (cut_g  hbb)
    obtain ⟨c0, c2, c3⟩ := cut_cells g1.out
    have f1 := hid (cut_f g1.out)
    clear hbb
    go_wp2_with fail
    all_goals go_returns
    all_goals exact ⟨rfl, f1.out⟩
end Go.Proofs.Ytanjgobcfgmpfaa
