/- The Go function CodeBack, called with any words, returns true and leaves all that was there. Condition: none. -/
import Derived.Test.YtanjgobcfgmpfaaBackMath
import Derived.Test.YtanjgobcfgmpfaaAwake
import Derived.Test.YtanjgobcfgmpfaaRows
import Derived.Deep.RegionHeld3
import Derived.Deep.DeepCutAuto
import Derived.Deep.CutRange
namespace Go.Proofs.Ytanjgobcfgmpfaa
open Go Go.ChangeShapes Go.WideShapes Go.RowKit
def Wd.small (x : Wd) : Prop := x.s.size ≤ 1000 ∧ x.zs.length ≤ 1000
theorem encW_len {W : World} {x : Wd} (h : x.ok W) (hs : x.small) : (encW x).length ≤ 11040 := by
  obtain ⟨h1, h2, h3, _, _, h4, h5⟩ := h
  obtain ⟨s1, s2⟩ := hs
  have a1 := encU_ten h1
  have a2 := encU_ten (foldF_lt h2)
  have a3 := encU_ten (n := x.s.size) (by omega)
  have a4 := encU_ten (n := x.zs.length) (by omega)
  have a5 := encR_len x.zs h5
  have a6 : x.s.data.toList.length = x.s.size := by simp
  unfold encW
  simp only [List.length_append]
  omega
theorem encWs_len {W : World} (us : List Wd) (h : ∀ x ∈ us, x.ok W ∧ x.small) : (encWs us).length ≤ 11040 * us.length := by
  induction us with
  | nil => simp [encWs]
  | cons x us ih =>
    have h1 := encW_len (h x List.mem_cons_self).1 (h x List.mem_cons_self).2
    have h2 := ih fun y hy => h y (List.mem_cons_of_mem _ hy)
    have e : encWs (x :: us) = encW x ++ encWs us := by simp [encWs]
    rw [e]
    simp only [List.length_append, List.length_cons]
    omega
theorem wds_mem {W : World} {A : Option Addr} {ws : List Wd} (h : Wds W A ws) : ∀ x ∈ ws, x.ok W := by
  intro x hx
  rcases h with rfl | ⟨b, off, rfl, _, hc⟩
  · cases hx
  · obtain ⟨j, hj, rfl⟩ := List.getElem_of_mem hx
    exact (hc j _ (List.getElem?_eq_getElem hj)).1
theorem wds_take {W : World} {A : Option Addr} {ws : List Wd} (m : Nat) (h : Wds W A ws) : Wds W A (ws.take m) := by
  rcases h with rfl | ⟨b, off, rfl, hlt, hc⟩
  · left
    simp
  · refine .inr ⟨b, off, rfl, hlt, fun j x hx => hc j x ?_⟩
    rw [List.getElem?_take] at hx
    split at hx
    · exact hx
    · cases hx
set_option maxRecDepth 10000 in
set_option maxHeartbeats 4000000 in
theorem codeBack_walk {H : Type} {enc : TypeId × Value → H} (W : World) (base : Nat) (args : Array Value) (ds : List (DataW H))
    (hval : ∀ (j : Nat) t v, Try.f5.params[j]? = some t → args[j]? = some v → Value.okWide Try.prog W .any base t v)
    (hA : ∃ p, DataW.TrodAll enc Try.prog W 0 (fun _ => true) true Try.f5.params.toList args.toList ds p) 
    (_ : (DataW.weightsEach Try.prog (Try.f5.params.toList ++ (OpenSpec.ofChange Rows.codeBackSpec).bare.plain.varTypes Try.prog) (ds ++ [])).all (· ≤ reachBytes) = true)
    (_ : laidMetH Try.prog Rows.codeBackRow.laid W) (_ : W.ShapedOpen Try.prog) :
    Calls Try.prog 5 args W fun e W' => e = .returned (.bool true) ∧ Below W.heap.size W W' := by
  obtain ⟨p, hA⟩ := hA
  rw [Try.params5] at hA hval
  obtain ⟨v0, d0, hargs, rfl, h0⟩ := trodAll_one hA
  subst hargs
  obtain ⟨A, cap, ws, rfl, hw, hcap, hl63⟩ := wds_is (hval 0 54 v0 rfl rfl) h0
  clear h0 hval hA
  have hl1 : (ws.length : Int) ≤ 9223372036854775807 := by omega
  have HW := hid (wds_take 100 hw)
  have hul : (ws.take 100).length = min 100 ws.length := List.length_take
  obtain ⟨us, hus⟩ : ∃ us, us = ws.take 100 := ⟨_, rfl⟩
  rw [← hus] at HW hul
  have hul2 : us.length ≤ 100 ∧ (us.length : Int) ≤ 100 := by omega
  go_enter Try.func5, Try.ntmps5
  go_wp2_with fail
  refine (awake_any _).mono ?_
  rintro _ w1 ⟨rfl, hbb⟩
  have g1 := hid hbb
  clear hbb
  go_upto_if 13 with fail
  go_cut [0] (fun v wx => v = .slice A us.length cap ∧ Below W.heap.size W wx)
  case first =>
    by_cases h100 : 100 < ws.length
    · have h100' : (100 : Int) < (ws.length : Int) := by omega
      have hc100 : (100 : Int) ≤ (cap : Int) := by omega
      rcases hw with rfl | ⟨b, off, rfl, _, _⟩
      · simp at h100
      · have e := hid (show us.length = 100 from by omega)
        clear hus hul hul2
        go_wp2_with fail
        all_goals go_meet
        all_goals exact ⟨by rw [e.out], g1.out⟩
    · have h100' : ¬ (100 : Int) < (ws.length : Int) := by omega
      have e := hid (show us.length = ws.length from by omega)
      clear hus hul hul2
      go_wp2_with fail
      all_goals go_meet
      all_goals exact ⟨by rw [e.out], g1.out⟩
  case rest =>
    obtain ⟨rfl, hg⟩ := hcut
    have G := hid hg
    clear hg g1 hw hul hus hl1 hl63 hcap
    obtain ⟨hu1, hu2⟩ := hul2
    go_wp2_with fail
    go_loopw [4, 5] (fun o i wr => ∃ (k : Nat) (A1 : Option Addr) (c1 : Nat), k ≤ us.length ∧ i = .int .i64 k ∧ o = .slice A1 (encWs (us.take k)).length c1 ∧ Bts wr A1 (encWs (us.take k)) ∧ (∀ x ∈ us.take k, x.small) ∧ Below W.heap.size W wr) (fun _ i _ => us.length - (intOf i).toNat)
    case atStart => exact ⟨0, none, 0, Nat.zero_le _, rfl, by simp [encWs], by simpa [encWs] using Bts.nil _ _, by simp, G.out⟩
    case round =>
      obtain ⟨k, A1, c1, hk, rfl, rfl, hb, hsm, hg⟩ := hrel
      have HB := hid hb
      have HG := hid hg
      have HS := hid hsm
      clear hb hg hsm
      have hle := encWs_len (us.take k) fun x hx => ⟨wds_mem HW.out x (List.mem_of_mem_take hx), HS.out x hx⟩
      have hle2 : (us.take k).length ≤ 100 := by simp only [List.length_take]; omega
      by_cases hlt : k < us.length
      · have hlt' : (k : Int) < (us.length : Int) := by omega
        rcases HW.out with rfl | ⟨b, off, rfl, hbl, hc⟩
        · simp at hlt
        · obtain ⟨hok, hat⟩ := hc k us[k] (List.getElem?_eq_getElem hlt)
          have htk := hid (show encWs (us.take (k + 1)) = encWs (us.take k) ++ encW us[k] from by rw [List.take_succ_eq_append_getElem hlt, encWs_snoc])
          have htk2 := hid (show us[k].small → ∀ x ∈ us.take (k + 1), x.small from fun h x hx => by
            rw [List.take_succ_eq_append_getElem hlt, List.mem_append, List.mem_singleton] at hx
            rcases hx with hx | rfl
            · exact HS.out x hx
            · exact h)
          have AT := hid hat
          have OK := hid hok
          generalize us[k] = x at *
          obtain ⟨c0, c1', c2, c3⟩ := AT.out.below HG.out hbl
          clear hc hok hat
          by_cases hs : x.s.size ≤ 1000
          · have hs' : ¬ (1000 : Int) < (x.s.size : Int) := by omega
            by_cases hz : x.zs.length ≤ 1000
            · have hz' : ¬ (1000 : Int) < (x.zs.length : Int) := by omega
              go_upto_region 12 with fail
              have hle3 := encWs_len (us.take k) fun x hx => ⟨wds_mem HW.out x (List.mem_of_mem_take hx), HS.out x hx⟩
              obtain ⟨o1, o2, o3, o4, o5, o6, o7⟩ := OK.out
              have b1 := encU_ten o1
              have b2 := encU_ten (foldF_lt o2)
              have b3 := encU_ten (n := x.s.size) (by omega)
              obtain ⟨P0, hP0⟩ : ∃ P, P = encWs (us.take k) := ⟨_, rfl⟩
              obtain ⟨P1, hP1⟩ : ∃ P, P = P0 ++ encU x.n := ⟨_, rfl⟩
              obtain ⟨P2, hP2⟩ : ∃ P, P = P1 ++ encU (foldF x.z) := ⟨_, rfl⟩
              obtain ⟨P3, hP3⟩ : ∃ P, P = P2 ++ encU x.s.size ++ x.s.data.toList := ⟨_, rfl⟩
              obtain ⟨P4, hP4⟩ : ∃ P, P = encWs (us.take (k + 1)) := ⟨_, rfl⟩
              have hP5 : P4 = P3 ++ encU x.zs.length ++ encR x.zs := by
                rw [hP4, htk.out, hP3, hP2, hP1, hP0, encW]
                simp only [List.append_assoc]
              rw [← hP0] at hle3 HB
              have q0 : P0.length ≤ 1104000 := by omega
              have q1 : P1.length ≤ 1104010 := by rw [hP1, List.length_append]; omega
              have q2 : P2.length ≤ 1104020 := by rw [hP2, List.length_append]; omega
              have q3 : P3.length ≤ 1105030 := by
                rw [hP3]
                have a6 : x.s.data.toList.length = x.s.size := by simp
                simp only [List.length_append]
                omega
              have K10 : Hid (∀ w, Bts w A1 P0 → Calls Try.prog 10 #[.slice A1 P0.length c1, .int .u64 x.n] w fun e w' => ∃ v, e = .returned v ∧ Own w' w.heap.size v P1 ∧ Below w.heap.size w w') := hid fun w h => by
                rw [hP1]
                exact uint_any A1 c1 x.n P0 w h (by omega) o1
              have K12 : Hid (∀ A c w, Bts w A P1 → Calls Try.prog 12 #[.slice A P1.length c, .int .i64 x.z] w fun e w' => ∃ v, e = .returned v ∧ Own w' w.heap.size v P2 ∧ Below w.heap.size w w') := hid fun A c w h => by
                rw [hP2]
                exact int_any A c x.z P1 w h (by omega) o2
              have K14 : Hid (∀ A c w, Bts w A P2 → Calls Try.prog 14 #[.slice A P2.length c, .string x.s] w fun e w' => ∃ v, e = .returned v ∧ Own w' w.heap.size v P3 ∧ Below w.heap.size w w') := hid fun A c w h => by
                rw [hP3]
                exact textP_any A c P2 x.s w h (by omega) (by omega)
              have K16 : Hid (∀ A c w, Bts w A P3 → Its w x.A x.zs → Calls Try.prog 16 #[.slice A P3.length c, .slice x.A x.zs.length x.cap] w fun e w' => ∃ v, e = .returned v ∧ Own w' w.heap.size v P4 ∧ Below w.heap.size w w') := hid fun A c w h hi => by
                rw [hP5]
                exact ints_any A x.A c x.cap P3 x.zs w h hi o7 (by omega) (by omega)
              have HI := hid o4
              have HX := hid (show ∀ w', Below W.heap.size W w' → x.at w' b (off + k * 4) from fun w' h => AT.out.below h hbl)
              rw [← hP4] at htk
              have hP4' := hid hP4
              rw [← hP0]
              clear hP0 hP1 hP2 hP3 hP4 hP5 hle3 hle o4 o7 htk
              have HB0 := hid (show Bts (World.drew wr) A1 P0 from HB.out)
              go_wp2_with fail
              go_region_held3 (fun w' => w'.cell? ⟨b, off + k * 4, none⟩ = some (.int .u64 x.n) ∧ w'.cell? ⟨b, off + k * 4 + 1, none⟩ = some (.int .i64 x.z) ∧ w'.cell? ⟨b, off + k * 4 + 2, none⟩ = some (.string x.s) ∧ w'.cell? ⟨b, off + k * 4 + 3, none⟩ = some (.slice x.A x.zs.length x.cap)) (first | exact HX.out _ HG.out | exact HX.out _ G2.out | exact HX.out _ G3.out | exact HX.out _ G4.out | exact HX.out _ G5.out | go_keep)
                (first
                  | (go_at_call 10; refine (K10.out (World.drew wr) HB0.out).mono ?_; rintro _ w2 ⟨v, rfl, ho, hbb⟩; obtain ⟨A2, e2, rfl, hb2, _⟩ := ho.is; have G2 := hid (below_step HG.out HG.out.size (unD hbb)); have B2 := hid hb2; clear ho hbb hb2)
                  | (go_at_call 12; refine (K12.out A2 e2 w2 B2.out).mono ?_; rintro _ w3 ⟨v, rfl, ho, hbb⟩; obtain ⟨A3, e3, rfl, hb3, _⟩ := ho.is; have G3 := hid (below_step G2.out G2.out.size hbb); have B3 := hid hb3; clear ho hbb hb3)
                  | (go_at_call 14; refine (K14.out A3 e3 w3 B3.out).mono ?_; rintro _ w4 ⟨v, rfl, ho, hbb⟩; obtain ⟨A4, e4, rfl, hb4, _⟩ := ho.is; have G4 := hid (below_step G3.out G3.out.size hbb); have B4 := hid hb4; clear ho hbb hb4)
                  | (go_at_call 16; refine (K16.out A4 e4 w4 B4.out (HI.out.below G4.out)).mono ?_; rintro _ w5 ⟨v, rfl, ho, hbb⟩; obtain ⟨A5, e5, rfl, hb5, _⟩ := ho.is; have G5 := hid (below_step G4.out G4.out.size hbb); have B5 := hid hb5; clear ho hbb hb5))
              all_goals
                go_wp2_with fail
                go_roundw
                case rel => exact ⟨k + 1, A5, e5, by omega, by go_num, by rw [hP4'.out], by rw [← hP4'.out]; exact B5.out, htk2.out ⟨hs, hz⟩, G5.out⟩
                case measure => simp [intOf]; omega
            · have hz' : (1000 : Int) < (x.zs.length : Int) := by omega
              go_wp2_with fail
              all_goals go_returns
              all_goals exact ⟨rfl, HG.out⟩
          · have hs' : (1000 : Int) < (x.s.size : Int) := by omega
            go_wp2_with fail
            all_goals go_returns
            all_goals exact ⟨rfl, HG.out⟩
      · obtain rfl : k = us.length := by omega
        have hHS := HS.out
        rw [List.take_length] at HB hHS hle
        have HSM := hid hHS
        have HR := hid (show ∀ w, Bts w A1 (encWs us) → Calls Try.prog 18 #[.slice A1 (encWs us).length c1] w fun e w' => ∃ rb, e = .returned (.pointer (some ⟨rb, 0, none⟩)) ∧ w.heap.size ≤ rb ∧ RS w' rb (encWs us) 0 ∧ Below w.heap.size w w' from fun w h => read_any A1 c1 (encWs us) w h (by omega))
        have hlU : ∀ j, (encWs (us.drop j)).length ≤ 1104000 := fun j => by
          have h1 := encWs_len (us.drop j) fun x hx => ⟨wds_mem HW.out x (List.mem_of_mem_drop hx), hHS x (List.mem_of_mem_drop hx)⟩
          have h2 : (us.drop j).length ≤ 100 := by simp only [List.length_drop]; omega
          omega
        have HLU := hid hlU
        rw [List.take_length]
        clear hHS hlU hle hle2 HS
        generalize hP : encWs us = P0 at *
        have HP := hid hP
        clear hP
        go_wp2_with fail
        refine (HR.out wr HB.out).mono ?_
        rintro _ w2 ⟨rb, rfl, hrb, hs2, hbb⟩
        have G2 := hid (below_step HG.out HG.out.size hbb)
        have S2 := hid hs2
        have hr := hid (show ∀ k, some rb = some k → W.heap.size ≤ k from fun k hk => by
          cases hk
          have := HG.out.size
          omega)
        clear hs2 hbb hrb
        go_wp2_with fail
        go_loopw [7] (fun i wx => ∃ (j : Nat), j ≤ us.length ∧ i = .int .i64 j ∧ RS wx rb (encWs (us.drop j)) 0 ∧ Below W.heap.size W wx) (fun i _ => us.length - (intOf i).toNat)
        case atStart => exact ⟨0, Nat.zero_le _, rfl, by rw [List.drop_zero, HP.out]; exact S2.out, G2.out⟩
        case round =>
          obtain ⟨j, hj, rfl, hs, hg⟩ := hrel
          have SJ := hid hs
          have GJ := hid hg
          clear hs hg S2 G2
          by_cases hlt : j < us.length
          · have hlt' : (j : Int) < (us.length : Int) := by omega
            rcases HW.out with rfl | ⟨b, off, rfl, hbl, hc⟩
            · simp at hlt
            · obtain ⟨hok, hat⟩ := hc j us[j] (List.getElem?_eq_getElem hlt)
              obtain ⟨hs, hz⟩ := HSM.out us[j] (List.getElem_mem hlt)
              obtain ⟨L4, hL4⟩ : ∃ L, L = encWs (us.drop (j + 1)) := ⟨_, rfl⟩
              have hd : encWs (us.drop j) = encW us[j] ++ L4 := by
                rw [List.drop_eq_getElem_cons hlt, hL4]
                simp only [encWs, List.map_cons, List.flatten_cons]
              have hl := HLU.out j
              have HL4 := hid hL4
              have hS := SJ.out
              rw [hd] at hl hS
              have AT := hid hat
              obtain ⟨o1, o2, o3, o4, o5, o6, o7⟩ := hok
              generalize us[j] = x at *
              clear hc hat hd hL4
              have hsl : x.s.data.toList.length = x.s.size := by simp
              obtain ⟨L3, hL3⟩ : ∃ L, L = encU x.zs.length ++ (encR x.zs ++ L4) := ⟨_, rfl⟩
              obtain ⟨L2, hL2⟩ : ∃ L, L = encU x.s.data.toList.length ++ (x.s.data.toList ++ L3) := ⟨_, rfl⟩
              obtain ⟨L1, hL1⟩ : ∃ L, L = encU (foldF x.z) ++ L2 := ⟨_, rfl⟩
              have hL0 : encW x ++ L4 = encU x.n ++ L1 := by
                rw [hL1, hL2, hL3, hsl, encW]
                simp only [List.append_assoc]
              rw [hL0] at hl hS
              have S0 := hid hS
              have l1 : L1.length ≤ 1104000 := by rw [List.length_append] at hl; omega
              have l2 : L2.length ≤ 1104000 := by rw [hL1, List.length_append] at l1; omega
              have l3 : L3.length ≤ 1104000 := by rw [hL2, List.length_append, List.length_append] at l2; omega
              have K19 : Hid (∀ w, RS w rb (encU x.n ++ L1) 0 → Calls Try.prog 19 #[.pointer (some ⟨rb, 0, none⟩)] w fun en w' => en = .returned (.int .u64 x.n) ∧ RS w' rb L1 0 ∧ w.grownBy w' (some rb)) := hid fun w h => by
                have k := ruint_any rb _ 0 w h (by omega)
                rw [takeU_enc _ _ o1] at k
                exact k
              have K21 : Hid (∀ w, RS w rb L1 0 → Calls Try.prog 21 #[.pointer (some ⟨rb, 0, none⟩)] w fun en w' => en = .returned (.int .i64 x.z) ∧ RS w' rb L2 0 ∧ w.grownBy w' (some rb)) := hid fun w h => by
                have k := rint_any rb _ 0 w h (by omega)
                rw [hL1, takeU_enc _ _ (foldF_lt o2)] at k
                simp only at k
                rw [unfold_fold o2] at k
                exact k
              have K23 : Hid (∀ w, RS w rb L2 0 → Calls Try.prog 23 #[.pointer (some ⟨rb, 0, none⟩), .int .i64 1000] w fun en w' => en = .returned (.string x.s) ∧ RS w' rb L3 0 ∧ w.grownBy w' (some rb)) := hid fun w h => by
                have k := rtext_any rb _ 0 1000 w h (by omega) (by decide)
                rw [show mostF 1000 = 1000 from rfl, hL2, takeT_enc 1000 x.s.data.toList L3 (by omega) (by omega)] at k
                exact k
              have K26 : Hid (∀ w, RS w rb L3 0 → Calls Try.prog 26 #[.pointer (some ⟨rb, 0, none⟩), .int .i64 1000] w fun en w' => ∃ v, en = .returned v ∧ OwnI w' w.heap.size v x.zs ∧ RS w' rb L4 0 ∧ w.grownBy w' (some rb)) := hid fun w h => by
                have k := rints_any rb _ 0 1000 w h (by omega) (by decide)
                rw [show mostF 1000 = 1000 from rfl, hL3, takeI_enc 1000 x.zs L4 hz (by omega) o7] at k
                exact k
              have K25 : Hid (∀ A c w, Its w A x.zs → Its w x.A x.zs → Calls Try.prog 25 #[.slice A x.zs.length c, .slice x.A x.zs.length x.cap] w fun e w' => e = .returned (.bool true) ∧ Below w.heap.size w w') := hid fun A c w h1 h2 => same_any A x.A c x.cap x.zs w h1 h2 (by omega)
              have HI := hid o4
              have HX := hid (show ∀ w', Below W.heap.size W w' → x.at w' b (off + j * 4) from fun w' h => AT.out.below h hbl)
              clear hL0 hL1 hL2 hL3 hS hl hsl o1 o2 o3 o4 o5 o6 o7 SJ
              obtain ⟨c0, c1', c2, c3⟩ := HX.out _ GJ.out
              go_upto_region 17 with fail
              go_cut [109] from 65 to 109 (fun v wx => v = .bool false ∧ RS wx rb L4 0 ∧ Below W.heap.size W wx)
              case first =>
                go_region_held3 (fun w' => w'.cell? ⟨b, off + j * 4, none⟩ = some (.int .u64 x.n) ∧ w'.cell? ⟨b, off + j * 4 + 1, none⟩ = some (.int .i64 x.z) ∧ w'.cell? ⟨b, off + j * 4 + 2, none⟩ = some (.string x.s) ∧ w'.cell? ⟨b, off + j * 4 + 3, none⟩ = some (.slice x.A x.zs.length x.cap)) (first | exact HX.out _ GJ.out | exact HX.out _ G3.out | exact HX.out _ G4.out | exact HX.out _ G5.out | exact HX.out _ G6.out | exact HX.out _ G7.out | go_keep)
                  (first
                    | (go_at_call 19; refine (K19.out (World.drew wr) S0.out).mono ?_; rintro _ w3 ⟨rfl, hs3, hg3⟩; have G3 := hid (Below.grown (Below.drew GJ.out) hg3 GJ.out.size hr.out); have S3 := hid hs3; clear hs3 hg3)
                    | (go_at_call 21; refine (K21.out w3 S3.out).mono ?_; rintro _ w4 ⟨rfl, hs3, hg3⟩; have G4 := hid (Below.grown G3.out hg3 G3.out.size hr.out); have S4 := hid hs3; clear hs3 hg3)
                    | (go_at_call 23; refine (K23.out w4 S4.out).mono ?_; rintro _ w5 ⟨rfl, hs3, hg3⟩; have G5 := hid (Below.grown G4.out hg3 G4.out.size hr.out); have S5 := hid hs3; clear hs3 hg3)
                    | (go_at_call 26; refine (K26.out w5 S5.out).mono ?_; rintro _ w6 ⟨v6, rfl, ho, hs3, hg3⟩; obtain ⟨A6, e6, rfl, hi6⟩ := ho.is; have G6 := hid (Below.grown G5.out hg3 G5.out.size hr.out); have S6 := hid hs3; have I6 := hid hi6; clear ho hi6 hs3 hg3)
                    | (go_at_call 25; refine (K25.out A6 e6 w6 I6.out (HI.out.below G6.out)).mono ?_; rintro _ w7 ⟨rfl, hbb⟩; have G7 := hid (below_step G6.out G6.out.size hbb); have S7 := hid (S6.out.keep hbb); clear hbb))
                all_goals
                  go_wp2_with fail
                  all_goals go_meet
                  all_goals exact ⟨rfl, S7.out, G7.out⟩
              case rest =>
                obtain ⟨rfl, hs4, hg4⟩ := hcut
                have S8 := hid hs4
                have G8 := hid hg4
                clear hs4 hg4 c0 c1' c2 c3
                go_wp2_with fail
                go_roundw
                case rel => exact ⟨j + 1, by omega, by go_num, by rw [← HL4.out]; exact S8.out, G8.out⟩
                case measure => simp [intOf]; omega
          · obtain rfl : j = us.length := by omega
            have hSE := SJ.out
            rw [List.drop_length] at hSE
            have SE := hid (show RS _ rb [] 0 from hSE)
            clear hSE
            have K32 : Hid (∀ w, RS w rb [] 0 → Calls Try.prog 32 #[.pointer (some ⟨rb, 0, none⟩)] w fun en w' => en = .returned (.int .i64 0) ∧ RS w' rb [] 0 ∧ w.grownBy w' (some rb)) := hid fun w h => rend_any rb [] 0 w h
            clear SJ
            go_wp2_with fail
            refine (left_any rb [] 0 _ SE.out).mono ?_
            rintro _ w9 ⟨rfl, rfl⟩
            go_wp2_with fail
            refine (K32.out _ SE.out).mono ?_
            rintro _ w9 ⟨rfl, hs6, hg6⟩
            have G9 := hid (Below.grown GJ.out hg6 GJ.out.size hr.out)
            clear hs6 hg6
            go_wp2_with fail
            all_goals go_returns
            all_goals exact ⟨by first | rfl | simp, G9.out⟩
end Go.Proofs.Ytanjgobcfgmpfaa
