/- The Go function FrameTurned, called with any arguments, returns true and leaves all that was there. Condition: the table stands as the rows list it. -/
import Derived.Test.YtaipjbljmkickaaDoorTurn
import Derived.Deep.DeepCutAuto
namespace Go.Proofs.YtaipjbljmkickaaDoor
open Go Go.ChangeShapes Go.WideShapes Go.RowKit
theorem wf_i64 {n : Int} (h : (Lit.int .i64 n).wf = true) : -9223372036854775808 ≤ n ∧ n ≤ 9223372036854775807 := by
  simpa [Lit.wf, IntKind.min, IntKind.max, IntKind.signed, IntKind.bits] using h
set_option maxRecDepth 10000 in
set_option maxHeartbeats 2000000 in
theorem frameTurned_walk {H : Type} {enc : TypeId × Value → H} (W : World) (base : Nat) (args : Array Value) (ds : List (DataW H))
    (hval : ∀ (j : Nat) t v, Tryd.f7.params[j]? = some t → args[j]? = some v → Value.okWide Tryd.prog W .any base t v)
    (hA : ∃ p, DataW.TrodAll enc Tryd.prog W 0 (fun _ => true) true Tryd.f7.params.toList args.toList ds p) 
    (_ : (DataW.weightsEach Tryd.prog (Tryd.f7.params.toList ++ (OpenSpec.ofChange Rows.frameTurnedSpec).bare.plain.varTypes Tryd.prog) (ds ++ [])).all (· ≤ reachBytes) = true)
    (hL : laidMetH Tryd.prog Rows.frameTurnedRow.laid W) (_ : W.ShapedOpen Tryd.prog) :
    Calls Tryd.prog 7 args W fun e W' => e = .returned (.bool true) ∧ Below W.heap.size W W' := by
  obtain ⟨p, hA⟩ := hA
  rw [Tryd.params7] at hA hval
  obtain ⟨v0, v1, v2, d0, d1, d2, p0, p1, p2, hargs, rfl, rfl, h0, h1, h2⟩ := trodAll_three hA
  subst hargs
  obtain ⟨A, cap, bs, rfl, hb, hcap, hl63, hnil⟩ := bytes_is (hval 0 22 v0 rfl rfl) h0
  obtain ⟨a, rfl, _, _, wa⟩ := open_int Tryd.underlying3 (hval 1 3 v1 rfl rfl) h1
  obtain ⟨t, rfl, _, _, wt⟩ := open_int Tryd.underlying5 (hval 2 5 v2 rfl rfl) h2
  have wa' := wf_i64 wa
  have wt' := wf_u8 wt
  clear h0 h1 h2 hval hA wa wt
  have hT := tab_of hL
  have HT := hid hT
  have HB := hid hb
  have hl1 : (bs.length : Int) ≤ 9223372036854775807 := by omega
  clear hT hb
  by_cases hlen : 2000 < bs.length
  · have hlen' : (2000 : Int) < (bs.length : Int) := by omega
    go_enter Tryd.func7, Tryd.ntmps7
    go_wp2_with fail
    refine (awake_any _ HT.out).mono ?_
    rintro _ w1 ⟨rfl, hbb⟩
    have g1 := hid hbb
    clear hbb
    go_wp2_with fail
    all_goals go_returns
    all_goals exact ⟨rfl, g1.out⟩
  · have hlen' : ¬ (2000 : Int) < (bs.length : Int) := by omega
    have K10 := hid (fun w (h : Below W.heap.size W w) => frame_any A cap bs w ⟨HB.out.keep h, hcap, hnil⟩ (tab_below HT.out h) (by omega))
    obtain ⟨F, hF⟩ : ∃ F, F = frameB bs := ⟨_, rfl⟩
    have hFl : F.length = bs.length + 8 := by rw [hF, frameB_len]
    obtain ⟨a0, ha0, hneg⟩ : ∃ a0 : Nat, (a0 : Int) ≤ 9223372036854775807 ∧ ((a < 0 ∧ -(a + 1) = (a0 : Int)) ∨ (¬ a < 0 ∧ a = (a0 : Int))) := by
      by_cases h : a < 0
      · exact ⟨(-(a + 1)).toNat, by omega, .inl ⟨h, by omega⟩⟩
      · exact ⟨a.toNat, by omega, .inr ⟨h, by omega⟩⟩
    obtain ⟨k, hk⟩ : ∃ k, k = a0 % (bs.length + 8) := ⟨_, rfl⟩
    have hkl : k < bs.length + 8 := by rw [hk]; exact Nat.mod_lt _ (by omega)
    have hkm : (a0 : Int) % ((bs.length : Int) + 8) = (k : Int) := by rw [hk]; push_cast; rfl
    have hcut := hid (show (nextS (F.take k)).1 = 10 by rw [hF]; exact nextS_cut bs k (by omega) hkl)
    have hturn := hid (fun (k : Nat) (y z : UInt8) (h4 : 4 ≤ k) (hz : F[k]? = some z) (hy : y ≠ z) => show (nextS (F.set k y)).1 = 20 by rw [hF] at hz ⊢; exact nextS_turned bs k y z (by omega) h4 hz hy)
    rw [← hF] at K10
    clear HB hnil hcap hk hF
    rcases hneg with ⟨hn, hn2⟩ | ⟨hn, rfl⟩
    · go_enter Tryd.func7, Tryd.ntmps7
      go_wp2_with fail
      refine (awake_any _ HT.out).mono ?_
      rintro _ w1 ⟨rfl, hbb⟩
      have g1 := hid hbb
      clear hbb
      go_wp2_with fail
      refine (K10.out w1 g1.out).mono ?_
      rintro _ w2 ⟨v2, rfl, ho2, hbb⟩
      have g2 := hid (below_step g1.out g1.out.size hbb)
      have O2 := hid ho2
      clear ho2 hbb
      obtain ⟨A2, c2, rfl, hb2, hc2, _⟩ := O2.out.is
      rw [hFl] at hc2 ⊢
      have hc2' : (bs.length : Int) + 8 ≤ (c2 : Int) := by omega
      have KN := hid (next_no A2 c2 10 (F.take k) w2 (bts_take k hb2) (by simp; omega) (tab_below HT.out g2.out) (by simp; omega) hcut.out (by decide))
      rw [List.length_take, hFl, Nat.min_eq_left (by omega)] at KN
      obtain ⟨g, rfl⟩ : ∃ g, A2 = some ⟨g, 0, none⟩ := by
        obtain ⟨g, rfl, _⟩ := own_at2 O2.out rfl 0 (by omega)
        exact ⟨g, rfl⟩
      clear hb2
      have L8 : ¬ ((bs.length + 8 : Nat) : Int) < 8 := by omega
      have e8 : ((bs.length + 8 : Nat) : Int) = (bs.length : Int) + 8 := by omega
      go_wp2_with fail
      refine KN.out.mono ?_
      rintro _ w3 ⟨rfl, hbb⟩
      have g3 := hid (below_step g2.out g2.out.size hbb)
      have O3 := hid (O2.out.keep hbb)
      clear hbb O2 KN
      by_cases hk4 : k < 4
      · have hk4' : (k : Int) < 4 := by omega
        obtain ⟨_, hg, z, hz, cz, fz⟩ := own_at2 O3.out rfl (k + 4) (by omega)
        cases hg
        have HZ := hid hz
        unfold bv at cz
        have hb8 : (t % 8).toNat < 8 := by omega
        obtain ⟨y, hyz, ev⟩ := xor_bit z (t % 8).toNat hb8
        have EV := hid ev
        clear hz hb8 ev
        go_wp2_with fail
        rw [EV.out]
        have O4 := own_set_same (k + 4) y O3.out
        have g4 := hid (show Below W.heap.size W (w3.setCell ⟨g, k + 4, none⟩ (bv y)) from g3.out.setCell (p := ⟨g, k + 4, none⟩) (Nat.le_trans g1.out.size (own_base O3.out g rfl)) _)
        obtain ⟨_, _, he, hb5, hc5, _⟩ := O4.is
        simp only [Value.slice.injEq] at he
        obtain ⟨rfl, _, rfl⟩ := he
        have KM := hid (next_no _ c2 20 (F.set (k + 4) y) _ hb5 hc5 (tab_below HT.out g4.out) (by simp; omega) (hturn.out (k + 4) y z (by omega) HZ.out hyz) (by decide))
        rw [List.length_set, hFl] at KM
        clear O4 hb5 hc5
        refine KM.out.mono ?_
        rintro _ w5 ⟨rfl, hbb⟩
        have g5 := hid (below_step g4.out g4.out.size hbb)
        clear hbb KM
        go_wp2_with fail
        all_goals go_returns
        all_goals exact ⟨by first | rfl | simp, g5.out⟩
      · have hk4' : ¬ (k : Int) < 4 := by omega
        obtain ⟨_, hg, z, hz, cz, fz⟩ := own_at2 O3.out rfl (k) (by omega)
        cases hg
        have HZ := hid hz
        unfold bv at cz
        have hb8 : (t % 8).toNat < 8 := by omega
        obtain ⟨y, hyz, ev⟩ := xor_bit z (t % 8).toNat hb8
        have EV := hid ev
        clear hz hb8 ev
        go_wp2_with fail
        rw [EV.out]
        have O4 := own_set_same (k) y O3.out
        have g4 := hid (show Below W.heap.size W (w3.setCell ⟨g, k, none⟩ (bv y)) from g3.out.setCell (p := ⟨g, k, none⟩) (Nat.le_trans g1.out.size (own_base O3.out g rfl)) _)
        obtain ⟨_, _, he, hb5, hc5, _⟩ := O4.is
        simp only [Value.slice.injEq] at he
        obtain ⟨rfl, _, rfl⟩ := he
        have KM := hid (next_no _ c2 20 (F.set (k) y) _ hb5 hc5 (tab_below HT.out g4.out) (by simp; omega) (hturn.out (k) y z (by omega) HZ.out hyz) (by decide))
        rw [List.length_set, hFl] at KM
        clear O4 hb5 hc5
        refine KM.out.mono ?_
        rintro _ w5 ⟨rfl, hbb⟩
        have g5 := hid (below_step g4.out g4.out.size hbb)
        clear hbb KM
        go_wp2_with fail
        all_goals go_returns
        all_goals exact ⟨by first | rfl | simp, g5.out⟩
    · go_enter Tryd.func7, Tryd.ntmps7
      go_wp2_with fail
      refine (awake_any _ HT.out).mono ?_
      rintro _ w1 ⟨rfl, hbb⟩
      have g1 := hid hbb
      clear hbb
      go_wp2_with fail
      refine (K10.out w1 g1.out).mono ?_
      rintro _ w2 ⟨v2, rfl, ho2, hbb⟩
      have g2 := hid (below_step g1.out g1.out.size hbb)
      have O2 := hid ho2
      clear ho2 hbb
      obtain ⟨A2, c2, rfl, hb2, hc2, _⟩ := O2.out.is
      rw [hFl] at hc2 ⊢
      have hc2' : (bs.length : Int) + 8 ≤ (c2 : Int) := by omega
      have KN := hid (next_no A2 c2 10 (F.take k) w2 (bts_take k hb2) (by simp; omega) (tab_below HT.out g2.out) (by simp; omega) hcut.out (by decide))
      rw [List.length_take, hFl, Nat.min_eq_left (by omega)] at KN
      obtain ⟨g, rfl⟩ : ∃ g, A2 = some ⟨g, 0, none⟩ := by
        obtain ⟨g, rfl, _⟩ := own_at2 O2.out rfl 0 (by omega)
        exact ⟨g, rfl⟩
      clear hb2
      have L8 : ¬ ((bs.length + 8 : Nat) : Int) < 8 := by omega
      have e8 : ((bs.length + 8 : Nat) : Int) = (bs.length : Int) + 8 := by omega
      go_wp2_with fail
      refine KN.out.mono ?_
      rintro _ w3 ⟨rfl, hbb⟩
      have g3 := hid (below_step g2.out g2.out.size hbb)
      have O3 := hid (O2.out.keep hbb)
      clear hbb O2 KN
      by_cases hk4 : k < 4
      · have hk4' : (k : Int) < 4 := by omega
        obtain ⟨_, hg, z, hz, cz, fz⟩ := own_at2 O3.out rfl (k + 4) (by omega)
        cases hg
        have HZ := hid hz
        unfold bv at cz
        have hb8 : (t % 8).toNat < 8 := by omega
        obtain ⟨y, hyz, ev⟩ := xor_bit z (t % 8).toNat hb8
        have EV := hid ev
        clear hz hb8 ev
        go_wp2_with fail
        rw [EV.out]
        have O4 := own_set_same (k + 4) y O3.out
        have g4 := hid (show Below W.heap.size W (w3.setCell ⟨g, k + 4, none⟩ (bv y)) from g3.out.setCell (p := ⟨g, k + 4, none⟩) (Nat.le_trans g1.out.size (own_base O3.out g rfl)) _)
        obtain ⟨_, _, he, hb5, hc5, _⟩ := O4.is
        simp only [Value.slice.injEq] at he
        obtain ⟨rfl, _, rfl⟩ := he
        have KM := hid (next_no _ c2 20 (F.set (k + 4) y) _ hb5 hc5 (tab_below HT.out g4.out) (by simp; omega) (hturn.out (k + 4) y z (by omega) HZ.out hyz) (by decide))
        rw [List.length_set, hFl] at KM
        clear O4 hb5 hc5
        refine KM.out.mono ?_
        rintro _ w5 ⟨rfl, hbb⟩
        have g5 := hid (below_step g4.out g4.out.size hbb)
        clear hbb KM
        go_wp2_with fail
        all_goals go_returns
        all_goals exact ⟨by first | rfl | simp, g5.out⟩
      · have hk4' : ¬ (k : Int) < 4 := by omega
        obtain ⟨_, hg, z, hz, cz, fz⟩ := own_at2 O3.out rfl (k) (by omega)
        cases hg
        have HZ := hid hz
        unfold bv at cz
        have hb8 : (t % 8).toNat < 8 := by omega
        obtain ⟨y, hyz, ev⟩ := xor_bit z (t % 8).toNat hb8
        have EV := hid ev
        clear hz hb8 ev
        go_wp2_with fail
        rw [EV.out]
        have O4 := own_set_same (k) y O3.out
        have g4 := hid (show Below W.heap.size W (w3.setCell ⟨g, k, none⟩ (bv y)) from g3.out.setCell (p := ⟨g, k, none⟩) (Nat.le_trans g1.out.size (own_base O3.out g rfl)) _)
        obtain ⟨_, _, he, hb5, hc5, _⟩ := O4.is
        simp only [Value.slice.injEq] at he
        obtain ⟨rfl, _, rfl⟩ := he
        have KM := hid (next_no _ c2 20 (F.set (k) y) _ hb5 hc5 (tab_below HT.out g4.out) (by simp; omega) (hturn.out (k) y z (by omega) HZ.out hyz) (by decide))
        rw [List.length_set, hFl] at KM
        clear O4 hb5 hc5
        refine KM.out.mono ?_
        rintro _ w5 ⟨rfl, hbb⟩
        have g5 := hid (below_step g4.out g4.out.size hbb)
        clear hbb KM
        go_wp2_with fail
        all_goals go_returns
        all_goals exact ⟨by first | rfl | simp, g5.out⟩
end Go.Proofs.YtaipjbljmkickaaDoor
