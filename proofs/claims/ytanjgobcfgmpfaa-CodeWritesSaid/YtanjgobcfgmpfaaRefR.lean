/- The reference's Ints, called at any row. Conditions: the row stands in memory, at most 10^6 numbers. -/
import Derived.Test.YtanjgobcfgmpfaaRef
namespace Go.Proofs.Ytanjgobcfgmpfaa
open Go Go.RowKit
set_option maxHeartbeats 2000000 in
theorem refR_any (C : Option Addr) (cap2 : Nat) (zs : List Int) (w : World) (hz : Its w C zs) (hr : ∀ z ∈ zs, -9223372036854775808 ≤ z ∧ z ≤ 9223372036854775807) (hzl : zs.length ≤ 1000000) :
    Calls Try.prog 17 #[.slice C zs.length cap2] w fun e w' => ∃ v, e = .returned v ∧ Own w' w.heap.size v (encU zs.length ++ encR zs) ∧ Below w.heap.size w w' := by
  have K := hid (refU_any zs.length w (by omega))
  have h1 : (zs.length : Int) ≤ 1000000 := by omega
  have h2 := encU_ten (n := zs.length) (by omega)
  have HZ := hid hz
  have HR := hid hr
  obtain ⟨i0, hi, hz0, hz1, hz2⟩ := info_parts Try.info5
  clear hz hr
  generalize encU zs.length = E0 at *
  go_enter Try.func17, Try.ntmps17
  go_wp2_with fail
  refine K.out.mono ?_
  rintro _ w1 ⟨v, rfl, ho, hbb⟩
  have O2 := hid ho
  have G2 := hid hbb
  clear ho hbb K
  go_wp2_with fail
  go_loopw [3, 4] (fun o i wr => ∃ k : Nat, k ≤ zs.length ∧ i = .int .i64 k ∧ Own wr w.heap.size o (E0 ++ encR (zs.take k)) ∧ Below w.heap.size w wr) (fun _ i _ => zs.length - (intOf i).toNat)
  case atStart => exact ⟨0, Nat.zero_le _, rfl, by simpa [encR] using O2.out, G2.out⟩
  case round =>
    obtain ⟨k, hk, rfl, ho, hg⟩ := hrel
    have HO := hid ho
    have HG := hid hg
    clear ho hg O2 G2
    by_cases hlt : k < zs.length
    · have hlt' : (k : Int) < (zs.length : Int) := by omega
      have hzk := HR.out zs[k] (List.getElem_mem hlt)
      obtain ⟨P, hP⟩ : ∃ P, P = E0 ++ encR (zs.take k) := ⟨_, rfl⟩
      have hl : P.length ≤ 10000010 := by
        have h3 := encR_len (zs.take k) fun z hz => HR.out z (List.mem_of_mem_take hz)
        have h4 : (zs.take k).length ≤ zs.length := by simp; omega
        rw [hP]
        simp only [List.length_append]
        omega
      have htk := hid (show E0 ++ encR (zs.take (k + 1)) = P ++ encU (foldF zs[k]) from by rw [List.take_succ_eq_append_getElem hlt, encR_snoc, hP, List.append_assoc])
      rw [← hP] at HO
      clear hP
      rcases HZ.out with rfl | ⟨b, off, rfl, hbl, hc⟩
      · simp at hlt
      · have hx : wr.cell? ⟨b, off + k, none⟩ = some (.int .i64 zs[k]) := by
          rw [HG.out.cell (p := ⟨b, off + k, none⟩) hbl]
          exact hc k zs[k] (List.getElem?_eq_getElem hlt)
        have KF := hid (fun w => refI_any zs[k] w hzk)
        have h5 := encU_ten (foldF_lt hzk)
        have h6 := encU_pos (foldF zs[k])
        generalize encU (foldF zs[k]) = E at *
        generalize zs[k] = z at *
        clear hc
        go_wp2_with fail
        refine (KF.out _).mono ?_
        rintro _ w3 ⟨v, rfl, ho, hbb⟩
        obtain ⟨A1, cap1, rfl, hb1, _⟩ := ho.is
        have O3 : w3.ownsRow w.heap.size 5 1 _ P.length (P.map bv) := HO.out.keep hbb
        have G3 := hid (below_step HG.out HG.out.size hbb)
        rcases hb1 with rfl | ⟨b1, off1, rfl, hbl1, hc1⟩
        · simp at h6
        · have HC := hid (show ∀ (j : Nat) u, (E.map bv)[j]? = some u → w3.cell? ((⟨b1, off1, none⟩ : Addr).add j) = some u from fun j u hj => by
            rw [List.getElem?_map] at hj
            obtain ⟨y, hy, rfl⟩ := Option.map_eq_some_iff.1 hj
            rw [add_off]
            exact hc1 j y hy)
          clear hc1 ho hbb KF HO
          go_wp2_with (at_builtin; refine wpList_append_own _ rfl _ _ 22 rfl w.heap.size 5 i0 (.int .u8 0) 1 1 Try.underlying22 hi hz0 hz1 hz2 rfl (by decide) _ _ _ rfl O3 ⟨b1, off1, none⟩ E.length cap1 (E.map bv) rfl (by simp) HC.out ?c2 ?c3 ?c4 ?c5 ?_)
          case c2 =>
            intro u hu
            obtain ⟨y, _, rfl⟩ := List.mem_map.1 hu
            rfl
          case c3 => unfold maxLen; omega
          case c4 => omega
          case c5 => exact G3.out.size
          · intro v' w4 hown2 hgrow _
            have hb := own_base O3
            have G4 := hid (Below.grown G3.out hgrow G3.out.size hb)
            have O4 := hid (show Own w4 w.heap.size v' (P ++ E) from by simpa [Own] using hown2)
            clear hown2 hgrow O3 hb
            go_wp2_with fail
            go_roundw
            case rel => exact ⟨k + 1, by omega, by go_num, by rw [htk.out]; exact O4.out, G4.out⟩
            case measure => simp [intOf]; omega
    · obtain rfl : k = zs.length := by omega
      have O5 := HO.out
      rw [List.take_length] at O5
      have HO5 := hid O5
      clear O5 HO
      go_wp2_with fail
      all_goals go_returns
      all_goals exact ⟨_, rfl, HO5.out, HG.out⟩
end Go.Proofs.Ytanjgobcfgmpfaa
