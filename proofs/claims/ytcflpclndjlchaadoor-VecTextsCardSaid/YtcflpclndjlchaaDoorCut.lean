/- The reference's Cut, called at any text of at most 1000 bytes: its pieces. Condition: the length. -/
import Derived.Test.YtcflpclndjlchaaDoorCutMath
import Derived.OwnWalk
import Derived.Laws.AppendOwn
namespace Go.Proofs.YtcflpclndjlchaaDoor
open Go Go.RowKit
theorem Tryd.info9 : (Tryd.prog.info? 9).map (fun i => (i.zero, i.size, i.bytes)) = some (some (.string ByteArray.empty), 1, 16) := by kernel_rfl
theorem own_base {w : World} {base : Nat} {e : TypeId} {size : Nat} {v : Value} {n : Nat} {xs : List Value} (h : w.ownsRow base e size v n xs) : ∀ k, v.ownBlock = some k → base ≤ k := by
  intro k hk
  obtain ⟨_, ⟨rfl, _⟩ | ⟨g, cap, cur, rfl, hb, _⟩⟩ := h
  · cases hk
  · obtain rfl : g = k := by simpa [Value.ownBlock] using hk
    exact hb
set_option maxHeartbeats 2000000 in
theorem cut_any (s : ByteArray) (w : World) (hs : s.size ≤ 1000) :
    Calls Tryd.prog 36 #[.string s, .int .u8 44] w fun e w' => ∃ v, e = .returned v ∧ w'.ownsRow w.heap.size 9 1 v (cutF s).length ((cutF s).map Value.string) ∧ Below w.heap.size w w' := by
  obtain ⟨i0, hi, hz0, hz1, hz2⟩ := info_parts Tryd.info9
  have HB := hid (byte_is s)
  go_enter Tryd.func36, Tryd.ntmps36
  go_wp2_with fail
  go_loopw [5, 6, 7] (fun v f i wr => ∃ k : Nat, k ≤ s.size ∧ i = .int .i64 k ∧ f = .int .i64 ((cs s k).2 : Nat) ∧ wr.ownsRow w.heap.size 9 1 v (cs s k).1.length ((cs s k).1.map Value.string) ∧ Below w.heap.size w wr) (fun _ _ i _ => s.size - (intOf i).toNat)
  case atStart => exact ⟨0, Nat.zero_le _, rfl, rfl, World.ownsRow_nil _ _ _ _, Below.refl _ _⟩
  case round =>
    obtain ⟨k, hk, rfl, rfl, hown, hg⟩ := hrel
    obtain ⟨c0, c1⟩ := cs_le s k
    have HG := hid hg
    clear hg
    have zs : (s.size : Int) ≤ 1000 := by omega
    by_cases hlt : k < s.size
    · have hlt' : (k : Int) < (s.size : Int) := by omega
      have bk := HB.out k hlt
      by_cases h44 : byteAt s k = 44
      · have hs' := hid (show cs s (k + 1) = ((cs s k).1 ++ [s.extract (cs s k).2 k], k + 1) by rw [cs, if_pos h44])
        rw [h44] at bk
        generalize cs s k = p at *
        have c2 : (p.2 : Int) ≤ (k : Int) := by omega
        go_wp2_with (at_builtin; refine wpList_append_own _ rfl _ _ 41 rfl w.heap.size 9 i0 (.string ByteArray.empty) 1 16 Tryd.underlying41 hi hz0 hz1 hz2 rfl (by decide) _ _ _ rfl (hown.alloc _) ⟨wr.heap.size, 0, none⟩ 1 1 [.string (s.extract p.2 k)] rfl rfl ?c1 ?c2 ?c3 ?c4 ?c5 ?_)
        case c1 =>
          intro j u hj
          match j, hj with
          | 0, hj => simp at hj; subst hj; simp [Addr.add]
        case c2 => intro u hu; simp at hu; subst hu; rfl
        case c3 => unfold maxLen; omega
        case c4 => omega
        case c5 => have := HG.out.size; simp; omega
        · intro v' w1 hown' hgrow _
          have hb := own_base hown
          have G1 := hid (Below.grown (HG.out.alloc HG.out.size _) hgrow (by have := HG.out.size; simp; omega) hb)
          have O1 := hid (show w1.ownsRow w.heap.size 9 1 v' (cs s (k + 1)).1.length ((cs s (k + 1)).1.map Value.string) from by rw [hs'.out]; simpa using hown')
          clear hown' hgrow hown hb
          go_wp2_with fail
          go_roundw
          case rel => exact ⟨k + 1, by omega, by go_num, by rw [hs'.out]; first | rfl | go_num, O1.out, G1.out⟩
          case measure => simp [intOf]; omega
      · have hs' := hid (show cs s (k + 1) = cs s k by rw [cs, if_neg h44])
        have h45 : ((byteAt s k : Int) == 44) = false := by simp; omega
        have O1 := hid hown
        clear hown
        go_wp2_with fail
        go_roundw
        case rel => exact ⟨k + 1, by omega, by go_num, by rw [hs'.out], by rw [hs'.out]; exact O1.out, HG.out⟩
        case measure => simp [intOf]; omega
    · obtain rfl : k = s.size := by omega
      have hF := hid (show cutF s = (cs s s.size).1 ++ [s.extract (cs s s.size).2 s.size] from rfl)
      generalize cs s s.size = p at *
      have c2 : (p.2 : Int) ≤ (s.size : Int) := by omega
      go_wp2_with (at_builtin; refine wpList_append_own _ rfl _ _ 41 rfl w.heap.size 9 i0 (.string ByteArray.empty) 1 16 Tryd.underlying41 hi hz0 hz1 hz2 rfl (by decide) _ _ _ rfl (hown.alloc _) ⟨wr.heap.size, 0, none⟩ 1 1 [.string (s.extract p.2 s.size)] rfl rfl ?d1 ?d2 ?d3 ?d4 ?d5 ?_)
      case d1 =>
        intro j u hj
        match j, hj with
        | 0, hj => simp at hj; subst hj; simp [Addr.add]
      case d2 => intro u hu; simp at hu; subst hu; rfl
      case d3 => unfold maxLen; omega
      case d4 => omega
      case d5 => have := HG.out.size; simp; omega
      · intro v' w1 hown' hgrow _
        have hb := own_base hown
        have G1 := hid (Below.grown (HG.out.alloc HG.out.size _) hgrow (by have := HG.out.size; simp; omega) hb)
        have O1 := hid (show w1.ownsRow w.heap.size 9 1 v' (cutF s).length ((cutF s).map Value.string) from by rw [hF.out]; simpa using hown')
        clear hown' hgrow hown hb
        go_wp2_with fail
        all_goals go_returns
        all_goals exact ⟨_, rfl, O1.out, G1.out⟩
end Go.Proofs.YtcflpclndjlchaaDoor
