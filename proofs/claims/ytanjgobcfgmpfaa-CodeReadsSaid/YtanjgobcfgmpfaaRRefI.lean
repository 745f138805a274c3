/- The document's reader R: Ints at any reader. Conditions: the bytes stand in memory below the reader, at most 10^7. -/
import Derived.Test.YtanjgobcfgmpfaaRRefX
import Derived.Test.YtanjgobcfgmpfaaRInts
namespace Go.Proofs.Ytanjgobcfgmpfaa
open Go Go.RowKit
theorem RR.growR {w w' : World} {B rb : Nat} {bs : List UInt8} {e : Int} {row : Option Nat} (h : RR w B rb bs e) (hg : w.grownBy w' row) (hk : ∀ k, row = some k → rb < k) : RR w' B rb bs e := by
  obtain ⟨A, cap, hR, hc, hb, hA, hBr⟩ := h
  exact ⟨A, cap, by rw [hg.block rb (lt_of hR) (fun e => by have := hk rb e.symm; omega), hR], hc, bts_low hb hA hg.size (fun j hj hl => hg.block j hl (fun h => by have := hk j h.symm; omega)), hA, hBr⟩
theorem RR.lt {w : World} {B rb : Nat} {bs : List UInt8} {e : Int} (h : RR w B rb bs e) : rb < w.heap.size := by
  obtain ⟨A, cap, hR, _⟩ := h
  exact lt_of hR
theorem OwnI.grownLow {w w' : World} {B rb : Nat} {v : Value} {zs : List Int} (h : OwnI w B v zs) (hrb : rb < B) (hg : w.grownBy w' (some rb)) : OwnI w' B v zs :=
  World.ownsRow.kept h hg (by
    cases hv : v.ownBlock with
    | none => exact .inl rfl
    | some k => refine .inr fun e => ?_
                have := own_base h k hv
                cases e
                omega)
set_option maxRecDepth 100000 in
set_option maxHeartbeats 2000000 in
theorem refints_any (B rb : Nat) (bs : List UInt8) (e most : Int) (w : World) (h : RR w B rb bs e) (hlen : bs.length ≤ 10000000) (hm : -9223372036854775808 ≤ most ∧ most ≤ 9223372036854775807) :
    Calls Try.prog 27 #[.pointer (some ⟨rb, 0, none⟩), .int .i64 most] w fun en w' => ∃ v, en = .returned v ∧ OwnI w' w.heap.size v (takeI (mostF most) bs e).1 ∧ RR w' B rb (takeI (mostF most) bs e).2.1 (takeI (mostF most) bs e).2.2 ∧ w.grownBy w' (some rb) := by
  have K := hid (refuint_any B rb bs e w h (by omega))
  have herr : (takeU bs e).2.2 ≠ 0 → (takeU bs e).1 = 0 := takeU_err
  have hll := takeU_len bs e
  have hlt := takeU_lt bs e
  have KF := hid (fun l c w (h : RR w B rb l 0) hc => rfail_ok B rb l c w h hc)
  have hrb := h.lt
  unfold takeI takeL
  clear h
  generalize takeU bs e = r at *
  obtain ⟨n, l, e1⟩ := r
  simp only at herr K hll hlt ⊢
  obtain ⟨i0, hi, hz0, hz1, hz2⟩ := info_parts Try.info3
  obtain ⟨m0, m1⟩ := hm
  have hn' : (n : Int) < 18446744073709551616 := by omega
  have hl' : (l.length : Int) ≤ 10000000 := by omega
  obtain ⟨m, hmm⟩ : ∃ m, m = mostF most := ⟨_, rfl⟩
  rw [← hmm]
  have hM : (most < 0 ∧ m = 0) ∨ (0 ≤ most ∧ most = (m : Int)) := by
    rw [hmm]
    unfold mostF
    split
    · exact .inl ⟨by assumption, rfl⟩
    · exact .inr ⟨by omega, by omega⟩
  clear hmm
  by_cases he : e1 = 0
  · subst he
    by_cases h1 : m < n
    · rw [if_pos h1]
      simp only [rowI]
      rcases hM with ⟨hM, rfl⟩ | ⟨hM, rfl⟩
      · have h2 : (0 : Int) < (n : Int) := by omega
        clear herr h1 hlt hll
        go_enter Try.func27, Try.ntmps27
        go_wp2_with fail
        refine K.out.mono ?_
        rintro _ w1 ⟨rfl, hs, hg⟩
        have KF1 := hid (KF.out l 11 w1 hs (by decide))
        have G1 := hid hg
        obtain ⟨A1, cap1, hR1, _, _, _, _⟩ := hs
        obtain ⟨d0, d1⟩ := two hR1
        clear hR1 hg
        go_upto_region 2 with fail
        clear m0 m1 hn' hl'
        go_wp2_with fail
        refine KF1.out.mono ?_
        rintro _ w2 ⟨rfl, hs, hg⟩
        have S2 := hid hs
        have G2 := hid (grown_trans G1.out hg)
        obtain ⟨A2, cap2, hR2, _, _, _, _⟩ := hs
        obtain ⟨x0, x1⟩ := two hR2
        clear hR2 hg d0 d1
        go_wp2_with fail
        go_loop [6, 7] (fun o i => o = .slice none 0 0 ∧ i = .int .u64 0) (fun _ _ => 0)
        case atStart => exact ⟨rfl, rfl⟩
        case round =>
          obtain ⟨rfl, rfl⟩ := hrel
          go_wp2_with fail
          all_goals go_returns
          all_goals exact ⟨_, rfl, World.ownsRow_nil _ _ _ _, S2.out, G2.out⟩
      · have h2 : (m : Int) < (n : Int) := by omega
        clear herr h1 hlt hll
        go_enter Try.func27, Try.ntmps27
        go_wp2_with fail
        refine K.out.mono ?_
        rintro _ w1 ⟨rfl, hs, hg⟩
        have KF1 := hid (KF.out l 11 w1 hs (by decide))
        have G1 := hid hg
        obtain ⟨A1, cap1, hR1, _, _, _, _⟩ := hs
        obtain ⟨d0, d1⟩ := two hR1
        clear hR1 hg
        go_upto_region 2 with fail
        clear m0 hn' hl'
        go_wp2_with fail
        refine KF1.out.mono ?_
        rintro _ w2 ⟨rfl, hs, hg⟩
        have S2 := hid hs
        have G2 := hid (grown_trans G1.out hg)
        obtain ⟨A2, cap2, hR2, _, _, _, _⟩ := hs
        obtain ⟨x0, x1⟩ := two hR2
        clear hR2 hg d0 d1
        go_wp2_with fail
        go_loop [6, 7] (fun o i => o = .slice none 0 0 ∧ i = .int .u64 0) (fun _ _ => 0)
        case atStart => exact ⟨rfl, rfl⟩
        case round =>
          obtain ⟨rfl, rfl⟩ := hrel
          go_wp2_with fail
          all_goals go_returns
          all_goals exact ⟨_, rfl, World.ownsRow_nil _ _ _ _, S2.out, G2.out⟩
    · rw [if_neg h1]
      have h2 : ¬ (m : Int) < (n : Int) := by omega
      simp only
      rcases hM with ⟨hM, rfl⟩ | ⟨hM, rfl⟩
      · obtain rfl : n = 0 := by omega
        simp only [rowI]
        clear herr h1 hlt hll h2
        go_enter Try.func27, Try.ntmps27
        go_wp2_with fail
        refine K.out.mono ?_
        rintro _ w1 ⟨rfl, hs, hg⟩
        have S1 := hid hs
        have G1 := hid hg
        obtain ⟨A1, cap1, hR1, _, _, _, _⟩ := hs
        obtain ⟨d0, d1⟩ := two hR1
        clear hR1 hg
        go_upto_region 2 with fail
        clear m0 m1 hn' hl'
        go_wp2_with fail
        go_loop [6, 7] (fun o i => o = .slice none 0 0 ∧ i = .int .u64 0) (fun _ _ => 0)
        case atStart => exact ⟨rfl, rfl⟩
        case round =>
          obtain ⟨rfl, rfl⟩ := hrel
          go_wp2_with fail
          all_goals go_returns
          all_goals exact ⟨_, rfl, World.ownsRow_nil _ _ _ _, S1.out, G1.out⟩
      · clear herr h1 hlt hll
        obtain ⟨q1, q2, q3, hq⟩ : ∃ a b c, rowI [] n l 0 = (a, b, c) := ⟨_, _, _, rfl⟩
        rw [hq]
        have HQ := hid hq
        have hn63 : (n : Int) ≤ 9223372036854775807 := by omega
        clear hq
        go_enter Try.func27, Try.ntmps27
        go_wp2_with fail
        refine K.out.mono ?_
        rintro _ w1 ⟨rfl, hs, hg⟩
        have S1 := hid hs
        have G1 := hid hg
        have hsz := hid hg.size
        obtain ⟨A1, cap1, hR1, _, _, _, _⟩ := hs
        obtain ⟨d0, d1⟩ := two hR1
        clear hR1 hg
        go_upto_region 2 with fail
        clear m0 hn'
        go_wp2_with fail
        clear d0 d1 h2
        rename (¬ m < n) => hx
        clear hx
        go_loopw [6, 7] (fun o i wr => ∃ (k : Nat) (xs : List Int) (ls : List UInt8) (es : Int), k ≤ n ∧ i = .int .u64 k ∧ (es = 0 → xs.length + ls.length ≤ l.length) ∧ OwnI wr w.heap.size o xs ∧ RR wr B rb ls es ∧ w.grownBy wr (some rb) ∧ Hid ((if es = 0 then rowI xs (n - k) ls 0 else ([], ls, es)) = (q1, q2, q3)) ∧ w.heap.size ≤ wr.heap.size) (fun _ i _ => n - (intOf i).toNat)
        case atStart => exact ⟨0, [], l, 0, Nat.zero_le _, rfl, fun _ => by simp, World.ownsRow_nil _ _ _ _, S1.out, G1.out, hid (by rw [if_pos rfl]; exact HQ.out), hsz.out⟩
        case round =>
          obtain ⟨k, xs, ls, es, hk, rfl, hle, ho, hs, hg, hq, hw1⟩ := hrel
          have HO := hid ho
          have HS := hid hs
          have HG := hid hg
          clear S1 G1 HQ ho hg
          obtain ⟨A2, cap2, hR2, _, _, _, _⟩ := hs
          obtain ⟨c0, c1⟩ := two hR2
          clear hR2
          by_cases h0 : es = 0
          · subst h0
            have hle := hle rfl
            have hq2 := hq.out
            rw [if_pos rfl] at hq2
            clear hq
            by_cases hlt : k < n
            · have hlt' : (k : Int) < (n : Int) := by omega
              obtain ⟨j, hj⟩ : ∃ j, n - k = j + 1 := ⟨n - k - 1, by omega⟩
              have hj2 : n - (k + 1) = j := by omega
              rw [hj, rowI] at hq2
              have KI := hid (refint_any B rb ls 0 wr HS.out (by omega))
              have hless := takeU_less (bs := ls) (e := 0)
              generalize takeU ls 0 = t at *
              obtain ⟨m, ls', es'⟩ := t
              simp only at hq2 KI hless
              generalize unfoldF m = z at *
              have HQ2 := hid (show (if es' = 0 then rowI (xs ++ [z]) (n - (k + 1)) ls' 0 else ([], ls', es')) = (q1, q2, q3) from by
                rw [hj2]
                by_cases he : es' = 0
                · subst he; rw [if_pos rfl] at hq2 ⊢; exact hq2
                · rw [if_neg he] at hq2 ⊢; exact hq2)
              have HL2 := hid (show es' = 0 → (xs ++ [z]).length + ls'.length ≤ l.length from fun he => by have := hless he; simp; omega)
              clear hq2 hless
              go_wp2_with fail
              refine KI.out.mono ?_
              rintro _ w3 ⟨rfl, hs, hg⟩
              have O3 := hid (HO.out.grownLow hrb hg)
              have S3 := hid hs
              have G3 := hid (grown_trans HG.out hg)
              have hsz3 := hid (Nat.le_trans hw1 hg.size)
              have hown : w3.ownsRow w.heap.size 3 1 _ xs.length (xs.map (Value.int .i64)) := O3.out
              clear hs hg HO KI c0 c1
              go_wp2_with (at_builtin; refine wpList_append_own _ rfl _ _ 24 rfl w.heap.size 3 i0 (.int .i64 0) 1 8 Try.underlying24 hi hz0 hz1 hz2 rfl (by decide) _ _ _ rfl (hown.alloc _) ⟨w3.heap.size, 0, none⟩ 1 1 [.int .i64 z] rfl rfl ?c1 ?c2 ?c3 ?c4 ?c5 ?_)
              case c1 =>
                intro j u hj
                match j, hj with
                | 0, hj => simp at hj; subst hj; rw [add_off, cell_of (heap_new _ _)]; rfl
              case c2 => first | rfl | (intro u hu; obtain rfl := List.mem_singleton.1 hu; rfl)
              case c3 => unfold maxLen; omega
              case c4 => omega
              case c5 => have := hsz3.out; simp; omega
              · intro v' w4 hown2 hgrow _
                have hk5 := own_base hown
                have S4 := hid (RR.growR (S3.out.keep (show Below w3.heap.size w3 (w3.alloc (.cells #[.int .i64 z] 3)) from by go_grown)) hgrow (fun k hk => by have := hk5 k hk; omega))
                have G4 := hid (grown_own (grown_trans G3.out (World.grownBy_alloc w3 (.cells #[.int .i64 z] 3) (some rb))) hgrow fun k hk => hk5 k hk)
                have hsz4 := hid (Nat.le_trans (Nat.le_trans hsz3.out (World.grownBy_alloc w3 (.cells #[.int .i64 z] 3) none).size) hgrow.size)
                have O4 := hid (show OwnI w4 w.heap.size v' (xs ++ [z]) from by simpa [OwnI] using hown2)
                clear hown2 hgrow hown hk5 O3 S3 G3 hsz3
                go_wp2_with fail

                go_roundw
                case rel => exact ⟨k + 1, xs ++ [z], ls', es', by omega, by go_num, HL2.out, O4.out, S4.out, G4.out, HQ2, hsz4.out⟩
                case measure => simp [intOf]; omega
            · obtain rfl : k = n := by omega
              rw [Nat.sub_self, rowI] at hq2
              simp only [Prod.mk.injEq] at hq2
              obtain ⟨rfl, rfl, rfl⟩ := hq2
              go_wp2_with fail
              all_goals go_returns
              all_goals exact ⟨_, rfl, HO.out, HS.out, HG.out⟩
          · have hq2 := hq.out
            rw [if_neg h0] at hq2
            simp only [Prod.mk.injEq] at hq2
            obtain ⟨rfl, rfl, rfl⟩ := hq2
            have n1 : (es == 0) = false := by simp [h0]
            have n2 : (es != 0) = true := by simp [h0]
            clear hq h0 hle
            by_cases hlt : (k : Int) < (n : Int)
            all_goals
              go_wp2_with fail
              all_goals go_returns
              all_goals exact ⟨_, rfl, World.ownsRow_nil _ _ _ _, HS.out, HG.out⟩
  · have h0 : n = 0 := herr he
    subst h0
    have n1 : (e1 == 0) = false := by simp [he]
    have n2 : (e1 != 0) = true := by simp [he]
    simp only [Nat.not_lt_zero, if_false, rowI]
    clear herr hM
    go_enter Try.func27, Try.ntmps27
    go_wp2_with fail
    refine K.out.mono ?_
    rintro _ w1 ⟨rfl, hs, hg⟩
    have S1 := hid hs
    have G1 := hid hg
    obtain ⟨A1, cap1, hR1, _, _, _, _⟩ := hs
    obtain ⟨d0, d1⟩ := two hR1
    clear hR1 hg m0 m1 hn' hl'
    go_wp2_with fail
    go_loop [6, 7] (fun o i => o = .slice none 0 0 ∧ i = .int .u64 0) (fun _ _ => 0)
    case atStart => exact ⟨rfl, rfl⟩
    case round =>
      obtain ⟨rfl, rfl⟩ := hrel
      go_wp2_with fail
      all_goals go_returns
      all_goals exact ⟨_, rfl, World.ownsRow_nil _ _ _ _, S1.out, G1.out⟩
end Go.Proofs.Ytanjgobcfgmpfaa
