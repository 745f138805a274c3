/- The Go function LeaseKeeps, called with any arguments, returns true and leaves all that was there. Condition: none. -/
import Derived.Test.YthbbempmppnpkaaGrants
import Derived.Test.YthbbempmppnpkaaRows
import Derived.Deep.RegionHeld3
import Derived.Deep.AppendLies
import Derived.StillTailTactics
namespace Go.Proofs.Ythbbempmppnpkaa
open Go Go.ChangeShapes Go.WideShapes Go.RowKit
theorem Try.cells44 : Try.prog.cellsOf 44 = 2 := by kernel_rfl
theorem keepG2 {w w' : World} {k B : Nat} {gs : List (Int × Int)} {v : Value} (hg : w.grownBy w' (some k)) (h : OwnP w B v gs) (hk : k < B) : OwnP w' B v gs := by
  obtain ⟨hl, ⟨rfl, h0⟩ | ⟨g, cap, cur, rfl, hb, hh, r⟩⟩ := h
  · exact ⟨hl, .inl ⟨rfl, h0⟩⟩
  · exact ⟨hl, .inr ⟨g, cap, cur, rfl, hb, by rw [hg.block g (lt_of hh) (fun e => by cases e; omega), hh], r⟩⟩
theorem kp_grown {w w' : World} {kb : Nat} {n : Int} {F : Nat → Int} {row : Option Nat} (h : KP w kb n F) (hg : w.grownBy w' row) (hne : ∀ k, row = some k → kb < k) : KP w' kb n F := by
  unfold KP at *
  rw [hg.block kb (lt_of h) (fun e => by have := hne kb e.symm; omega), h]
theorem own_base {w : World} {base : Nat} {e : TypeId} {size : Nat} {v : Value} {n : Nat} {xs : List Value} (h : w.ownsRow base e size v n xs) : ∀ k, v.ownBlock = some k → base ≤ k := by
  intro k hk
  obtain ⟨_, ⟨rfl, _⟩ | ⟨g, cap, cur, rfl, hb, _⟩⟩ := h
  · cases hk
  · obtain rfl : g = k := by simpa [Value.ownBlock] using hk
    exact hb
/-- What the rounds keep: the keeper's leases are those of the list. -/
def KRel (w0 : World) (kb nodes : Nat) (L : Nat) (v : Value) (w : World) : Prop :=
  ∃ (F : Nat → Int) (all : List (Int × Int)), KP w kb nodes F ∧ OwnP w (kb + 1) v all ∧ Below w0.heap.size w0 w ∧ (∀ i : Nat, i < nodes → F i = untilF all i) ∧ (∀ g ∈ all, (0 ≤ g.1 ∧ g.1 < nodes) ∧ 0 ≤ g.2 ∧ g.2 < 1099511627776) ∧ all.length ≤ L ∧ kb < w.heap.size
theorem KRel.drew {w0 w : World} {kb nodes L : Nat} {v : Value} (h : KRel w0 kb nodes L v w) : KRel w0 kb nodes L v (World.drew w) := by
  obtain ⟨F, all, h1, h2, h3, r⟩ := h
  exact ⟨F, all, h1, h2, h3.drew, r⟩
theorem KRel.below {w0 w : World} {kb nodes L : Nat} {v : Value} (h : KRel w0 kb nodes L v w) : Below w0.heap.size w0 w := by
  obtain ⟨F, all, h1, h2, h3, r⟩ := h
  exact h3
theorem KRel.more {w0 w : World} {kb nodes L M : Nat} {v : Value} (h : KRel w0 kb nodes L v w) (hL : L ≤ M) : KRel w0 kb nodes M v w := by
  obtain ⟨F, all, h1, h2, h3, h4, h5, h6, h7⟩ := h
  exact ⟨F, all, h1, h2, h3, h4, h5, by omega, h7⟩
theorem tick_cases2 (t : Int) : tickB t = false ∨ tickB t = true := by cases tickB t <;> simp
theorem grant_out {w0 : World} {kb : Nat} {L : Nat} (v : Value) (n : Nat) (x y : Int) (w : World) (h : KRel w0 kb n L v w) (hx : x < 0 ∨ (n : Int) ≤ x) : Calls Try.prog 20 #[.pointer (some ⟨kb, 0, none⟩), .int .i64 x, .int .i64 y] w fun e w' => e = .returned (.tuple #[.int .i64 0, .bool false]) ∧ w = w' := by
  obtain ⟨F, all, h1, _⟩ := h
  have k := has_any kb n x F w h1
  rw [decide_eq_false (by omega)] at k
  exact grant_no (some ⟨kb, 0, none⟩) x y w k
theorem grant_late {w0 : World} {kb : Nat} {L : Nat} (v : Value) (n : Nat) (x y : Int) (w : World) (h : KRel w0 kb n L v w) (ht : tickB y = false) : Calls Try.prog 20 #[.pointer (some ⟨kb, 0, none⟩), .int .i64 x, .int .i64 y] w fun e w' => e = .returned (.tuple #[.int .i64 0, .bool false]) ∧ w = w' := by
  obtain ⟨F, all, h1, _⟩ := h
  exact grant_tick kb n x y F w h1 ht
/-- Behind a grant: the keeper is a grant ahead of the list. -/
def KNext (w0 : World) (kb nodes L : Nat) (v : Value) (x y : Int) (w : World) : Prop :=
  ∃ (F : Nat → Int) (all : List (Int × Int)), KP w kb nodes F ∧ OwnP w (kb + 1) v all ∧ Below w0.heap.size w0 w ∧ (∀ i : Nat, i < nodes → F i = untilF (all ++ [(x, y)]) i) ∧ (∀ g ∈ all ++ [(x, y)], (0 ≤ g.1 ∧ g.1 < nodes) ∧ 0 ≤ g.2 ∧ g.2 < 1099511627776) ∧ all.length ≤ L ∧ kb < w.heap.size
theorem KNext.below {w0 w : World} {kb nodes L : Nat} {v : Value} {x y : Int} (h : KNext w0 kb nodes L v x y w) : Below w0.heap.size w0 w := by
  obtain ⟨F, all, h1, h2, h3, r⟩ := h
  exact h3
theorem grant_do {w0 : World} {kb : Nat} {L : Nat} (v : Value) (n : Nat) (x y : Int) (w : World) (h : KRel w0 kb n L v w) (hx : 0 ≤ x) (hxn : x < n) (hn : n ≤ 16) (ht : tickB y = true) (hkb : w0.heap.size ≤ kb) : Calls Try.prog 20 #[.pointer (some ⟨kb, 0, none⟩), .int .i64 x, .int .i64 y] w fun e w' => e = .returned (.tuple #[.int .i64 (y + 24), .bool true]) ∧ KNext w0 kb n L v x y w' := by
  obtain ⟨F, all, h1, h2, h3, h4, h5, h6, h7⟩ := h
  obtain ⟨i, rfl⟩ := Int.eq_ofNat_of_zero_le hx
  have hy : 0 ≤ y ∧ y < 1099511627776 := by simpa [tickB] using ht
  refine (grant_yes kb i n y F w h1 hxn (by omega) ht).mono ?_
  rintro e w' ⟨he, hk, hg⟩
  refine ⟨he, _, all, hk, keepG2 hg h2 (by omega), Below.grown h3 hg h3.size (fun k e => by cases e; exact hkb), fun m hm => ?_, fun g hg' => ?_, h6, Nat.lt_of_lt_of_le h7 hg.size⟩
  · rw [untilF_snoc]
    unfold upd stepU
    by_cases hmi : m = i
    · subst hmi
      rw [if_pos rfl, if_pos rfl, h4 m hm]
    · rw [if_neg hmi, if_neg (by simp only; omega), h4 m hm]
  · rw [List.mem_append, List.mem_singleton] at hg'
    rcases hg' with hg' | rfl
    · exact h5 g hg'
    · exact ⟨⟨hx, hxn⟩, hy⟩
def begL (k : Nat) (t : Int) : List (Int × Int) := (List.range k).map fun (j : Nat) => ((j : Int), t)
theorem begL_succ (k : Nat) (t : Int) : begL (k + 1) t = begL k t ++ [((k : Int), t)] := by simp [begL, List.range_succ]
theorem begL_len (k : Nat) (t : Int) : (begL k t).length = k := by simp [begL]
theorem begin_until (k : Nat) (t : Int) (ht : 0 ≤ t) : ∀ i : Nat, untilF (begL k t) i = if i < k then t + 24 else 0 := by
  induction k with
  | zero => intro i; simp [untilF, begL]
  | succ k ih =>
    intro i
    rw [begL_succ, untilF_snoc, ih]
    unfold stepU
    by_cases h : k = i
    · subst h
      simp
      omega
    · rw [if_neg (by simp only; omega)]
      by_cases h2 : i < k
      · rw [if_pos h2, if_pos (by omega)]
      · rw [if_neg h2, if_neg (by omega)]
theorem krel_begin {W w : World} {kb k : Nat} {bg : Int} {v : Value} (h1 : KP w kb k (begF k bg)) (h2 : OwnP w (kb + 1) v (begL k bg)) (h3 : Below W.heap.size W w) (tb1 : 0 ≤ bg) (tb2 : bg < 1099511627776) (hz : kb < w.heap.size) (hk : k ≤ 16) : KRel W kb k (16 + 0) v w :=
  ⟨begF k bg, begL k bg, h1, h2, h3, fun i hi => by rw [begin_until k bg tb1]; rfl, fun g hg => by
    obtain ⟨j, hj, rfl⟩ := List.mem_map.1 (show g ∈ (List.range k).map fun (j : Nat) => ((j : Int), bg) from hg)
    have := List.mem_range.1 hj
    exact ⟨⟨by simp only; omega, by simp only; omega⟩, tb1, tb2⟩, by rw [begL_len]; omega, hz⟩
set_option maxRecDepth 10000 in
set_option maxHeartbeats 2000000 in
theorem leaseKeeps_walk {H : Type} {enc : TypeId × Value → H} (W : World) (base : Nat) (args : Array Value) (ds : List (DataW H))
    (hval : ∀ (j : Nat) t v, Try.f6.params[j]? = some t → args[j]? = some v → Value.okWide Try.prog W .any base t v)
    (hA : ∃ p, DataW.TrodAll enc Try.prog W 0 (fun _ => true) true Try.f6.params.toList args.toList ds p) 
    (_ : (DataW.weightsEach Try.prog (Try.f6.params.toList ++ (OpenSpec.ofChange Rows.leaseKeepsSpec).bare.plain.varTypes Try.prog) (ds ++ [])).all (· ≤ reachBytes) = true)
    (_ : laidMetH Try.prog Rows.leaseKeepsRow.laid W) (_ : W.ShapedOpen Try.prog) :
    Calls Try.prog 6 args W fun e W' => e = .returned (.bool true) ∧ Below W.heap.size W W' := by
  obtain ⟨p, hA⟩ := hA
  rw [Try.params6] at hA hval
  obtain ⟨v0, v1, v2, d0, d1, d2, p0, p1, p2, hargs, rfl, rfl, h0, h1, h2⟩ := trodAll_three hA
  subst hargs
  obtain ⟨c0, c1, y0, y1, m, rfl, _, _, hy0, hy1⟩ := Go.Joins.open_agg2 Try.underlying44 (by kernel_rfl) Try.cells44 (hval 0 44 v0 rfl rfl) h0
  obtain ⟨nd, e0, _, wn⟩ := DataW.trod_int Try.underlying3 hy0
  obtain ⟨bg, e1, _, wb⟩ := DataW.trod_int Try.underlying3 hy1
  simp at e0 e1
  subst e0 e1
  obtain ⟨A, cap, gs, rfl, hgs, hl63, hgb⟩ := pairs_is (hval 1 45 v1 rfl rfl) h1
  obtain ⟨t, rfl, _, _, wt⟩ := open_int Try.underlying3 (hval 2 3 v2 rfl rfl) h2
  clear h0 h1 h2 hval hA wt hy0 hy1
  obtain ⟨i0, hi, hz0, hz1, hz2⟩ := info_parts Try.info51
  have wn' := wf_i64 wn
  have GS := hid hgs
  have GB := hid hgb
  have hl1 : (gs.length : Int) ≤ 9223372036854775807 := by omega
  have KT := hid (fun w => tick_any bg w)
  clear wn wb hgs hgb
  by_cases hbad : (nd < 0 ∨ 16 < nd) ∨ tickB bg = false
  · have KK := hid (fun w => newkeeper_no nd bg w hbad)
    generalize tickB bg = tb at *
    have hx : nd < 0 ∨ (¬ nd < 0 ∧ 16 < nd) ∨ (¬ nd < 0 ∧ ¬ 16 < nd ∧ tb = false) := by
      rcases hbad with (h | h) | h
      · exact .inl h
      · exact .inr (.inl ⟨by omega, h⟩)
      · by_cases h1 : nd < 0
        · exact .inl h1
        · by_cases h2 : 16 < nd
          · exact .inr (.inl ⟨h1, h2⟩)
          · exact .inr (.inr ⟨h1, h2, h⟩)
    clear hbad
    rcases hx with h1 | ⟨h1, h2⟩ | ⟨h1, h2, rfl⟩
    all_goals
      go_enter Try.func6, Try.ntmps6
      go_wp2_with fail
      refine (awake_any _).mono ?_
      rintro _ w1 ⟨rfl, hbb⟩
      have g1 := hid (show Below W.heap.size W w1 from below_step (by go_grown) (by simp) hbb)
      clear hbb
      go_wp2_with fail
      refine (KK.out _).mono ?_
      rintro _ w2 ⟨rfl, rfl⟩
      go_wp2_with fail
      refine (KT.out _).mono ?_
      rintro _ w2 ⟨rfl, rfl⟩
      go_wp2_with fail
      all_goals go_returns
      all_goals exact ⟨by first | rfl | simp, g1.out⟩
  · have hn0 : ¬ nd < 0 := fun h => hbad (.inl (.inl h))
    have hn16 : ¬ 16 < nd := fun h => hbad (.inl (.inr h))
    have htk : tickB bg = true := by
      cases h : tickB bg
      · exact absurd (.inr h) hbad
      · rfl
    have htb : 0 ≤ bg ∧ bg < 1099511627776 := by simpa [tickB] using htk
    obtain ⟨tb1, tb2⟩ := htb
    obtain ⟨n, rfl⟩ := Int.eq_ofNat_of_zero_le (show 0 ≤ nd by omega)
    have KK := hid (fun w => newkeeper_yes n bg w (by omega) htk)
    rw [htk] at KT
    clear hbad htk
    go_enter Try.func6, Try.ntmps6
    go_wp2_with fail
    refine (awake_any _).mono ?_
    rintro _ w1 ⟨rfl, hbb⟩
    have g1 := hid (show Below W.heap.size W w1 from below_step (by go_grown) (by simp) hbb)
    clear hbb
    go_wp2_with fail
    refine (KK.out _).mono ?_
    rintro _ w2 ⟨rfl, hk, hb⟩
    have KP2 := hid hk
    have g2 := hid (below_step g1.out g1.out.size hb)
    have hsz := g1.out.size
    have hkb := lt_of hk
    clear hk hb
    go_wp2_with fail
    refine (KT.out _).mono ?_
    rintro _ w3 ⟨rfl, rfl⟩
    go_wp2_with fail
    go_loopw [12, 13] (fun v i wr => ∃ k : Nat, k ≤ n ∧ i = .int .i64 k ∧ OwnP wr (w1.heap.size + 1) v (begL k bg) ∧ KP wr w1.heap.size n (begF n bg) ∧ Below W.heap.size W wr ∧ w1.heap.size < wr.heap.size) (fun _ i _ => n - (intOf i).toNat)
    case atStart => exact ⟨0, Nat.zero_le _, rfl, (show OwnP _ (w1.heap.size + 1) (.slice none 0 0) (begL 0 bg) from ⟨flat_len _, .inl ⟨rfl, rfl⟩⟩), KP2.out, g2.out, hkb⟩
    case round =>
      obtain ⟨k, hk, rfl, ho, hkp, hg, hsz2⟩ := hrel
      have HK := hid hkp
      have HG := hid hg
      clear hkp hg
      by_cases hlt : k < n
      · have hlt' : (k : Int) < (n : Int) := by omega
        have hown := ho
        unfold OwnP at hown
        rw [begL_len] at hown
        have hk16 : k ≤ 16 := by omega
        clear ho
        go_wp2_with (at_builtin; refine wpList_append_own _ rfl _ _ 49 rfl (w1.heap.size + 1) 51 i0 (.agg #[.int .i64 0, .int .i64 0]) 2 16 Try.underlying49 hi hz0 hz1 hz2 rfl (by decide) _ _ _ rfl (hown.alloc _) ⟨wr.heap.size, 0, none⟩ 1 1 [.int .i64 k, .int .i64 bg] rfl rfl ?c1 ?c2 ?c3 ?c4 ?c5 ?_)
        case c1 =>
          intro j u hj
          rw [add_off, cell_of (heap_new _ _), Nat.zero_add]
          match j, hj with
          | 0, hj => simp at hj; subst hj; rfl
          | 1, hj => simp at hj; subst hj; rfl
        case c2 =>
          intro u hu
          simp at hu
          rcases hu with rfl | rfl <;> rfl
        case c3 => unfold maxLen; omega
        case c4 => omega
        case c5 => simp; omega
        intro v5 w5 hown5 hgrow _
        have hb5 := own_base hown
        have G5 := hid (Below.grown (HG.out.alloc HG.out.size _) hgrow (by have := HG.out.size; simp; omega) (fun k hk => by have := hb5 k hk; omega))
        have K5 := hid (kp_grown (HK.out.keep (show Below wr.heap.size wr (wr.alloc (.cells #[.int .i64 k, .int .i64 bg] 51)) from by go_grown)) hgrow (fun k hk => by have := hb5 k hk; omega))
        have O5 := hid (show OwnP w5 (w1.heap.size + 1) v5 (begL (k + 1) bg) from by
          unfold OwnP
          rw [begL_succ]
          simpa [flat, begL_len] using hown5)
        have hsz5 : w1.heap.size < w5.heap.size := by have := hgrow.size; simp at this; omega
        clear hown5 hgrow hown hb5
        go_wp2_with fail
        go_roundw
        case rel => exact ⟨k + 1, by omega, by go_num, O5.out, K5.out, G5.out, hsz5⟩
        case measure => simp [intOf]; omega
      · obtain rfl : k = n := by omega
        have R := hid (krel_begin (W := W) HK.out ho HG.out tb1 tb2 hsz2 (by omega))
        clear HK HG ho
        go_wp2_with fail
        go_loopw [12, 14] (fun v i wr => (∃ j : Nat, j ≤ gs.length ∧ j ≤ 40 ∧ i = .int .i64 j) ∧ KRel W w1.heap.size k (16 + (intOf i).toNat) v wr) (fun _ i _ => 40 - (intOf i).toNat)
        case atStart => exact ⟨⟨0, Nat.zero_le _, Nat.zero_le _, rfl⟩, R.out⟩
        case round =>
          obtain ⟨⟨j, hj, hj40, rfl⟩, hR⟩ := hrel
          have HR := hid (show KRel W w1.heap.size k (16 + j) _ _ from hR)
          clear hR R
          by_cases hlt2 : j < gs.length ∧ j < 40
          · obtain ⟨hjl, hj4⟩ := hlt2
            have hjl' : (j : Int) < (gs.length : Int) := by omega
            have hj4' : (j : Int) < 40 := by omega
            rcases GS.out with rfl | ⟨b, off, rfl, hb, hc⟩
            · simp at hjl
            · have HX := hid (show ∀ w', Below W.heap.size W w' → w'.cell? ⟨b, off + j * 2, none⟩ = some (.int .i64 (gs[j]).1) ∧ w'.cell? ⟨b, off + j * 2 + 1, none⟩ = some (.int .i64 (gs[j]).2) from fun w' h => by
                obtain ⟨q1, q2⟩ := hc j gs[j] (List.getElem?_eq_getElem hjl)
                exact ⟨(h.cell (p := ⟨b, off + j * 2, none⟩) hb).trans q1, (h.cell (p := ⟨b, off + j * 2 + 1, none⟩) hb).trans q2⟩)
              obtain ⟨⟨gx1, gx2⟩, gy1, gy2⟩ := GB.out gs[j] (List.getElem_mem hjl)
              generalize gs[j] = g at *
              obtain ⟨x, y⟩ := g
              simp only at HX gx1 gx2 gy1 gy2
              clear hc
              have HD := hid HR.out.drew
              have H0 := hid HD.out.below
              obtain ⟨q1, q2⟩ := HX.out _ H0.out
              have KTY := hid (fun w => tick_any y w)
              by_cases hx0 : x < 0
              · have KGR := hid (fun v w (h : KRel W w1.heap.size k (16 + j) v w) => grant_out v k x y w h (by omega))
                generalize tickB y = ty at *
                go_wp2_with fail
                go_region_held3 (fun w' => w'.cell? ⟨b, off + j * 2, none⟩ = some (.int .i64 x) ∧ w'.cell? ⟨b, off + j * 2 + 1, none⟩ = some (.int .i64 y)) (first | exact HX.out _ H0.out | go_keep)
                  ((go_at_call 20; refine (KGR.out _ _ HD.out).mono ?_; rintro _ wg ⟨rfl, rfl⟩))
                all_goals
                  go_wp2_with (go_at_call 19; refine (KTY.out _).mono ?_; rintro _ wt ⟨rfl, rfl⟩)
                  go_roundw
                  case rel => exact ⟨⟨j + 1, by omega, by omega, by go_num⟩, HD.out.more (by simp [intOf])⟩
                  case measure => simp [intOf]; omega
              · by_cases hxn : (k : Int) ≤ x
                · have KGR := hid (fun v w (h : KRel W w1.heap.size k (16 + j) v w) => grant_out v k x y w h (by omega))
                  generalize tickB y = ty at *
                  go_wp2_with fail
                  go_region_held3 (fun w' => w'.cell? ⟨b, off + j * 2, none⟩ = some (.int .i64 x) ∧ w'.cell? ⟨b, off + j * 2 + 1, none⟩ = some (.int .i64 y)) (first | exact HX.out _ H0.out | go_keep)
                    ((go_at_call 20; refine (KGR.out _ _ HD.out).mono ?_; rintro _ wg ⟨rfl, rfl⟩))
                  all_goals
                    go_wp2_with (go_at_call 19; refine (KTY.out _).mono ?_; rintro _ wt ⟨rfl, rfl⟩)
                    go_roundw
                    case rel => exact ⟨⟨j + 1, by omega, by omega, by go_num⟩, HD.out.more (by simp [intOf])⟩
                    case measure => simp [intOf]; omega
                · rcases tick_cases2 y with hty | hty
                  · have KGR := hid (fun v w (h : KRel W w1.heap.size k (16 + j) v w) => grant_late v k x y w h hty)
                    rw [hty] at KTY
                    clear hty
                    go_wp2_with fail
                    go_region_held3 (fun w' => w'.cell? ⟨b, off + j * 2, none⟩ = some (.int .i64 x) ∧ w'.cell? ⟨b, off + j * 2 + 1, none⟩ = some (.int .i64 y)) (first | exact HX.out _ H0.out | go_keep)
                      ((go_at_call 20; refine (KGR.out _ _ HD.out).mono ?_; rintro _ wg ⟨rfl, rfl⟩))
                    all_goals
                      go_wp2_with (go_at_call 19; refine (KTY.out _).mono ?_; rintro _ wt ⟨rfl, rfl⟩)
                      go_roundw
                      case rel => exact ⟨⟨j + 1, by omega, by omega, by go_num⟩, HD.out.more (by simp [intOf])⟩
                      case measure => simp [intOf]; omega
                  · have KGR := hid (fun v w (h : KRel W w1.heap.size k (16 + j) v w) => grant_do v k x y w h (by omega) (by omega) (by omega) hty hsz)
                    rw [hty] at KTY
                    have hty2 : 0 ≤ y ∧ y < 1099511627776 := by simpa [tickB] using hty
                    obtain ⟨hy0, hy1⟩ := hty2
                    clear hty
                    go_wp2_with fail
                    go_region_held3 (fun w' => w'.cell? ⟨b, off + j * 2, none⟩ = some (.int .i64 x) ∧ w'.cell? ⟨b, off + j * 2 + 1, none⟩ = some (.int .i64 y)) (first | exact HX.out _ H0.out | exact HX.out _ HZ.out | go_keep)
                      ((go_at_call 20; refine (KGR.out _ _ HD.out).mono ?_; rintro _ wg ⟨rfl, hkk⟩; have HG := hid hkk; have HZ := hid hkk.below; clear hkk))
                    all_goals
                      go_wp2_with (go_at_call 19; refine (KTY.out _).mono ?_; rintro _ wt ⟨rfl, rfl⟩)
                      obtain ⟨z1, z2⟩ := HX.out _ HZ.out
                      obtain ⟨F, all, k1, k2, k3, k4, k5, k6, k7⟩ := HG.out
                      have hown := (show OwnP wg _ _ _ from k2)
                      unfold OwnP at hown
                      have hk3 := k3.size
                      have hb5 := own_base hown
                      have K1 := hid k1
                      have K3 := hid k3
                      have K4 := hid k4
                      have K5 := hid k5
                      clear k1 k2 k3 k4 k5
                      go_region_held3 (fun w' => w'.cell? ⟨b, off + j * 2, none⟩ = some (.int .i64 x) ∧ w'.cell? ⟨b, off + j * 2 + 1, none⟩ = some (.int .i64 y)) (first | exact HX.out _ HZ.out | go_keep | exact HX.out _ (Below.grown ((K3.out.alloc hk3 (.cells #[.int .i64 x, .int .i64 y] 51)).drew) hgrow (by simp; omega) (fun k hk => by have := hb5 k hk; omega)))
                        ((refine step_append_lies _ (by rfl) _ _ _ (by rfl) (w1.heap.size + 1) 51 i0 _ 2 16 Try.underlying49 hi hz0 hz1 hz2 rfl (by decide) _ _ _ (by rfl) ((hown.alloc _).drew) ⟨wg.heap.size, 0, none⟩ 1 1 [.int .i64 x, .int .i64 y] (by rfl) (by rfl) (World.news_of_block (cs := #[.int .i64 x, .int .i64 y]) (t := 51) (fr := (0, 0)) (heap_alloc_new wg _)) (by simp [Value.oneCell']) (by decide) (by unfold maxLen; omega) (by omega) (by simp; omega) (wg.heap.size + 1) (by simp) ?_; intro gg cap5 w5 hown5 hgrow hat hlt5))
                      have hsz5 : w1.heap.size < w5.heap.size := by have := hgrow.size; simp at this; omega
                      have RN := hid (show KRel W w1.heap.size k (16 + (j + 1)) (.slice (some ⟨gg, 0, none⟩) (all.length + 1) cap5) w5 from ⟨F, all ++ [(x, y)], kp_grown (KP.keep (show KP wg w1.heap.size k F from K1.out) (show Below wg.heap.size wg (World.drew (wg.alloc (.cells #[.int .i64 x, .int .i64 y] 51))) from Below.drew (by go_grown))) hgrow (fun k hk => by have := hb5 k hk; omega), by unfold OwnP; simpa [flat] using hown5, Below.grown ((K3.out.alloc hk3 (.cells #[.int .i64 x, .int .i64 y] 51)).drew) hgrow (by simp; omega) (fun k hk => by have := hb5 k hk; omega), K4.out, K5.out, by simp; omega, hsz5⟩)
                      clear hown5 hgrow hown hb5
                      go_wp2_with fail
                      go_roundw
                      case rel => exact ⟨⟨j + 1, by omega, by omega, by go_num⟩, RN.out⟩
                      case measure => simp [intOf]; omega
          · obtain ⟨F, all, k1, k2, k3, k4, k5, k6, k7⟩ := HR.out
            obtain ⟨A3, cap3, rfl, hp3⟩ := k2.is
            have U := hid (fun (i : Int) (w : World) (h : Pairs w A3 all) => refuntil_any A3 cap3 all i w h (by omega) (fun g hg => (k5 g hg).2))
            have K1 := hid k1
            have K2 := hid hp3
            have K3 := hid k3
            have K4 := hid k4
            have K5 := hid k5
            clear k1 k2 hp3 k3 k4 k5 HR
            have hcase : ¬ j < gs.length ∨ (j < gs.length ∧ ¬ j < 40) := by omega
            rcases hcase with hjc | ⟨hjc, hjd⟩
            all_goals
              go_wp2_with fail
              go_loopw [18] (fun i wr => (∃ z : Int, -1 ≤ z ∧ z ≤ 18 ∧ i = .int .i64 z) ∧ KP wr w1.heap.size k F ∧ Pairs wr A3 all ∧ Below W.heap.size W wr) (fun i _ => (18 - intOf i).toNat)
              case atStart => exact ⟨⟨-1, by decide, by decide, rfl⟩, K1.out, K2.out, K3.out⟩
              case round =>
                obtain ⟨⟨z, hz1, hz18, rfl⟩, hkp, hpr, hbl⟩ := hrel
                have P1 := hid hkp
                have P2 := hid hpr
                have P3 := hid hbl
                clear hkp hpr hbl K1 K2 K3
                by_cases hzl : z ≤ 17
                · by_cases hzin : 0 ≤ z ∧ z < k
                  · obtain ⟨hza, hzb⟩ := hzin
                    obtain ⟨i, rfl⟩ := Int.eq_ofNat_of_zero_le hza
                    have U1 := hid (fun w h => U.out i w h)
                    rw [← K4.out i (by omega)] at U1
                    have Y1 := hid (fun w h => until_yes w1.heap.size i k F w h hzb (by omega))
                    have Y2 := hid (fun w h => lost_yes w1.heap.size i k t F w h hzb (by omega))
                    generalize F i = f at *
                    by_cases hft : f ≤ t
                    · rw [decide_eq_true hft] at Y2
                      go_wp2_with fail
                      refine (U1.out _ P2.out).mono ?_
                      rintro _ wu ⟨rfl, rfl⟩
                      go_wp2_with fail
                      refine (Y1.out _ P1.out).mono ?_
                      rintro _ wu ⟨rfl, rfl⟩
                      go_wp2_with fail
                      refine (Y2.out _ P1.out).mono ?_
                      rintro _ wu ⟨rfl, rfl⟩
                      go_wp2_with fail
                      go_roundw
                      case rel => exact ⟨⟨(i : Int) + 1, by omega, by omega, by go_num⟩, P1.out, P2.out, P3.out⟩
                      case measure => simp [intOf]; omega
                    · rw [decide_eq_false hft] at Y2
                      go_wp2_with fail
                      refine (U1.out _ P2.out).mono ?_
                      rintro _ wu ⟨rfl, rfl⟩
                      go_wp2_with fail
                      refine (Y1.out _ P1.out).mono ?_
                      rintro _ wu ⟨rfl, rfl⟩
                      go_wp2_with fail
                      refine (Y2.out _ P1.out).mono ?_
                      rintro _ wu ⟨rfl, rfl⟩
                      go_wp2_with fail
                      go_roundw
                      case rel => exact ⟨⟨(i : Int) + 1, by omega, by omega, by go_num⟩, P1.out, P2.out, P3.out⟩
                      case measure => simp [intOf]; omega
                  · have hout : z < 0 ∨ (k : Int) ≤ z := by omega
                    have U1 := hid (fun w h => U.out z w h)
                    rw [untilF_none all z (fun g hg he => by have := (K5.out g hg).1; omega)] at U1
                    have HA := hid (fun w h => by
                      have q := has_any w1.heap.size k z F w h
                      rw [decide_eq_false (by omega)] at q
                      exact q)
                    have Y1 := hid (fun w h => until_no (some ⟨w1.heap.size, 0, none⟩) z w (HA.out w h))
                    have Y2 := hid (fun w h => lost_no (some ⟨w1.heap.size, 0, none⟩) z t w (HA.out w h))
                    rcases hout with ho | ho
                    · go_wp2_with fail
                      refine (U1.out _ P2.out).mono ?_
                      rintro _ wu ⟨rfl, rfl⟩
                      go_wp2_with fail
                      refine (Y1.out _ P1.out).mono ?_
                      rintro _ wu ⟨rfl, rfl⟩
                      go_wp2_with fail
                      refine (Y2.out _ P1.out).mono ?_
                      rintro _ wu ⟨rfl, rfl⟩
                      go_wp2_with fail
                      go_roundw
                      case rel => exact ⟨⟨z + 1, by omega, by omega, by go_num⟩, P1.out, P2.out, P3.out⟩
                      case measure => simp [intOf]; omega
                    · have ho' : ¬ z < 0 := by omega
                      go_wp2_with fail
                      refine (U1.out _ P2.out).mono ?_
                      rintro _ wu ⟨rfl, rfl⟩
                      go_wp2_with fail
                      refine (Y1.out _ P1.out).mono ?_
                      rintro _ wu ⟨rfl, rfl⟩
                      go_wp2_with fail
                      refine (Y2.out _ P1.out).mono ?_
                      rintro _ wu ⟨rfl, rfl⟩
                      go_wp2_with fail
                      go_roundw
                      case rel => exact ⟨⟨z + 1, by omega, by omega, by go_num⟩, P1.out, P2.out, P3.out⟩
                      case measure => simp [intOf]; omega
                · obtain rfl : z = 18 := by omega
                  go_wp2_with fail
                  all_goals go_returns
                  all_goals exact ⟨by first | rfl | simp, P3.out⟩
end Go.Proofs.Ythbbempmppnpkaa
