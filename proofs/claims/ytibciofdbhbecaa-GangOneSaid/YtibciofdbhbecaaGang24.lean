/- A pool of which the script's amounts were taken, as far as they fit. Conditions: the pool's amounts and the script stand in memory. -/
import Derived.Test.YtibciofdbhbecaaGang23
namespace Go.Proofs.Ytibciofdbhbecaa
open Go Go.RowKit
theorem Ns.apart {W : World} {A : Option Addr} {xs : List Int} {n : Nat} {ps : Nat → Nat} (h : Ns W A xs) (hp : ∀ i, i < n → W.heap.size ≤ ps i) : xs = [] ∨ Apart A n ps := by
  rcases h with e | ⟨b, off, rfl, hlt, _⟩
  · exact .inl e
  · exact .inr (Apart.old hp hlt)
theorem badG_nil (n : Nat) (a c : Int) (v : V4) : badG n [] a c v := .inl (gangB_no fun hg => hg.1 rfl)
theorem take_old (q : Nat) (sv : Value) (n : Nat) (ps : Nat → Nat) (Ws : Nat → V4) (fs : Nat → Int → V4) (A : Option Addr) (cap : Nat) (xs : List Int) (a c : Int) (v : V4) (w : World) (h : PL w q sv n ps Ws fs) (hN : Ns w A xs) (hl : xs.length ≤ 9223372036854775807) (hap : xs = [] ∨ Apart A n ps) :
    Calls Try.prog 19 #[.pointer (some ⟨q, 0, none⟩), .slice A xs.length cap, .int .i64 a, .int .i64 c, .agg #[.int .i64 v.a, .int .i64 v.b, .int .i64 v.c, .int .i64 v.d]] w (TakeP w q sv n ps Ws fs xs a c v) := by
  rcases hap with rfl | hap
  · refine (gtake_bad _ n _ [] a c v w (gangK_any q sv n ps Ws fs A cap [] w h hN hl) (badG_nil _ _ _ _)).mono ?_
    rintro e w' ⟨rfl, hw⟩
    exact ⟨1, fs, rfl, h.keep hw, FrP.of n ps hw, .inl ⟨rfl, badG_nil _ _ _ _, rfl⟩⟩
  · exact take_all q sv n ps Ws fs A cap xs a c v w h hN hl hap
theorem give_old (q : Nat) (sv : Value) (n : Nat) (ps : Nat → Nat) (Ws : Nat → V4) (fs : Nat → Int → V4) (A : Option Addr) (cap : Nat) (xs : List Int) (a c : Int) (v : V4) (w : World) (h : PL w q sv n ps Ws fs) (hN : Ns w A xs) (hl : xs.length ≤ 9223372036854775807) (hcap : xs.length ≤ cap) (hap : xs = [] ∨ Apart A n ps) :
    Calls Try.prog 20 #[.pointer (some ⟨q, 0, none⟩), .slice A xs.length cap, .int .i64 a, .int .i64 c, .agg #[.int .i64 v.a, .int .i64 v.b, .int .i64 v.c, .int .i64 v.d]] w (GiveP w q sv n ps Ws fs xs a c v) := by
  rcases hap with rfl | hap
  · refine (ggive_bad _ n _ [] a c v w (gangK_any q sv n ps Ws fs A cap [] w h hN hl) (badG_nil _ _ _ _)).mono ?_
    rintro e w' ⟨rfl, hw⟩
    exact ⟨1, fs, rfl, h.keep hw, FrP.of n ps hw, .inl ⟨rfl, badG_nil _ _ _ _, rfl⟩⟩
  · exact give_all q sv n ps Ws fs A cap xs a c v w h hN hl hcap hap
def TakenPost (w : World) (e : Ending) (w' : World) : Prop := Below w.heap.size w w' ∧ (e = .returned (.pointer none) ∨ ∃ q sv n ps Ws fs, e = .returned (.pointer (some ⟨q, 0, none⟩)) ∧ PL w' q sv n ps Ws fs ∧ ∀ i, i < n → w.heap.size ≤ ps i)
set_option maxHeartbeats 2000000 in
theorem taken_any (W : World) (A B : Option Addr) (cap capB : Nat) (xs : List V4) (ss : List Ac) (w : World) (hw : Below W.heap.size W w) (hV : Vs W A xs) (hS : Acts W W B ss) (hxl : xs.length ≤ 9223372036854775807) (hsl : ss.length ≤ 9223372036854775807) :
    Calls Try.prog 16 #[.slice A xs.length cap, .slice B ss.length capB] w (TakenPost w) := by
  have KN := hid (gnew_any A cap xs w (hV.keep hw) hxl)
  have HA : Hid (∀ w1, Below W.heap.size W w1 → Acts W w1 B ss) := hid fun w1 hb => hS.keep hb
  have hWw := hw.size
  have HW := hid hw
  obtain ⟨m, hm⟩ : ∃ m, m = xs.length := ⟨_, rfl⟩
  obtain ⟨n, hn⟩ : ∃ n, n = ss.length := ⟨_, rfl⟩
  rw [← hm] at hxl KN ⊢
  rw [← hn] at hsl ⊢
  have HN := hid hn
  clear hV hS hw hm hn
  by_cases h100 : 100 < m
  · have hd : decide (100 < m) = true := decide_eq_true h100
    have hd' : (100 : Int) < (m : Int) := by omega
    go_enter Try.func16, Try.ntmps16
    go_wp2_with fail
    go_returns
    exact ⟨Below.refl _ _, .inl rfl⟩
  have hd : decide (100 < m) = false := decide_eq_false h100
  have hd' : (m : Int) ≤ 100 := by omega
  go_enter Try.func16, Try.ntmps16
  go_wp2_with fail
  refine KN.out.mono ?_
  rintro _ w1 ⟨hb, ⟨rfl, _⟩ | ⟨q, sv, ps, rfl, _, hp, _, hps⟩⟩
  · have g1 := hid hb
    clear hb
    go_wp2_with fail
    go_returns
    exact ⟨g1.out, .inl rfl⟩
  · have P1 := hid hp
    have g1 := hid hb
    have HPS := hid hps
    have gW := hid (HW.out.trans (hb.mono HW.out.size))
    clear hp hb hps KN
    generalize xs.length = nn at *
    generalize (fun i => xs.getD i V4.z) = Ws at *
    go_wp2_with fail
    go_loopw [6] (fun x wr => ∃ (k : Nat) (fs : Nat → Int → V4), k ≤ n ∧ x = .int .i64 k ∧ PL wr q sv nn ps Ws fs ∧ FrP w1 wr nn ps) (fun x _ => n - (intOf x).toNat)
    case atStart => exact ⟨0, _, Nat.zero_le _, rfl, P1.out, FrP.of nn ps (Below.refl _ _)⟩
    case round =>
      clear P1
      obtain ⟨k, fs, hk, rfl, hp, hf⟩ := hrel
      have HP := hid hp
      have HF := hid hf
      have GW := hid (FrP.below gW.out hf (fun i hi => Nat.le_trans hWw (HPS.out i hi)))
      have G1 := hid (FrP.below g1.out hf HPS.out)
      clear hp hf
      by_cases hlt : k < n
      · have hlt' : (k : Int) < (n : Int) := by omega
        by_cases h30 : k < 30
        · have h30' : (k : Int) < 30 := by omega
          obtain ⟨x, hx1⟩ : ∃ x, ss[k]? = some x := ⟨_, List.getElem?_eq_getElem (by have := HN.out; omega)⟩
          obtain ⟨hin, b, off, rfl, hbl, _, c1, c2, c3, _, c5, c6, c7, c8⟩ := (HA.out _ GW.out).at hx1
          have HIN := hid hin
          have hlen := hin.len
          clear hin
          by_cases h60 : x.xs.length ≤ 60
          · have h60d : decide (x.xs.length ≤ 60) = true := decide_eq_true h60
            have h60' : (x.xs.length : Int) ≤ 60 := by omega
            have KT := hid (take_old q sv nn ps Ws fs x.A x.cap x.xs x.a x.c x.v wr.drew HP.out.D (HIN.out.n.keep (Below.drew GW.out)) hlen (HIN.out.n.apart (fun i hi => Nat.le_trans hWw (HPS.out i hi))))
            have HA2 := hid (fun w1 (hb : Below W.heap.size W w1) => (show _ ∧ _ ∧ _ ∧ _ ∧ _ ∧ _ ∧ _ from by
              obtain ⟨_, b', off', e, _, _, d1, d2, d3, _, d5, d6, d7, d8⟩ := (HA.out w1 hb).at hx1
              cases e
              exact ⟨d1, d2, d3, d5, d6, d7, d8⟩))
            clear hx1
            go_wp2_with fail
            go_region_held3 (fun w' => w'.cell? ⟨b, off + k * 9 + 1, none⟩ = some (.slice x.A x.xs.length x.cap) ∧ w'.cell? ⟨b, off + k * 9 + 2, none⟩ = some (.int .i64 x.a) ∧ w'.cell? ⟨b, off + k * 9 + 3, none⟩ = some (.int .i64 x.c) ∧ w'.cell? ⟨b, off + k * 9 + 5, none⟩ = some (.int .i64 x.v.a) ∧ w'.cell? ⟨b, off + k * 9 + 6, none⟩ = some (.int .i64 x.v.b) ∧ w'.cell? ⟨b, off + k * 9 + 7, none⟩ = some (.int .i64 x.v.c) ∧ w'.cell? ⟨b, off + k * 9 + 8, none⟩ = some (.int .i64 x.v.d)) (first | exact ⟨c1, c2, c3, c5, c6, c7, c8⟩ | exact ⟨d1, d2, d3, d5, d6, d7, d8⟩ | go_keep) (first | (go_at_call 19; (with_reducible refine KT.out.mono ?_); rintro _ w5 ⟨y, fs', rfl, hp, hf, _⟩; have P5 := hid hp; have F5 := hid (HF.out.trans (show FrP wr w5 nn ps from ⟨hf.os, hf.tape, hf.output, hf.size, hf.block⟩)); obtain ⟨d1, d2, d3, d5, d6, d7, d8⟩ := HA2.out _ (FrP.below gW.out F5.out (fun i hi => Nat.le_trans hWw (HPS.out i hi))); clear hp hf))
            all_goals go_wp2_with fail
            all_goals go_roundw
            case rel => exact ⟨k + 1, _, by omega, by go_num, P5.out, F5.out⟩
            case measure => simp [intOf]; omega
          · have h60d : decide (x.xs.length ≤ 60) = false := decide_eq_false h60
            have h60' : (60 : Int) < (x.xs.length : Int) := by omega
            clear hx1
            go_wp2_with fail
            go_roundw
            case rel => exact ⟨k + 1, _, by omega, by go_num, HP.out, HF.out⟩
            case measure => simp [intOf]; omega
        · have h30' : decide ((k : Int) < 30) = false := by simp; omega
          go_wp2_with fail
          go_returns
          exact ⟨G1.out, .inr ⟨q, sv, nn, ps, Ws, _, rfl, HP.out, HPS.out⟩⟩
      · obtain rfl : k = n := by omega
        go_wp2_with fail
        go_returns
        exact ⟨G1.out, .inr ⟨q, sv, nn, ps, Ws, _, rfl, HP.out, HPS.out⟩⟩
end Go.Proofs.Ytibciofdbhbecaa
