/- bytes.Clone, frame.Next at any bytes. Conditions: the bytes and the table stand in memory. -/
import Derived.Test.YtaipjbljmkickaaDoorFirst
import Derived.Deep.RegionWith
import Derived.Lib.SliceRun
namespace Go.Proofs.YtaipjbljmkickaaDoor
open Go Go.RowKit
theorem quiet_below {B : Nat} {a w : World} (h : Below B a w) (n : Nat) : Below B a (w.drewN n) := ⟨h.os, h.tape, h.output, h.size, h.block⟩
theorem own_nil (w : World) (B : Nat) : Own w B (.slice none 0 0) [] := ⟨by simp, .inl ⟨rfl, rfl⟩⟩
theorem own_empty (w : World) : (w.alloc (.cells #[] 5)).ownsRow w.heap.size 5 1 (.slice (some ⟨w.heap.size, 0, none⟩) 0 0) 0 [] :=
  ⟨by simp, .inr ⟨w.heap.size, 0, #[], rfl, Nat.le_refl _, heap_new w _, Nat.zero_le _, by unfold maxLen; omega, by simp, by simp⟩⟩
set_option maxHeartbeats 1000000 in
theorem clone_any (A : Option Addr) (cap : Nat) (bs : List UInt8) (w : World) (hb : Bts w A bs) (hlen : bs.length ≤ 1099511627776) :
    Calls Tryd.prog 22 #[.slice A bs.length cap] w fun e w' => ∃ v, e = .returned v ∧ Own w' w.heap.size v bs ∧ Below w.heap.size w w' := by
  obtain ⟨i0, hi, hz0, hz1, hz2⟩ := info_parts Tryd.info5
  cases A with
  | none =>
    have e : bs = [] := by
      rcases hb with rfl | ⟨b, off, h, _⟩
      · rfl
      · cases h
    subst e
    have hq := Lib.run_eql_slice_nil (P := Tryd.prog) w 22 5 none 0 cap 0 0 Tryd.underlying22
    clear hb
    go_enter Tryd.func22, Tryd.ntmps22
    go_wp2_with fail
    all_goals go_returns
    exact ⟨_, rfl, own_nil _ _, Below.refl _ _⟩
  | some a =>
    have hq := Lib.run_eql_slice_nil (P := Tryd.prog) w 22 5 (some a) bs.length cap 0 0 Tryd.underlying22
    have hb1 := hb.keep (show Below w.heap.size w (w.alloc (.cells #[] 5)) from by go_grown)
    have hc := bts_cells hb1
    have O0 := own_empty w
    have g1 := hid (show Below w.heap.size w (w.alloc (.cells #[] 5)) from by go_grown)
    clear hb hb1
    go_enter Tryd.func22, Tryd.ntmps22
    go_wp2_with (at_builtin; refine wpList_append_own _ rfl _ _ 22 rfl w.heap.size 5 i0 (.int .u8 0) 1 1 Tryd.underlying22 hi hz0 hz1 hz2 rfl (by decide) _ _ _ rfl O0 a bs.length cap (bs.map bv) rfl (by simp) hc (bv_cells _) ?c3 ?c4 ?c5 ?_)
    case c3 => unfold maxLen; omega
    case c4 => omega
    case c5 => simp
    intro v2 w2 hown2 hgrow _
    have hb := own_base O0
    have G2 := hid (Below.grown g1.out hgrow (by simp) hb)
    have O2 := hid (show Own w2 w.heap.size v2 bs from by simpa [Own] using hown2)
    clear hown2 hgrow O0 hb hc
    go_wp2_with fail
    all_goals go_returns
    all_goals exact ⟨_, rfl, O2.out, G2.out⟩
theorem sl_some {w : World} {A : Option Addr} {bs : List UInt8} (h : Bts w A bs) (h4 : 0 < bs.length) : ∃ b off, A = some ⟨b, off, none⟩ := by
  rcases h with rfl | ⟨b, off, h, _⟩
  · simp at h4
  · exact ⟨b, off, h⟩
set_option maxHeartbeats 1000000 in
theorem next_no (A : Option Addr) (cap : Nat) (E : Int) (bs : List UInt8) (w : World) (hb : Bts w A bs) (hcap : bs.length ≤ cap) (hT : Tab w) (hlen : bs.length ≤ 1099511627776) (hE : (nextS bs).1 = E) (h0 : E ≠ 0) :
    Calls Tryd.prog 14 #[.slice A bs.length cap] w fun e w' => e = .returned (.tuple #[.slice none 0 0, .slice none 0 0, .int .i64 E]) ∧ Below w.heap.size w w' := by
  have K := hid (first_no A cap E bs w hb hcap hT hlen hE h0)
  have z : ((E : Int) != 0) = true := by simpa using h0
  clear hb hT hE h0
  go_enter Tryd.func14, Tryd.ntmps14
  go_wp2_with fail
  refine K.out.mono ?_
  rintro _ w1 ⟨rfl, k1, rfl⟩
  go_wp2_with fail
  all_goals go_ret3
  exact ⟨rfl, quiet_below (Below.refl _ _) _⟩
def bodyS (bs : List UInt8) (n : Nat) : List UInt8 := (bs.drop 4).take n
set_option maxHeartbeats 1000000 in
theorem next_yes (b off cap n : Nat) (bs : List UInt8) (w : World) (hb : Bts w (some ⟨b, off, none⟩) bs) (hcap : bs.length ≤ cap) (hT : Tab w) (hlen : bs.length ≤ 1099511627776) (hn : nextS bs = (0, n)) :
    Calls Tryd.prog 14 #[.slice (some ⟨b, off, none⟩) bs.length cap] w fun e w' => ∃ v1 v2, e = .returned (.tuple #[v1, v2, .int .i64 0]) ∧ Own w' w.heap.size v1 (bodyS bs n) ∧ Own w' w.heap.size v2 (bs.drop (n + 8)) ∧ Below w.heap.size w w' := by
  obtain ⟨h1, h2, h3, h4⟩ := nextS_yes hn
  have K := hid (first_yes b off cap n bs w hb hcap hT hlen hn)
  have KA : Hid (∀ w', Below w.heap.size w w' → Calls Tryd.prog 22 #[.slice (some ⟨b, off + 4, none⟩) n (cap - 4)] w' fun e w'' => ∃ v, e = .returned v ∧ Own w'' w'.heap.size v (bodyS bs n) ∧ Below w'.heap.size w' w'') := hid fun w' h => by
    have k := clone_any (some ⟨b, off + 4, none⟩) (cap - 4) (bodyS bs n) w' (bts_take n (bts_drop 4 (hb.keep h))) (by simp [bodyS]; omega)
    rw [show (bodyS bs n).length = n by simp [bodyS]; omega] at k
    exact k
  have KB : Hid (∀ o w', (o = off + (n + 8) ∨ bs.length - (n + 8) = 0) → Below w.heap.size w w' → Calls Tryd.prog 22 #[.slice (some ⟨b, o, none⟩) (bs.length - (n + 8)) (cap - (n + 8))] w' fun e w'' => ∃ v, e = .returned v ∧ Own w'' w'.heap.size v (bs.drop (n + 8)) ∧ Below w'.heap.size w' w'') := hid fun o w' ho h => by
    have hbb : Bts w' (some ⟨b, o, none⟩) (bs.drop (n + 8)) := by
      rcases ho with rfl | ho
      · exact bts_drop (n + 8) (hb.keep h)
      · left
        exact List.eq_nil_of_length_eq_zero (by simpa using ho)
    have k := clone_any (some ⟨b, o, none⟩) (cap - (n + 8)) (bs.drop (n + 8)) w' hbb (by simp; omega)
    rw [List.length_drop] at k
    exact k
  have z4 : (n : Int) + 8 ≤ (bs.length : Int) := by omega
  have z5 : (n : Int) + 8 ≤ (cap : Int) := by omega
  have s0 : (0 : Int) ≤ (n : Int) + 8 := by omega
  have s1 : ((n : Int) + 8).toNat = n + 8 := by omega
  have g0 := hid (Below.refl w.heap.size w)
  clear hn h1 h4 hb hT
  by_cases hfull : cap = n + 8
  · have hdn : bs.drop (n + 8) = [] := List.eq_nil_of_length_eq_zero (by rw [List.length_drop]; omega)
    have KC : Hid (∀ w', Calls Tryd.prog 22 #[.slice (some ⟨b, off, none⟩) 0 0] w' fun e w'' => ∃ v, e = .returned v ∧ Own w'' w'.heap.size v (bs.drop (n + 8)) ∧ Below w'.heap.size w' w'') := hid fun w' => by
      rw [hdn]
      exact clone_any (some ⟨b, off, none⟩) 0 [] w' (.inl rfl) (by simp)
    have hL : bs.length = n + 8 := by omega
    rw [hL] at K ⊢
    subst hfull
    rw [show n + 8 - 4 = n + 4 by omega] at KA K
    clear KB hL hdn z4 z5 hcap hlen h3
    go_enter Tryd.func14, Tryd.ntmps14
    go_wp2_with fail
    refine K.out.mono ?_
    rintro _ w1 ⟨rfl, k1, hw1⟩
    have g1 := hid (show Below w.heap.size w (World.drew w1) from by rw [hw1]; exact (quiet_below g0.out k1).drew)
    clear hw1 g0 K
    go_wp2_with fail
    go_region_with (first
      | (go_at_call 22; with_reducible refine (KA.out _ g1.out).mono ?_; rintro _ w2 ⟨v1, rfl, ho1, hb1⟩; have g2 := hid (below_step g1.out g1.out.size hb1); have o1 := hid ho1; clear hb1 ho1)
      | (go_at_call 22; with_reducible refine (KC.out _).mono ?_; rintro _ w3 ⟨v2, rfl, ho2, hb2⟩; have g3 := hid (below_step g2.out g2.out.size hb2); have o3 := hid (o1.out.keep hb2); have o2 := hid ho2; clear hb2 ho2))
    all_goals go_wp2_with fail
    all_goals go_ret3
    all_goals exact ⟨_, _, rfl, o3.out.mono g1.out.size, o2.out.mono g2.out.size, g3.out⟩
  · have hfull' : n + 8 < cap := by omega
    go_enter Tryd.func14, Tryd.ntmps14
    go_wp2_with fail
    refine K.out.mono ?_
    rintro _ w1 ⟨rfl, k1, hw1⟩
    have g1 := hid (show Below w.heap.size w (World.drew w1) from by rw [hw1]; exact (quiet_below g0.out k1).drew)
    clear hw1 g0 K
    go_wp2_with fail
    go_region_with (first
      | (go_at_call 22; with_reducible refine (KA.out _ g1.out).mono ?_; rintro _ w2 ⟨v1, rfl, ho1, hb1⟩; have g2 := hid (below_step g1.out g1.out.size hb1); have o1 := hid ho1; clear hb1 ho1)
      | (go_at_call 22; with_reducible refine (KB.out _ _ (.inl rfl) g2.out).mono ?_; rintro _ w3 ⟨v2, rfl, ho2, hb2⟩; have g3 := hid (below_step g2.out g2.out.size hb2); have o3 := hid (o1.out.keep hb2); have o2 := hid ho2; clear hb2 ho2))
    all_goals go_wp2_with fail
    all_goals go_ret3
    all_goals exact ⟨_, _, rfl, o3.out.mono g1.out.size, o2.out.mono g2.out.size, g3.out⟩
end Go.Proofs.YtaipjbljmkickaaDoor
