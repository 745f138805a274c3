/- frame.first and the document's Next at any bytes. Conditions: the bytes and the table stand in memory. -/
import Derived.Test.YtaipjbljmkickaaDoorRead
import Derived.IntWalk
namespace Go.Proofs.YtaipjbljmkickaaDoor
open Go Go.RowKit
def nextS (bs : List UInt8) : Int × Nat :=
  if bs.length < 4 then (10, 0) else if 65536 < num4 bs then (11, 0) else if bs.length < num4 bs + 8 then (10, 0) else if crc (bs.take (num4 bs + 4)) = num4 (bs.drop (num4 bs + 4)) then (0, num4 bs) else (20, 0)
theorem nextS_yes {bs : List UInt8} {n : Nat} (h : nextS bs = (0, n)) : n = num4 bs ∧ n ≤ 65536 ∧ n + 8 ≤ bs.length ∧ crc (bs.take (n + 4)) = num4 (bs.drop (n + 4)) := by
  unfold nextS at h
  split at h
  · simp at h
  · split at h
    · simp at h
    · split at h
      · simp at h
      · split at h
        · rename_i h1 h2 h3 h4
          obtain rfl : num4 bs = n := by simpa using h
          exact ⟨rfl, by omega, by omega, h4⟩
        · simp at h
theorem bts_take {w : World} {A : Option Addr} {bs : List UInt8} (m : Nat) (h : Bts w A bs) : Bts w A (bs.take m) := by
  rcases h with rfl | ⟨b, off, rfl, hlt, hc⟩
  · left; simp
  · refine .inr ⟨b, off, rfl, hlt, fun j x hx => hc j x ?_⟩
    rw [List.getElem?_take] at hx
    split at hx
    · exact hx
    · cases hx
theorem bts_drop {w : World} {b off : Nat} {bs : List UInt8} (m : Nat) (h : Bts w (some ⟨b, off, none⟩) bs) : Bts w (some ⟨b, off + m, none⟩) (bs.drop m) := by
  rcases h with rfl | ⟨b', off', he, hlt, hc⟩
  · left
    simp
  · obtain ⟨rfl, rfl⟩ : b = b' ∧ off = off' := by simpa using he
    refine .inr ⟨b, off + m, rfl, hlt, fun j x hx => ?_⟩
    rw [Nat.add_assoc]
    exact hc (m + j) x (by rw [List.getElem?_drop] at hx; exact hx)
theorem calls_qs {P : Program} {f : FuncId} {args : Array Value} {w : World} {n : Nat} {v : Value}
    (h : Calls P f args (w.drewN n) fun e w' => e = .returned v ∧ w.drewN n = w') : Calls P f args (w.drewN n) fun e w'' => e = .returned v ∧ ∃ m, w'' = w.drewN m :=
  Calls.quiet_of_same (h.mono fun _ _ ⟨a, b⟩ => ⟨a, b.symm⟩)
/-- What first and Next look at, told as contracts over a slice of these bytes. -/
theorem sum_part {A : Option Addr} {cap m : Nat} {bs : List UInt8} {w : World} (hb : Bts w A bs) (hT : Tab w) (hm : m ≤ bs.length) (hl : bs.length ≤ 1099511627776) (n : Nat) :
    Calls Tryd.prog 12 #[.slice A m cap] (w.drewN n) fun e w' => e = .returned (.int .u32 (crc (bs.take m) : Nat)) ∧ w.drewN n = w' := by
  have k := sum_any A cap (bs.take m) (w.drewN n) (bts_take m hb) hT (by simp; omega)
  rw [List.length_take, Nat.min_eq_left hm] at k
  exact k
theorem refsum_part {A : Option Addr} {cap m : Nat} {bs : List UInt8} {w : World} (hb : Bts w A bs) (hm : m ≤ bs.length) (hl : bs.length ≤ 1099511627776) (n : Nat) :
    Calls Tryd.prog 13 #[.slice A m cap] (w.drewN n) fun e w' => e = .returned (.int .u32 (crc (bs.take m) : Nat)) ∧ w.drewN n = w' := by
  have k := refsum_any A cap (bs.take m) (w.drewN n) (bts_take m hb) (by simp; omega)
  rw [List.length_take, Nat.min_eq_left hm] at k
  exact k
set_option maxHeartbeats 2000000 in
theorem first_yes (b off cap n : Nat) (bs : List UInt8) (w : World) (hb : Bts w (some ⟨b, off, none⟩) bs) (hcap : bs.length ≤ cap) (hT : Tab w) (hlen : bs.length ≤ 1099511627776) (hn : nextS bs = (0, n)) :
    Calls Tryd.prog 21 #[.slice (some ⟨b, off, none⟩) bs.length cap] w fun e w' => e = .returned (.tuple #[.slice (some ⟨b, off + 4, none⟩) n (cap - 4), .int .i64 ((n : Int) + 8), .int .i64 0]) ∧ ∃ k, w' = w.drewN k := by
  obtain ⟨h1, h2, h3, h4⟩ := nextS_yes hn
  have K25 := hid (word_any (some ⟨b, off, none⟩) bs.length cap bs w hb (by omega) rfl)
  have K12 := hid (fun k m => sum_part (cap := cap) (w := w.drewN k) hb hT (m := 4 + n) (by omega) hlen m)
  have K25b := hid (fun k m => word_any (some ⟨b, off + (4 + n), none⟩) (bs.length - (4 + n)) (cap - (4 + n)) (bs.drop (4 + n)) ((w.drewN k).drewN m) (bts_drop (4 + n) hb) (by simp; omega) (by simp))
  rw [show n + 4 = 4 + n by omega] at h4
  rw [← h1] at K25
  rw [h4] at K12
  have hlt := num4_lt (bs := bs.drop (4 + n)) (by simp; omega)
  generalize num4 (bs.drop (4 + n)) = s at *
  have z1 : ¬ (bs.length : Int) < 4 := by omega
  have z2 : ¬ (65536 : Int) < (n : Int) := by omega
  have z3 : ¬ (bs.length : Int) < 4 + (n : Int) + 4 := by omega
  have z4 : (4 : Int) + (n : Int) ≤ (bs.length : Int) := by omega
  have z5 : (4 : Int) + (n : Int) ≤ (cap : Int) := by omega
  clear hn h1 h4 hb hT
  have s0 : (0 : Int) ≤ 4 + (n : Int) := by omega
  have s1 : (4 + (n : Int)).toNat = 4 + n := by omega
  go_enter Tryd.func21, Tryd.ntmps21
  go_wp2_with fail
  refine K25.out.mono ?_
  rintro _ w1 ⟨rfl, k1, hw1⟩
  have Q12 := hid (K12.out k1)
  have Q25 := hid (K25b.out k1)
  rw [← hw1] at Q12 Q25
  have HW := hid hw1
  clear hw1 K12 K25b K25
  go_wp2_with fail
  go_quiet ((first | (go_at_call 12; exact calls_qs (Q12.out _)) | (go_at_call 25; exact Calls.quiet_of (Q25.out _))))
  go_wp2_with fail
  all_goals go_ret3
  exact ⟨by rw [show (4 : Int) + (n : Int) + 4 = (n : Int) + 8 by omega]; rfl, k1 + nq, by rw [HW.out, World.drewN_drewN]⟩
set_option maxHeartbeats 2000000 in
theorem first_no (A : Option Addr) (cap : Nat) (E : Int) (bs : List UInt8) (w : World) (hb : Bts w A bs) (hcap : bs.length ≤ cap) (hT : Tab w) (hlen : bs.length ≤ 1099511627776) (hE : (nextS bs).1 = E) (h0 : E ≠ 0) :
    Calls Tryd.prog 21 #[.slice A bs.length cap] w fun e w' => e = .returned (.tuple #[.slice none 0 0, .int .i64 0, .int .i64 E]) ∧ ∃ k, w' = w.drewN k := by
  have z0 : (bs.length : Int) ≤ 1099511627776 := by omega
  by_cases h1 : bs.length < 4
  · have hE' : E = 10 := by rw [← hE]; unfold nextS; rw [if_pos h1]
    have z1 : (bs.length : Int) < 4 := by omega
    subst hE'
    clear hE hb hT
    go_enter Tryd.func21, Tryd.ntmps21
    go_wp2_with fail
    all_goals go_ret3
    exact ⟨rfl, 0, rfl⟩
  · have z1 : ¬ (bs.length : Int) < 4 := by omega
    have K25 := hid (word_any A bs.length cap bs w hb (by omega) rfl)
    have hnl := num4_lt (bs := bs) (by omega)
    by_cases h2 : 65536 < num4 bs
    · have hE' : E = 11 := by rw [← hE]; unfold nextS; rw [if_neg h1, if_pos h2]
      have z2 : (65536 : Int) < (num4 bs : Int) := by omega
      subst hE'
      clear hE hb hT
      generalize num4 bs = n at *
      go_enter Tryd.func21, Tryd.ntmps21
      go_wp2_with fail
      refine K25.out.mono ?_
      rintro _ w1 ⟨rfl, k1, rfl⟩
      go_wp2_with fail
      all_goals go_ret3
      exact ⟨rfl, k1, rfl⟩
    · have z2 : ¬ (65536 : Int) < (num4 bs : Int) := by omega
      by_cases h3 : bs.length < num4 bs + 8
      · have hE' : E = 10 := by rw [← hE]; unfold nextS; rw [if_neg h1, if_neg h2, if_pos h3]
        have z3 : (bs.length : Int) < 4 + (num4 bs : Int) + 4 := by omega
        subst hE'
        clear hE hb hT
        generalize num4 bs = n at *
        go_enter Tryd.func21, Tryd.ntmps21
        go_wp2_with fail
        refine K25.out.mono ?_
        rintro _ w1 ⟨rfl, k1, rfl⟩
        go_wp2_with fail
        all_goals go_ret3
        exact ⟨rfl, k1, rfl⟩
      · have z3 : ¬ (bs.length : Int) < 4 + (num4 bs : Int) + 4 := by omega
        by_cases h4 : crc (bs.take (num4 bs + 4)) = num4 (bs.drop (num4 bs + 4))
        · exact absurd (by rw [← hE]; unfold nextS; rw [if_neg h1, if_neg h2, if_neg h3, if_pos h4]) h0
        · have hE' : E = 20 := by rw [← hE]; unfold nextS; rw [if_neg h1, if_neg h2, if_neg h3, if_neg h4]
          subst hE'
          obtain ⟨b, off, rfl⟩ : ∃ b off, A = some ⟨b, off, none⟩ := by
            rcases hb with rfl | ⟨b, off, h, _⟩
            · simp at h1
            · exact ⟨b, off, h⟩
          obtain ⟨n, hn⟩ : ∃ n, n = num4 bs := ⟨_, rfl⟩
          rw [← hn] at K25 hnl h2 z2 h3 z3 h4
          have K12 := hid (fun k m => sum_part (cap := cap) (w := w.drewN k) hb hT (m := 4 + n) (by omega) hlen m)
          have K25b := hid (fun k m => word_any (some ⟨b, off + (4 + n), none⟩) (bs.length - (4 + n)) (cap - (4 + n)) (bs.drop (4 + n)) ((w.drewN k).drewN m) (bts_drop (4 + n) hb) (by simp; omega) (by simp))
          rw [show n + 4 = 4 + n by omega] at h4
          generalize num4 (bs.drop (4 + n)) = s at *
          generalize crc (bs.take (4 + n)) = c at *
          have z4 : (4 : Int) + (n : Int) ≤ (bs.length : Int) := by omega
          have z5 : (4 : Int) + (n : Int) ≤ (cap : Int) := by omega
          have z6 : ((c : Int) != (s : Int)) = true := by simp; omega
          have s0 : (0 : Int) ≤ 4 + (n : Int) := by omega
          have s1 : (4 + (n : Int)).toNat = 4 + n := by omega
          clear hE hb hT h4 hn
          go_enter Tryd.func21, Tryd.ntmps21
          go_wp2_with fail
          refine K25.out.mono ?_
          rintro _ w1 ⟨rfl, k1, hw1⟩
          have Q12 := hid (K12.out k1)
          have Q25 := hid (K25b.out k1)
          rw [← hw1] at Q12 Q25
          have HW := hid hw1
          clear hw1 K12 K25b K25
          go_wp2_with fail
          go_quiet ((first | (go_at_call 12; exact calls_qs (Q12.out _)) | (go_at_call 25; exact Calls.quiet_of (Q25.out _))))
          go_wp2_with fail
          all_goals go_ret3
          exact ⟨rfl, k1 + nq, by rw [HW.out, World.drewN_drewN]⟩
set_option maxHeartbeats 2000000 in
theorem refnext_yes (b off cap n : Nat) (bs : List UInt8) (w : World) (hb : Bts w (some ⟨b, off, none⟩) bs) (hcap : bs.length ≤ cap) (hlen : bs.length ≤ 1099511627776) (hn : nextS bs = (0, n)) :
    Calls Tryd.prog 15 #[.slice (some ⟨b, off, none⟩) bs.length cap] w fun e w' => e = .returned (.tuple #[.slice (some ⟨b, off + 4, none⟩) n (cap - 4), .int .i64 ((n : Int) + 8), .int .i64 0]) ∧ ∃ k, w' = w.drewN k := by
  obtain ⟨h1, h2, h3, h4⟩ := nextS_yes hn
  have K25 := hid (number_any (some ⟨b, off, none⟩) bs.length cap bs w hb (by omega) rfl)
  have K12 := hid (fun k m => refsum_part (cap := cap) (w := w.drewN k) hb (m := n + 4) (by omega) hlen m)
  have K25b := hid (fun k m => number_any (some ⟨b, off + (n + 4), none⟩) (bs.length - (n + 4)) (cap - (n + 4)) (bs.drop (n + 4)) ((w.drewN k).drewN m) (bts_drop (n + 4) hb) (by simp; omega) (by simp))
  rw [← h1] at K25
  rw [h4] at K12
  have hlt := num4_lt (bs := bs.drop (n + 4)) (by simp; omega)
  generalize num4 (bs.drop (n + 4)) = s at *
  have z0 : (bs.length : Int) ≤ 1099511627776 := by omega
  have z1 : ¬ (bs.length : Int) < 4 := by omega
  have z2 : ¬ (65536 : Int) < (n : Int) := by omega
  have z3 : ¬ (bs.length : Int) < (n : Int) + 8 := by omega
  have z4 : (n : Int) + 4 ≤ (bs.length : Int) := by omega
  have z5 : (n : Int) + 4 ≤ (cap : Int) := by omega
  have s0 : (0 : Int) ≤ (n : Int) + 4 := by omega
  have s1 : ((n : Int) + 4).toNat = n + 4 := by omega
  have s2 : IntKind.i64.wrap ((n : Int) + 4) = (n : Int) + 4 := IntWalk.i64_in _ (by omega)
  have s3 : IntKind.u32.wrap (s : Int) = (s : Int) := by rw [IntKind.wrap_u32']; omega
  clear hn h1 h4 hb
  go_enter Tryd.func15, Tryd.ntmps15
  go_wp2_with fail
  refine K25.out.mono ?_
  rintro _ w1 ⟨rfl, k1, hw1⟩
  have Q12 := hid (K12.out k1)
  have Q25 := hid (K25b.out k1)
  rw [← hw1] at Q12 Q25
  have HW := hid hw1
  clear hw1 K12 K25b K25
  go_wp2_with fail
  go_quiet ((first | (go_at_call 13; exact calls_qs (Q12.out _)) | (go_at_call 23; exact Calls.quiet_of (Q25.out _))))
  clear s0 s1 s2 s3
  go_wp2_with fail
  all_goals go_ret3
  exact ⟨rfl, k1 + nq, by rw [HW.out, World.drewN_drewN]⟩
set_option maxHeartbeats 2000000 in
theorem refnext_no (A : Option Addr) (cap : Nat) (E : Int) (bs : List UInt8) (w : World) (hb : Bts w A bs) (hcap : bs.length ≤ cap) (hlen : bs.length ≤ 1099511627776) (hE : (nextS bs).1 = E) (h0 : E ≠ 0) :
    Calls Tryd.prog 15 #[.slice A bs.length cap] w fun e w' => e = .returned (.tuple #[.slice none 0 0, .int .i64 0, .int .i64 E]) ∧ ∃ k, w' = w.drewN k := by
  have z0 : (bs.length : Int) ≤ 1099511627776 := by omega
  by_cases h1 : bs.length < 4
  · have hE' : E = 10 := by rw [← hE]; unfold nextS; rw [if_pos h1]
    have z1 : (bs.length : Int) < 4 := by omega
    subst hE'
    clear hE hb
    go_enter Tryd.func15, Tryd.ntmps15
    go_wp2_with fail
    all_goals go_ret3
    exact ⟨rfl, 0, rfl⟩
  · have z1 : ¬ (bs.length : Int) < 4 := by omega
    have K25 := hid (number_any A bs.length cap bs w hb (by omega) rfl)
    have hnl := num4_lt (bs := bs) (by omega)
    by_cases h2 : 65536 < num4 bs
    · have hE' : E = 11 := by rw [← hE]; unfold nextS; rw [if_neg h1, if_pos h2]
      have z2 : (65536 : Int) < (num4 bs : Int) := by omega
      subst hE'
      clear hE hb
      generalize num4 bs = n at *
      go_enter Tryd.func15, Tryd.ntmps15
      go_wp2_with fail
      refine K25.out.mono ?_
      rintro _ w1 ⟨rfl, k1, rfl⟩
      go_wp2_with fail
      all_goals go_ret3
      exact ⟨rfl, k1, rfl⟩
    · have z2 : ¬ (65536 : Int) < (num4 bs : Int) := by omega
      by_cases h3 : bs.length < num4 bs + 8
      · have hE' : E = 10 := by rw [← hE]; unfold nextS; rw [if_neg h1, if_neg h2, if_pos h3]
        have z3 : (bs.length : Int) < (num4 bs : Int) + 8 := by omega
        subst hE'
        clear hE hb
        generalize num4 bs = n at *
        go_enter Tryd.func15, Tryd.ntmps15
        go_wp2_with fail
        refine K25.out.mono ?_
        rintro _ w1 ⟨rfl, k1, rfl⟩
        go_wp2_with fail
        all_goals go_ret3
        exact ⟨rfl, k1, rfl⟩
      · have z3 : ¬ (bs.length : Int) < (num4 bs : Int) + 8 := by omega
        by_cases h4 : crc (bs.take (num4 bs + 4)) = num4 (bs.drop (num4 bs + 4))
        · exact absurd (by rw [← hE]; unfold nextS; rw [if_neg h1, if_neg h2, if_neg h3, if_pos h4]) h0
        · have hE' : E = 20 := by rw [← hE]; unfold nextS; rw [if_neg h1, if_neg h2, if_neg h3, if_neg h4]
          subst hE'
          obtain ⟨b, off, rfl⟩ : ∃ b off, A = some ⟨b, off, none⟩ := by
            rcases hb with rfl | ⟨b, off, h, _⟩
            · simp at h1
            · exact ⟨b, off, h⟩
          obtain ⟨n, hn⟩ : ∃ n, n = num4 bs := ⟨_, rfl⟩
          rw [← hn] at K25 hnl h2 z2 h3 z3 h4
          have K12 := hid (fun k m => refsum_part (cap := cap) (w := w.drewN k) hb (m := n + 4) (by omega) hlen m)
          have K25b := hid (fun k m => number_any (some ⟨b, off + (n + 4), none⟩) (bs.length - (n + 4)) (cap - (n + 4)) (bs.drop (n + 4)) ((w.drewN k).drewN m) (bts_drop (n + 4) hb) (by simp; omega) (by simp))
          have hlt := num4_lt (bs := bs.drop (n + 4)) (by simp; omega)
          generalize num4 (bs.drop (n + 4)) = s at *
          generalize crc (bs.take (n + 4)) = c at *
          have z4 : (n : Int) + 4 ≤ (bs.length : Int) := by omega
          have z5 : (n : Int) + 4 ≤ (cap : Int) := by omega
          have z6 : ((s : Int) != (c : Int)) = true := by simp; omega
          have s0 : (0 : Int) ≤ (n : Int) + 4 := by omega
          have s1 : ((n : Int) + 4).toNat = n + 4 := by omega
          have s2 : IntKind.i64.wrap ((n : Int) + 4) = (n : Int) + 4 := IntWalk.i64_in _ (by omega)
          have s3 : IntKind.u32.wrap (s : Int) = (s : Int) := by rw [IntKind.wrap_u32']; omega
          clear hE hb h4 hn
          go_enter Tryd.func15, Tryd.ntmps15
          go_wp2_with fail
          refine K25.out.mono ?_
          rintro _ w1 ⟨rfl, k1, hw1⟩
          have Q12 := hid (K12.out k1)
          have Q25 := hid (K25b.out k1)
          rw [← hw1] at Q12 Q25
          have HW := hid hw1
          clear hw1 K12 K25b K25
          go_wp2_with fail
          go_quiet ((first | (go_at_call 13; exact calls_qs (Q12.out _)) | (go_at_call 23; exact Calls.quiet_of (Q25.out _))))
          clear s0 s1 s2 s3
          go_wp2_with fail
          all_goals go_ret3
          exact ⟨rfl, k1 + nq, by rw [HW.out, World.drewN_drewN]⟩
end Go.Proofs.YtaipjbljmkickaaDoor
