/- A frame with a byte turned, or cut short, is refused. Condition: none. -/
import Derived.Test.YtaipjbljmkickaaDoorOpen
namespace Go.Proofs.YtaipjbljmkickaaDoor
open Go Go.RowKit
theorem frameB_num (x : List UInt8) (h : x.length ≤ 65536) : num4 (frameB x) = x.length := by
  have := num4_word x.length (x ++ wordB (crc (wordB x.length ++ x))) (by omega)
  rwa [← List.append_assoc] at this
theorem num4_take (l : List UInt8) (k : Nat) (h : 4 ≤ k) : num4 (l.take k) = num4 l := by
  obtain ⟨m, rfl⟩ : ∃ m, k = m + 4 := ⟨k - 4, by omega⟩
  match l with
  | a :: b :: c :: d :: t => rfl
  | [] => rfl
  | [a] => rfl
  | [a, b] => rfl
  | [a, b, c] => rfl
theorem num4_set (l : List UInt8) (k : Nat) (y : UInt8) (h : 4 ≤ k) : num4 (l.set k y) = num4 l := by
  obtain ⟨m, rfl⟩ : ∃ m, k = m + 4 := ⟨k - 4, by omega⟩
  match l with
  | a :: b :: c :: d :: t => rfl
  | [] => rfl
  | [a] => rfl
  | [a, b] => rfl
  | [a, b, c] => rfl
theorem nextS_cut (x : List UInt8) (k : Nat) (h : x.length ≤ 65536) (hk : k < x.length + 8) : (nextS ((frameB x).take k)).1 = 10 := by
  have hl : ((frameB x).take k).length = k := by rw [List.length_take, frameB_len]; omega
  unfold nextS
  rw [hl]
  by_cases h4 : k < 4
  · rw [if_pos h4]
  · rw [if_neg h4, num4_take _ _ (by omega), frameB_num x h, if_neg (by omega), if_pos (by omega)]
theorem num4_inj {l m : List UInt8} (hl : l.length = 4) (hm : m.length = 4) (h : num4 l = num4 m) : l = m := by
  match l, hl with
  | [a, b, c, d], _ =>
    match m, hm with
    | [a', b', c', d'], _ =>
      have h' : 16777216 * a.toNat + 65536 * b.toNat + 256 * c.toNat + d.toNat = 16777216 * a'.toNat + 65536 * b'.toNat + 256 * c'.toNat + d'.toNat := h
      have := a.toNat_lt
      have := b.toNat_lt
      have := c.toNat_lt
      have := d.toNat_lt
      have := a'.toNat_lt
      have := b'.toNat_lt
      have := c'.toNat_lt
      have := d'.toNat_lt
      rw [UInt8.toNat_inj.1 (show a.toNat = a'.toNat by omega), UInt8.toNat_inj.1 (show b.toNat = b'.toNat by omega), UInt8.toNat_inj.1 (show c.toNat = c'.toNat by omega), UInt8.toNat_inj.1 (show d.toNat = d'.toNat by omega)]
theorem crc_set (X : List UInt8) (k : Nat) (y : UInt8) (hk : k < X.length) (h : crc (X.set k y) = crc X) : y = X[k] := by
  have e2 : X = X.take k ++ X[k] :: X.drop (k + 1) := by rw [← List.drop_eq_getElem_cons hk, List.take_append_drop]
  rw [List.set_eq_take_append_cons_drop, if_pos hk] at h
  have h' : crc (X.take k ++ y :: X.drop (k + 1)) = crc (X.take k ++ X[k] :: X.drop (k + 1)) := by rw [← e2]; exact h
  exact crc_turned _ _ _ _ h'
theorem nextS_turned (x : List UInt8) (k : Nat) (y z : UInt8) (h : x.length ≤ 65536) (h4 : 4 ≤ k) (hz : (frameB x)[k]? = some z) (hy : y ≠ z) : (nextS ((frameB x).set k y)).1 = 20 := by
  have hk : k < x.length + 8 := by
    have := (List.getElem?_eq_some_iff.1 hz).1
    rwa [frameB_len] at this
  have hl : ((frameB x).set k y).length = x.length + 8 := by rw [List.length_set, frameB_len]
  have hX : (wordB x.length ++ x).length = x.length + 4 := by simp [wordB_len]; omega
  have ht : (frameB x).take (x.length + 4) = wordB x.length ++ x := by
    unfold frameB
    rw [List.take_append_of_le_length (by omega), List.take_of_length_le (by omega)]
  have hd : (frameB x).drop (x.length + 4) = wordB (crc (wordB x.length ++ x)) := by
    unfold frameB
    rw [List.drop_append_of_le_length (by omega), List.drop_of_length_le (by omega), List.nil_append]
  unfold nextS
  rw [hl, num4_set _ _ _ h4, frameB_num x h, if_neg (by omega), if_neg (by omega), if_neg (by omega), List.take_set, List.drop_set, ht, hd]
  have hw : num4 (wordB (crc (wordB x.length ++ x))) = crc (wordB x.length ++ x) := by
    have := num4_word (crc (wordB x.length ++ x)) [] (crc_lt _)
    rwa [List.append_nil] at this
  have hz' : (frameB x)[k]? = if k < x.length + 4 then (wordB x.length ++ x)[k]? else (wordB (crc (wordB x.length ++ x)))[k - (x.length + 4)]? := by
    unfold frameB
    rw [List.getElem?_append, hX]
  by_cases hk4 : k < x.length + 4
  · rw [if_pos hk4] at hz'
    rw [if_pos hk4, hw]
    have hne : crc ((wordB x.length ++ x).set k y) ≠ crc (wordB x.length ++ x) := by
      intro he
      have := crc_set _ k y (by omega) he
      rw [hz, List.getElem?_eq_getElem (by omega)] at hz'
      exact hy (this.trans (Option.some.inj hz').symm)
    rw [if_neg hne]
  · rw [if_neg hk4] at hz'
    rw [if_neg hk4, List.set_eq_of_length_le (l := wordB x.length ++ x) (by omega)]
    generalize crc (wordB x.length ++ x) = c at *
    have hne : c ≠ num4 ((wordB c).set (k - (x.length + 4)) y) := by
      intro he
      rw [← hw] at he
      have := num4_inj (l := wordB (num4 (wordB c))) (m := (wordB c).set (k - (x.length + 4)) y) rfl (by simp [wordB_len]) (by rw [hw]; rw [hw] at he; rw [hw]; exact he)
      rw [hw] at this
      have h2 : ((wordB c).set (k - (x.length + 4)) y)[k - (x.length + 4)]? = some y := by
        rw [List.getElem?_set_self (by rw [wordB_len]; omega)]
      rw [← this, ← hz', hz] at h2
      exact hy (Option.some.inj h2).symm
    rw [if_neg hne]
theorem own_set_same {w : World} {B g n c : Nat} {x : List UInt8} (k : Nat) (y : UInt8) (h : Own w B (.slice (some ⟨g, 0, none⟩) n c) x) : Own (w.setCell ⟨g, k, none⟩ (bv y)) B (.slice (some ⟨g, 0, none⟩) n c) (x.set k y) := by
  obtain ⟨hl, ⟨he, h0⟩ | ⟨g', cap, cur, he, hb, hh, hn, hcap, hcur, htake⟩⟩ := h
  · cases he
  · cases he
    refine ⟨by simp, .inr ⟨g, c, cur.setIfInBounds k (bv y), by simp, hb, heap_setCell_same w g k _ 5 (bv y) hh, by simpa using hn, hcap, by simpa using hcur, ?_⟩⟩
    rw [List.length_set, Array.toList_setIfInBounds, List.take_set, htake, List.map_set]
theorem own_at2 {w : World} {B m c : Nat} {A : Option Addr} {x : List UInt8} (h : Own w B (.slice A m c) x) (hl : x.length = m) (j : Nat) (hj : j < m) : ∃ g, A = some ⟨g, 0, none⟩ ∧ ∃ z, x[j]? = some z ∧ w.cell? ⟨g, j, none⟩ = some (bv z) ∧ w.frozen? ⟨g, j, none⟩ = false := by
  obtain ⟨_, ⟨he, h0⟩ | ⟨g, cap, cur, he, hb, hh, hn, hcap, hcur, htake⟩⟩ := h
  · omega
  · cases he
    refine ⟨g, rfl, x[j]'(by omega), List.getElem?_eq_getElem (by omega), ?_, free_of hh j⟩
    rw [cell_of hh, ← Array.getElem?_toList]
    have : (cur.toList.take (x.length * 1))[j]? = some (bv (x[j]'(by omega))) := by rw [htake, List.getElem?_map, List.getElem?_eq_getElem (by omega)]; rfl
    rw [List.getElem?_take, if_pos (by omega)] at this
    exact this
theorem xor_ne (z b : Nat) : z ^^^ 2 ^ b ≠ z := by
  intro h
  have h1 : z ^^^ (z ^^^ 2 ^ b) = z ^^^ z := by rw [h]
  rw [← Nat.xor_assoc, Nat.xor_self, Nat.zero_xor] at h1
  have := Nat.pow_pos (n := b) (show 0 < 2 by omega)
  omega
theorem xor_bit (z : UInt8) (b : Nat) (hb : b < 8) : ∃ y : UInt8, y ≠ z ∧ Value.int .u8 (bits .xor .u8 (z.toNat : Int) ((2 : Int) ^ b % 256)) = bv y := by
  have hz := z.toNat_lt
  have hp : 2 ^ b ≤ 2 ^ 7 := Nat.pow_le_pow_right (by omega) (by omega)
  have hx : z.toNat ^^^ 2 ^ b < 2 ^ 8 := Nat.xor_lt_two_pow (by omega) (by omega)
  refine ⟨UInt8.ofNat (z.toNat ^^^ 2 ^ b), fun h => ?_, ?_⟩
  · have := congrArg UInt8.toNat h
    rw [ofNat_toNat_lt (by omega)] at this
    exact xor_ne _ _ this
  · have e : ((2 : Int) ^ b % 256) = ((2 ^ b : Nat) : Int) := by
      have : ((2 ^ b : Nat) : Int) = (2 : Int) ^ b := by push_cast; rfl
      rw [← this]
      have hp' : 2 ^ b ≤ 128 := hp
      clear hp hx this
      generalize 2 ^ b = m at *
      omega
    rw [e, u8_xor_nat _ _ (by omega) (by omega)]
    unfold bv
    rw [ofNat_toNat_lt (by omega)]
end Go.Proofs.YtaipjbljmkickaaDoor
