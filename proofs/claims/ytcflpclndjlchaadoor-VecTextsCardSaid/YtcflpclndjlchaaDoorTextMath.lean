/- Numerals and commas, in lists of bytes: four numerals with commas between are cut into the four; a numeral's number. Condition: none. -/
import Derived.Test.YtcflpclndjlchaaDoorRead
import Derived.Test.YtcflpclndjlchaaDoorText
namespace Go.Proofs.YtcflpclndjlchaaDoor
open Go Go.RowKit
theorem index_none (l : List UInt8) (h : (44 : UInt8) ∉ l) : Lib.index l [44] = -1 := by
  induction l with
  | nil => rfl
  | cons b l ih =>
    have hb : ((44 : UInt8) == b) = false := by
      rw [beq_eq_false_iff_ne]
      intro e
      exact h (by rw [e]; exact List.mem_cons_self)
    have hl : (44 : UInt8) ∉ l := fun g => h (List.mem_cons_of_mem _ g)
    unfold Lib.index
    simp [List.isPrefixOf, hb, ih hl]
theorem index_at (a t : List UInt8) (h : (44 : UInt8) ∉ a) : Lib.index (a ++ 44 :: t) [44] = (a.length : Int) := by
  induction a with
  | nil => simp [Lib.index, List.isPrefixOf]
  | cons b a ih =>
    have hb : ((44 : UInt8) == b) = false := by
      rw [beq_eq_false_iff_ne]
      intro e
      exact h (by rw [e]; exact List.mem_cons_self)
    have hl : (44 : UInt8) ∉ a := fun g => h (List.mem_cons_of_mem _ g)
    have e : ((a.length : Int) == -1) = false := by simp
    have hu : ∀ l : List UInt8, Lib.index (b :: l) [44] = if [(44 : UInt8)].isPrefixOf (b :: l) then 0 else if Lib.index l [44] == -1 then -1 else Lib.index l [44] + 1 := fun _ => rfl
    rw [List.cons_append, hu, ih hl, e]
    simp [List.isPrefixOf, hb]
theorem cut_one (k : Nat) (a t : List UInt8) (h : (44 : UInt8) ∉ a) : Lib.splitK [44] 0 (k + 1) (a ++ 44 :: t) = a :: Lib.splitK [44] 0 k t := by
  have e : ((a.length : Int) == -1) = false := by simp
  have hu : ∀ s, Lib.splitK [44] 0 (k + 1) s = if Lib.index s [44] == -1 then [s] else s.take ((Lib.index s [44]).toNat + 0) :: Lib.splitK [44] 0 k (s.drop ((Lib.index s [44]).toNat + 1)) := fun _ => rfl
  rw [hu, index_at a t h, e]
  simp
theorem cut_last (k : Nat) (a : List UInt8) (h : (44 : UInt8) ∉ a) : Lib.splitK [44] 0 k a = [a] := by
  cases k with
  | zero => rfl
  | succ k =>
    unfold Lib.splitK
    rw [index_none a h]
    rfl
theorem join_four (S : Nat → ByteArray) : joinS S = (S 0).data.toList ++ 44 :: ((S 1).data.toList ++ 44 :: ((S 2).data.toList ++ 44 :: (S 3).data.toList)) := by
  unfold joinS
  show Lib.join ((S 0).data.toList :: [(S 1).data.toList, (S 2).data.toList, (S 3).data.toList]) [44] = _
  rw [Lib.join_cons]
  simp [Lib.joinTail]
theorem bytes_inj {x y : ByteArray} (h : x.data.toList = y.data.toList) : x = y := by
  obtain ⟨⟨a⟩⟩ := x
  obtain ⟨⟨b⟩⟩ := y
  simp only at h
  rw [h]
theorem words_join (S : Nat → ByteArray) (h : ∀ i, i < 4 → (44 : UInt8) ∉ (S i).data.toList) (h0 : 0 < (S 0).data.toList.length) : wordsOf ⟨(joinS S).toArray⟩ = [S 0, S 1, S 2, S 3] := by
  have hsz : (⟨(joinS S).toArray⟩ : ByteArray).size = (joinS S).length := by
    show (joinS S).toArray.size = _
    simp
  have hlen : 4 ≤ (joinS S).length := by
    rw [join_four]
    simp
    simp at h0
    omega
  have hk : min 5 ((⟨(joinS S).toArray⟩ : ByteArray).size + 1) - 1 = 4 := by rw [hsz]; omega
  refine (List.map_inj_right (f := fun x : ByteArray => x.data.toList) fun x y => bytes_inj).1 ?_
  unfold wordsOf
  rw [hk]
  refine (Lib.splitB_data ⟨#[44]⟩ 0 4 ⟨(joinS S).toArray⟩).trans ?_
  show Lib.splitK [44] 0 4 (joinS S) = _
  rw [join_four, cut_one 3 _ _ (h 0 (by decide)), cut_one 2 _ _ (h 1 (by decide)), cut_one 1 _ _ (h 2 (by decide)), cut_last 1 _ (h 3 (by decide))]
  rfl
/-- The bytes of a list, as numbers. -/
def fl (l : List UInt8) (i : Nat) : Nat := (l.getD i 0).toNat
theorem acc_congr {f g : Nat → Nat} {k : Nat} (h : ∀ i, i < k → f i = g i) : accF f k = accF g k := by
  induction k with
  | zero => rfl
  | succ k ih =>
    unfold accF
    rw [ih fun i hi => h i (by omega), h k (by omega)]
theorem fl_left {l t : List UInt8} {i : Nat} (h : i < l.length) : fl (l ++ t) i = fl l i := by
  unfold fl
  rw [List.getD_eq_getElem?_getD, List.getD_eq_getElem?_getD, List.getElem?_append_left h]
theorem fl_last (l : List UInt8) (c : UInt8) : fl (l ++ [c]) l.length = c.toNat := by
  unfold fl
  rw [List.getD_eq_getElem?_getD, List.getElem?_append_right (Nat.le_refl _)]
  simp
theorem dig_nat {u : Nat} (h : u < 10) : (UInt8.ofNat (48 + u)).toNat = 48 + u := by
  rw [UInt8.toNat_ofNat']
  omega
theorem dec_big {u : Nat} (h : ¬ u < 10) : Lib.decDigits u = Lib.decDigits (u / 10) ++ [UInt8.ofNat (48 + u % 10)] := by rw [Lib.decDigits, dif_neg h]
theorem dec_small {u : Nat} (h : u < 10) : Lib.decDigits u = [UInt8.ofNat (48 + u)] := by rw [Lib.decDigits, dif_pos h]
theorem dec_pos (u : Nat) : 0 < (Lib.decDigits u).length := by
  rw [Lib.decDigits_length]
  exact Lib.nDigits_pos u
theorem dec_spec (u : Nat) : accF (fl (Lib.decDigits u)) (Lib.decDigits u).length = (u : Int) ∧ (∀ i, i < (Lib.decDigits u).length → 48 ≤ fl (Lib.decDigits u) i ∧ fl (Lib.decDigits u) i ≤ 57) ∧ (0 < u → fl (Lib.decDigits u) 0 ≠ 48) := by
  induction u using Nat.strongRecOn with
  | _ u ih =>
    by_cases h : u < 10
    · rw [dec_small h]
      have e : fl [UInt8.ofNat (48 + u)] 0 = 48 + u := by
        show (UInt8.ofNat (48 + u)).toNat = _
        exact dig_nat h
      refine ⟨?_, fun i hi => ?_, fun hu => by omega⟩
      · show accF (fl [UInt8.ofNat (48 + u)]) 1 = _
        unfold accF
        rw [e]
        simp [accF]
        omega
      · have hi0 : i = 0 := by simpa using hi
        subst hi0
        omega
    · obtain ⟨h1, h2, h3⟩ := ih (u / 10) (by omega)
      have hp := dec_pos (u / 10)
      rw [dec_big h]
      generalize Lib.decDigits (u / 10) = l at *
      have hl : (l ++ [UInt8.ofNat (48 + u % 10)]).length = l.length + 1 := by simp
      have e : fl (l ++ [UInt8.ofNat (48 + u % 10)]) l.length = 48 + u % 10 := by
        rw [fl_last]
        exact dig_nat (by omega)
      rw [hl]
      refine ⟨?_, fun i hi => ?_, fun _ => ?_⟩
      · show 10 * accF (fl (l ++ [UInt8.ofNat (48 + u % 10)])) l.length + ((fl (l ++ [UInt8.ofNat (48 + u % 10)]) l.length : Int) - 48) = _
        rw [acc_congr (g := fl l) fun i hi => fl_left hi, h1, e]
        omega
      · by_cases hil : i < l.length
        · rw [fl_left hil]
          exact h2 i hil
        · obtain rfl : i = l.length := by omega
          rw [e]
          omega
      · rw [fl_left hp]
        exact h3 (by omega)
theorem pow_le_nDigits (u : Nat) (h : 0 < u) : 10 ^ (Lib.nDigits u - 1) ≤ u := by
  induction u using Nat.strongRecOn with
  | _ u ih =>
    by_cases hs : u < 10
    · rw [Lib.nDigits_small hs]
      exact h
    · rw [Lib.nDigits_big hs]
      have := ih (u / 10) (by omega) (by omega)
      have hp := Lib.nDigits_pos (u / 10)
      have e : Lib.nDigits (u / 10) + 1 - 1 = (Lib.nDigits (u / 10) - 1) + 1 := by omega
      rw [e, Nat.pow_succ]
      omega
/-- The number of a numeral. -/
def numI (n : Int) : Int := numF (Lib.itoa n).length (fl (Lib.itoa n))
theorem numI_in {n : Int} (h : 0 ≤ n ∧ n ≤ 1073741824) : numI n = n := by
  obtain ⟨u, rfl⟩ := Int.eq_ofNat_of_zero_le h.1
  have e : Lib.itoa (u : Int) = Lib.decDigits u := by
    unfold Lib.itoa
    rw [if_neg (by omega), Int.toNat_natCast]
  obtain ⟨h1, h2, h3⟩ := dec_spec u
  have hp := dec_pos u
  have hlen : (Lib.decDigits u).length ≤ 10 := by
    rw [Lib.decDigits_length]
    by_cases hg : Lib.nDigits u ≤ 10
    · exact hg
    · exfalso
      by_cases hz : u = 0
      · subst hz
        rw [Lib.nDigits_small (by decide)] at hg
        omega
      · have := pow_le_nDigits u (by omega)
        have h4 : 10 ^ 10 ≤ 10 ^ (Lib.nDigits u - 1) := Nat.pow_le_pow_right (by decide) (by omega)
        have h5 : 10 ^ 10 = 10000000000 := by decide
        omega
  unfold numI numF
  rw [e, if_neg, if_pos h2, h1]
  rintro (g | g | ⟨g, g2⟩)
  · omega
  · omega
  · by_cases hz : u = 0
    · subst hz
      rw [dec_small (by decide)] at g
      simp at g
    · exact h3 (by omega) g2
theorem numI_out {n : Int} (h : ¬ (0 ≤ n ∧ n ≤ 1073741824)) : ¬ (0 ≤ numI n ∧ numI n ≤ 1073741824) := by
  by_cases hn : n < 0
  · have e : Lib.itoa n = 45 :: Lib.decDigits n.natAbs := by
      unfold Lib.itoa
      rw [if_pos hn]
    have e0 : fl (Lib.itoa n) 0 = 45 := by rw [e]; rfl
    have hl : 0 < (Lib.itoa n).length := by rw [e]; simp
    have hb : ¬ ∀ i, i < (Lib.itoa n).length → 48 ≤ fl (Lib.itoa n) i ∧ fl (Lib.itoa n) i ≤ 57 := fun g => by
      have := g 0 hl
      rw [e0] at this
      omega
    have e1 : numI n = -1 := by
      unfold numI numF
      split
      · rfl
      · first | rfl | rw [if_neg hb]
    omega
  · obtain ⟨u, rfl⟩ := Int.eq_ofNat_of_zero_le (show 0 ≤ n by omega)
    have e : Lib.itoa (u : Int) = Lib.decDigits u := by
      unfold Lib.itoa
      rw [if_neg (by omega), Int.toNat_natCast]
    obtain ⟨h1, h2, h3⟩ := dec_spec u
    have e1 : numI (u : Int) = -1 ∨ numI (u : Int) = u := by
      unfold numI numF
      rw [e]
      split
      · exact .inl rfl
      · first | (rw [if_pos h2, h1]; exact .inr rfl) | (rw [h1]; exact .inr rfl)
    rcases e1 with e1 | e1 <;> rw [e1] <;> omega
theorem itoa_plain (n : Int) : (44 : UInt8) ∉ Lib.itoa n ∧ 0 < (Lib.itoa n).length := by
  have key : ∀ u, (44 : UInt8) ∉ Lib.decDigits u := fun u g => by
    obtain ⟨i, hi, hx⟩ := List.mem_iff_getElem.1 g
    have h2 := (dec_spec u).2.1 i hi
    have : fl (Lib.decDigits u) i = 44 := by
      unfold fl
      rw [List.getD_eq_getElem?_getD, List.getElem?_eq_getElem hi, hx]
      rfl
    omega
  unfold Lib.itoa
  split
  · refine ⟨fun g => ?_, by simp⟩
    rcases List.mem_cons.1 g with g | g
    · exact absurd g (by decide)
    · exact key _ g
  · exact ⟨key _, dec_pos _⟩
theorem itoa_len {n : Int} (h : n ≤ 9223372036854775807 ∧ -9223372036854775808 ≤ n) : (Lib.itoa n).length ≤ 21 := by
  have key : ∀ u : Nat, u ≤ 9223372036854775808 → (Lib.decDigits u).length ≤ 20 := fun u hu => by
    rw [Lib.decDigits_length]
    by_cases hg : Lib.nDigits u ≤ 20
    · exact hg
    · exfalso
      by_cases hz : u = 0
      · subst hz
        rw [Lib.nDigits_small (by decide)] at hg
        omega
      · have := pow_le_nDigits u (by omega)
        have h4 : 10 ^ 20 ≤ 10 ^ (Lib.nDigits u - 1) := Nat.pow_le_pow_right (by decide) (by omega)
        have h5 : 10 ^ 20 = 100000000000000000000 := by decide
        omega
  unfold Lib.itoa
  split
  · have := key n.natAbs (by omega)
    simp only [List.length_cons]
    omega
  · have := key n.toNat (by omega)
    omega
/-- The numeral as a text. -/
def itoaB (n : Int) : ByteArray := ⟨(Lib.itoa n).toArray⟩
theorem itoaB_list (n : Int) : (itoaB n).data.toList = Lib.itoa n := by simp [itoaB]
theorem itoaB_num (n : Int) : numF (itoaB n).size (byteAt (itoaB n)) = numI n := by
  have h1 : (itoaB n).size = (Lib.itoa n).length := by
    show (Lib.itoa n).toArray.size = _
    simp
  have h2 : byteAt (itoaB n) = fl (Lib.itoa n) := funext fun i => by
    unfold byteAt fl
    rw [itoaB_list]
  rw [h1, h2]
  rfl
theorem join_len (N : Nat → Int) (h : ∀ i, N i ≤ 9223372036854775807 ∧ -9223372036854775808 ≤ N i) : (joinS fun i => itoaB (N i)).length ≤ 1000 := by
  rw [join_four]
  simp only [itoaB_list, List.length_append, List.length_cons]
  have h0 := itoa_len (h 0)
  have h1 := itoa_len (h 1)
  have h2 := itoa_len (h 2)
  have h3 := itoa_len (h 3)
  omega
theorem words_text (N : Nat → Int) : wordsOf ⟨(joinS fun i => itoaB (N i)).toArray⟩ = [itoaB (N 0), itoaB (N 1), itoaB (N 2), itoaB (N 3)] :=
  words_join (fun i => itoaB (N i)) (fun i _ => by simp only [itoaB_list]; exact (itoa_plain _).1) (by simp only [itoaB_list]; exact (itoa_plain _).2)
/-- What is told is read as it was, just if it is right. -/
theorem read_text (N : Nat → Int) : readF [itoaB (N 0), itoaB (N 1), itoaB (N 2), itoaB (N 3)] = if rightB N = true then (readN [itoaB (N 0), itoaB (N 1), itoaB (N 2), itoaB (N 3)], 0) else (fun _ => 0, 11) := by
  have hv : ∀ i, i < 4 → readN [itoaB (N 0), itoaB (N 1), itoaB (N 2), itoaB (N 3)] i = numI (N i) := fun i hi => by
    rcases (by omega : i = 0 ∨ i = 1 ∨ i = 2 ∨ i = 3) with rfl | rfl | rfl | rfl <;> exact itoaB_num _
  unfold readF
  rw [if_pos (by rfl)]
  by_cases h : rightB N = true
  · have hr : rightB (readN [itoaB (N 0), itoaB (N 1), itoaB (N 2), itoaB (N 3)]) = true := (rightB_iff _).2 fun i hi => by
      rw [hv i hi]
      have := (rightB_iff N).1 h i hi
      rw [numI_in this]
      exact this
    rw [if_pos h, withF, if_pos hr]
  · have hr : ¬ rightB (readN [itoaB (N 0), itoaB (N 1), itoaB (N 2), itoaB (N 3)]) = true := fun g => h ((rightB_iff N).2 fun i hi => by
      have h1 := (rightB_iff _).1 g i hi
      rw [hv i hi] at h1
      by_cases h2 : 0 ≤ N i ∧ N i ≤ 1073741824
      · exact h2
      · exact absurd h1 (numI_out h2))
    rw [if_neg h, withF, if_neg hr]
theorem readN_text {N : Nat → Int} (h : rightB N = true) (i : Nat) (hi : i < 4) : readN [itoaB (N 0), itoaB (N 1), itoaB (N 2), itoaB (N 3)] i = N i := by
  have e : readN [itoaB (N 0), itoaB (N 1), itoaB (N 2), itoaB (N 3)] i = numI (N i) := by
    rcases (by omega : i = 0 ∨ i = 1 ∨ i = 2 ∨ i = 3) with rfl | rfl | rfl | rfl <;> exact itoaB_num _
  rw [e]
  exact numI_in ((rightB_iff N).1 h i hi)
end Go.Proofs.YtcflpclndjlchaaDoor
