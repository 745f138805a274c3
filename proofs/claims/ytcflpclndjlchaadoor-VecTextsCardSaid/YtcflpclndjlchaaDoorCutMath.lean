/- A text cut at its commas: the reference's way, place by place, and the library's; and what is read of either. Condition: none. -/
import Derived.Test.YtcflpclndjlchaaDoorTextMath
namespace Go.Proofs.YtcflpclndjlchaaDoor
open Go Go.RowKit
def stp (p : List (List UInt8) × List UInt8) (b : UInt8) : List (List UInt8) × List UInt8 := if b = 44 then (p.1 ++ [p.2], []) else (p.1, p.2 ++ [b])
def cutL (l : List UInt8) : List (List UInt8) := (l.foldl stp ([], [])).1 ++ [(l.foldl stp ([], [])).2]
theorem fold_plain (a : List UInt8) (h : (44 : UInt8) ∉ a) : ∀ p, a.foldl stp p = (p.1, p.2 ++ a) := by
  induction a with
  | nil => intro p; simp
  | cons b a ih =>
    intro p
    have hb : ¬ b = 44 := fun e => h (by rw [e]; exact List.mem_cons_self)
    rw [List.foldl_cons, ih (fun g => h (List.mem_cons_of_mem _ g)), stp, if_neg hb]
    simp
theorem fold_shift (l : List UInt8) (d : List (List UInt8)) : ∀ p, l.foldl stp (d ++ p.1, p.2) = (d ++ (l.foldl stp p).1, (l.foldl stp p).2) := by
  induction l with
  | nil => intro p; rfl
  | cons b l ih =>
    intro p
    rw [List.foldl_cons, List.foldl_cons]
    by_cases hb : b = 44
    · have e1 : stp (d ++ p.1, p.2) b = (d ++ (stp p b).1, (stp p b).2) := by
        unfold stp
        rw [if_pos hb, if_pos hb, List.append_assoc]
      rw [e1, ih]
    · have e1 : stp (d ++ p.1, p.2) b = (d ++ (stp p b).1, (stp p b).2) := by
        unfold stp
        rw [if_neg hb, if_neg hb]
      rw [e1, ih]
theorem cutL_none (a : List UInt8) (h : (44 : UInt8) ∉ a) : cutL a = [a] := by
  unfold cutL
  rw [fold_plain a h]
  simp
theorem cutL_cons (a t : List UInt8) (h : (44 : UInt8) ∉ a) : cutL (a ++ 44 :: t) = a :: cutL t := by
  have e : (a ++ 44 :: t).foldl stp ([], []) = ([a] ++ (t.foldl stp ([], [])).1, (t.foldl stp ([], [])).2) := by
    rw [List.foldl_append, fold_plain a h, List.foldl_cons]
    have e1 : stp (([] : List (List UInt8)), [] ++ a) 44 = ([a] ++ ([] : List (List UInt8)), []) := by
      unfold stp
      rw [if_pos rfl]
      rfl
    rw [e1]
    exact fold_shift t [a] ([], [])
  unfold cutL
  rw [e]
  rfl
theorem cutL_len (l : List UInt8) : (cutL l).length ≤ l.length + 1 := by
  have key : ∀ p, (l.foldl stp p).1.length ≤ p.1.length + l.length := by
    induction l with
    | nil => intro p; simp
    | cons b l ih =>
      intro p
      rw [List.foldl_cons]
      have h1 := ih (stp p b)
      have h2 : (stp p b).1.length ≤ p.1.length + 1 := by
        unfold stp
        split <;> simp
      simp only [List.length_cons]
      omega
  have := key ([], [])
  unfold cutL
  simp at this ⊢
  omega
theorem first_comma (l : List UInt8) (h : (44 : UInt8) ∈ l) : ∃ a t, l = a ++ 44 :: t ∧ (44 : UInt8) ∉ a := by
  induction l with
  | nil => cases h
  | cons b l ih =>
    by_cases hb : b = 44
    · exact ⟨[], l, by rw [hb]; rfl, by simp⟩
    · obtain ⟨a, t, e, hn⟩ := ih ((List.mem_cons.1 h).resolve_left fun g => hb g.symm)
      exact ⟨b :: a, t, by rw [e]; rfl, fun g => (List.mem_cons.1 g).elim (fun g => hb g.symm) hn⟩
theorem split_cut (k : Nat) : ∀ l, ((cutL l).length ≤ k + 1 → Lib.splitK [44] 0 k l = cutL l) ∧ (k + 1 < (cutL l).length → (Lib.splitK [44] 0 k l).length = k + 1) := by
  induction k with
  | zero =>
    intro l
    by_cases h : (44 : UInt8) ∈ l
    · obtain ⟨a, t, rfl, hn⟩ := first_comma l h
      rw [cutL_cons a t hn]
      refine ⟨fun g => ?_, fun _ => rfl⟩
      have : (cutL t).length = 0 := by simpa using g
      unfold cutL at this
      simp at this
    · rw [cutL_none l h, cut_last 0 l h]
      exact ⟨fun _ => rfl, fun g => by simp at g⟩
  | succ k ih =>
    intro l
    by_cases h : (44 : UInt8) ∈ l
    · obtain ⟨a, t, rfl, hn⟩ := first_comma l h
      rw [cutL_cons a t hn, cut_one k a t hn]
      obtain ⟨h1, h2⟩ := ih t
      refine ⟨fun g => by rw [h1 (by simpa using g)], fun g => ?_⟩
      have := h2 (by simpa using g)
      simp [this]
    · rw [cutL_none l h, cut_last (k + 1) l h]
      exact ⟨fun _ => rfl, fun g => by simp at g⟩
/-- The reference's pieces behind the first i places, and where the next begins. -/
def cs (s : ByteArray) : Nat → List ByteArray × Nat
  | 0 => ([], 0)
  | i + 1 => if byteAt s i = 44 then ((cs s i).1 ++ [s.extract (cs s i).2 i], i + 1) else cs s i
def cutF (s : ByteArray) : List ByteArray := (cs s s.size).1 ++ [s.extract (cs s s.size).2 s.size]
theorem cs_le (s : ByteArray) (i : Nat) : (cs s i).2 ≤ i ∧ (cs s i).1.length ≤ i := by
  induction i with
  | zero => exact ⟨Nat.le_refl _, Nat.le_refl _⟩
  | succ i ih =>
    unfold cs
    split
    · simp
      omega
    · omega
theorem ext_list (s : ByteArray) (a b : Nat) : (s.extract a b).data.toList = (s.data.toList.drop a).take (b - a) := by
  simp [List.take_drop]
theorem cs_fold (s : ByteArray) (i : Nat) (hi : i ≤ s.size) : (s.data.toList.take i).foldl stp ([], []) = ((cs s i).1.map (·.data.toList), (s.extract (cs s i).2 i).data.toList) := by
  induction i with
  | zero =>
    rw [ext_list]
    rfl
  | succ i ih =>
    have hl : i < s.data.toList.length := by
      have : s.data.toList.length = s.size := by simp
      omega
    have hb : byteAt s i = (s.data.toList[i]).toNat := by
      unfold byteAt
      rw [List.getD_eq_getElem?_getD, List.getElem?_eq_getElem hl]
      rfl
    obtain ⟨c0, _⟩ := cs_le s i
    rw [List.take_succ_eq_append_getElem hl, List.foldl_append, ih (by omega), List.foldl_cons, List.foldl_nil]
    by_cases h : byteAt s i = 44
    · have h' : s.data.toList[i] = 44 := UInt8.toNat_inj.1 (by rw [← hb, h]; rfl)
      have e : cs s (i + 1) = ((cs s i).1 ++ [s.extract (cs s i).2 i], i + 1) := by rw [cs, if_pos h]
      rw [e, stp, if_pos h']
      simp only [List.map_append, List.map_cons, List.map_nil]
      rw [ext_list s (i + 1) (i + 1), Nat.sub_self]
      rfl
    · have h' : ¬ s.data.toList[i] = 44 := fun g => h (by rw [hb, g]; rfl)
      have e : cs s (i + 1) = cs s i := by rw [cs, if_neg h]
      rw [e, stp, if_neg h']
      simp only
      rw [ext_list, ext_list]
      have e2 : i + 1 - (cs s i).2 = (i - (cs s i).2) + 1 := by omega
      rw [e2, List.take_succ_eq_append_getElem (by rw [List.length_drop]; omega), List.getElem_drop]
      simp only [Nat.add_sub_cancel' c0]
theorem cutF_map (s : ByteArray) : (cutF s).map (·.data.toList) = cutL s.data.toList := by
  have h := cs_fold s s.size (Nat.le_refl _)
  have e : s.data.toList.take s.size = s.data.toList := by
    have : s.size = s.data.toList.length := by simp
    rw [this, List.take_length]
  rw [e] at h
  unfold cutF cutL
  rw [h]
  simp only [List.map_append, List.map_cons, List.map_nil]
/-- Either way of cutting is read alike. -/
theorem read_cut (s : ByteArray) : readF (wordsOf s) = readF (cutF s) := by
  have hw : (wordsOf s).map (·.data.toList) = Lib.splitK [44] 0 (min 5 (s.size + 1) - 1) s.data.toList := Lib.splitB_data ⟨#[44]⟩ 0 (min 5 (s.size + 1) - 1) s
  obtain ⟨h1, h2⟩ := split_cut (min 5 (s.size + 1) - 1) s.data.toList
  have hc := cutF_map s
  by_cases h : (cutL s.data.toList).length ≤ min 5 (s.size + 1) - 1 + 1
  · have e : wordsOf s = cutF s := (List.map_inj_right (f := fun x : ByteArray => x.data.toList) fun x y => bytes_inj).1 (by rw [hw, h1 h, hc])
    rw [e]
  · have l1 := h2 (by omega)
    have l2 : (wordsOf s).length = min 5 (s.size + 1) - 1 + 1 := by rw [← l1, ← hw, List.length_map]
    have l3 : (cutF s).length = (cutL s.data.toList).length := by rw [← hc, List.length_map]
    have l4 := cutL_len s.data.toList
    have l5 : s.data.toList.length = s.size := by simp
    unfold readF
    rw [if_neg (by omega), if_neg (by omega)]
end Go.Proofs.YtcflpclndjlchaaDoor
