/- What a pass promises, booked anew one by one: plain mathematics. Conditions: none. Nobody is put off: bookings of a later pass fit where the earlier ones did. Plain mathematics. Conditions: none. Nobody is put off: the later pass, ask by ask. Plain mathematics. Conditions: none. The law's again: asks with what they were promised. Conditions: what came in stands in memory. The law's later: how it opens; its ended. Conditions: what came in stands in memory. An append of any slice to a row of the call's own; rows of asks as cells; mixed's words. Conditions: none. The law's mixed. Conditions: what came in stands in memory. How what happens later opens. Conditions: none. What PlanKeeps' walk needs: ticks of a pass; rows of the call's own as rows of asks and holds. Conditions: none. -/
import Derived.Test.YthkofnahimlijaaPlanC
import Derived.Laws.AppendOwnNone
namespace Go.Proofs.Ythkofnahimlijaa
open Go Go.RowKit
/-- The holds' bookings of a pass. -/
def hBk (now : Int) (hs : List Hd) : List Bk := hTo now (hdF hs) hs.length ++ []
theorem pass_good {xs : List V4} {up : List Bool} {now : Int} {hs : List Hd} (hE : opnE xs up now (hdF hs) hs.length = 0) : hFl xs.length now (fun i _ => wsF xs i) (hdF hs) hs.length = freeOf (wsF xs) (hBk now hs) ∧ Good xs.length (wsF xs) (hBk now hs) := by
  obtain ⟨h1, _, _, _, h5⟩ := opnE_zero hE
  have h := hold_good (D := []) (Good.nil xs.length (wsF xs) (wsF_ok h1)) h5
  have hnil : (fun i (_ : Int) => wsF xs i) = freeOf (wsF xs) [] := (freeOf_nil (wsF xs)).symm
  rw [hnil]
  exact h
noncomputable def passP (xs : List V4) (up : List Bool) (now : Int) (hs : List Hd) (ks : List Ak) (k : Nat) : List Bk := promTo up xs.length (wsF xs) now (freeOf (wsF xs) (hBk now hs)) (akF ks) ks.length k ++ hBk now hs
section
variable {xs : List V4} {up : List Bool} {now : Int} {hs : List Hd} {ks : List Ak}
theorem passS_eq (hE : opnE xs up now (hdF hs) hs.length = 0) : passS xs up now hs ks = slot up xs.length (wsF xs) now (freeOf (wsF xs) (hBk now hs)) (akF ks) ks.length := by
  unfold passS
  rw [(pass_good hE).1]
theorem passP_zero : passP xs up now hs ks 0 = hBk now hs := rfl
theorem passP_good (hE : opnE xs up now (hdF hs) hs.length = 0) : Good xs.length (wsF xs) (passP xs up now hs ks ks.length) := by
  have h := (turn_good (up := up) (now := now) (al := akF ks) (pass_good hE).2 ks.length (Nat.le_refl _)).2
  rw [keptFrom_end, List.append_nil] at h
  exact h
theorem promTo_split (F0 : Nat → Int → V4) (Ws : Nat → V4) (n : Nat) (al : Nat → Ak) (N k d : Nat) : ∃ R, promTo up n Ws now F0 al N (k + d) = promTo up n Ws now F0 al N k ++ R := by
  induction d with
  | zero => exact ⟨[], by simp⟩
  | succ d ih =>
    obtain ⟨R, hR⟩ := ih
    rw [show k + (d + 1) = k + d + 1 from rfl, promTo_step, hR]
    exact ⟨_, List.append_assoc _ _ _⟩
theorem passP_goodK (hE : opnE xs up now (hdF hs) hs.length = 0) {k : Nat} (hk : k ≤ ks.length) : Good xs.length (wsF xs) (passP xs up now hs ks k) := by
  have h := passP_good (ks := ks) hE
  obtain ⟨R, hR⟩ := promTo_split (up := up) (now := now) (freeOf (wsF xs) (hBk now hs)) (wsF xs) xs.length (akF ks) ks.length k (ks.length - k)
  rw [show k + (ks.length - k) = ks.length by omega] at hR
  unfold passP at h ⊢
  rw [hR, List.append_assoc] at h
  refine Good.right (D := R) (h.perm ?_)
  rw [← List.append_assoc, ← List.append_assoc]
  exact List.Perm.append_right _ List.perm_append_comm
theorem passP_step (hE : opnE xs up now (hdF hs) hs.length = 0) {k : Nat} (hk : k < ks.length) (h0 : 0 ≤ (passS xs up now hs ks k).t) :
    pkF xs.length (freeOf (wsF xs) (passP xs up now hs ks k)) (intL (passS xs up now hs ks k).l) (passS xs up now hs ks k).t ((passS xs up now hs ks k).t + (akF ks k).k) (akF ks k).v = freeOf (wsF xs) (passP xs up now hs ks (k + 1)) ∧
    gvF xs.length (wsF xs) (freeOf (wsF xs) (passP xs up now hs ks (k + 1))) (intL (passS xs up now hs ks k).l) (passS xs up now hs ks k).t ((passS xs up now hs ks k).t + (akF ks k).k) (akF ks k).v = freeOf (wsF xs) (passP xs up now hs ks k) := by
  have hg := passP_goodK (ks := ks) hE (k := k + 1) hk
  rw [passS_eq hE] at h0 ⊢
  have e : (passP xs up now hs ks (k + 1)).Perm (bkS up xs.length (wsF xs) now (freeOf (wsF xs) (hBk now hs)) (akF ks) ks.length k :: passP xs up now hs ks k) := by
    unfold passP
    rw [promTo_step, if_pos h0, List.append_assoc]
    exact List.perm_middle
  have hg2 := hg.perm e
  rw [freeOf_perm (wsF xs) e]
  exact ⟨(pk_good hg2).2, gv_good hg2⟩
theorem passP_skip (hE : opnE xs up now (hdF hs) hs.length = 0) {k : Nat} (h0 : ¬ 0 ≤ (passS xs up now hs ks k).t) : passP xs up now hs ks (k + 1) = passP xs up now hs ks k := by
  rw [passS_eq hE] at h0
  unfold passP
  rw [promTo_step, if_neg h0, List.append_nil]
theorem passS_last (hE : opnE xs up now (hdF hs) hs.length = 0) {L : Nat} (hL : ks.length = L + 1) : passS xs up now hs ks L = slt up xs.length now (freeOf (wsF xs) (passP xs up now hs ks L)) (akF ks L) := by
  rw [passS_eq hE]
  unfold slot
  have h := (turn_fA (up := up) (now := now) (al := akF ks) (N := ks.length) (k := L) (pass_good hE).2 (by omega)).1
  rw [h]
  have e : bkT up xs.length (wsF xs) now (hBk now hs) (akF ks) ks.length L = passP xs up now hs ks L := by
    unfold bkT passP
    rw [← hL, keptFrom_end, List.append_nil]
  rw [e]
/-- What was promised: a tick and an end that are ticks, a gang of the pool. -/
theorem passS_found (hE : opnE xs up now (hdF hs) hs.length = 0) {k : Nat} (h0 : 0 ≤ (passS xs up now hs ks k).t) : (passS xs up now hs ks k).t + (akF ks k).k ≤ 1099511627776 ∧ 0 < (akF ks k).k := by
  rw [passS_eq hE] at h0 ⊢
  obtain ⟨h1, h2⟩ := slt_found h0
  have h3 := h1.2.2.2.2.2.1
  have h4 := h1.1
  unfold askB at h4
  simp only [Bool.and_eq_true, decide_eq_true_eq] at h4
  exact ⟨by unfold slot; omega, h4.1.2⟩
end
theorem sltT {up : List Bool} {n : Nat} {now : Int} {F : Nat → Int → V4} {a : Ak} (h : askB a = false) : (slt up n now F a).t = -1 := by
  rw [slt_none (fun t ht => by rw [ht.1] at h; cases h)]
end Go.Proofs.Ythkofnahimlijaa
namespace Go.Proofs.Ythkofnahimlijaa
open Go Go.RowKit
theorem Good.dom {n : Nat} {Ws : Nat → V4} {T D D' : List Bk} (h : Good n Ws (T ++ D)) (hb : ∀ d, d ∈ D' → ¬ badG n d.xs d.a d.c d.v) (hu : ∀ i t, (used D' i t).le (used D i t)) : Good n Ws (T ++ D') := by
  refine ⟨fun d hd => ?_, fun i t hi => ?_⟩
  · rcases List.mem_append.1 hd with hd | hd
    · exact h.b d (List.mem_append_left _ hd)
    · exact hb d hd
  · have h1 := h.f i t hi
    have h2 := hu i t
    rw [used_app] at h1 ⊢
    unfold V4.le V4.add at *
    simp only at *
    omega
theorem Good.sub {n : Nat} {Ws : Nat → V4} {T T' : List Bk} (hs : T'.Sublist T) : ∀ {D : List Bk}, Good n Ws (T ++ D) → Good n Ws (T' ++ D) := by
  induction hs with
  | slnil => exact fun h => h
  | cons a _ ih => exact fun h => ih h.tail
  | cons_cons a _ ih => exact fun {D} h => (ih (D := a :: D) (h.perm List.perm_middle.symm)).perm List.perm_middle
/-- Holds at a later tick: some are gone, some end sooner; those that are over by then aren't there. -/
inductive Ed (now least : Int) : List Hd → List Hd → Prop
  | nil : Ed now least [] []
  | skip {hs hs2 : List Hd} (h : Hd) : Ed now least hs hs2 → Ed now least (hs ++ [h]) hs2
  | keep {hs hs2 : List Hd} (h h2 : Hd) : Ed now least hs hs2 → least < max h.u (now + 1) → h2.g = h.g → h2.v = h.v → h2.u ≤ h.u → Ed now least (hs ++ [h]) (hs2 ++ [h2])
theorem hBk_list (now : Int) (hs : List Hd) : hBk now hs = (hs.map fun h => h.bk now).reverse := by
  have e : (List.range hs.length).map (fun j => (hdF hs j).bk now) = hs.map fun h => h.bk now := by
    apply List.ext_getElem
    · simp
    · intro i h1 h2
      simp at h1
      simp [hdF, List.getD, h1]
  unfold hBk hTo
  rw [e, List.append_nil]
theorem hBk_snoc (now : Int) (hs : List Hd) (h : Hd) : hBk now (hs ++ [h]) = h.bk now :: hBk now hs := by
  rw [hBk_list, hBk_list, List.map_append, List.reverse_append]
  rfl
theorem Bk.less {n : Nat} {h h2 : Hd} {now least : Int} (hn : now ≤ least) (hl : least < max h.u (now + 1)) (hg : h2.g = h.g) (hv : h2.v = h.v) (hu : h2.u ≤ h.u) (hb : ¬ badG n (h.bk now).xs (h.bk now).a (h.bk now).c (h.bk now).v) (hl0 : 0 ≤ least) : (∀ (i : Nat) t, ((h2.bk least).at i t).le ((h.bk now).at i t)) ∧ ¬ badG n (h2.bk least).xs (h2.bk least).a (h2.bk least).c (h2.bk least).v := by
  obtain ⟨b1, b2, b3⟩ := badG_no hb
  obtain ⟨c1, c2, c3⟩ := (spanB_iff _ _).1 b2
  change 0 ≤ now at c1
  change now < max h.u (now + 1) at c2
  change max h.u (now + 1) ≤ 1099511627776 at c3
  constructor
  · intro i t
    by_cases hin : (h2.bk least).xs.contains (i : Int) = true ∧ (h2.bk least).a ≤ t ∧ t < (h2.bk least).c
    · rw [at_in hin.1 hin.2.1 hin.2.2, at_in (d := h.bk now)]
      · show V4.le h2.v h.v
        rw [hv]
        exact V4.le_refl _
      · have := hin.1
        change h2.g.contains (i : Int) = true at this
        rw [hg] at this
        exact this
      · have := hin.2.1
        change least ≤ t at this
        change now ≤ t
        omega
      · have := hin.2.2
        change t < max h2.u (least + 1) at this
        change t < max h.u (now + 1)
        omega
    · have e : (h2.bk least).at i t = V4.z := if_neg hin
      rw [e]
      exact Bk.nn hb i t
  · refine not_bad ?_ ((spanB_iff _ _).2 ⟨hl0, ?_, ?_⟩) ?_
    · change Gang n h2.g
      rw [hg]
      exact b1
    · change least < max h2.u (least + 1)
      omega
    · change max h2.u (least + 1) ≤ 1099511627776
      omega
    · change h2.v.okB = true
      rw [hv]
      exact b3
theorem ed_less {n : Nat} {now least : Int} {hs hs2 : List Hd} (h : Ed now least hs hs2) (hn : now ≤ least) (hl0 : 0 ≤ least) (hb : ∀ h, h ∈ hs → ¬ badG n (h.bk now).xs (h.bk now).a (h.bk now).c (h.bk now).v) :
    (∀ i t, (used (hBk least hs2) i t).le (used (hBk now hs) i t)) ∧ ∀ d, d ∈ hBk least hs2 → ¬ badG n d.xs d.a d.c d.v := by
  induction h with
  | nil => exact ⟨fun i t => V4.le_refl _, fun d hd => by simp [hBk_list] at hd⟩
  | skip h _ ih =>
    obtain ⟨h1, h2⟩ := ih fun x hx => hb x (List.mem_append_left _ hx)
    refine ⟨fun i t => ?_, h2⟩
    have h3 := h1 i t
    have h4 := Bk.nn (hb h (by simp)) i t
    rw [hBk_snoc]
    show V4.le _ (V4.add ((h.bk now).at i t) _)
    unfold V4.le V4.add V4.z at *
    simp only at *
    omega
  | keep h h2 _ hl hg hv hu ih =>
    obtain ⟨h1, h3⟩ := ih fun x hx => hb x (List.mem_append_left _ hx)
    obtain ⟨h4, h5⟩ := Bk.less hn hl hg hv hu (hb h (by simp)) hl0
    refine ⟨fun i t => ?_, fun d hd => ?_⟩
    · have k1 := h1 i t
      have k2 := h4 i t
      rw [hBk_snoc, hBk_snoc]
      show V4.le (V4.add ((h2.bk least).at i t) _) (V4.add ((h.bk now).at i t) _)
      unfold V4.le V4.add at *
      simp only at *
      omega
    · rw [hBk_snoc] at hd
      rcases List.mem_cons.1 hd with rfl | hd
      · exact h5
      · exact h3 d hd
end Go.Proofs.Ythkofnahimlijaa
namespace Go.Proofs.Ythkofnahimlijaa
open Go Go.RowKit
def bkA (now : Int) (a : Ak) : Bk := ⟨a.g, max a.s now, max a.s now + a.k, a.v⟩
def keptL (now : Int) (ks : List Ak) : List Bk := (ks.filter fun a => decide (0 ≤ a.s)).map (bkA now)
theorem keptL_app (now : Int) (l m : List Ak) : keptL now (l ++ m) = keptL now l ++ keptL now m := by
  unfold keptL
  rw [List.filter_append, List.map_append]
theorem keptL_sub (now : Int) {l m : List Ak} (h : l.Sublist m) : (keptL now l).Sublist (keptL now m) := (h.filter _).map _
theorem keptL_one (now : Int) (a : Ak) : keptL now [a] = if 0 ≤ a.s then [bkA now a] else [] := by
  unfold keptL
  by_cases h : 0 ≤ a.s <;> simp [h]
theorem akF_at {ks : List Ak} {k : Nat} {a : Ak} (h : ks[k]? = some a) : akF ks k = a := by simp [akF, List.getD, h]
section
variable {up : List Bool} {n : Nat} {Ws : Nat → V4} {now : Int} {D : List Bk} {ks : List Ak}
theorem keep_all (hD : Good n Ws (keptL now ks ++ D)) (h1 : ∀ a, a ∈ ks → 0 ≤ a.s → Bk1 up a a.g (max a.s now)) (k : Nat) (hk : k ≤ ks.length) : keptTo up n now (freeOf Ws D) (akF ks) k = keptL now (ks.take k) ∧ ∀ i a, i < k → ks[i]? = some a → 0 ≤ a.s → kB up n now (freeOf Ws D) (akF ks) i = true := by
  induction k with
  | zero => exact ⟨rfl, fun i a hi => by omega⟩
  | succ k ih =>
    obtain ⟨e1, e2⟩ := ih (by omega)
    obtain ⟨a, ha⟩ : ∃ a, ks[k]? = some a := ⟨_, List.getElem?_eq_getElem (by omega)⟩
    have hal := akF_at ha
    have ht : ks.take (k + 1) = ks.take k ++ [a] := by
      rw [List.take_add_one, ha]
      rfl
    have hkB : 0 ≤ a.s → kB up n now (freeOf Ws D) (akF ks) k = true := fun h0 => by
      have hg : Good n Ws (keptL now (ks.take (k + 1)) ++ D) := hD.sub (keptL_sub now (List.take_sublist _ _))
      rw [ht, keptL_app, keptL_one, if_pos h0] at hg
      have hg2 := hg.perm (show (keptL now (ks.take k) ++ [bkA now a] ++ D).Perm (bkA now a :: (keptL now (ks.take k) ++ D)) from by
        rw [List.append_assoc]
        exact List.perm_middle)
      have hkf := (kept_good (up := up) (now := now) (al := akF ks) (show Good n Ws D from hD.right) k).1
      rw [e1] at hkf
      unfold kB
      rw [hal, decide_eq_true h0, Bool.true_and, bkB_iff, hkf]
      exact ⟨h1 a (List.mem_of_getElem? ha) h0, (pk_good hg2).1⟩
    refine ⟨?_, fun i b hi hb hs => ?_⟩
    · have e : keptTo up n now (freeOf Ws D) (akF ks) (k + 1) = keptTo up n now (freeOf Ws D) (akF ks) k ++ (if kB up n now (freeOf Ws D) (akF ks) k = true then [bkK now (akF ks) k] else []) := by
        unfold keptTo
        rw [List.range_succ, List.filter_append, List.map_append]
        congr 1
        cases hb : kB up n now (freeOf Ws D) (akF ks) k <;> simp [hb]
      rw [e, e1, ht, keptL_app, keptL_one]
      congr 1
      by_cases h0 : 0 ≤ a.s
      · rw [if_pos (hkB h0), if_pos h0]
        unfold bkK
        rw [hal]
        rfl
      · have : kB up n now (freeOf Ws D) (akF ks) k = false := by
          unfold kB
          rw [hal, decide_eq_false h0, Bool.false_and]
        rw [this, if_neg (by decide), if_neg h0]
    · rcases Nat.lt_or_ge i k with h | h
      · exact e2 i b h hb hs
      · obtain rfl : i = k := by omega
        rw [ha] at hb
        cases hb
        exact hkB hs
theorem open_more {F : Nat → Int → V4} {xs ys : List Int} {a c : Int} {v : V4} (h : ∀ i : Nat, (i : Int) ∈ xs → (i : Int) ∈ ys) : (openL n F xs a c v).length ≤ (openL n F ys a c v).length := by
  unfold openL cntL
  rw [List.filter_filter, List.filter_filter]
  refine filter_mono _ fun i _ hi => ?_
  rw [Bool.and_eq_true] at hi ⊢
  refine ⟨hi.1, ?_⟩
  have h2 := hi.2
  unfold cntS at h2 ⊢
  simp only [Bool.and_eq_true, decide_eq_true_eq, List.contains_iff_mem] at h2 ⊢
  exact ⟨h2.1, h i h2.2⟩
/-- Whose promise was kept gets no later one. -/
theorem kept_slot (hn : n ≤ 16) (hD : Good n Ws D) {N k : Nat} {al : Nat → Ak} (hk : k < N) (hb : kB up n now (freeOf Ws D) al k = true) : 0 ≤ (slot up n Ws now (freeOf Ws D) al N k).t ∧ (slot up n Ws now (freeOf Ws D) al N k).t ≤ max (al k).s now := by
  obtain ⟨e1, _, e3⟩ := turn_fA (up := up) (now := now) (al := al) hD hk
  have hg := e3 hb
  have hfree := free_given hg
  have hbad := hg.b (bkK now al k) (by simp)
  obtain ⟨g1, g2, g3⟩ := badG_no hbad
  obtain ⟨s1, s2, s3⟩ := (spanB_iff _ _).1 g2
  have hb2 := hb
  unfold kB at hb2
  rw [Bool.and_eq_true] at hb2
  obtain ⟨k1, k2, k3, k4, k5⟩ := ((bkB_iff _ _ _ _ _ _).1 hb2.2).1
  have k6 := k1
  unfold askB at k6
  simp only [Bool.and_eq_true, decide_eq_true_eq] at k6
  change Gang n (al k).g at g1
  change 0 ≤ max (al k).s now at s1
  change max (al k).s now < max (al k).s now + (al k).k at s2
  change max (al k).s now + (al k).k ≤ 1099511627776 at s3
  have hcnt : (al k).m.toNat ≤ (openL n (freeOf Ws (bkT up n Ws now D al N k)) (intL (plcN up (al k).pl)) (max (al k).s now) (max (al k).s now + (al k).k) (al k).v).length := by
    have h1 : ¬ (openL n (freeOf Ws (bkT up n Ws now D al N k)) (al k).g (max (al k).s now) (max (al k).s now + (al k).k) (al k).v).length < (al k).g.length := by
      rw [openL_len g1 hn]
      rintro ⟨i, hi, hf⟩
      have := hfree i hi
      change opB _ (al k).v (max (al k).s now) (max (al k).s now + (al k).k) = true at this
      rw [this] at hf
      cases hf
    have h2 : (openL n (freeOf Ws (bkT up n Ws now D al N k)) (al k).g (max (al k).s now) (max (al k).s now + (al k).k) (al k).v).length ≤ (openL n (freeOf Ws (bkT up n Ws now D al N k)) (intL (plcN up (al k).pl)) (max (al k).s now) (max (al k).s now + (al k).k) (al k).v).length := open_more fun i hi => k5 _ hi
    omega
  obtain ⟨u, u1, u2⟩ := find_first (a := now) (k := (al k).k) (m := (al k).m.toNat) (t := max (al k).s now) (by omega) (by omega) hcnt
  have hF : Fnd up n now (freeOf Ws (bkT up n Ws now D al N k)) (al k) u := ⟨k1, by omega, by omega, k6.2, u2⟩
  have e : slot up n Ws now (freeOf Ws D) al N k = ⟨(al k).id, u, (openL n (freeOf Ws (bkT up n Ws now D al N k)) (intL (plcN up (al k).pl)) u (u + (al k).k) (al k).v).take (al k).m.toNat⟩ := by
    unfold slot
    rw [e1, slt_some hF]
  rw [e]
  have := u2.1
  exact ⟨by show 0 ≤ u; omega, u1⟩
end
/-- What each ask of a pass was promised, as an ask of a later one. -/
def Prom (xs : List V4) (up : List Bool) (now : Int) (hs : List Hd) (ks A : List Ak) : Prop := A.length = ks.length ∧ ∀ (j : Nat) a a0, A[j]? = some a → ks[j]? = some a0 → a.pl = a0.pl ∧ a.m = a0.m ∧ a.v = a0.v ∧ a.k = a0.k ∧ a.s = (passS xs up now hs ks j).t ∧ a.g = intL (passS xs up now hs ks j).l
section
variable {xs : List V4} {up : List Bool} {now least : Int} {hs hs2 : List Hd} {ks A : List Ak}
theorem prom_kept (hE : opnE xs up now (hdF hs) hs.length = 0) (hP : Prom xs up now hs ks A) (hl : ∀ j, j < ks.length → 0 ≤ (passS xs up now hs ks j).t → least ≤ (passS xs up now hs ks j).t) : keptL least A ++ hBk now hs = passP xs up now hs ks ks.length := by
  have key : ∀ k, k ≤ ks.length → keptL least (A.take k) ++ hBk now hs = passP xs up now hs ks k := by
    intro k hk
    unfold passP
    congr 1
    induction k with
    | zero => rfl
    | succ k ih =>
      have ih := ih (by omega)
      obtain ⟨a, ha⟩ : ∃ a, A[k]? = some a := ⟨_, List.getElem?_eq_getElem (by rw [hP.1]; omega)⟩
      obtain ⟨a0, ha0⟩ : ∃ a0, ks[k]? = some a0 := ⟨_, List.getElem?_eq_getElem (by omega)⟩
      obtain ⟨p1, p2, p3, p4, p5, p6⟩ := hP.2 k a a0 ha ha0
      rw [List.take_add_one, ha, promTo_step]
      show keptL least (A.take k ++ [a]) = _
      rw [keptL_app, ih, keptL_one]
      congr 1
      rw [← passS_eq hE, p5]
      by_cases h0 : 0 ≤ (passS xs up now hs ks k).t
      · rw [if_pos h0, if_pos h0]
        have h1 := hl k (by omega) h0
        have hal := akF_at ha0
        unfold bkA bkS
        rw [← passS_eq hE, hal, p6, p5, p4, p3, show max (passS xs up now hs ks k).t least = (passS xs up now hs ks k).t by omega]
      · rw [if_neg h0, if_neg h0]
  have h := key ks.length (Nat.le_refl _)
  rwa [List.take_of_length_le (by rw [hP.1]; exact Nat.le_refl _)] at h
theorem prom_bk1 (hE : opnE xs up now (hdF hs) hs.length = 0) (hP : Prom xs up now hs ks A) (hl : ∀ j, j < ks.length → 0 ≤ (passS xs up now hs ks j).t → least ≤ (passS xs up now hs ks j).t) {a : Ak} (ha : a ∈ A) (h0 : 0 ≤ a.s) : Bk1 up a a.g (max a.s least) := by
  obtain ⟨j, hj⟩ := List.getElem?_of_mem ha
  have hjl := (List.getElem?_eq_some_iff.1 hj).1
  obtain ⟨a0, ha0⟩ : ∃ a0, ks[j]? = some a0 := ⟨_, List.getElem?_eq_getElem (by rw [← hP.1]; exact hjl)⟩
  obtain ⟨p1, p2, p3, p4, p5, p6⟩ := hP.2 j a a0 hj ha0
  have hal := akF_at ha0
  rw [p5] at h0
  have h1 := hl j (by rw [← hP.1]; exact hjl) h0
  rw [p5, p6, show max (passS xs up now hs ks j).t least = (passS xs up now hs ks j).t by omega]
  rw [passS_eq hE] at h0 ⊢
  unfold slot at h0 ⊢
  obtain ⟨f1, f2⟩ := slt_found h0
  obtain ⟨_, _, _, b1, _⟩ := fnd_gang f1 f2
  rw [hal] at b1 ⊢
  obtain ⟨c1, c2, c3, c4, c5⟩ := b1
  refine ⟨?_, by rw [p2]; exact c2, c3, by rw [p4]; exact c4, by rw [p1]; exact c5⟩
  unfold askB at c1 ⊢
  rw [p2, p3, p4]
  exact c1
/-- Nobody is put off. -/
theorem put_off {B P Q R : List Ak} {c : Ak} (hE : opnE xs up now (hdF hs) hs.length = 0) (hP : Prom xs up now hs ks A) (hB : B = P ++ c :: Q) (hc : c.s = -1) (hp : (P ++ Q ++ R).Perm A) (hl1 : now ≤ least) (hl : ∀ j, j < ks.length → 0 ≤ (passS xs up now hs ks j).t → least ≤ (passS xs up now hs ks j).t) (hl3 : least < 1099511627776) (hEd : Ed now least hs hs2) :
    opnE xs up least (hdF hs2) hs2.length = 0 ∧ ∀ (i : Nat) a, B[i]? = some a → 0 ≤ a.s → 0 ≤ (passS xs up least hs2 B i).t ∧ (passS xs up least hs2 B i).t ≤ a.s := by
  obtain ⟨w1, w2, w3, w4, _⟩ := opnE_zero hE
  have hn : xs.length ≤ 16 := by
    unfold WhB at w1
    rw [Bool.and_eq_true] at w1
    exact of_decide_eq_true w1.1
  have hG1 := passP_good (ks := ks) hE
  rw [← prom_kept hE hP hl] at hG1
  have hpk : (keptL least (P ++ Q) ++ keptL least R).Perm (keptL least A) := by
    rw [← keptL_app]
    unfold keptL
    exact (hp.filter _).map _
  have hG2 := hG1.perm ((hpk.symm).append_right (hBk now hs))
  have hkB : keptL least B = keptL least (P ++ Q) := by
    rw [hB, show P ++ c :: Q = P ++ ([c] ++ Q) from rfl, keptL_app, keptL_app, keptL_app, keptL_one, if_neg (by rw [hc]; decide), List.nil_append]
  have hG3 : Good xs.length (wsF xs) (keptL least B ++ hBk now hs) := by
    rw [hkB]
    exact hG2.sub (List.sublist_append_left _ _)
  obtain ⟨u1, u2⟩ := ed_less hEd hl1 (by omega) (fun h hh => by
    refine (hG3.right).b (h.bk now) ?_
    rw [hBk_list]
    simp only [List.mem_reverse, List.mem_map]
    exact ⟨h, hh, rfl⟩)
  have hG4 := hG3.dom u2 u1
  have hE2 : opnE xs up least (hdF hs2) hs2.length = 0 := by
    rw [opnE_go ⟨w1, w2, by omega, hl3⟩]
    have hnil : (fun i (_ : Int) => wsF xs i) = freeOf (wsF xs) [] := (freeOf_nil (wsF xs)).symm
    rw [hnil]
    exact hold_ok hG4.right
  refine ⟨hE2, fun i a hi h0 => ?_⟩
  have hmem : ∀ b, b ∈ B → 0 ≤ b.s → b ∈ A := fun b hb h0 => by
    rw [hB] at hb
    rcases List.mem_append.1 hb with hb | hb
    · exact hp.mem_iff.1 (List.mem_append_left _ (List.mem_append_left _ hb))
    · rcases List.mem_cons.1 hb with rfl | hb
      · rw [hc] at h0
        omega
      · exact hp.mem_iff.1 (List.mem_append_left _ (List.mem_append_right _ hb))
  have hil := (List.getElem?_eq_some_iff.1 hi).1
  have hk := (keep_all (up := up) hG4 (fun b hb h0 => prom_bk1 hE hP hl (hmem b hb h0) h0) B.length (Nat.le_refl _)).2 i a hil hi h0
  have hs := kept_slot (N := B.length) hn hG4.right hil hk
  rw [passS_eq hE2]
  rw [akF_at hi] at hs
  have h1 : max a.s least = a.s := by
    have ha := hmem a (List.mem_of_getElem? hi) h0
    obtain ⟨j, hj⟩ := List.getElem?_of_mem ha
    have hjl := (List.getElem?_eq_some_iff.1 hj).1
    obtain ⟨a0, ha0⟩ : ∃ a0, ks[j]? = some a0 := ⟨_, List.getElem?_eq_getElem (by rw [← hP.1]; exact hjl)⟩
    obtain ⟨_, _, _, _, p5, _⟩ := hP.2 j a a0 hj ha0
    have := hl j (by rw [← hP.1]; exact hjl) (by rw [← p5]; exact h0)
    omega
  rw [h1] at hs
  exact hs
end
end Go.Proofs.Ythkofnahimlijaa
namespace Go.Proofs.Ythkofnahimlijaa
open Go Go.RowKit
def rowC (xs : List Ak) : List Value := xs.flatMap Ak.cells
theorem rowC_snoc (xs : List Ak) (a : Ak) : rowC (xs ++ [a]) = rowC xs ++ a.cells := by simp [rowC]
theorem rowC_len (xs : List Ak) : (rowC xs).length = xs.length * 10 := by
  induction xs with
  | nil => rfl
  | cons a xs ih =>
    show (a.cells ++ rowC xs).length = _
    rw [List.length_append, ih]
    show 10 + _ = _
    simp
    omega
theorem rowC_at {xs : List Ak} {k i : Nat} {a : Ak} (h : xs[k]? = some a) (hi : i < 10) : (rowC xs)[k * 10 + i]? = a.cells[i]? := by
  induction xs generalizing k with
  | nil => simp at h
  | cons b xs ih =>
    show (b.cells ++ rowC xs)[k * 10 + i]? = _
    match k, h with
    | 0, h =>
      cases h
      rw [List.getElem?_append_left (by show 0 * 10 + i < 10; omega), Nat.zero_mul, Nat.zero_add]
    | k + 1, h =>
      rw [List.getElem?_append_right (by show 10 ≤ _; omega)]
      have := ih (k := k) (by simpa using h)
      rw [← this]
      congr 1
      show (k + 1) * 10 + i - 10 = _
      omega
theorem ask_info : (Try.prog.info? 42).map (fun i => (i.zero, i.size, i.bytes)) = some (some (.agg #[.int .i64 0, .slice none 0 0, .int .i64 0, .int .i64 0, .int .i64 0, .int .i64 0, .int .i64 0, .int .i64 0, .int .i64 0, .slice none 0 0]), 10, 112) := by kernel_rfl
/-- An ask with what it was promised. -/
def Told (a0 a : Ak) (s : Slt) : Prop := a.id = a0.id ∧ a.A = a0.A ∧ a.cap = a0.cap ∧ a.pl = a0.pl ∧ a.m = a0.m ∧ a.v = a0.v ∧ a.k = a0.k ∧ a.s = s.t ∧ a.g = intL s.l
def AgRel (w : World) (ks : List Ak) (S : Nat → Slt) (A : List Ak) : Prop := ∀ (j : Nat) a, A[j]? = some a → a.In w ∧ ∃ a0, ks[j]? = some a0 ∧ Told a0 a (S j)
def AgPost (w : World) (ks : List Ak) (S : Nat → Slt) (e : Ending) (w' : World) : Prop := ∃ v A, e = .returned v ∧ A.length = ks.length ∧ w'.ownsRow w.heap.size 42 10 v A.length (rowC A) ∧ Below w.heap.size w w' ∧ AgRel w ks S A
set_option maxRecDepth 100000 in
set_option maxHeartbeats 4000000 in
theorem again_any (W w3 : World) (K : Option Addr) (kcap : Nat) (ks : List Ak) (sa : Option Addr) (m : Nat) (S : Nat → Slt) (w : World) (hK : Aks W w K ks) (hW : Below W.heap.size W w) (hkl : ks.length ≤ 10) (hR : OutRow w3 w sa m 0 ks.length S) (hm : m = ks.length) (hS : ∀ j, i64 (S j).t) (hSl : ∀ j, (S j).l.length ≤ 16) :
    Calls Try.prog 30 #[.slice K ks.length kcap, .slice sa m m] w (AgPost w ks S) := by
  have HK := hid hK
  have HR := hid hR
  have HW := hid hW
  have HM := hid hm
  have HSI := hid hS
  have HSL := hid hSl
  obtain ⟨i0, hi, hz0, hz1, hz2⟩ := info_tri ask_info
  rw [← hm] at hkl ⊢
  clear hK hR hW hm hS hSl
  go_enter Try.func30, Try.ntmps30
  go_wp2_with fail
  go_loopw [5, 6] (fun o x wr => ∃ (k : Nat) (A : List Ak), A.length = k ∧ k ≤ m ∧ x = .int .i64 k ∧ wr.ownsRow w.heap.size 42 10 o k (rowC A) ∧ Below w.heap.size w wr ∧ AgRel w ks S A) (fun _ x _ => m - (intOf x).toNat)
  case atStart => exact ⟨0, [], rfl, Nat.zero_le _, rfl, World.ownsRow_nil _ _ _ _, Below.refl _ _, fun j a h => by simp at h⟩
  case round =>
    obtain ⟨k, A, hAl, hk, rfl, ho, hg, ha⟩ := hrel
    have HAL := hid hAl
    have HO := hid ho
    have HG := hid hg
    have HA := hid ha
    clear hAl ho hg ha
    by_cases hlt : k < m
    · have hlt' : (k : Int) < (m : Int) := by omega
      obtain ⟨a, hka⟩ : ∃ a, ks[k]? = some a := ⟨_, List.getElem?_eq_getElem (by have := HM.out; omega)⟩
      obtain ⟨hin, b, off, rfl, hbl, c0, c1, c2, c3, c4, c5, c6, c7, c8, c9⟩ := (HK.out.keep HG.out).at hka
      obtain ⟨br, GA, gcap, hsa, hbrl, _, r1, r2, hgc, hgn⟩ := (HR.out.keep HG.out).at hlt
      obtain ⟨_, GA', gcap', hsa', hbrl', _, _, r2', _, hgn'⟩ := HR.out.at hlt
      have hGA : GA' = GA ∧ gcap' = gcap := by
        have h1 := r2
        rw [hsa] at hsa'
        cases hsa'
        rw [HG.out.cell (p := ⟨br, k * 3 + 2, none⟩) hbrl', r2'] at h1
        simp at h1
        exact h1
      rw [hGA.1] at hgn'
      obtain ⟨a', ha'⟩ : ∃ a' : Ak, a' = { a with s := (S k).t, G := GA, gc := gcap, g := intL (S k).l } := ⟨_, rfl⟩
      have hin' : a'.In w := by
        have h1 := (HK.out.at hka).1.keep HW.out
        rw [ha']
        exact ⟨h1.p, h1.pl, hgn', by have := HSL.out k; show (intL (S k).l).length ≤ _; rw [intL_len]; omega, by show (intL (S k).l).length ≤ _; rw [intL_len]; exact hgc, h1.m, h1.k, HSI.out k⟩
      have HA2 : Hid (AgRel w ks S (A ++ [a'])) := hid (fun j x hx => by
        rcases Nat.lt_or_ge j A.length with h | h
        · rw [List.getElem?_append_left h] at hx
          exact HA.out j x hx
        · rw [List.getElem?_append_right h] at hx
          have hj : j = k := by
            have h2 := (List.getElem?_eq_some_iff.1 hx).1
            simp at h2
            have := HAL.out
            omega
          subst hj
          have h3 := HAL.out
          rw [h3, Nat.sub_self] at hx
          cases hx
          rw [ha']
          exact ⟨by rw [← ha']; exact hin', a, hka, rfl, rfl, rfl, rfl, rfl, rfl, rfl, rfl, rfl⟩)
      have HCELLS : Hid (a'.cells = [.int .i64 a.id, .slice a.A a.pl.length a.cap, .int .i64 a.m, .int .i64 a.v.a, .int .i64 a.v.b, .int .i64 a.v.c, .int .i64 a.v.d, .int .i64 a.k, .int .i64 (S k).t, .slice GA (S k).l.length gcap]) := hid (by
        rw [ha']
        show [_, _, _, _, _, _, _, _, _, Value.slice GA (intL (S k).l).length gcap] = _
        rw [intL_len])
      generalize (S k).t = t at *
      obtain ⟨z, hz⟩ : ∃ z, z = (S k).l.length := ⟨_, rfl⟩
      rw [← hz] at r2 HCELLS
      subst hsa
      clear hin hin' ha' hka hGA hgn hgn' r2' hsa' hbrl' hz
      have gA : Hid (Below w.heap.size w ((wr.alloc (.cells #[.int .i64 a.id, .slice a.A a.pl.length a.cap, .int .i64 a.m, .int .i64 a.v.a, .int .i64 a.v.b, .int .i64 a.v.c, .int .i64 a.v.d, .int .i64 a.k, .int .i64 t, .slice GA z gcap] 42)).alloc (.cells #[.int .i64 a.id, .slice a.A a.pl.length a.cap, .int .i64 a.m, .int .i64 a.v.a, .int .i64 a.v.b, .int .i64 a.v.c, .int .i64 a.v.d, .int .i64 a.k, .int .i64 t, .slice GA z gcap] 42))) := hid ((HG.out.alloc HG.out.size _).alloc (by have := HG.out.size; simp; omega) _)
      have OA := hid ((HO.out.alloc (.cells #[.int .i64 a.id, .slice a.A a.pl.length a.cap, .int .i64 a.m, .int .i64 a.v.a, .int .i64 a.v.b, .int .i64 a.v.c, .int .i64 a.v.d, .int .i64 a.k, .int .i64 t, .slice GA z gcap] 42)).alloc (.cells #[.int .i64 a.id, .slice a.A a.pl.length a.cap, .int .i64 a.m, .int .i64 a.v.a, .int .i64 a.v.b, .int .i64 a.v.c, .int .i64 a.v.d, .int .i64 a.k, .int .i64 t, .slice GA z gcap] 42))
      have NA := hid (World.news_of_block (heap_newS (w := wr.alloc (.cells #[.int .i64 a.id, .slice a.A a.pl.length a.cap, .int .i64 a.m, .int .i64 a.v.a, .int .i64 a.v.b, .int .i64 a.v.c, .int .i64 a.v.d, .int .i64 a.k, .int .i64 t, .slice GA z gcap] 42)) (o := .cells #[.int .i64 a.id, .slice a.A a.pl.length a.cap, .int .i64 a.m, .int .i64 a.v.a, .int .i64 a.v.b, .int .i64 a.v.c, .int .i64 a.v.d, .int .i64 a.k, .int .i64 t, .slice GA z gcap] 42) (n := wr.heap.size + 1) (by simp)))
      have C1 : Hid (∀ u ∈ ([.int .i64 a.id, .slice a.A a.pl.length a.cap, .int .i64 a.m, .int .i64 a.v.a, .int .i64 a.v.b, .int .i64 a.v.c, .int .i64 a.v.d, .int .i64 a.k, .int .i64 t, .slice GA z gcap] : List Value), u.oneCell' = true) := hid (by
        intro u hu
        simp only [List.mem_cons, List.not_mem_nil, or_false] at hu
        rcases hu with rfl | rfl | rfl | rfl | rfl | rfl | rfl | rfl | rfl | rfl <;> rfl)
      go_upto_region 8 with fail
      go_wp2_with (at_builtin; refine wpList_append_own _ rfl _ _ 25 rfl w.heap.size 42 i0 _ 10 112 Try.underlying25 hi hz0 hz1 hz2 rfl (by decide) _ _ _ rfl OA.out ⟨wr.heap.size + 1, 0, none⟩ 1 1 [.int .i64 a.id, .slice a.A a.pl.length a.cap, .int .i64 a.m, .int .i64 a.v.a, .int .i64 a.v.b, .int .i64 a.v.c, .int .i64 a.v.d, .int .i64 a.k, .int .i64 t, .slice GA z gcap] rfl rfl NA.out C1.out (by unfold maxLen; omega) (by omega) (by simp; have := HG.out.size; omega) ?_; rintro v' w' ho hgr hv; have O2 := hid ho; have R2 := hid hgr; clear ho hgr hv)
      go_roundw
      case rel =>
        refine ⟨k + 1, A ++ [a'], by simp [HAL.out], by omega, by go_num, ?_, below_own gA.out R2.out OA.out (Nat.le_refl _) (by have := HG.out.size; simp; omega), HA2.out⟩
        rw [rowC_snoc, HCELLS.out]
        exact O2.out
      case measure => simp [intOf]; omega
    · obtain rfl : m = k := by omega
      go_wp2_with fail
      go_returns
      exact ⟨_, A, rfl, by rw [HAL.out]; exact HM.out, by rw [HAL.out]; exact HO.out, HG.out, HA.out⟩
end Go.Proofs.Ythkofnahimlijaa
namespace Go.Proofs.Ythkofnahimlijaa
open Go Go.RowKit
/-- What happens later. -/
structure Lt where
  ticks : Int
  A : Option Addr
  cap : Nat
  es : List Int
  goes : Int
  c : Ak
  at_ : Int
  turn : Int
structure Lt.In (l : Lt) (W : World) : Prop where
  t : i64 l.ticks
  e : Ns W l.A l.es
  el : l.es.length ≤ 9223372036854775807
  er : ∀ x, x ∈ l.es → i64 x
  g : i64 l.goes
  c : l.c.In W
  a : i64 l.at_
  n : i64 l.turn
def hrowC (xs : List Hd) : List Value := xs.flatMap Hd.cells
theorem hrowC_snoc (xs : List Hd) (a : Hd) : hrowC (xs ++ [a]) = hrowC xs ++ a.cells := by simp [hrowC]
theorem hrowC_at {xs : List Hd} {k i : Nat} {a : Hd} (h : xs[k]? = some a) (hi : i < 6) : (hrowC xs)[k * 6 + i]? = a.cells[i]? := by
  induction xs generalizing k with
  | nil => simp at h
  | cons b xs ih =>
    show (b.cells ++ hrowC xs)[k * 6 + i]? = _
    match k, h with
    | 0, h =>
      cases h
      rw [List.getElem?_append_left (by show 0 * 6 + i < 6; omega), Nat.zero_mul, Nat.zero_add]
    | k + 1, h =>
      rw [List.getElem?_append_right (by show 6 ≤ _; omega)]
      have := ih (k := k) (by simpa using h)
      rw [← this]
      congr 1
      show (k + 1) * 6 + i - 6 = _
      omega
theorem hold_info : (Try.prog.info? 53).map (fun i => (i.zero, i.size, i.bytes)) = some (some (.agg #[.slice none 0 0, .int .i64 0, .int .i64 0, .int .i64 0, .int .i64 0, .int .i64 0]), 6, 64) := by kernel_rfl
theorem ownN {w : World} {base : Nat} {e : TypeId} {size : Nat} {v : Value} {n : Nat} {xs : List Value} (h : w.ownsRow base e size v n xs) (q : Nat) : (w.drewN q).ownsRow base e size v n xs := h
def EnPost (w : World) (now least : Int) (hs : List Hd) (e : Ending) (w' : World) : Prop := ∃ v hs2, e = .returned v ∧ w'.ownsRow w.heap.size 53 6 v hs2.length (hrowC hs2) ∧ Below w.heap.size w w' ∧ Ed now least hs hs2 ∧ (∀ h, h ∈ hs2 → h.In w) ∧ hs2.length ≤ hs.length
set_option maxRecDepth 100000 in
set_option maxHeartbeats 4000000 in
theorem ended_any (W : World) (s : Sc) (l : Lt) (least : Int) (w : World) (hs : s.In W) (hl : l.In W) (hW : Below W.heap.size W w) (hh8 : s.hs.length ≤ 8) (hn1 : s.now < 1099511627776) :
    Calls Try.prog 14 #[.agg #[.slice s.A s.xs.length s.cap, .slice s.U s.up.length s.ucap, .int .i64 s.now, .slice s.H s.hs.length s.hcap, .slice s.K s.ks.length s.kcap], .agg #[.int .i64 l.ticks, .slice l.A l.es.length l.cap, .int .i64 l.goes, .int .i64 l.c.id, .slice l.c.A l.c.pl.length l.c.cap, .int .i64 l.c.m, .int .i64 l.c.v.a, .int .i64 l.c.v.b, .int .i64 l.c.v.c, .int .i64 l.c.v.d, .int .i64 l.c.k, .int .i64 l.c.s, .slice l.c.G l.c.g.length l.c.gc, .int .i64 l.at_, .int .i64 l.turn], .int .i64 least] w (EnPost w s.now least s.hs) := by
  have HS := hid hs
  have HI := hid hl
  have HW := hid hW
  have hel := hl.el
  obtain ⟨n0, n1⟩ := hs.n
  obtain ⟨i0, hi, hz0, hz1, hz2⟩ := info_tri hold_info
  have X0 := hid (heapA (o := .cells #[.int .i64 l.ticks, .slice l.A l.es.length l.cap, .int .i64 l.goes, .int .i64 l.c.id, .slice l.c.A l.c.pl.length l.c.cap, .int .i64 l.c.m, .int .i64 l.c.v.a, .int .i64 l.c.v.b, .int .i64 l.c.v.c, .int .i64 l.c.v.d, .int .i64 l.c.k, .int .i64 l.c.s, .slice l.c.G l.c.g.length l.c.gc, .int .i64 l.at_, .int .i64 l.turn] 44) (heap_new w (.cells #[.slice s.A s.xs.length s.cap, .slice s.U s.up.length s.ucap, .int .i64 s.now, .slice s.H s.hs.length s.hcap, .slice s.K s.ks.length s.kcap] 27)))
  have Y0 := hid (heap_newS (w := w.alloc (.cells #[.slice s.A s.xs.length s.cap, .slice s.U s.up.length s.ucap, .int .i64 s.now, .slice s.H s.hs.length s.hcap, .slice s.K s.ks.length s.kcap] 27)) (o := .cells #[.int .i64 l.ticks, .slice l.A l.es.length l.cap, .int .i64 l.goes, .int .i64 l.c.id, .slice l.c.A l.c.pl.length l.c.cap, .int .i64 l.c.m, .int .i64 l.c.v.a, .int .i64 l.c.v.b, .int .i64 l.c.v.c, .int .i64 l.c.v.d, .int .i64 l.c.k, .int .i64 l.c.s, .slice l.c.G l.c.g.length l.c.gc, .int .i64 l.at_, .int .i64 l.turn] 44) (n := w.heap.size + 1) (by simp))
  have g0 := hid (show Below w.heap.size w ((w.alloc (.cells #[.slice s.A s.xs.length s.cap, .slice s.U s.up.length s.ucap, .int .i64 s.now, .slice s.H s.hs.length s.hcap, .slice s.K s.ks.length s.kcap] 27)).alloc (.cells #[.int .i64 l.ticks, .slice l.A l.es.length l.cap, .int .i64 l.goes, .int .i64 l.c.id, .slice l.c.A l.c.pl.length l.c.cap, .int .i64 l.c.m, .int .i64 l.c.v.a, .int .i64 l.c.v.b, .int .i64 l.c.v.c, .int .i64 l.c.v.d, .int .i64 l.c.k, .int .i64 l.c.s, .slice l.c.G l.c.g.length l.c.gc, .int .i64 l.at_, .int .i64 l.turn] 44)) from by go_grown)
  obtain ⟨M, hM⟩ : ∃ M, M = s.hs.length := ⟨_, rfl⟩
  have HM := hid hM
  obtain ⟨z, hz⟩ : ∃ z, z = l.es.length := ⟨_, rfl⟩
  have HZ := hid hz
  clear hs hl hW
  go_enter Try.func14, Try.ntmps14
  go_wp2_with fail
  go_loopw [7, 8] (fun o x wr => ∃ (k : Nat) (H2 : List Hd), k ≤ M ∧ x = .int .i64 k ∧ wr.ownsRow (w.heap.size + 1 + 1) 53 6 o H2.length (hrowC H2) ∧ Below w.heap.size w wr ∧ wr.heap[w.heap.size]? = some (.cells #[.slice s.A s.xs.length s.cap, .slice s.U s.up.length s.ucap, .int .i64 s.now, .slice s.H s.hs.length s.hcap, .slice s.K s.ks.length s.kcap] 27 (0, 0)) ∧ wr.heap[w.heap.size + 1]? = some (.cells #[.int .i64 l.ticks, .slice l.A l.es.length l.cap, .int .i64 l.goes, .int .i64 l.c.id, .slice l.c.A l.c.pl.length l.c.cap, .int .i64 l.c.m, .int .i64 l.c.v.a, .int .i64 l.c.v.b, .int .i64 l.c.v.c, .int .i64 l.c.v.d, .int .i64 l.c.k, .int .i64 l.c.s, .slice l.c.G l.c.g.length l.c.gc, .int .i64 l.at_, .int .i64 l.turn] 44 (0, 0)) ∧ Ed s.now least (s.hs.take k) H2 ∧ (∀ h, h ∈ H2 → h.In w) ∧ H2.length ≤ k) (fun _ x _ => M - (intOf x).toNat)
  case atStart => exact ⟨0, [], Nat.zero_le _, rfl, World.ownsRow_nil _ _ _ _, g0.out, X0.out, Y0.out, .nil, fun h hh => by simp at hh, Nat.zero_le _⟩
  case round =>
    clear X0 Y0 g0
    obtain ⟨k, H2, hk, rfl, ho, hg, hx, hy, hed, hin2, hln⟩ := hrel
    have HO := hid ho
    have HG := hid hg
    have HX := hid hx
    have HY := hid hy
    have HED := hid hed
    have HIN2 := hid hin2
    clear ho hg hx hy hed hin2
    by_cases hlt : k < M
    · have hlt' : (k : Int) < (s.hs.length : Int) := by omega
      obtain ⟨h, hh⟩ : ∃ h, s.hs[k]? = some h := ⟨_, List.getElem?_eq_getElem (by omega)⟩
      have htk : s.hs.take (k + 1) = s.hs.take k ++ [h] := by
        rw [List.take_add_one, hh]
        rfl
      have HSK := hid (show Ed s.now least (s.hs.take (k + 1)) H2 from by rw [htk]; exact .skip h HED.out)
      have HKP := hid (show ∀ h2 : Hd, least < max h.u (s.now + 1) → h2.g = h.g → h2.v = h.v → h2.u ≤ h.u → Ed s.now least (s.hs.take (k + 1)) (H2 ++ [h2]) from fun h2 e1 e2 e3 e4 => by rw [htk]; exact .keep h h2 HED.out e1 e2 e3 e4)
      have gW := hid (HW.out.trans (HG.out.mono HW.out.size))
      obtain ⟨hin, b, off, hA, hbl, c0, c1, c2, c3, c4, c5⟩ := (HS.out.h.keep gW.out).at hh
      have hinw := hid ((HS.out.h.at hh).1.keep HW.out)
      obtain ⟨x0, x1, x2, x3, x4⟩ := five HX.out
      have y1 := (cell_of HY.out 1).trans rfl
      have hbl2 : b < wr.heap.size := hbl
      have hw0 := lt_of HX.out
      have hw1 := lt_of HY.out
      rw [hA] at x3
      have hxu := hin.u
      have HAU := hid hA
      clear htk hh hA hin
      by_cases hkz : k < l.es.length
      · obtain ⟨e, he⟩ : ∃ e, l.es[k]? = some e := ⟨_, List.getElem?_eq_getElem hkz⟩
        obtain ⟨eb, eoff, heA, hec⟩ := (HI.out.e.keep gW.out).at he
        have e0 := hec k e he
        rw [heA] at y1
        have heb : eb < wr.heap.size := by simpa using block_lt_of_cell e0
        have hkz' : (k : Int) < (l.es.length : Int) := by omega
        have hdz : decide (k < l.es.length) = true := decide_eq_true hkz
        have her := HI.out.er e (List.mem_of_getElem? he)
        clear he hec heA hkz
        have gX := hid (HG.out.alloc HG.out.size (.cells #[.slice h.G h.g.length h.gc, .int .i64 h.v.a, .int .i64 h.v.b, .int .i64 h.v.c, .int .i64 h.v.d, .int .i64 h.u] 53))
        have XX := hid (heapA (o := .cells #[.slice h.G h.g.length h.gc, .int .i64 h.v.a, .int .i64 h.v.b, .int .i64 h.v.c, .int .i64 h.v.d, .int .i64 h.u] 53) HX.out)
        have YX := hid (heapA (o := .cells #[.slice h.G h.g.length h.gc, .int .i64 h.v.a, .int .i64 h.v.b, .int .i64 h.v.c, .int .i64 h.v.d, .int .i64 h.u] 53) HY.out)
        have OX := hid (HO.out.alloc (.cells #[.slice h.G h.g.length h.gc, .int .i64 h.v.a, .int .i64 h.v.b, .int .i64 h.v.c, .int .i64 h.v.d, .int .i64 h.u] 53))
        cases hb3 : (bits BinOp.and IntKind.i64 e 3 == 0) with
        | true =>
          go_wp2_with fail
          go_roundw
          case rel => exact ⟨k + 1, H2, by omega, by go_num, OX.out, gX.out, XX.out, YX.out, HSK.out, HIN2.out, by omega⟩
          case measure => simp [intOf]; omega
        | false =>
          go_wp2_with fail
          go_region
          obtain ⟨wv, hwv⟩ : ∃ wv, wv = (wr.alloc (.cells #[.slice h.G h.g.length h.gc, .int .i64 h.v.a, .int .i64 h.v.b, .int .i64 h.v.c, .int .i64 h.v.d, .int .i64 (min h.u (max e 0))] 53)).drew := ⟨_, rfl⟩
          have hab : Below wr.heap.size wr wv := by rw [hwv]; exact Below.drew ((Below.refl _ _).alloc (Nat.le_refl _) _)
          have QV : Hid (wv.heap[wr.heap.size]? = some (.cells #[.slice h.G h.g.length h.gc, .int .i64 h.v.a, .int .i64 h.v.b, .int .i64 h.v.c, .int .i64 h.v.d, .int .i64 (min h.u (max e 0))] 53 (0, 0))) := hid (by rw [hwv]; exact heap_new wr _)
          have GV := hid (HG.out.trans (hab.mono HG.out.size))
          have XV := hid (keep0 hab HX.out)
          have YV := hid (keep0 hab HY.out)
          have OV : Hid (wv.ownsRow (w.heap.size + 1 + 1) 53 6 u7 H2.length (hrowC H2)) := hid (by rw [hwv]; exact HO.out.alloc _)
          have d5 : wv.cell? ⟨b, off + k * 6 + 5, none⟩ = some (.int .i64 h.u) := by rw [hab.cell (p := ⟨b, off + k * 6 + 5, none⟩) hbl2]; exact c5
          have hzv := hab.size
          rw [← hwv]
          clear hwv hab x0 x1 x2 x3 x4 y1 c0 c1 c2 c3 c4 c5
          obtain ⟨x0, x1, x2, x3, x4⟩ := five XV.out
          rw [HAU.out] at x3
          have hwr : IntKind.i64.wrap (s.now + 1) = s.now + 1 := IntWalk.i64_in _ (by omega)
          obtain ⟨q0, q1, q2, q3, q4, q5⟩ := six QV.out
          by_cases hle : least < max h.u (s.now + 1)
          rotate_left
          · have d1 : decide (least < max h.u (s.now + 1)) = false := decide_eq_false hle
            clear hle
            go_wp2_with fail
            go_quiet (fail)
            all_goals go_wp2_with fail
            all_goals go_roundw
            case rel => exact ⟨k + 1, H2, by omega, by go_num, ownN OV.out _, dN GV.out _, XV.out, YV.out, HSK.out, HIN2.out, by omega⟩
            case measure => simp [intOf]; omega
          · have d1 : decide (least < max h.u (s.now + 1)) = true := decide_eq_true hle
            have HK2 := hid (HKP.out { h with u := (min h.u (max e 0)) } hle rfl rfl (by show min h.u (max e 0) ≤ h.u; omega))
            have hlen2 : H2.length + 1 ≤ 100 := by omega
            have C1 : Hid (∀ u ∈ ([.slice h.G h.g.length h.gc, .int .i64 h.v.a, .int .i64 h.v.b, .int .i64 h.v.c, .int .i64 h.v.d, .int .i64 (min h.u (max e 0))] : List Value), u.oneCell' = true) := hid (by
              intro u hu
              simp only [List.mem_cons, List.not_mem_nil, or_false] at hu
              rcases hu with rfl | rfl | rfl | rfl | rfl | rfl <;> rfl)
            clear hle
            go_wp2_with fail
            go_quiet (fail)
            obtain ⟨wn, hwn⟩ : ∃ wn, wn = wv.drewN nq := ⟨_, rfl⟩
            have Q2 : Hid (wn.heap[wr.heap.size]? = some (.cells #[.slice h.G h.g.length h.gc, .int .i64 h.v.a, .int .i64 h.v.b, .int .i64 h.v.c, .int .i64 h.v.d, .int .i64 (min h.u (max e 0))] 53 (0, 0))) := hid (by rw [hwn]; exact QV.out)
            have G2 : Hid (Below w.heap.size w wn) := hid (by rw [hwn]; exact dN GV.out _)
            have hn0 : Below wv.heap.size wv wn := by rw [hwn]; exact dN (Below.refl _ _) _
            have X2 := hid (keep0 hn0 XV.out)
            have Y2 := hid (keep0 hn0 YV.out)
            have O2 : Hid (wn.ownsRow (w.heap.size + 1 + 1) 53 6 u7 H2.length (hrowC H2)) := hid (by rw [hwn]; exact ownN OV.out _)
            have hzn : wr.heap.size < wn.heap.size := lt_of Q2.out
            rw [← hwn]
            clear hwn hn0
            have gA := hid (G2.out.alloc G2.out.size (.cells #[.slice h.G h.g.length h.gc, .int .i64 h.v.a, .int .i64 h.v.b, .int .i64 h.v.c, .int .i64 h.v.d, .int .i64 (min h.u (max e 0))] 53))
            have OA := hid (O2.out.alloc (.cells #[.slice h.G h.g.length h.gc, .int .i64 h.v.a, .int .i64 h.v.b, .int .i64 h.v.c, .int .i64 h.v.d, .int .i64 (min h.u (max e 0))] 53))
            have NA := hid (World.news_of_block (heap_new wn (.cells #[.slice h.G h.g.length h.gc, .int .i64 h.v.a, .int .i64 h.v.b, .int .i64 h.v.c, .int .i64 h.v.d, .int .i64 (min h.u (max e 0))] 53)))
            have XA := hid (heapA (o := .cells #[.slice h.G h.g.length h.gc, .int .i64 h.v.a, .int .i64 h.v.b, .int .i64 h.v.c, .int .i64 h.v.d, .int .i64 (min h.u (max e 0))] 53) X2.out)
            have YA := hid (heapA (o := .cells #[.slice h.G h.g.length h.gc, .int .i64 h.v.a, .int .i64 h.v.b, .int .i64 h.v.c, .int .i64 h.v.d, .int .i64 (min h.u (max e 0))] 53) Y2.out)
            obtain ⟨p0, p1, p2, p3, p4, p5⟩ := six Q2.out
            have hwz := lt_of X2.out
            have hwz1 := lt_of Y2.out
            clear hwr
            go_wp2_with (at_builtin; refine wpList_append_own _ rfl _ _ 24 rfl (w.heap.size + 1 + 1) 53 i0 _ 6 64 Try.underlying24 hi hz0 hz1 hz2 rfl (by decide) _ _ _ rfl OA.out ⟨wn.heap.size, 0, none⟩ 1 1 [.slice h.G h.g.length h.gc, .int .i64 h.v.a, .int .i64 h.v.b, .int .i64 h.v.c, .int .i64 h.v.d, .int .i64 (min h.u (max e 0))] rfl rfl NA.out C1.out (by unfold maxLen; omega) (by omega) (by simp; omega) ?_; rintro v' w' ho hgr hv; have O3 := hid ho; have R3 := hid hgr; clear ho hgr hv)
            go_roundw
            case rel =>
              refine ⟨k + 1, H2 ++ [{ h with u := (min h.u (max e 0)) }], by omega, by go_num, ?_, below_own gA.out R3.out OA.out (by omega) (by simp; omega), gb_keep R3.out XA.out (own_ne OA.out (by omega)), gb_keep R3.out YA.out (own_ne OA.out (by omega)), HK2.out, ?_, by simp; omega⟩
              · rw [hrowC_snoc, List.length_append]
                exact O3.out
              · intro x hx
                rcases List.mem_append.1 hx with hx | hx
                · exact HIN2.out x hx
                · have : x = { h with u := (min h.u (max e 0)) } := by simpa using hx
                  rw [this]
                  exact ⟨hinw.out.n, hinw.out.len, by show i64 (min h.u (max e 0)); have := hinw.out.u; unfold i64 at *; omega⟩
            case measure => simp [intOf]; omega
      · have hdz : decide (k < l.es.length) = false := decide_eq_false hkz
        have hkz' : ¬ (k : Int) < (l.es.length : Int) := by omega
        go_wp2_with fail
        obtain ⟨wv, hwv⟩ : ∃ wv, wv = wr.alloc (.cells #[.slice h.G h.g.length h.gc, .int .i64 h.v.a, .int .i64 h.v.b, .int .i64 h.v.c, .int .i64 h.v.d, .int .i64 h.u] 53) := ⟨_, rfl⟩
        have hab : Below wr.heap.size wr wv := by rw [hwv]; exact (Below.refl _ _).alloc (Nat.le_refl _) _
        have QV : Hid (wv.heap[wr.heap.size]? = some (.cells #[.slice h.G h.g.length h.gc, .int .i64 h.v.a, .int .i64 h.v.b, .int .i64 h.v.c, .int .i64 h.v.d, .int .i64 h.u] 53 (0, 0))) := hid (by rw [hwv]; exact heap_new wr _)
        have GV := hid (HG.out.trans (hab.mono HG.out.size))
        have XV := hid (keep0 hab HX.out)
        have YV := hid (keep0 hab HY.out)
        have OV : Hid (wv.ownsRow (w.heap.size + 1 + 1) 53 6 u7 H2.length (hrowC H2)) := hid (by rw [hwv]; exact HO.out.alloc _)
        have d5 : wv.cell? ⟨b, off + k * 6 + 5, none⟩ = some (.int .i64 h.u) := by rw [hab.cell (p := ⟨b, off + k * 6 + 5, none⟩) hbl2]; exact c5
        have hzv := hab.size
        rw [← hwv]
        clear hwv hab x0 x1 x2 x3 x4 y1 c0 c1 c2 c3 c4 c5
        obtain ⟨x0, x1, x2, x3, x4⟩ := five XV.out
        rw [HAU.out] at x3
        have hwr : IntKind.i64.wrap (s.now + 1) = s.now + 1 := IntWalk.i64_in _ (by omega)
        obtain ⟨q0, q1, q2, q3, q4, q5⟩ := six QV.out
        by_cases hle : least < max h.u (s.now + 1)
        rotate_left
        · have d1 : decide (least < max h.u (s.now + 1)) = false := decide_eq_false hle
          clear hle
          go_wp2_with fail
          go_quiet (fail)
          all_goals go_wp2_with fail
          all_goals go_roundw
          case rel => exact ⟨k + 1, H2, by omega, by go_num, ownN OV.out _, dN GV.out _, XV.out, YV.out, HSK.out, HIN2.out, by omega⟩
          case measure => simp [intOf]; omega
        · have d1 : decide (least < max h.u (s.now + 1)) = true := decide_eq_true hle
          have HK2 := hid (HKP.out { h with u := h.u } hle rfl rfl (Int.le_refl _))
          have hlen2 : H2.length + 1 ≤ 100 := by omega
          have C1 : Hid (∀ u ∈ ([.slice h.G h.g.length h.gc, .int .i64 h.v.a, .int .i64 h.v.b, .int .i64 h.v.c, .int .i64 h.v.d, .int .i64 h.u] : List Value), u.oneCell' = true) := hid (by
            intro u hu
            simp only [List.mem_cons, List.not_mem_nil, or_false] at hu
            rcases hu with rfl | rfl | rfl | rfl | rfl | rfl <;> rfl)
          clear hle
          go_wp2_with fail
          go_quiet (fail)
          obtain ⟨wn, hwn⟩ : ∃ wn, wn = wv.drewN nq := ⟨_, rfl⟩
          have Q2 : Hid (wn.heap[wr.heap.size]? = some (.cells #[.slice h.G h.g.length h.gc, .int .i64 h.v.a, .int .i64 h.v.b, .int .i64 h.v.c, .int .i64 h.v.d, .int .i64 h.u] 53 (0, 0))) := hid (by rw [hwn]; exact QV.out)
          have G2 : Hid (Below w.heap.size w wn) := hid (by rw [hwn]; exact dN GV.out _)
          have hn0 : Below wv.heap.size wv wn := by rw [hwn]; exact dN (Below.refl _ _) _
          have X2 := hid (keep0 hn0 XV.out)
          have Y2 := hid (keep0 hn0 YV.out)
          have O2 : Hid (wn.ownsRow (w.heap.size + 1 + 1) 53 6 u7 H2.length (hrowC H2)) := hid (by rw [hwn]; exact ownN OV.out _)
          have hzn : wr.heap.size < wn.heap.size := lt_of Q2.out
          rw [← hwn]
          clear hwn hn0
          have gA := hid (G2.out.alloc G2.out.size (.cells #[.slice h.G h.g.length h.gc, .int .i64 h.v.a, .int .i64 h.v.b, .int .i64 h.v.c, .int .i64 h.v.d, .int .i64 h.u] 53))
          have OA := hid (O2.out.alloc (.cells #[.slice h.G h.g.length h.gc, .int .i64 h.v.a, .int .i64 h.v.b, .int .i64 h.v.c, .int .i64 h.v.d, .int .i64 h.u] 53))
          have NA := hid (World.news_of_block (heap_new wn (.cells #[.slice h.G h.g.length h.gc, .int .i64 h.v.a, .int .i64 h.v.b, .int .i64 h.v.c, .int .i64 h.v.d, .int .i64 h.u] 53)))
          have XA := hid (heapA (o := .cells #[.slice h.G h.g.length h.gc, .int .i64 h.v.a, .int .i64 h.v.b, .int .i64 h.v.c, .int .i64 h.v.d, .int .i64 h.u] 53) X2.out)
          have YA := hid (heapA (o := .cells #[.slice h.G h.g.length h.gc, .int .i64 h.v.a, .int .i64 h.v.b, .int .i64 h.v.c, .int .i64 h.v.d, .int .i64 h.u] 53) Y2.out)
          obtain ⟨p0, p1, p2, p3, p4, p5⟩ := six Q2.out
          have hwz := lt_of X2.out
          have hwz1 := lt_of Y2.out
          clear hwr
          go_wp2_with (at_builtin; refine wpList_append_own _ rfl _ _ 24 rfl (w.heap.size + 1 + 1) 53 i0 _ 6 64 Try.underlying24 hi hz0 hz1 hz2 rfl (by decide) _ _ _ rfl OA.out ⟨wn.heap.size, 0, none⟩ 1 1 [.slice h.G h.g.length h.gc, .int .i64 h.v.a, .int .i64 h.v.b, .int .i64 h.v.c, .int .i64 h.v.d, .int .i64 h.u] rfl rfl NA.out C1.out (by unfold maxLen; omega) (by omega) (by simp; omega) ?_; rintro v' w' ho hgr hv; have O3 := hid ho; have R3 := hid hgr; clear ho hgr hv)
          go_roundw
          case rel =>
            refine ⟨k + 1, H2 ++ [{ h with u := h.u }], by omega, by go_num, ?_, below_own gA.out R3.out OA.out (by omega) (by simp; omega), gb_keep R3.out XA.out (own_ne OA.out (by omega)), gb_keep R3.out YA.out (own_ne OA.out (by omega)), HK2.out, ?_, by simp; omega⟩
            · rw [hrowC_snoc, List.length_append]
              exact O3.out
            · intro x hx
              rcases List.mem_append.1 hx with hx | hx
              · exact HIN2.out x hx
              · have : x = { h with u := h.u } := by simpa using hx
                rw [this]
                exact ⟨hinw.out.n, hinw.out.len, by show i64 h.u; have := hinw.out.u; unfold i64 at *; omega⟩
          case measure => simp [intOf]; omega
    · obtain rfl : M = k := by omega
      obtain ⟨x0, x1, x2, x3, x4⟩ := five HX.out
      have hnl : ¬ (M : Int) < (s.hs.length : Int) := by omega
      have HEN := hid (show Ed s.now least s.hs H2 from by
        have := HED.out
        rwa [List.take_of_length_le (by omega)] at this)
      go_wp2_with fail
      go_returns
      exact ⟨_, H2, rfl, own_mono HO.out (by omega), HG.out, HEN.out, HIN2.out, by omega⟩
end Go.Proofs.Ythkofnahimlijaa
namespace Go.Proofs.Ythkofnahimlijaa
open Go Go.RowKit
/-- Whatever the appended slice's address is. -/
theorem wpList_append_any {P : Program} {w : World} {ops : Array Oper} {rest : List Oper} {o : Oper} {a : Act} {Q : Exit → Act → World → Prop} (hgd : o.guard = none) (s x : Operand) (t : TypeId)
    (ho : o.op = .call { callee := .builtin .append, args := #[s, x], argTypes := #[t, t] })
    (base : Nat) (e : TypeId) (i : TypeInfo) (z : Value) (size bytes : Nat) (ht : P.underlying t = some (.slice e)) (hi : P.info? e = some i) (hz : i.zero = some z)
    (hsize : i.size = size) (hby : i.bytes = bytes) (hzs : z.cells.size = size) (hsz : 0 < size)
    (v : Value) (n : Nat) (xs : List Value) (hs : a.eval s = v) (hown : w.ownsRow base e size v n xs)
    (ao : Option Addr) (m c : Nat) (news : List Value) (hx : a.eval x = .slice ao m c) (hno : ao = none → m = 0 ∧ c = 0) (hl : news.length = m * size) (hnews : ∀ ad, ao = some ad → ∀ (j : Nat) u, news[j]? = some u → w.cell? (ad.add j) = some u) (h1 : ∀ u ∈ news, u.oneCell' = true)
    (h63 : n + m ≤ maxLen) (hbytes : (n + m) * bytes ≤ 140737488355328) (hbase : base ≤ w.heap.size)
    (h : ∀ v' w', w'.ownsRow base e size v' (n + m) (xs ++ news) → w.grownBy w' v.ownBlock → wpList P ops Q rest (a.put o.dst v') w') : wpList P ops Q (o :: rest) a w := by
  cases ao with
  | none =>
    obtain ⟨rfl, rfl⟩ := hno rfl
    have hn : news = [] := List.eq_nil_of_length_eq_zero (by rw [hl, Nat.zero_mul])
    subst hn
    refine wpList_append_own_none hgd s x t ho base e i size ht hi v n xs hs hown hx ?_
    refine h v w ?_ ⟨rfl, rfl, rfl, Nat.le_refl _, fun _ _ _ => rfl⟩
    rw [List.append_nil]
    exact hown
  | some ad => exact wpList_append_own _ hgd s x t ho base e i z size bytes ht hi hz hsize hby hzs hsz v n xs hs hown ad m c news hx hl (hnews ad rfl) h1 h63 hbytes hbase fun v' w' h2 h3 _ => h v' w' h2 h3
theorem and_mod {x : Int} {M : Nat} (hM : 0 < M) : ∃ k : Nat, k < M ∧ (bits .and .i64 x 1023).tmod (M : Int) = (k : Int) := by
  have h0 : 0 ≤ bits .and .i64 x 1023 := by
    simp only [bits, BitVec.toNat_and]
    have h1 : (BitVec.ofInt IntKind.i64.bits x).toNat &&& (BitVec.ofInt IntKind.i64.bits 1023).toNat ≤ 1023 := Nat.and_le_right
    rw [IntKind.wrap_i64]
    omega
  refine ⟨((bits .and .i64 x 1023).tmod (M : Int)).toNat, ?_, ?_⟩
  · have h1 := Int.tmod_lt_of_pos (bits .and .i64 x 1023) (show (0 : Int) < M by omega)
    omega
  · have h2 := Int.tmod_nonneg (M : Int) h0
    omega
theorem own_cells {w : World} {base b cap n : Nat} {t : TypeId} {A : List Ak} (h : w.ownsRow base t 10 (.slice (some ⟨b, 0, none⟩) n cap) n (rowC A)) {k : Nat} {a : Ak} (hk : A[k]? = some a) : ∀ i, i < 10 → w.cell? ⟨b, k * 10 + i, none⟩ = a.cells[i]? := by
  intro i hi
  have h1 := h.1
  rw [rowC_len] at h1
  have hk2 := (List.getElem?_eq_some_iff.1 hk).1
  rw [h.cellAt (k * 10 + i) (by omega), rowC_at hk hi]
theorem tenC {w : World} {b o : Nat} {a : Ak} (h : ∀ i, i < 10 → w.cell? ⟨b, o + i, none⟩ = a.cells[i]?) : w.cell? ⟨b, o, none⟩ = some (.int .i64 a.id) ∧ w.cell? ⟨b, o + 1, none⟩ = some (.slice a.A a.pl.length a.cap) ∧ w.cell? ⟨b, o + 2, none⟩ = some (.int .i64 a.m) ∧ w.cell? ⟨b, o + 3, none⟩ = some (.int .i64 a.v.a) ∧ w.cell? ⟨b, o + 4, none⟩ = some (.int .i64 a.v.b) ∧ w.cell? ⟨b, o + 5, none⟩ = some (.int .i64 a.v.c) ∧ w.cell? ⟨b, o + 6, none⟩ = some (.int .i64 a.v.d) ∧ w.cell? ⟨b, o + 7, none⟩ = some (.int .i64 a.k) ∧ w.cell? ⟨b, o + 8, none⟩ = some (.int .i64 a.s) ∧ w.cell? ⟨b, o + 9, none⟩ = some (.slice a.G a.g.length a.gc) :=
  ⟨h 0 (by omega), h 1 (by omega), h 2 (by omega), h 3 (by omega), h 4 (by omega), h 5 (by omega), h 6 (by omega), h 7 (by omega), h 8 (by omega), h 9 (by omega)⟩
def set10 (w : World) (b o : Nat) (a : Ak) : World := ((((((((((w.setCell ⟨b, o, none⟩ (.int .i64 a.id)).setCell ⟨b, o + 1, none⟩ (.slice a.A a.pl.length a.cap)).setCell ⟨b, o + 2, none⟩ (.int .i64 a.m)).setCell ⟨b, o + 3, none⟩ (.int .i64 a.v.a)).setCell ⟨b, o + 4, none⟩ (.int .i64 a.v.b)).setCell ⟨b, o + 5, none⟩ (.int .i64 a.v.c)).setCell ⟨b, o + 6, none⟩ (.int .i64 a.v.d)).setCell ⟨b, o + 7, none⟩ (.int .i64 a.k)).setCell ⟨b, o + 8, none⟩ (.int .i64 a.s)).setCell ⟨b, o + 9, none⟩ (.slice a.G a.g.length a.gc))
theorem row_set (A : List Ak) (k : Nat) (a : Ak) (hk : k < A.length) : (((((((((((rowC A).set (k * 10) (.int .i64 a.id)).set (k * 10 + 1) (.slice a.A a.pl.length a.cap)).set (k * 10 + 2) (.int .i64 a.m)).set (k * 10 + 3) (.int .i64 a.v.a)).set (k * 10 + 4) (.int .i64 a.v.b)).set (k * 10 + 5) (.int .i64 a.v.c)).set (k * 10 + 6) (.int .i64 a.v.d)).set (k * 10 + 7) (.int .i64 a.k)).set (k * 10 + 8) (.int .i64 a.s)).set (k * 10 + 9) (.slice a.G a.g.length a.gc)) = rowC (A.set k a) := by
  induction A generalizing k with
  | nil => simp at hk
  | cons x r ih =>
    cases k with
    | zero => rfl
    | succ k =>
      have h := ih k (by simpa using hk)
      show (((((((((((x.cells ++ rowC r).set ((k + 1) * 10) (.int .i64 a.id)).set ((k + 1) * 10 + 1) (.slice a.A a.pl.length a.cap)).set ((k + 1) * 10 + 2) (.int .i64 a.m)).set ((k + 1) * 10 + 3) (.int .i64 a.v.a)).set ((k + 1) * 10 + 4) (.int .i64 a.v.b)).set ((k + 1) * 10 + 5) (.int .i64 a.v.c)).set ((k + 1) * 10 + 6) (.int .i64 a.v.d)).set ((k + 1) * 10 + 7) (.int .i64 a.k)).set ((k + 1) * 10 + 8) (.int .i64 a.s)).set ((k + 1) * 10 + 9) (.slice a.G a.g.length a.gc)) = x.cells ++ rowC (r.set k a)
      rw [← h, show (k + 1) * 10 = k * 10 + 10 from by omega]
      rfl
theorem own_set {w : World} {base b cap n : Nat} {t : TypeId} {A : List Ak} (h : w.ownsRow base t 10 (.slice (some ⟨b, 0, none⟩) n cap) n (rowC A)) {k : Nat} {a : Ak} (hk : k < A.length) : (set10 w b (k * 10) a).ownsRow base t 10 (.slice (some ⟨b, 0, none⟩) n cap) n (rowC (A.set k a)) ∧ w.grownBy (set10 w b (k * 10) a) (some b) := by
  rw [← row_set A k a hk]
  have h0 := (h).stored (k * 10) (.int .i64 a.id)
  have h1 := (h0.1).stored (k * 10 + 1) (.slice a.A a.pl.length a.cap)
  have h2 := (h1.1).stored (k * 10 + 2) (.int .i64 a.m)
  have h3 := (h2.1).stored (k * 10 + 3) (.int .i64 a.v.a)
  have h4 := (h3.1).stored (k * 10 + 4) (.int .i64 a.v.b)
  have h5 := (h4.1).stored (k * 10 + 5) (.int .i64 a.v.c)
  have h6 := (h5.1).stored (k * 10 + 6) (.int .i64 a.v.d)
  have h7 := (h6.1).stored (k * 10 + 7) (.int .i64 a.k)
  have h8 := (h7.1).stored (k * 10 + 8) (.int .i64 a.s)
  have h9 := (h8.1).stored (k * 10 + 9) (.slice a.G a.g.length a.gc)
  exact ⟨h9.1, h0.2.trans (h1.2.trans (h2.2.trans (h3.2.trans (h4.2.trans (h5.2.trans (h6.2.trans (h7.2.trans (h8.2.trans (h9.2)))))))))⟩
theorem and_mod1 {x : Int} (M : Nat) : ∃ k : Nat, k ≤ M ∧ (bits .and .i64 x 1023).tmod ((M : Int) + 1) = (k : Int) := by
  obtain ⟨k, h1, h2⟩ := and_mod (x := x) (show 0 < M + 1 by omega)
  exact ⟨k, by omega, by rw [← h2]; push_cast; rfl⟩
theorem swap_aux {r : List Ak} {j : Nat} {a d : Ak} (h : r[j]? = some d) : (d :: r.set j a).Perm (a :: r) := by
  induction r generalizing j with
  | nil => simp at h
  | cons x r ih =>
    cases j with
    | zero =>
      have : x = d := by simpa using h
      subst this
      exact List.Perm.swap _ _ _
    | succ j =>
      have h1 := ih (j := j) (by simpa using h)
      show (d :: x :: r.set j a).Perm (a :: x :: r)
      exact (List.Perm.swap x d _).trans ((h1.cons x).trans (List.Perm.swap a x _))
theorem swap_perm {A : List Ak} {k : Nat} {a d : Ak} (h0 : A[0]? = some a) (hk : A[k]? = some d) : ((A.set 0 d).set k a).Perm A := by
  cases A with
  | nil => simp at h0
  | cons x r =>
    have : x = a := by simpa using h0
    subst this
    cases k with
    | zero =>
      have : x = d := by simpa using hk
      subst this
      exact List.Perm.refl _
    | succ k => exact swap_aux (by simpa using hk)
theorem rowC_one (L : List Ak) (u : Value) (hu : u ∈ rowC L) : u.oneCell' = true := by
  unfold rowC at hu
  obtain ⟨a, _, ha⟩ := List.mem_flatMap.1 hu
  simp only [Ak.cells, List.mem_cons, List.not_mem_nil, or_false] at ha
  rcases ha with rfl | rfl | rfl | rfl | rfl | rfl | rfl | rfl | rfl | rfl <;> rfl
theorem rowC_take (L : List Ak) (k : Nat) : rowC (L.take k) = (rowC L).take (k * 10) := by
  induction L generalizing k with
  | nil => simp [rowC]
  | cons a r ih =>
    cases k with
    | zero => simp [rowC]
    | succ k =>
      show a.cells ++ rowC (r.take k) = (a.cells ++ rowC r).take ((k + 1) * 10)
      rw [ih, show (k + 1) * 10 = k * 10 + 10 from by omega]
      rfl
theorem rowC_drop (L : List Ak) (k : Nat) : rowC (L.drop k) = (rowC L).drop (k * 10) := by
  induction L generalizing k with
  | nil => simp [rowC]
  | cons a r ih =>
    cases k with
    | zero => simp
    | succ k =>
      show rowC (r.drop k) = (a.cells ++ rowC r).drop ((k + 1) * 10)
      rw [ih, show (k + 1) * 10 = k * 10 + 10 from by omega]
      rfl
/-- What lies in a cut of a row of the call's own. -/
theorem cut_take {w w2 : World} {base b cap n : Nat} {t : TypeId} {L : List Ak} (h : w.ownsRow base t 10 (.slice (some ⟨b, 0, none⟩) n cap) n (rowC L)) (hb : Below w.heap.size w w2) (k : Nat) : ∀ ad, some (⟨b, 0, none⟩ : Addr) = some ad → ∀ (j : Nat) u, (rowC (L.take k))[j]? = some u → w2.cell? (ad.add j) = some u := by
  intro ad had j u hu
  cases had
  rw [rowC_take, List.getElem?_take] at hu
  split at hu
  · have h1 := h.cells (g := b) rfl j u hu
    rw [show (⟨b, 0, none⟩ : Addr).add j = ⟨b, j, none⟩ by unfold Addr.add; split <;> simp_all] at h1 ⊢
    rw [hb.cell (p := ⟨b, j, none⟩) (block_lt_of_cell h1)]
    exact h1
  · cases hu
theorem cut_drop {w w2 : World} {base b cap n : Nat} {t : TypeId} {L : List Ak} (h : w.ownsRow base t 10 (.slice (some ⟨b, 0, none⟩) n cap) n (rowC L)) (hb : Below w.heap.size w w2) (k : Nat) {ao : Option Addr} (hao : (n ≤ k ∧ ∃ a0, ao = some a0) ∨ ao = some ⟨b, k * 10, none⟩) (hL : L.length = n) : ∀ ad, ao = some ad → ∀ (j : Nat) u, (rowC (L.drop k))[j]? = some u → w2.cell? (ad.add j) = some u := by
  intro ad had j u hu
  rcases hao with ⟨hle, _⟩ | rfl
  · rw [List.drop_eq_nil_of_le (by omega)] at hu
    simp [rowC] at hu
  · cases had
    rw [rowC_drop, List.getElem?_drop] at hu
    have h1 := h.cells (g := b) rfl _ u hu
    rw [show (⟨b, 0, none⟩ : Addr).add (k * 10 + j) = ⟨b, k * 10 + j, none⟩ by unfold Addr.add; split <;> simp_all] at h1
    rw [show (⟨b, k * 10, none⟩ : Addr).add j = ⟨b, k * 10 + j, none⟩ by unfold Addr.add; split <;> simp_all]
    rw [hb.cell (p := ⟨b, k * 10 + j, none⟩) (block_lt_of_cell h1)]
    exact h1
theorem AgRel.keep {w w' : World} {ks : List Ak} {S : Nat → Slt} {A : List Ak} (h : AgRel w ks S A) (hb : Below w.heap.size w w') : AgRel w' ks S A := fun j a hj => ⟨(h j a hj).1.keep hb, (h j a hj).2⟩
theorem gone_perm {B A : List Ak} {k : Nat} (hk : k < B.length) (h : B.Perm A) : ∃ R, (B.take k ++ B.drop (k + 1) ++ R).Perm A := by
  refine ⟨[B[k]], List.Perm.trans ?_ h⟩
  have e : B = B.take k ++ B[k] :: B.drop (k + 1) := by rw [List.getElem_cons_drop, List.take_append_drop]
  have h1 : (B.take k ++ B.drop (k + 1) ++ [B[k]]).Perm (B.take k ++ B[k] :: B.drop (k + 1)) := by
    rw [List.append_assoc]
    exact List.perm_append_comm.append_left (B.take k)
  rw [← e] at h1
  exact h1
/-- Asks turned, one gone, one come. -/
def MxPost (w : World) (ks : List Ak) (S : Nat → Slt) (c : Ak) (e : Ending) (w' : World) : Prop := ∃ v P Q R A, e = .returned (.tuple #[v, .int .i64 (P.length : Nat)]) ∧ (P ++ Q ++ R).Perm A ∧ A.length = ks.length ∧ AgRel w' ks S A ∧
  w'.ownsRow w.heap.size 42 10 v (P ++ { c with s := -1, G := none, gc := 0, g := [] } :: Q).length (rowC (P ++ { c with s := -1, G := none, gc := 0, g := [] } :: Q)) ∧ Below w.heap.size w w'
end Go.Proofs.Ythkofnahimlijaa
namespace Go.Proofs.Ythkofnahimlijaa
open Go Go.RowKit
set_option maxRecDepth 100000 in
set_option maxHeartbeats 4000000 in
theorem mixed_any (W w3 : World) (s : Sc) (l : Lt) (sa : Option Addr) (m : Nat) (S : Nat → Slt) (w : World) (hs : s.In W) (hl : l.In W) (hW : Below W.heap.size W w) (hkl : s.ks.length ≤ 10) (hR : OutRow w3 w sa m 0 s.ks.length S) (hm : m = s.ks.length) (hS : ∀ j, i64 (S j).t) (hSl : ∀ j, (S j).l.length ≤ 16) :
    Calls Try.prog 13 #[.agg #[.slice s.A s.xs.length s.cap, .slice s.U s.up.length s.ucap, .int .i64 s.now, .slice s.H s.hs.length s.hcap, .slice s.K s.ks.length s.kcap], .agg #[.int .i64 l.ticks, .slice l.A l.es.length l.cap, .int .i64 l.goes, .int .i64 l.c.id, .slice l.c.A l.c.pl.length l.c.cap, .int .i64 l.c.m, .int .i64 l.c.v.a, .int .i64 l.c.v.b, .int .i64 l.c.v.c, .int .i64 l.c.v.d, .int .i64 l.c.k, .int .i64 l.c.s, .slice l.c.G l.c.g.length l.c.gc, .int .i64 l.at_, .int .i64 l.turn], .slice sa m m] w (MxPost w s.ks S l.c) := by
  have HS := hid hs
  have HI := hid hl
  have HW := hid hW
  obtain ⟨i0, hi, hz0, hz1, hz2⟩ := info_tri ask_info
  have X0 := hid (heapA (o := (.cells #[.int .i64 l.ticks, .slice l.A l.es.length l.cap, .int .i64 l.goes, .int .i64 l.c.id, .slice l.c.A l.c.pl.length l.c.cap, .int .i64 l.c.m, .int .i64 l.c.v.a, .int .i64 l.c.v.b, .int .i64 l.c.v.c, .int .i64 l.c.v.d, .int .i64 l.c.k, .int .i64 l.c.s, .slice l.c.G l.c.g.length l.c.gc, .int .i64 l.at_, .int .i64 l.turn] 44)) (heap_new w (.cells #[.slice s.A s.xs.length s.cap, .slice s.U s.up.length s.ucap, .int .i64 s.now, .slice s.H s.hs.length s.hcap, .slice s.K s.ks.length s.kcap] 27)))
  have Y0 := hid (heap_newS (w := w.alloc (.cells #[.slice s.A s.xs.length s.cap, .slice s.U s.up.length s.ucap, .int .i64 s.now, .slice s.H s.hs.length s.hcap, .slice s.K s.ks.length s.kcap] 27)) (o := (.cells #[.int .i64 l.ticks, .slice l.A l.es.length l.cap, .int .i64 l.goes, .int .i64 l.c.id, .slice l.c.A l.c.pl.length l.c.cap, .int .i64 l.c.m, .int .i64 l.c.v.a, .int .i64 l.c.v.b, .int .i64 l.c.v.c, .int .i64 l.c.v.d, .int .i64 l.c.k, .int .i64 l.c.s, .slice l.c.G l.c.g.length l.c.gc, .int .i64 l.at_, .int .i64 l.turn] 44)) (n := w.heap.size + 1) (by simp))
  have g0 := hid (show Below w.heap.size w ((w.alloc (.cells #[.slice s.A s.xs.length s.cap, .slice s.U s.up.length s.ucap, .int .i64 s.now, .slice s.H s.hs.length s.hcap, .slice s.K s.ks.length s.kcap] 27)).alloc (.cells #[.int .i64 l.ticks, .slice l.A l.es.length l.cap, .int .i64 l.goes, .int .i64 l.c.id, .slice l.c.A l.c.pl.length l.c.cap, .int .i64 l.c.m, .int .i64 l.c.v.a, .int .i64 l.c.v.b, .int .i64 l.c.v.c, .int .i64 l.c.v.d, .int .i64 l.c.k, .int .i64 l.c.s, .slice l.c.G l.c.g.length l.c.gc, .int .i64 l.at_, .int .i64 l.turn] 44)) from by go_grown)
  have KA := hid (again_any W w3 s.K s.kcap s.ks sa m S ((w.alloc (.cells #[.slice s.A s.xs.length s.cap, .slice s.U s.up.length s.ucap, .int .i64 s.now, .slice s.H s.hs.length s.hcap, .slice s.K s.ks.length s.kcap] 27)).alloc (.cells #[.int .i64 l.ticks, .slice l.A l.es.length l.cap, .int .i64 l.goes, .int .i64 l.c.id, .slice l.c.A l.c.pl.length l.c.cap, .int .i64 l.c.m, .int .i64 l.c.v.a, .int .i64 l.c.v.b, .int .i64 l.c.v.c, .int .i64 l.c.v.d, .int .i64 l.c.k, .int .i64 l.c.s, .slice l.c.G l.c.g.length l.c.gc, .int .i64 l.at_, .int .i64 l.turn] 44)) (hs.k.keep (hW.trans (g0.out.mono hW.size))) (hW.trans (g0.out.mono hW.size)) hkl (hR.keep g0.out) hm hS hSl)
  obtain ⟨M, hM⟩ : ∃ M, M = s.ks.length := ⟨_, rfl⟩
  have HM := hid hM
  rw [← hM] at hm hkl
  have hm' := hid hm
  clear hs hl hW hR hM hS hSl hm
  obtain ⟨x0, x1, x2, x3, x4⟩ := five X0.out
  go_enter Try.func13, Try.ntmps13
  go_wp2_with fail
  with_reducible refine KA.out.mono ?_
  rintro _ w1 ⟨v, A, rfl, hAl, ho, hb, ha⟩
  have X1 := hid (keep0 hb X0.out)
  have Y1 := hid (keep0 hb Y0.out)
  obtain ⟨w0, hs0, hs1, hg0, hb0, ha⟩ : ∃ w0, w0.heap.size ≤ w.heap.size + 1 + 1 ∧ w.heap.size + 1 + 1 ≤ w0.heap.size ∧ Below w.heap.size w w0 ∧ Below w0.heap.size w0 w1 ∧ AgRel w0 s.ks S A := ⟨_, by simp, by simp, g0.out, hb, ha⟩
  have g1 := hid hb0
  have G0 := hid hg0
  have O1 := hid (own_mono ho (base' := w.heap.size + 1 + 1) (by simp))
  have HA := hid ha
  have HAl := hid (hAl.trans HM.out.symm)
  have hAM := hAl.trans HM.out.symm
  rw [hAM] at O1
  clear hb hb0 hg0 ho ha hAl KA X0 Y0 g0 x0 x1 x2 x3 x4
  obtain ⟨_, ⟨rfl, h0⟩ | ⟨b, cap, cs, rfl, hbb, hbh, hcap, hcm, -, -⟩⟩ := id O1.out
  · subst h0
    obtain rfl : A = [] := List.eq_nil_of_length_eq_zero hAM
    obtain ⟨k3, hk3, hat⟩ := and_mod1 (x := l.at_) 0
    obtain rfl : k3 = 0 := by omega
    have GT := g1
    have YT := Y1
    have HP := hid (show ∃ R, (([] : List Ak) ++ R).Perm [] from ⟨[], List.Perm.refl _⟩)
    clear hAM O1 hkl
    have z0 : w1.cell? ⟨w.heap.size + 1, 3, none⟩ = some (.int .i64 l.c.id) := (cell_of YT.out 3).trans rfl
    have z1 : w1.cell? ⟨w.heap.size + 1, 4, none⟩ = some (.slice l.c.A l.c.pl.length l.c.cap) := (cell_of YT.out 4).trans rfl
    have z2 : w1.cell? ⟨w.heap.size + 1, 5, none⟩ = some (.int .i64 l.c.m) := (cell_of YT.out 5).trans rfl
    have z3 : w1.cell? ⟨w.heap.size + 1, 6, none⟩ = some (.int .i64 l.c.v.a) := (cell_of YT.out 6).trans rfl
    have z4 : w1.cell? ⟨w.heap.size + 1, 7, none⟩ = some (.int .i64 l.c.v.b) := (cell_of YT.out 7).trans rfl
    have z5 : w1.cell? ⟨w.heap.size + 1, 8, none⟩ = some (.int .i64 l.c.v.c) := (cell_of YT.out 8).trans rfl
    have z6 : w1.cell? ⟨w.heap.size + 1, 9, none⟩ = some (.int .i64 l.c.v.d) := (cell_of YT.out 9).trans rfl
    have z7 : w1.cell? ⟨w.heap.size + 1, 10, none⟩ = some (.int .i64 l.c.k) := (cell_of YT.out 10).trans rfl
    have z8 : w1.cell? ⟨w.heap.size + 1, 11, none⟩ = some (.int .i64 l.c.s) := (cell_of YT.out 11).trans rfl
    have z9 : w1.cell? ⟨w.heap.size + 1, 12, none⟩ = some (.slice l.c.G l.c.g.length l.c.gc) := (cell_of YT.out 12).trans rfl
    have z10 : w1.cell? ⟨w.heap.size + 1, 13, none⟩ = some (.int .i64 l.at_) := (cell_of YT.out 13).trans rfl
    go_upto_region 18 with fail
    clear z0 z1 z2 z3 z4 z5 z6 z7 z8 z9 z10
    obtain ⟨wc, hwc⟩ : ∃ wc, wc = w1.alloc (.cells #[.int .i64 l.c.id, .slice l.c.A l.c.pl.length l.c.cap, .int .i64 l.c.m, .int .i64 l.c.v.a, .int .i64 l.c.v.b, .int .i64 l.c.v.c, .int .i64 l.c.v.d, .int .i64 l.c.k, .int .i64 (-1), .slice none 0 0] 42) := ⟨_, rfl⟩
    rw [← hwc]
    have QC : Hid (wc.heap[w1.heap.size]? = some (.cells #[.int .i64 l.c.id, .slice l.c.A l.c.pl.length l.c.cap, .int .i64 l.c.m, .int .i64 l.c.v.a, .int .i64 l.c.v.b, .int .i64 l.c.v.c, .int .i64 l.c.v.d, .int .i64 l.c.k, .int .i64 (-1), .slice none 0 0] 42 (0, 0))) := hid (by rw [hwc]; exact heap_new w1 _)
    have GC := hid (show Below w0.heap.size w0 wc from by rw [hwc]; exact GT.out.alloc GT.out.size _)
    have hcz : w1.heap.size < wc.heap.size := by rw [hwc]; simp
    have hwz := GC.out.size
    clear hwc
    go_upto_region 19 with (at_builtin; refine wpList_append_own_none rfl _ _ 25 rfl wc.heap.size 42 i0 10 Try.underlying25 hi _ _ _ rfl (World.ownsRow_nil _ _ _ _) rfl ?_)
    have G5 := hid (Below.refl wc.heap.size wc)
    have O5 := hid (World.ownsRow_nil wc wc.heap.size 42 10)
    have Q5 := QC
    have g5z := G5.out.size
    have e0 : wc.cell? ⟨w1.heap.size, 0, none⟩ = some (.int .i64 l.c.id) := (cell_of Q5.out 0).trans rfl
    have e1 : wc.cell? ⟨w1.heap.size, 1, none⟩ = some (.slice l.c.A l.c.pl.length l.c.cap) := (cell_of Q5.out 1).trans rfl
    have e2 : wc.cell? ⟨w1.heap.size, 2, none⟩ = some (.int .i64 l.c.m) := (cell_of Q5.out 2).trans rfl
    have e3 : wc.cell? ⟨w1.heap.size, 3, none⟩ = some (.int .i64 l.c.v.a) := (cell_of Q5.out 3).trans rfl
    have e4 : wc.cell? ⟨w1.heap.size, 4, none⟩ = some (.int .i64 l.c.v.b) := (cell_of Q5.out 4).trans rfl
    have e5 : wc.cell? ⟨w1.heap.size, 5, none⟩ = some (.int .i64 l.c.v.c) := (cell_of Q5.out 5).trans rfl
    have e6 : wc.cell? ⟨w1.heap.size, 6, none⟩ = some (.int .i64 l.c.v.d) := (cell_of Q5.out 6).trans rfl
    have e7 : wc.cell? ⟨w1.heap.size, 7, none⟩ = some (.int .i64 l.c.k) := (cell_of Q5.out 7).trans rfl
    have e8 : wc.cell? ⟨w1.heap.size, 8, none⟩ = some (.int .i64 (-1)) := (cell_of Q5.out 8).trans rfl
    have e9 : wc.cell? ⟨w1.heap.size, 9, none⟩ = some (.slice none 0 0) := (cell_of Q5.out 9).trans rfl
    have NA := hid (World.news_of_block (heap_new wc (.cells #[.int .i64 l.c.id, .slice l.c.A l.c.pl.length l.c.cap, .int .i64 l.c.m, .int .i64 l.c.v.a, .int .i64 l.c.v.b, .int .i64 l.c.v.c, .int .i64 l.c.v.d, .int .i64 l.c.k, .int .i64 (-1), .slice none 0 0] 42)))
    have OA := hid (O5.out.alloc (.cells #[.int .i64 l.c.id, .slice l.c.A l.c.pl.length l.c.cap, .int .i64 l.c.m, .int .i64 l.c.v.a, .int .i64 l.c.v.b, .int .i64 l.c.v.c, .int .i64 l.c.v.d, .int .i64 l.c.k, .int .i64 (-1), .slice none 0 0] 42))
    have GA := hid (G5.out.alloc G5.out.size (.cells #[.int .i64 l.c.id, .slice l.c.A l.c.pl.length l.c.cap, .int .i64 l.c.m, .int .i64 l.c.v.a, .int .i64 l.c.v.b, .int .i64 l.c.v.c, .int .i64 l.c.v.d, .int .i64 l.c.k, .int .i64 (-1), .slice none 0 0] 42))
    have C1 : Hid (∀ u ∈ ([.int .i64 l.c.id, .slice l.c.A l.c.pl.length l.c.cap, .int .i64 l.c.m, .int .i64 l.c.v.a, .int .i64 l.c.v.b, .int .i64 l.c.v.c, .int .i64 l.c.v.d, .int .i64 l.c.k, .int .i64 (-1), .slice none 0 0] : List Value), u.oneCell' = true) := hid (by
      intro u hu
      simp only [List.mem_cons, List.not_mem_nil, or_false] at hu
      rcases hu with rfl | rfl | rfl | rfl | rfl | rfl | rfl | rfl | rfl | rfl <;> rfl)
    go_upto_region 20 with (at_builtin; refine wpList_append_own _ rfl _ _ 25 rfl wc.heap.size 42 i0 _ 10 112 Try.underlying25 hi hz0 hz1 hz2 rfl (by decide) _ _ _ rfl OA.out ⟨wc.heap.size, 0, none⟩ 1 1 [.int .i64 l.c.id, .slice l.c.A l.c.pl.length l.c.cap, .int .i64 l.c.m, .int .i64 l.c.v.a, .int .i64 l.c.v.b, .int .i64 l.c.v.c, .int .i64 l.c.v.d, .int .i64 l.c.k, .int .i64 (-1), .slice none 0 0] rfl rfl NA.out C1.out (by unfold maxLen; omega) (by omega) (by first | (simp; done) | (simp; omega)) ?_; rintro v6 w6 ho hgr hv; have O6 := hid ho; have G6 := hid (below_own GA.out hgr OA.out (Nat.le_refl _) (by first | (simp; done) | (simp; omega))); clear ho hgr hv)
    clear e0 e1 e2 e3 e4 e5 e6 e7 e8 e9
    have g6z := G6.out.size
    go_wp2_with (at_builtin; refine wpList_append_own_none rfl _ _ 25 rfl wc.heap.size 42 i0 10 Try.underlying25 hi _ _ _ rfl O6.out rfl ?_)
    all_goals
      go_returns
      obtain ⟨R, hR⟩ := HP.out
      exact ⟨_, [], [], R, [], rfl, hR, HAl.out.trans HM.out, HA.out.keep (GC.out.trans (G6.out.mono hwz)), own_mono O6.out (by omega), G0.out.trans ((GC.out.trans (G6.out.mono hwz)).mono (by omega))⟩
  have hbl : b < w1.heap.size := lt_of hbh
  by_cases hM0 : M = 0
  · have d0 : decide (0 < M) = false := decide_eq_false (by omega)
    obtain ⟨k3, hk3, hat⟩ := and_mod1 (x := l.at_) M
    have GT := g1
    have YT := Y1
    have OT := O1
    have HLN := HAl
    have HP := hid (show ∃ R, (A ++ R).Perm A from ⟨[], by rw [List.append_nil]⟩)
    clear hM0 hAM hbh hbb hcm
    have z0 : w1.cell? ⟨w.heap.size + 1, 3, none⟩ = some (.int .i64 l.c.id) := (cell_of YT.out 3).trans rfl
    have z1 : w1.cell? ⟨w.heap.size + 1, 4, none⟩ = some (.slice l.c.A l.c.pl.length l.c.cap) := (cell_of YT.out 4).trans rfl
    have z2 : w1.cell? ⟨w.heap.size + 1, 5, none⟩ = some (.int .i64 l.c.m) := (cell_of YT.out 5).trans rfl
    have z3 : w1.cell? ⟨w.heap.size + 1, 6, none⟩ = some (.int .i64 l.c.v.a) := (cell_of YT.out 6).trans rfl
    have z4 : w1.cell? ⟨w.heap.size + 1, 7, none⟩ = some (.int .i64 l.c.v.b) := (cell_of YT.out 7).trans rfl
    have z5 : w1.cell? ⟨w.heap.size + 1, 8, none⟩ = some (.int .i64 l.c.v.c) := (cell_of YT.out 8).trans rfl
    have z6 : w1.cell? ⟨w.heap.size + 1, 9, none⟩ = some (.int .i64 l.c.v.d) := (cell_of YT.out 9).trans rfl
    have z7 : w1.cell? ⟨w.heap.size + 1, 10, none⟩ = some (.int .i64 l.c.k) := (cell_of YT.out 10).trans rfl
    have z8 : w1.cell? ⟨w.heap.size + 1, 11, none⟩ = some (.int .i64 l.c.s) := (cell_of YT.out 11).trans rfl
    have z9 : w1.cell? ⟨w.heap.size + 1, 12, none⟩ = some (.slice l.c.G l.c.g.length l.c.gc) := (cell_of YT.out 12).trans rfl
    have z10 : w1.cell? ⟨w.heap.size + 1, 13, none⟩ = some (.int .i64 l.at_) := (cell_of YT.out 13).trans rfl
    go_upto_region 18 with fail
    clear z0 z1 z2 z3 z4 z5 z6 z7 z8 z9 z10
    obtain ⟨wc, hwc⟩ : ∃ wc, wc = w1.alloc (.cells #[.int .i64 l.c.id, .slice l.c.A l.c.pl.length l.c.cap, .int .i64 l.c.m, .int .i64 l.c.v.a, .int .i64 l.c.v.b, .int .i64 l.c.v.c, .int .i64 l.c.v.d, .int .i64 l.c.k, .int .i64 (-1), .slice none 0 0] 42) := ⟨_, rfl⟩
    rw [← hwc]
    have QC : Hid (wc.heap[w1.heap.size]? = some (.cells #[.int .i64 l.c.id, .slice l.c.A l.c.pl.length l.c.cap, .int .i64 l.c.m, .int .i64 l.c.v.a, .int .i64 l.c.v.b, .int .i64 l.c.v.c, .int .i64 l.c.v.d, .int .i64 l.c.k, .int .i64 (-1), .slice none 0 0] 42 (0, 0))) := hid (by rw [hwc]; exact heap_new w1 _)
    have GC := hid (show Below w0.heap.size w0 wc from by rw [hwc]; exact GT.out.alloc GT.out.size _)
    have OC := hid (show wc.ownsRow (w.heap.size + 1 + 1) 42 10 (.slice (some ⟨b, 0, none⟩) M cap) M (rowC A) from by rw [hwc]; exact OT.out.alloc _)
    have HL1 := hid (show (rowC (A.take k3)).length = k3 * 10 from by rw [rowC_len, List.length_take, HLN.out]; congr 1; omega)
    have HL3 := hid (show (rowC (A.drop k3)).length = (M - k3) * 10 from by rw [rowC_len, List.length_drop, HLN.out])
    have hcz : w1.heap.size < wc.heap.size := by rw [hwc]; simp
    have hwz := GC.out.size
    clear hwc
    go_upto_region 19 with (at_builtin; refine wpList_append_any rfl _ _ 25 rfl wc.heap.size 42 i0 _ 10 112 Try.underlying25 hi hz0 hz1 hz2 rfl (by decide) _ _ _ rfl (World.ownsRow_nil _ _ _ _) _ k3 _ (rowC (A.take k3)) rfl (fun h => by cases h) HL1.out (cut_take OC.out (Below.refl _ _) k3) (rowC_one _) (by unfold maxLen; omega) (by omega) (Nat.le_refl _) ?_; rintro v5 w5 ho hgr; have O5 := hid ho; have G5 := hid (below_own (Below.refl wc.heap.size wc) hgr (World.ownsRow_nil wc wc.heap.size 42 10) (Nat.le_refl _) (Nat.le_refl _)); have Q5 := hid (keep0 G5.out QC.out); clear ho hgr)
    have g5z := G5.out.size
    have e0 : w5.cell? ⟨w1.heap.size, 0, none⟩ = some (.int .i64 l.c.id) := (cell_of Q5.out 0).trans rfl
    have e1 : w5.cell? ⟨w1.heap.size, 1, none⟩ = some (.slice l.c.A l.c.pl.length l.c.cap) := (cell_of Q5.out 1).trans rfl
    have e2 : w5.cell? ⟨w1.heap.size, 2, none⟩ = some (.int .i64 l.c.m) := (cell_of Q5.out 2).trans rfl
    have e3 : w5.cell? ⟨w1.heap.size, 3, none⟩ = some (.int .i64 l.c.v.a) := (cell_of Q5.out 3).trans rfl
    have e4 : w5.cell? ⟨w1.heap.size, 4, none⟩ = some (.int .i64 l.c.v.b) := (cell_of Q5.out 4).trans rfl
    have e5 : w5.cell? ⟨w1.heap.size, 5, none⟩ = some (.int .i64 l.c.v.c) := (cell_of Q5.out 5).trans rfl
    have e6 : w5.cell? ⟨w1.heap.size, 6, none⟩ = some (.int .i64 l.c.v.d) := (cell_of Q5.out 6).trans rfl
    have e7 : w5.cell? ⟨w1.heap.size, 7, none⟩ = some (.int .i64 l.c.k) := (cell_of Q5.out 7).trans rfl
    have e8 : w5.cell? ⟨w1.heap.size, 8, none⟩ = some (.int .i64 (-1)) := (cell_of Q5.out 8).trans rfl
    have e9 : w5.cell? ⟨w1.heap.size, 9, none⟩ = some (.slice none 0 0) := (cell_of Q5.out 9).trans rfl
    have NA := hid (World.news_of_block (heap_new w5 (.cells #[.int .i64 l.c.id, .slice l.c.A l.c.pl.length l.c.cap, .int .i64 l.c.m, .int .i64 l.c.v.a, .int .i64 l.c.v.b, .int .i64 l.c.v.c, .int .i64 l.c.v.d, .int .i64 l.c.k, .int .i64 (-1), .slice none 0 0] 42)))
    have OA := hid (O5.out.alloc (.cells #[.int .i64 l.c.id, .slice l.c.A l.c.pl.length l.c.cap, .int .i64 l.c.m, .int .i64 l.c.v.a, .int .i64 l.c.v.b, .int .i64 l.c.v.c, .int .i64 l.c.v.d, .int .i64 l.c.k, .int .i64 (-1), .slice none 0 0] 42))
    have GA := hid (G5.out.alloc G5.out.size (.cells #[.int .i64 l.c.id, .slice l.c.A l.c.pl.length l.c.cap, .int .i64 l.c.m, .int .i64 l.c.v.a, .int .i64 l.c.v.b, .int .i64 l.c.v.c, .int .i64 l.c.v.d, .int .i64 l.c.k, .int .i64 (-1), .slice none 0 0] 42))
    have C1 : Hid (∀ u ∈ ([.int .i64 l.c.id, .slice l.c.A l.c.pl.length l.c.cap, .int .i64 l.c.m, .int .i64 l.c.v.a, .int .i64 l.c.v.b, .int .i64 l.c.v.c, .int .i64 l.c.v.d, .int .i64 l.c.k, .int .i64 (-1), .slice none 0 0] : List Value), u.oneCell' = true) := hid (by
      intro u hu
      simp only [List.mem_cons, List.not_mem_nil, or_false] at hu
      rcases hu with rfl | rfl | rfl | rfl | rfl | rfl | rfl | rfl | rfl | rfl <;> rfl)
    go_upto_region 20 with (at_builtin; refine wpList_append_own _ rfl _ _ 25 rfl wc.heap.size 42 i0 _ 10 112 Try.underlying25 hi hz0 hz1 hz2 rfl (by decide) _ _ _ rfl OA.out ⟨w5.heap.size, 0, none⟩ 1 1 [.int .i64 l.c.id, .slice l.c.A l.c.pl.length l.c.cap, .int .i64 l.c.m, .int .i64 l.c.v.a, .int .i64 l.c.v.b, .int .i64 l.c.v.c, .int .i64 l.c.v.d, .int .i64 l.c.k, .int .i64 (-1), .slice none 0 0] rfl rfl NA.out C1.out (by unfold maxLen; omega) (by omega) (by first | (simp; done) | (simp; omega)) ?_; rintro v6 w6 ho hgr hv; have O6 := hid ho; have G6 := hid (below_own GA.out hgr OA.out (Nat.le_refl _) (by first | (simp; done) | (simp; omega))); clear ho hgr hv)
    clear e0 e1 e2 e3 e4 e5 e6 e7 e8 e9
    have g6z := G6.out.size
    go_wp2_with (at_builtin; refine wpList_append_any rfl _ _ 25 rfl wc.heap.size 42 i0 _ 10 112 Try.underlying25 hi hz0 hz1 hz2 rfl (by decide) _ _ _ rfl O6.out _ (M - k3) _ (rowC (A.drop k3)) rfl (by intro h; split at h <;> cases h) HL3.out (cut_drop OC.out G6.out k3 (by split; exact .inl ⟨by omega, _, rfl⟩; exact .inr rfl) HLN.out) (rowC_one _) (by unfold maxLen; omega) (by omega) g6z ?_; rintro v7 w7 ho hgr; have O7 := hid ho; have G7 := hid (below_own G6.out hgr O6.out (Nat.le_refl _) g6z); clear ho hgr)
    all_goals
      go_returns
      obtain ⟨R, hR⟩ := HP.out
      have e1 : (A.take k3).length = k3 := by rw [List.length_take, HLN.out]; omega
      refine ⟨v7, A.take k3, A.drop k3, R, A, by rw [e1]; rfl, by rw [List.take_append_drop]; exact hR, HAl.out.trans HM.out, HA.out.keep (GC.out.trans (G7.out.mono hwz)), ?_, G0.out.trans ((GC.out.trans (G7.out.mono hwz)).mono (by omega))⟩
      have e2 : (A.take k3 ++ { l.c with s := -1, G := none, gc := 0, g := [] } :: A.drop k3).length = 0 + k3 + 1 + (M - k3) := by
        simp [List.length_take, List.length_drop, HLN.out]
        omega
      have e3 : rowC (A.take k3 ++ { l.c with s := -1, G := none, gc := 0, g := [] } :: A.drop k3) = [] ++ rowC (A.take k3) ++ [.int .i64 l.c.id, .slice l.c.A l.c.pl.length l.c.cap, .int .i64 l.c.m, .int .i64 l.c.v.a, .int .i64 l.c.v.b, .int .i64 l.c.v.c, .int .i64 l.c.v.d, .int .i64 l.c.k, .int .i64 (-1), .slice none 0 0] ++ rowC (A.drop k3) := by
        simp [rowC, Ak.cells]
      rw [e2, e3]
      exact own_mono O7.out (by omega)
  have hM1 : 0 < M := by omega
  have y3 : w1.cell? ⟨w.heap.size + 1, 14, none⟩ = some (.int .i64 l.turn) := (cell_of Y1.out 14).trans rfl
  have y4 : w1.cell? ⟨w.heap.size + 1, 2, none⟩ = some (.int .i64 l.goes) := (cell_of Y1.out 2).trans rfl
  obtain ⟨k, hkM, hk⟩ : ∃ k : Nat, k < M ∧ (bits .and .i64 l.turn 1023).tmod (M : Int) = (k : Int) := and_mod hM1
  obtain ⟨a, ha⟩ : ∃ a, A[0]? = some a := ⟨_, List.getElem?_eq_getElem (by omega)⟩
  obtain ⟨d, hd⟩ : ∃ d, A[k]? = some d := ⟨_, List.getElem?_eq_getElem (by omega)⟩
  have HSW := hid (swap_perm ha hd)
  have fz : ∀ i, w1.frozen? ⟨b, i, none⟩ = false := fun i => O1.out.frozenAt i
  have ca := tenC (own_cells O1.out ha)
  have cd := tenC (own_cells O1.out hd)
  simp only [Nat.zero_mul, Nat.zero_add] at ca
  obtain ⟨c0, c1, c2, c3, c4, c5, c6, c7, c8, c9⟩ := ca
  obtain ⟨d0, d1, d2, d3, d4, d5, d6, d7, d8, d9⟩ := cd
  have OS := hid (own_set (k := 0) (a := d) O1.out (by omega))
  clear hbh ha hd hcm
  go_upto_region 6 with fail
  obtain ⟨w2, hw2⟩ : ∃ w2, w2 = set10 w1 b (0 * 10) d := ⟨_, rfl⟩
  rw [show ((((((((((w1.setCell ⟨b, 0, none⟩ (.int .i64 d.id)).setCell ⟨b, 1, none⟩ (.slice d.A d.pl.length d.cap)).setCell ⟨b, 2, none⟩ (.int .i64 d.m)).setCell ⟨b, 3, none⟩ (.int .i64 d.v.a)).setCell ⟨b, 4, none⟩ (.int .i64 d.v.b)).setCell ⟨b, 5, none⟩ (.int .i64 d.v.c)).setCell ⟨b, 6, none⟩ (.int .i64 d.v.d)).setCell ⟨b, 7, none⟩ (.int .i64 d.k)).setCell ⟨b, 8, none⟩ (.int .i64 d.s)).setCell ⟨b, 9, none⟩ (.slice d.G d.g.length d.gc)) = w2 from hw2.symm]
  have O2 := hid (show w2.ownsRow _ _ _ _ _ _ from hw2 ▸ OS.out.1)
  have R2 := hid (show w1.grownBy w2 (some b) from hw2 ▸ OS.out.2)
  have hz4 : w2.heap.size = w1.heap.size := by rw [hw2]; simp [set10]
  clear hw2 OS c0 c1 c2 c3 c4 c5 c6 c7 c8 c9 d0 d1 d2 d3 d4 d5 d6 d7 d8 d9 fz y3 y4
  obtain ⟨wv, hwv⟩ : ∃ wv, wv = w2.alloc (.cells #[.int .i64 a.id, .slice a.A a.pl.length a.cap, .int .i64 a.m, .int .i64 a.v.a, .int .i64 a.v.b, .int .i64 a.v.c, .int .i64 a.v.d, .int .i64 a.k, .int .i64 a.s, .slice a.G a.g.length a.gc] 42) := ⟨_, rfl⟩
  rw [← hwv]
  have QV := hid (show wv.heap[w1.heap.size]? = some (.cells #[.int .i64 a.id, .slice a.A a.pl.length a.cap, .int .i64 a.m, .int .i64 a.v.a, .int .i64 a.v.b, .int .i64 a.v.c, .int .i64 a.v.d, .int .i64 a.k, .int .i64 a.s, .slice a.G a.g.length a.gc] 42 (0, 0)) from by rw [hwv]; exact heap_newS hz4)
  have OV := hid (show wv.ownsRow (w.heap.size + 1 + 1) 42 10 (.slice (some ⟨b, 0, none⟩) M cap) M (rowC (A.set 0 d)) from by rw [hwv]; exact O2.out.alloc _)
  have gz := g1.out.size
  have GV := hid (show Below w0.heap.size w0 wv from by rw [hwv]; exact (below_own g1.out (show w1.grownBy w2 (Value.slice (some ⟨b, 0, none⟩) M cap).ownBlock from R2.out) O1.out (by omega) g1.out.size).alloc (by omega) _)
  have YV := hid (show wv.heap[w.heap.size + 1]? = some (.cells #[.int .i64 l.ticks, .slice l.A l.es.length l.cap, .int .i64 l.goes, .int .i64 l.c.id, .slice l.c.A l.c.pl.length l.c.cap, .int .i64 l.c.m, .int .i64 l.c.v.a, .int .i64 l.c.v.b, .int .i64 l.c.v.c, .int .i64 l.c.v.d, .int .i64 l.c.k, .int .i64 l.c.s, .slice l.c.G l.c.g.length l.c.gc, .int .i64 l.at_, .int .i64 l.turn] 44 (0, 0)) from by rw [hwv]; exact heapA (gb_keep (show w1.grownBy w2 (Value.slice (some ⟨b, 0, none⟩) M cap).ownBlock from R2.out) Y1.out (own_ne O1.out (by omega))))
  clear hwv O2 R2 hz4
  have fz : ∀ i, wv.frozen? ⟨b, i, none⟩ = false := fun i => OV.out.frozenAt i
  have q0 : wv.cell? ⟨w1.heap.size, 0, none⟩ = some (.int .i64 a.id) := (cell_of QV.out 0).trans rfl
  have q1 : wv.cell? ⟨w1.heap.size, 1, none⟩ = some (.slice a.A a.pl.length a.cap) := (cell_of QV.out 1).trans rfl
  have q2 : wv.cell? ⟨w1.heap.size, 2, none⟩ = some (.int .i64 a.m) := (cell_of QV.out 2).trans rfl
  have q3 : wv.cell? ⟨w1.heap.size, 3, none⟩ = some (.int .i64 a.v.a) := (cell_of QV.out 3).trans rfl
  have q4 : wv.cell? ⟨w1.heap.size, 4, none⟩ = some (.int .i64 a.v.b) := (cell_of QV.out 4).trans rfl
  have q5 : wv.cell? ⟨w1.heap.size, 5, none⟩ = some (.int .i64 a.v.c) := (cell_of QV.out 5).trans rfl
  have q6 : wv.cell? ⟨w1.heap.size, 6, none⟩ = some (.int .i64 a.v.d) := (cell_of QV.out 6).trans rfl
  have q7 : wv.cell? ⟨w1.heap.size, 7, none⟩ = some (.int .i64 a.k) := (cell_of QV.out 7).trans rfl
  have q8 : wv.cell? ⟨w1.heap.size, 8, none⟩ = some (.int .i64 a.s) := (cell_of QV.out 8).trans rfl
  have q9 : wv.cell? ⟨w1.heap.size, 9, none⟩ = some (.slice a.G a.g.length a.gc) := (cell_of QV.out 9).trans rfl
  have hzv : b < wv.heap.size := by have := OV.out.lt b rfl; omega
  obtain ⟨x, hx⟩ : ∃ x, (A.set 0 d)[k]? = some x := ⟨_, List.getElem?_eq_getElem (by rw [List.length_set]; omega)⟩
  obtain ⟨d0, d1, d2, d3, d4, d5, d6, d7, d8, d9⟩ := tenC (own_cells OV.out hx)
  clear hx
  go_upto_region 7 with fail
  have OS := hid (own_set (k := k) (a := a) OV.out (by rw [List.length_set]; omega))
  obtain ⟨w4, hw4⟩ : ∃ w4, w4 = set10 wv b (k * 10) a := ⟨_, rfl⟩
  rw [show ((((((((((wv.setCell ⟨b, k * 10, none⟩ (.int .i64 a.id)).setCell ⟨b, k * 10 + 1, none⟩ (.slice a.A a.pl.length a.cap)).setCell ⟨b, k * 10 + 2, none⟩ (.int .i64 a.m)).setCell ⟨b, k * 10 + 3, none⟩ (.int .i64 a.v.a)).setCell ⟨b, k * 10 + 4, none⟩ (.int .i64 a.v.b)).setCell ⟨b, k * 10 + 5, none⟩ (.int .i64 a.v.c)).setCell ⟨b, k * 10 + 6, none⟩ (.int .i64 a.v.d)).setCell ⟨b, k * 10 + 7, none⟩ (.int .i64 a.k)).setCell ⟨b, k * 10 + 8, none⟩ (.int .i64 a.s)).setCell ⟨b, k * 10 + 9, none⟩ (.slice a.G a.g.length a.gc)) = w4 from hw4.symm]
  have R4 := hid (show wv.grownBy w4 (Value.slice (some ⟨b, 0, none⟩) M cap).ownBlock from hw4 ▸ OS.out.2)
  obtain ⟨B, hB⟩ : ∃ B, B = (A.set 0 d).set k a := ⟨_, rfl⟩
  have O4 := hid (show w4.ownsRow (w.heap.size + 1 + 1) 42 10 (.slice (some ⟨b, 0, none⟩) M cap) M (rowC B) from by rw [hw4, hB]; exact OS.out.1)
  have HLB := hid (show B.length = M from by rw [hB, List.length_set, List.length_set]; exact HAl.out)
  have HPB := hid (show B.Perm A from by rw [hB]; exact HSW.out)
  have G4 := hid (below_own GV.out R4.out OV.out (by omega) GV.out.size)
  have Y4 := hid (gb_keep R4.out YV.out (own_ne OV.out (by omega)))
  have h4z := G4.out.size
  clear hw4 hB OS fz d0 d1 d2 d3 d4 d5 d6 d7 d8 d9 q0 q1 q2 q3 q4 q5 q6 q7 q8 q9 hzv hk
  have y4 : w4.cell? ⟨w.heap.size + 1, 2, none⟩ = some (.int .i64 l.goes) := (cell_of Y4.out 2).trans rfl
  obtain ⟨k2, hk2, hgo⟩ := and_mod1 (x := l.goes) M
  by_cases hlt : k2 < M
  rotate_left
  · have d0 : decide (k2 < M) = false := decide_eq_false hlt
    have hlt' : ¬ (k2 : Int) < (M : Int) := by omega
    obtain ⟨k3, hk3, hat⟩ := and_mod1 (x := l.at_) M
    have GT := G4
    have YT := Y4
    have OT := O4
    have HLN := HLB
    have HP := hid (show ∃ R, (B ++ R).Perm A from ⟨[], by rw [List.append_nil]; exact HPB.out⟩)
    clear hAM
    have z0 : w4.cell? ⟨w.heap.size + 1, 3, none⟩ = some (.int .i64 l.c.id) := (cell_of YT.out 3).trans rfl
    have z1 : w4.cell? ⟨w.heap.size + 1, 4, none⟩ = some (.slice l.c.A l.c.pl.length l.c.cap) := (cell_of YT.out 4).trans rfl
    have z2 : w4.cell? ⟨w.heap.size + 1, 5, none⟩ = some (.int .i64 l.c.m) := (cell_of YT.out 5).trans rfl
    have z3 : w4.cell? ⟨w.heap.size + 1, 6, none⟩ = some (.int .i64 l.c.v.a) := (cell_of YT.out 6).trans rfl
    have z4 : w4.cell? ⟨w.heap.size + 1, 7, none⟩ = some (.int .i64 l.c.v.b) := (cell_of YT.out 7).trans rfl
    have z5 : w4.cell? ⟨w.heap.size + 1, 8, none⟩ = some (.int .i64 l.c.v.c) := (cell_of YT.out 8).trans rfl
    have z6 : w4.cell? ⟨w.heap.size + 1, 9, none⟩ = some (.int .i64 l.c.v.d) := (cell_of YT.out 9).trans rfl
    have z7 : w4.cell? ⟨w.heap.size + 1, 10, none⟩ = some (.int .i64 l.c.k) := (cell_of YT.out 10).trans rfl
    have z8 : w4.cell? ⟨w.heap.size + 1, 11, none⟩ = some (.int .i64 l.c.s) := (cell_of YT.out 11).trans rfl
    have z9 : w4.cell? ⟨w.heap.size + 1, 12, none⟩ = some (.slice l.c.G l.c.g.length l.c.gc) := (cell_of YT.out 12).trans rfl
    have z10 : w4.cell? ⟨w.heap.size + 1, 13, none⟩ = some (.int .i64 l.at_) := (cell_of YT.out 13).trans rfl
    go_upto_region 18 with fail
    clear z0 z1 z2 z3 z4 z5 z6 z7 z8 z9 z10
    obtain ⟨wc, hwc⟩ : ∃ wc, wc = w4.alloc (.cells #[.int .i64 l.c.id, .slice l.c.A l.c.pl.length l.c.cap, .int .i64 l.c.m, .int .i64 l.c.v.a, .int .i64 l.c.v.b, .int .i64 l.c.v.c, .int .i64 l.c.v.d, .int .i64 l.c.k, .int .i64 (-1), .slice none 0 0] 42) := ⟨_, rfl⟩
    rw [← hwc]
    have QC : Hid (wc.heap[w4.heap.size]? = some (.cells #[.int .i64 l.c.id, .slice l.c.A l.c.pl.length l.c.cap, .int .i64 l.c.m, .int .i64 l.c.v.a, .int .i64 l.c.v.b, .int .i64 l.c.v.c, .int .i64 l.c.v.d, .int .i64 l.c.k, .int .i64 (-1), .slice none 0 0] 42 (0, 0))) := hid (by rw [hwc]; exact heap_new w4 _)
    have GC := hid (show Below w0.heap.size w0 wc from by rw [hwc]; exact GT.out.alloc GT.out.size _)
    have OC := hid (show wc.ownsRow (w.heap.size + 1 + 1) 42 10 (.slice (some ⟨b, 0, none⟩) M cap) M (rowC B) from by rw [hwc]; exact OT.out.alloc _)
    have HL1 := hid (show (rowC (B.take k3)).length = k3 * 10 from by rw [rowC_len, List.length_take, HLN.out]; congr 1; omega)
    have HL3 := hid (show (rowC (B.drop k3)).length = (M - k3) * 10 from by rw [rowC_len, List.length_drop, HLN.out])
    have hcz : w4.heap.size < wc.heap.size := by rw [hwc]; simp
    have hwz := GC.out.size
    clear hwc
    go_upto_region 19 with (at_builtin; refine wpList_append_any rfl _ _ 25 rfl wc.heap.size 42 i0 _ 10 112 Try.underlying25 hi hz0 hz1 hz2 rfl (by decide) _ _ _ rfl (World.ownsRow_nil _ _ _ _) _ k3 _ (rowC (B.take k3)) rfl (fun h => by cases h) HL1.out (cut_take OC.out (Below.refl _ _) k3) (rowC_one _) (by unfold maxLen; omega) (by omega) (Nat.le_refl _) ?_; rintro v5 w5 ho hgr; have O5 := hid ho; have G5 := hid (below_own (Below.refl wc.heap.size wc) hgr (World.ownsRow_nil wc wc.heap.size 42 10) (Nat.le_refl _) (Nat.le_refl _)); have Q5 := hid (keep0 G5.out QC.out); clear ho hgr)
    have g5z := G5.out.size
    have e0 : w5.cell? ⟨w4.heap.size, 0, none⟩ = some (.int .i64 l.c.id) := (cell_of Q5.out 0).trans rfl
    have e1 : w5.cell? ⟨w4.heap.size, 1, none⟩ = some (.slice l.c.A l.c.pl.length l.c.cap) := (cell_of Q5.out 1).trans rfl
    have e2 : w5.cell? ⟨w4.heap.size, 2, none⟩ = some (.int .i64 l.c.m) := (cell_of Q5.out 2).trans rfl
    have e3 : w5.cell? ⟨w4.heap.size, 3, none⟩ = some (.int .i64 l.c.v.a) := (cell_of Q5.out 3).trans rfl
    have e4 : w5.cell? ⟨w4.heap.size, 4, none⟩ = some (.int .i64 l.c.v.b) := (cell_of Q5.out 4).trans rfl
    have e5 : w5.cell? ⟨w4.heap.size, 5, none⟩ = some (.int .i64 l.c.v.c) := (cell_of Q5.out 5).trans rfl
    have e6 : w5.cell? ⟨w4.heap.size, 6, none⟩ = some (.int .i64 l.c.v.d) := (cell_of Q5.out 6).trans rfl
    have e7 : w5.cell? ⟨w4.heap.size, 7, none⟩ = some (.int .i64 l.c.k) := (cell_of Q5.out 7).trans rfl
    have e8 : w5.cell? ⟨w4.heap.size, 8, none⟩ = some (.int .i64 (-1)) := (cell_of Q5.out 8).trans rfl
    have e9 : w5.cell? ⟨w4.heap.size, 9, none⟩ = some (.slice none 0 0) := (cell_of Q5.out 9).trans rfl
    have NA := hid (World.news_of_block (heap_new w5 (.cells #[.int .i64 l.c.id, .slice l.c.A l.c.pl.length l.c.cap, .int .i64 l.c.m, .int .i64 l.c.v.a, .int .i64 l.c.v.b, .int .i64 l.c.v.c, .int .i64 l.c.v.d, .int .i64 l.c.k, .int .i64 (-1), .slice none 0 0] 42)))
    have OA := hid (O5.out.alloc (.cells #[.int .i64 l.c.id, .slice l.c.A l.c.pl.length l.c.cap, .int .i64 l.c.m, .int .i64 l.c.v.a, .int .i64 l.c.v.b, .int .i64 l.c.v.c, .int .i64 l.c.v.d, .int .i64 l.c.k, .int .i64 (-1), .slice none 0 0] 42))
    have GA := hid (G5.out.alloc G5.out.size (.cells #[.int .i64 l.c.id, .slice l.c.A l.c.pl.length l.c.cap, .int .i64 l.c.m, .int .i64 l.c.v.a, .int .i64 l.c.v.b, .int .i64 l.c.v.c, .int .i64 l.c.v.d, .int .i64 l.c.k, .int .i64 (-1), .slice none 0 0] 42))
    have C1 : Hid (∀ u ∈ ([.int .i64 l.c.id, .slice l.c.A l.c.pl.length l.c.cap, .int .i64 l.c.m, .int .i64 l.c.v.a, .int .i64 l.c.v.b, .int .i64 l.c.v.c, .int .i64 l.c.v.d, .int .i64 l.c.k, .int .i64 (-1), .slice none 0 0] : List Value), u.oneCell' = true) := hid (by
      intro u hu
      simp only [List.mem_cons, List.not_mem_nil, or_false] at hu
      rcases hu with rfl | rfl | rfl | rfl | rfl | rfl | rfl | rfl | rfl | rfl <;> rfl)
    go_upto_region 20 with (at_builtin; refine wpList_append_own _ rfl _ _ 25 rfl wc.heap.size 42 i0 _ 10 112 Try.underlying25 hi hz0 hz1 hz2 rfl (by decide) _ _ _ rfl OA.out ⟨w5.heap.size, 0, none⟩ 1 1 [.int .i64 l.c.id, .slice l.c.A l.c.pl.length l.c.cap, .int .i64 l.c.m, .int .i64 l.c.v.a, .int .i64 l.c.v.b, .int .i64 l.c.v.c, .int .i64 l.c.v.d, .int .i64 l.c.k, .int .i64 (-1), .slice none 0 0] rfl rfl NA.out C1.out (by unfold maxLen; omega) (by omega) (by first | (simp; done) | (simp; omega)) ?_; rintro v6 w6 ho hgr hv; have O6 := hid ho; have G6 := hid (below_own GA.out hgr OA.out (Nat.le_refl _) (by first | (simp; done) | (simp; omega))); clear ho hgr hv)
    clear e0 e1 e2 e3 e4 e5 e6 e7 e8 e9
    have g6z := G6.out.size
    go_wp2_with (at_builtin; refine wpList_append_any rfl _ _ 25 rfl wc.heap.size 42 i0 _ 10 112 Try.underlying25 hi hz0 hz1 hz2 rfl (by decide) _ _ _ rfl O6.out _ (M - k3) _ (rowC (B.drop k3)) rfl (by intro h; split at h <;> cases h) HL3.out (cut_drop OC.out G6.out k3 (by split; exact .inl ⟨by omega, _, rfl⟩; exact .inr rfl) HLN.out) (rowC_one _) (by unfold maxLen; omega) (by omega) g6z ?_; rintro v7 w7 ho hgr; have O7 := hid ho; have G7 := hid (below_own G6.out hgr O6.out (Nat.le_refl _) g6z); clear ho hgr)
    all_goals
      go_returns
      obtain ⟨R, hR⟩ := HP.out
      have e1 : (B.take k3).length = k3 := by rw [List.length_take, HLN.out]; omega
      refine ⟨v7, B.take k3, B.drop k3, R, A, by rw [e1]; rfl, by rw [List.take_append_drop]; exact hR, HAl.out.trans HM.out, HA.out.keep (GC.out.trans (G7.out.mono hwz)), ?_, G0.out.trans ((GC.out.trans (G7.out.mono hwz)).mono (by omega))⟩
      have e2 : (B.take k3 ++ { l.c with s := -1, G := none, gc := 0, g := [] } :: B.drop k3).length = 0 + k3 + 1 + (M - k3) := by
        simp [List.length_take, List.length_drop, HLN.out]
        omega
      have e3 : rowC (B.take k3 ++ { l.c with s := -1, G := none, gc := 0, g := [] } :: B.drop k3) = [] ++ rowC (B.take k3) ++ [.int .i64 l.c.id, .slice l.c.A l.c.pl.length l.c.cap, .int .i64 l.c.m, .int .i64 l.c.v.a, .int .i64 l.c.v.b, .int .i64 l.c.v.c, .int .i64 l.c.v.d, .int .i64 l.c.k, .int .i64 (-1), .slice none 0 0] ++ rowC (B.drop k3) := by
        simp [rowC, Ak.cells]
      rw [e2, e3]
      exact own_mono O7.out (by omega)
  · have d0 : decide (k2 < M) = true := decide_eq_true hlt
    have hlt' : (k2 : Int) < (M : Int) := by omega
    have HL1 := hid (show (rowC (B.take k2)).length = k2 * 10 from by rw [rowC_len, List.length_take, HLB.out]; congr 1; omega)
    have HL3 := hid (show (rowC (B.drop (k2 + 1))).length = (M - (k2 + 1)) * 10 from by rw [rowC_len, List.length_drop, HLB.out])
    go_upto_region 11 with (at_builtin; refine wpList_append_any rfl _ _ 25 rfl w4.heap.size 42 i0 _ 10 112 Try.underlying25 hi hz0 hz1 hz2 rfl (by decide) _ _ _ rfl (World.ownsRow_nil _ _ _ _) _ k2 _ (rowC (B.take k2)) rfl (fun h => by cases h) HL1.out (cut_take O4.out (Below.refl _ _) k2) (rowC_one _) (by unfold maxLen; omega) (by omega) (Nat.le_refl _) ?_; rintro v5 w5 ho hgr; have O5 := hid ho; have G5 := hid (below_own (Below.refl w4.heap.size w4) hgr (World.ownsRow_nil w4 w4.heap.size 42 10) (Nat.le_refl _) (Nat.le_refl _)); clear ho hgr)
    have g5z := G5.out.size
    go_upto_region 13 with (at_builtin; refine wpList_append_any rfl _ _ 25 rfl w4.heap.size 42 i0 _ 10 112 Try.underlying25 hi hz0 hz1 hz2 rfl (by decide) _ _ _ rfl O5.out _ (M - (k2 + 1)) _ (rowC (B.drop (k2 + 1))) rfl (by intro h; split at h <;> cases h) HL3.out (cut_drop O4.out G5.out (k2 + 1) (by split; exact .inl ⟨by omega, _, rfl⟩; exact .inr rfl) HLB.out) (rowC_one _) (by unfold maxLen; omega) (by omega) g5z ?_; rintro v6 w6 ho hgr; have O6 := hid ho; have G6 := hid (below_own G5.out hgr O5.out (Nat.le_refl _) g5z); clear ho hgr)
    obtain ⟨N, hN⟩ : ∃ N, N = 0 + k2 + (M - (k2 + 1)) := ⟨_, rfl⟩
    obtain ⟨L, hL⟩ : ∃ L, L = B.take k2 ++ B.drop (k2 + 1) := ⟨_, rfl⟩
    have OL := hid (show w6.ownsRow w4.heap.size 42 10 v6 N (rowC L) from by
      rw [hN, hL]
      have := O6.out
      rwa [show ([] : List Value) ++ rowC (B.take k2) ++ rowC (B.drop (k2 + 1)) = rowC (B.take k2 ++ B.drop (k2 + 1)) from by simp [rowC]] at this)
    have HLN := hid (show L.length = N from by
      rw [hL, hN, List.length_append, List.length_take, List.length_drop, HLB.out]
      omega)
    have HP := hid (show ∃ R, (L ++ R).Perm A from by rw [hL]; exact gone_perm (by rw [HLB.out]; exact hlt) HPB.out)
    have hN10 : N ≤ 10 := by omega
    have GT := hid (G4.out.trans (G6.out.mono h4z))
    have YT := hid (keep0 G6.out Y4.out)
    clear hN hL O6 O5 hAM hgo y4 hlt' hlt d0 hk2 g5z HL1 HL3
    obtain ⟨_, ⟨rfl, h0⟩ | ⟨b2, cap2, cs2, rfl, hbb2, hbh2, hcap2, -, -, -⟩⟩ := id OL.out
    · obtain rfl : L = [] := List.eq_nil_of_length_eq_zero (HLN.out.trans h0)
      obtain ⟨k3, hk3, hat⟩ := and_mod1 (x := l.at_) 0
      obtain rfl : k3 = 0 := by omega
      clear hkl OL HLN h0
      have z0 : w6.cell? ⟨w.heap.size + 1, 3, none⟩ = some (.int .i64 l.c.id) := (cell_of YT.out 3).trans rfl
      have z1 : w6.cell? ⟨w.heap.size + 1, 4, none⟩ = some (.slice l.c.A l.c.pl.length l.c.cap) := (cell_of YT.out 4).trans rfl
      have z2 : w6.cell? ⟨w.heap.size + 1, 5, none⟩ = some (.int .i64 l.c.m) := (cell_of YT.out 5).trans rfl
      have z3 : w6.cell? ⟨w.heap.size + 1, 6, none⟩ = some (.int .i64 l.c.v.a) := (cell_of YT.out 6).trans rfl
      have z4 : w6.cell? ⟨w.heap.size + 1, 7, none⟩ = some (.int .i64 l.c.v.b) := (cell_of YT.out 7).trans rfl
      have z5 : w6.cell? ⟨w.heap.size + 1, 8, none⟩ = some (.int .i64 l.c.v.c) := (cell_of YT.out 8).trans rfl
      have z6 : w6.cell? ⟨w.heap.size + 1, 9, none⟩ = some (.int .i64 l.c.v.d) := (cell_of YT.out 9).trans rfl
      have z7 : w6.cell? ⟨w.heap.size + 1, 10, none⟩ = some (.int .i64 l.c.k) := (cell_of YT.out 10).trans rfl
      have z8 : w6.cell? ⟨w.heap.size + 1, 11, none⟩ = some (.int .i64 l.c.s) := (cell_of YT.out 11).trans rfl
      have z9 : w6.cell? ⟨w.heap.size + 1, 12, none⟩ = some (.slice l.c.G l.c.g.length l.c.gc) := (cell_of YT.out 12).trans rfl
      have z10 : w6.cell? ⟨w.heap.size + 1, 13, none⟩ = some (.int .i64 l.at_) := (cell_of YT.out 13).trans rfl
      go_upto_region 18 with fail
      clear z0 z1 z2 z3 z4 z5 z6 z7 z8 z9 z10
      obtain ⟨wc, hwc⟩ : ∃ wc, wc = w6.alloc (.cells #[.int .i64 l.c.id, .slice l.c.A l.c.pl.length l.c.cap, .int .i64 l.c.m, .int .i64 l.c.v.a, .int .i64 l.c.v.b, .int .i64 l.c.v.c, .int .i64 l.c.v.d, .int .i64 l.c.k, .int .i64 (-1), .slice none 0 0] 42) := ⟨_, rfl⟩
      rw [← hwc]
      have QC : Hid (wc.heap[w6.heap.size]? = some (.cells #[.int .i64 l.c.id, .slice l.c.A l.c.pl.length l.c.cap, .int .i64 l.c.m, .int .i64 l.c.v.a, .int .i64 l.c.v.b, .int .i64 l.c.v.c, .int .i64 l.c.v.d, .int .i64 l.c.k, .int .i64 (-1), .slice none 0 0] 42 (0, 0))) := hid (by rw [hwc]; exact heap_new w6 _)
      have GC := hid (show Below w0.heap.size w0 wc from by rw [hwc]; exact GT.out.alloc GT.out.size _)
      have hcz : w6.heap.size < wc.heap.size := by rw [hwc]; simp
      have hwz := GC.out.size
      clear hwc
      go_upto_region 19 with (at_builtin; refine wpList_append_own_none rfl _ _ 25 rfl wc.heap.size 42 i0 10 Try.underlying25 hi _ _ _ rfl (World.ownsRow_nil _ _ _ _) rfl ?_)
      have G5 := hid (Below.refl wc.heap.size wc)
      have O5 := hid (World.ownsRow_nil wc wc.heap.size 42 10)
      have Q5 := QC
      have g5z := G5.out.size
      have e0 : wc.cell? ⟨w6.heap.size, 0, none⟩ = some (.int .i64 l.c.id) := (cell_of Q5.out 0).trans rfl
      have e1 : wc.cell? ⟨w6.heap.size, 1, none⟩ = some (.slice l.c.A l.c.pl.length l.c.cap) := (cell_of Q5.out 1).trans rfl
      have e2 : wc.cell? ⟨w6.heap.size, 2, none⟩ = some (.int .i64 l.c.m) := (cell_of Q5.out 2).trans rfl
      have e3 : wc.cell? ⟨w6.heap.size, 3, none⟩ = some (.int .i64 l.c.v.a) := (cell_of Q5.out 3).trans rfl
      have e4 : wc.cell? ⟨w6.heap.size, 4, none⟩ = some (.int .i64 l.c.v.b) := (cell_of Q5.out 4).trans rfl
      have e5 : wc.cell? ⟨w6.heap.size, 5, none⟩ = some (.int .i64 l.c.v.c) := (cell_of Q5.out 5).trans rfl
      have e6 : wc.cell? ⟨w6.heap.size, 6, none⟩ = some (.int .i64 l.c.v.d) := (cell_of Q5.out 6).trans rfl
      have e7 : wc.cell? ⟨w6.heap.size, 7, none⟩ = some (.int .i64 l.c.k) := (cell_of Q5.out 7).trans rfl
      have e8 : wc.cell? ⟨w6.heap.size, 8, none⟩ = some (.int .i64 (-1)) := (cell_of Q5.out 8).trans rfl
      have e9 : wc.cell? ⟨w6.heap.size, 9, none⟩ = some (.slice none 0 0) := (cell_of Q5.out 9).trans rfl
      have NA := hid (World.news_of_block (heap_new wc (.cells #[.int .i64 l.c.id, .slice l.c.A l.c.pl.length l.c.cap, .int .i64 l.c.m, .int .i64 l.c.v.a, .int .i64 l.c.v.b, .int .i64 l.c.v.c, .int .i64 l.c.v.d, .int .i64 l.c.k, .int .i64 (-1), .slice none 0 0] 42)))
      have OA := hid (O5.out.alloc (.cells #[.int .i64 l.c.id, .slice l.c.A l.c.pl.length l.c.cap, .int .i64 l.c.m, .int .i64 l.c.v.a, .int .i64 l.c.v.b, .int .i64 l.c.v.c, .int .i64 l.c.v.d, .int .i64 l.c.k, .int .i64 (-1), .slice none 0 0] 42))
      have GA := hid (G5.out.alloc G5.out.size (.cells #[.int .i64 l.c.id, .slice l.c.A l.c.pl.length l.c.cap, .int .i64 l.c.m, .int .i64 l.c.v.a, .int .i64 l.c.v.b, .int .i64 l.c.v.c, .int .i64 l.c.v.d, .int .i64 l.c.k, .int .i64 (-1), .slice none 0 0] 42))
      have C1 : Hid (∀ u ∈ ([.int .i64 l.c.id, .slice l.c.A l.c.pl.length l.c.cap, .int .i64 l.c.m, .int .i64 l.c.v.a, .int .i64 l.c.v.b, .int .i64 l.c.v.c, .int .i64 l.c.v.d, .int .i64 l.c.k, .int .i64 (-1), .slice none 0 0] : List Value), u.oneCell' = true) := hid (by
        intro u hu
        simp only [List.mem_cons, List.not_mem_nil, or_false] at hu
        rcases hu with rfl | rfl | rfl | rfl | rfl | rfl | rfl | rfl | rfl | rfl <;> rfl)
      go_upto_region 20 with (at_builtin; refine wpList_append_own _ rfl _ _ 25 rfl wc.heap.size 42 i0 _ 10 112 Try.underlying25 hi hz0 hz1 hz2 rfl (by decide) _ _ _ rfl OA.out ⟨wc.heap.size, 0, none⟩ 1 1 [.int .i64 l.c.id, .slice l.c.A l.c.pl.length l.c.cap, .int .i64 l.c.m, .int .i64 l.c.v.a, .int .i64 l.c.v.b, .int .i64 l.c.v.c, .int .i64 l.c.v.d, .int .i64 l.c.k, .int .i64 (-1), .slice none 0 0] rfl rfl NA.out C1.out (by unfold maxLen; omega) (by omega) (by first | (simp; done) | (simp; omega)) ?_; rintro v6 w6 ho hgr hv; have O6 := hid ho; have G6 := hid (below_own GA.out hgr OA.out (Nat.le_refl _) (by first | (simp; done) | (simp; omega))); clear ho hgr hv)
      clear e0 e1 e2 e3 e4 e5 e6 e7 e8 e9
      have g6z := G6.out.size
      go_wp2_with (at_builtin; refine wpList_append_own_none rfl _ _ 25 rfl wc.heap.size 42 i0 10 Try.underlying25 hi _ _ _ rfl O6.out rfl ?_)
      all_goals
        go_returns
        obtain ⟨R, hR⟩ := HP.out
        exact ⟨_, [], [], R, A, rfl, hR, HAl.out.trans HM.out, HA.out.keep (GC.out.trans (G6.out.mono hwz)), own_mono O6.out (by omega), G0.out.trans ((GC.out.trans (G6.out.mono hwz)).mono (by omega))⟩
    · have hbl2 : b2 < w6.heap.size := lt_of hbh2
      obtain ⟨k3, hk3, hat⟩ := and_mod1 (x := l.at_) N
      have OT := hid (own_mono OL.out (base' := w.heap.size + 1 + 1) (by omega))
      clear hbh2 hbb2 OL
      have z0 : w6.cell? ⟨w.heap.size + 1, 3, none⟩ = some (.int .i64 l.c.id) := (cell_of YT.out 3).trans rfl
      have z1 : w6.cell? ⟨w.heap.size + 1, 4, none⟩ = some (.slice l.c.A l.c.pl.length l.c.cap) := (cell_of YT.out 4).trans rfl
      have z2 : w6.cell? ⟨w.heap.size + 1, 5, none⟩ = some (.int .i64 l.c.m) := (cell_of YT.out 5).trans rfl
      have z3 : w6.cell? ⟨w.heap.size + 1, 6, none⟩ = some (.int .i64 l.c.v.a) := (cell_of YT.out 6).trans rfl
      have z4 : w6.cell? ⟨w.heap.size + 1, 7, none⟩ = some (.int .i64 l.c.v.b) := (cell_of YT.out 7).trans rfl
      have z5 : w6.cell? ⟨w.heap.size + 1, 8, none⟩ = some (.int .i64 l.c.v.c) := (cell_of YT.out 8).trans rfl
      have z6 : w6.cell? ⟨w.heap.size + 1, 9, none⟩ = some (.int .i64 l.c.v.d) := (cell_of YT.out 9).trans rfl
      have z7 : w6.cell? ⟨w.heap.size + 1, 10, none⟩ = some (.int .i64 l.c.k) := (cell_of YT.out 10).trans rfl
      have z8 : w6.cell? ⟨w.heap.size + 1, 11, none⟩ = some (.int .i64 l.c.s) := (cell_of YT.out 11).trans rfl
      have z9 : w6.cell? ⟨w.heap.size + 1, 12, none⟩ = some (.slice l.c.G l.c.g.length l.c.gc) := (cell_of YT.out 12).trans rfl
      have z10 : w6.cell? ⟨w.heap.size + 1, 13, none⟩ = some (.int .i64 l.at_) := (cell_of YT.out 13).trans rfl
      go_upto_region 18 with fail
      clear z0 z1 z2 z3 z4 z5 z6 z7 z8 z9 z10
      obtain ⟨wc, hwc⟩ : ∃ wc, wc = w6.alloc (.cells #[.int .i64 l.c.id, .slice l.c.A l.c.pl.length l.c.cap, .int .i64 l.c.m, .int .i64 l.c.v.a, .int .i64 l.c.v.b, .int .i64 l.c.v.c, .int .i64 l.c.v.d, .int .i64 l.c.k, .int .i64 (-1), .slice none 0 0] 42) := ⟨_, rfl⟩
      rw [← hwc]
      have QC : Hid (wc.heap[w6.heap.size]? = some (.cells #[.int .i64 l.c.id, .slice l.c.A l.c.pl.length l.c.cap, .int .i64 l.c.m, .int .i64 l.c.v.a, .int .i64 l.c.v.b, .int .i64 l.c.v.c, .int .i64 l.c.v.d, .int .i64 l.c.k, .int .i64 (-1), .slice none 0 0] 42 (0, 0))) := hid (by rw [hwc]; exact heap_new w6 _)
      have GC := hid (show Below w0.heap.size w0 wc from by rw [hwc]; exact GT.out.alloc GT.out.size _)
      have OC := hid (show wc.ownsRow (w.heap.size + 1 + 1) 42 10 (.slice (some ⟨b2, 0, none⟩) N cap2) N (rowC L) from by rw [hwc]; exact OT.out.alloc _)
      have HL1 := hid (show (rowC (L.take k3)).length = k3 * 10 from by rw [rowC_len, List.length_take, HLN.out]; congr 1; omega)
      have HL3 := hid (show (rowC (L.drop k3)).length = (N - k3) * 10 from by rw [rowC_len, List.length_drop, HLN.out])
      have hcz : w6.heap.size < wc.heap.size := by rw [hwc]; simp
      have hwz := GC.out.size
      clear hwc
      go_upto_region 19 with (at_builtin; refine wpList_append_any rfl _ _ 25 rfl wc.heap.size 42 i0 _ 10 112 Try.underlying25 hi hz0 hz1 hz2 rfl (by decide) _ _ _ rfl (World.ownsRow_nil _ _ _ _) _ k3 _ (rowC (L.take k3)) rfl (fun h => by cases h) HL1.out (cut_take OC.out (Below.refl _ _) k3) (rowC_one _) (by unfold maxLen; omega) (by omega) (Nat.le_refl _) ?_; rintro v5 w5 ho hgr; have O5 := hid ho; have G5 := hid (below_own (Below.refl wc.heap.size wc) hgr (World.ownsRow_nil wc wc.heap.size 42 10) (Nat.le_refl _) (Nat.le_refl _)); have Q5 := hid (keep0 G5.out QC.out); clear ho hgr)
      have g5z := G5.out.size
      have e0 : w5.cell? ⟨w6.heap.size, 0, none⟩ = some (.int .i64 l.c.id) := (cell_of Q5.out 0).trans rfl
      have e1 : w5.cell? ⟨w6.heap.size, 1, none⟩ = some (.slice l.c.A l.c.pl.length l.c.cap) := (cell_of Q5.out 1).trans rfl
      have e2 : w5.cell? ⟨w6.heap.size, 2, none⟩ = some (.int .i64 l.c.m) := (cell_of Q5.out 2).trans rfl
      have e3 : w5.cell? ⟨w6.heap.size, 3, none⟩ = some (.int .i64 l.c.v.a) := (cell_of Q5.out 3).trans rfl
      have e4 : w5.cell? ⟨w6.heap.size, 4, none⟩ = some (.int .i64 l.c.v.b) := (cell_of Q5.out 4).trans rfl
      have e5 : w5.cell? ⟨w6.heap.size, 5, none⟩ = some (.int .i64 l.c.v.c) := (cell_of Q5.out 5).trans rfl
      have e6 : w5.cell? ⟨w6.heap.size, 6, none⟩ = some (.int .i64 l.c.v.d) := (cell_of Q5.out 6).trans rfl
      have e7 : w5.cell? ⟨w6.heap.size, 7, none⟩ = some (.int .i64 l.c.k) := (cell_of Q5.out 7).trans rfl
      have e8 : w5.cell? ⟨w6.heap.size, 8, none⟩ = some (.int .i64 (-1)) := (cell_of Q5.out 8).trans rfl
      have e9 : w5.cell? ⟨w6.heap.size, 9, none⟩ = some (.slice none 0 0) := (cell_of Q5.out 9).trans rfl
      have NA := hid (World.news_of_block (heap_new w5 (.cells #[.int .i64 l.c.id, .slice l.c.A l.c.pl.length l.c.cap, .int .i64 l.c.m, .int .i64 l.c.v.a, .int .i64 l.c.v.b, .int .i64 l.c.v.c, .int .i64 l.c.v.d, .int .i64 l.c.k, .int .i64 (-1), .slice none 0 0] 42)))
      have OA := hid (O5.out.alloc (.cells #[.int .i64 l.c.id, .slice l.c.A l.c.pl.length l.c.cap, .int .i64 l.c.m, .int .i64 l.c.v.a, .int .i64 l.c.v.b, .int .i64 l.c.v.c, .int .i64 l.c.v.d, .int .i64 l.c.k, .int .i64 (-1), .slice none 0 0] 42))
      have GA := hid (G5.out.alloc G5.out.size (.cells #[.int .i64 l.c.id, .slice l.c.A l.c.pl.length l.c.cap, .int .i64 l.c.m, .int .i64 l.c.v.a, .int .i64 l.c.v.b, .int .i64 l.c.v.c, .int .i64 l.c.v.d, .int .i64 l.c.k, .int .i64 (-1), .slice none 0 0] 42))
      have C1 : Hid (∀ u ∈ ([.int .i64 l.c.id, .slice l.c.A l.c.pl.length l.c.cap, .int .i64 l.c.m, .int .i64 l.c.v.a, .int .i64 l.c.v.b, .int .i64 l.c.v.c, .int .i64 l.c.v.d, .int .i64 l.c.k, .int .i64 (-1), .slice none 0 0] : List Value), u.oneCell' = true) := hid (by
        intro u hu
        simp only [List.mem_cons, List.not_mem_nil, or_false] at hu
        rcases hu with rfl | rfl | rfl | rfl | rfl | rfl | rfl | rfl | rfl | rfl <;> rfl)
      go_upto_region 20 with (at_builtin; refine wpList_append_own _ rfl _ _ 25 rfl wc.heap.size 42 i0 _ 10 112 Try.underlying25 hi hz0 hz1 hz2 rfl (by decide) _ _ _ rfl OA.out ⟨w5.heap.size, 0, none⟩ 1 1 [.int .i64 l.c.id, .slice l.c.A l.c.pl.length l.c.cap, .int .i64 l.c.m, .int .i64 l.c.v.a, .int .i64 l.c.v.b, .int .i64 l.c.v.c, .int .i64 l.c.v.d, .int .i64 l.c.k, .int .i64 (-1), .slice none 0 0] rfl rfl NA.out C1.out (by unfold maxLen; omega) (by omega) (by first | (simp; done) | (simp; omega)) ?_; rintro v6 w6 ho hgr hv; have O6 := hid ho; have G6 := hid (below_own GA.out hgr OA.out (Nat.le_refl _) (by first | (simp; done) | (simp; omega))); clear ho hgr hv)
      clear e0 e1 e2 e3 e4 e5 e6 e7 e8 e9
      have g6z := G6.out.size
      go_wp2_with (at_builtin; refine wpList_append_any rfl _ _ 25 rfl wc.heap.size 42 i0 _ 10 112 Try.underlying25 hi hz0 hz1 hz2 rfl (by decide) _ _ _ rfl O6.out _ (N - k3) _ (rowC (L.drop k3)) rfl (by intro h; split at h <;> cases h) HL3.out (cut_drop OC.out G6.out k3 (by split; exact .inl ⟨by omega, _, rfl⟩; exact .inr rfl) HLN.out) (rowC_one _) (by unfold maxLen; omega) (by omega) g6z ?_; rintro v7 w7 ho hgr; have O7 := hid ho; have G7 := hid (below_own G6.out hgr O6.out (Nat.le_refl _) g6z); clear ho hgr)
      all_goals
        go_returns
        obtain ⟨R, hR⟩ := HP.out
        have e1 : (L.take k3).length = k3 := by rw [List.length_take, HLN.out]; omega
        refine ⟨v7, L.take k3, L.drop k3, R, A, by rw [e1]; rfl, by rw [List.take_append_drop]; exact hR, HAl.out.trans HM.out, HA.out.keep (GC.out.trans (G7.out.mono hwz)), ?_, G0.out.trans ((GC.out.trans (G7.out.mono hwz)).mono (by omega))⟩
        have e2 : (L.take k3 ++ { l.c with s := -1, G := none, gc := 0, g := [] } :: L.drop k3).length = 0 + k3 + 1 + (N - k3) := by
          simp [List.length_take, List.length_drop, HLN.out]
          omega
        have e3 : rowC (L.take k3 ++ { l.c with s := -1, G := none, gc := 0, g := [] } :: L.drop k3) = [] ++ rowC (L.take k3) ++ [.int .i64 l.c.id, .slice l.c.A l.c.pl.length l.c.cap, .int .i64 l.c.m, .int .i64 l.c.v.a, .int .i64 l.c.v.b, .int .i64 l.c.v.c, .int .i64 l.c.v.d, .int .i64 l.c.k, .int .i64 (-1), .slice none 0 0] ++ rowC (L.drop k3) := by
          simp [rowC, Ak.cells]
        rw [e2, e3]
        exact own_mono O7.out (by omega)
end Go.Proofs.Ythkofnahimlijaa
namespace Go.Proofs.Ythkofnahimlijaa
open Go Go.Joins Go.ChangeShapes Go.WideShapes Go.RowKit
set_option maxRecDepth 100000
def Lt.cells (l : Lt) : List Value := [.int .i64 l.ticks, .slice l.A l.es.length l.cap, .int .i64 l.goes, .int .i64 l.c.id, .slice l.c.A l.c.pl.length l.c.cap, .int .i64 l.c.m, .int .i64 l.c.v.a, .int .i64 l.c.v.b, .int .i64 l.c.v.c, .int .i64 l.c.v.d, .int .i64 l.c.k, .int .i64 l.c.s, .slice l.c.G l.c.g.length l.c.gc, .int .i64 l.at_, .int .i64 l.turn]
theorem later_is {H : Type} {enc : TypeId × Value → H} {W : World} {base : Nat} {v : Value} {d : DataW H} {p : List MemPlace}
    (hv : Value.okWide Try.prog W .any base 44 v) (h : DataW.Trod enc Try.prog W 0 (fun _ => true) true 44 v d p) : ∃ l : Lt, v = .agg #[.int .i64 l.ticks, .slice l.A l.es.length l.cap, .int .i64 l.goes, .int .i64 l.c.id, .slice l.c.A l.c.pl.length l.c.cap, .int .i64 l.c.m, .int .i64 l.c.v.a, .int .i64 l.c.v.b, .int .i64 l.c.v.c, .int .i64 l.c.v.d, .int .i64 l.c.k, .int .i64 l.c.s, .slice l.c.G l.c.g.length l.c.gc, .int .i64 l.at_, .int .i64 l.turn] ∧ l.In W := by
  obtain ⟨cs, rfl, hsz⟩ := okWide_struct Try.underlying44 hv
  obtain ⟨fuel, hf⟩ := h
  have hl : cs.toList.length = 15 := by
    rw [Array.length_toList, hsz]
    kernel_rfl
  have key : ∃ l : Lt, cs.toList = l.cells ∧ l.In W := by
    change DataW.trod enc Try.prog W 0 (fun _ => true) true fuel 44 cs.toList = some _ at hf
    revert hf hl
    generalize cs.toList = l
    intro hl hf
    obtain ⟨xs, n, _, hx, _, hlen2, hg⟩ := DataW.trod_struct Try.underlying44 hf
    have c3 : Try.prog.cellsOf 3 = 1 := by kernel_rfl
    have cI : Try.prog.cellsOf 31 = 1 := by kernel_rfl
    have cA : Try.prog.cellsOf 42 = 10 := by kernel_rfl
    match l, hl with
    | [d0, d1, d2, d3, d4, d5, d6, d7, d8, d9, d10, d11, d12, d13, d14], _ =>
      match xs, hlen2 with
      | [y0, y1, y2, y3, y4, y5], _ =>
        have h0 : DataW.trod enc Try.prog W 0 (fun _ => true) true n 3 (([d0, d1, d2, d3, d4, d5, d6, d7, d8, d9, d10, d11, d12, d13, d14].drop 0).take (Try.prog.cellsOf 3)) = some y0 := hg 0 _ rfl
        have h1 : DataW.trod enc Try.prog W 0 (fun _ => true) true n 31 (([d0, d1, d2, d3, d4, d5, d6, d7, d8, d9, d10, d11, d12, d13, d14].drop 1).take (Try.prog.cellsOf 31)) = some y1 := hg 1 _ rfl
        have h2 : DataW.trod enc Try.prog W 0 (fun _ => true) true n 3 (([d0, d1, d2, d3, d4, d5, d6, d7, d8, d9, d10, d11, d12, d13, d14].drop 2).take (Try.prog.cellsOf 3)) = some y2 := hg 2 _ rfl
        have h3 : DataW.trod enc Try.prog W 0 (fun _ => true) true n 42 (([d0, d1, d2, d3, d4, d5, d6, d7, d8, d9, d10, d11, d12, d13, d14].drop 3).take (Try.prog.cellsOf 42)) = some y3 := hg 3 _ rfl
        have h4 : DataW.trod enc Try.prog W 0 (fun _ => true) true n 3 (([d0, d1, d2, d3, d4, d5, d6, d7, d8, d9, d10, d11, d12, d13, d14].drop 13).take (Try.prog.cellsOf 3)) = some y4 := hg 4 _ rfl
        have h5 : DataW.trod enc Try.prog W 0 (fun _ => true) true n 3 (([d0, d1, d2, d3, d4, d5, d6, d7, d8, d9, d10, d11, d12, d13, d14].drop 14).take (Try.prog.cellsOf 3)) = some y5 := hg 5 _ rfl
        rw [c3] at h0 h2 h4 h5
        rw [cI] at h1
        rw [cA] at h3
        obtain ⟨n0, e0, _, w0⟩ := DataW.trod_int Try.underlying3 (cs := [d0]) h0
        obtain ⟨A, cap, es, e1, k1, k2, k3, k4⟩ := ints_of (c0 := d1) h1
        obtain ⟨n2, e2, _, w2⟩ := DataW.trod_int Try.underlying3 (cs := [d2]) h2
        obtain ⟨a, ea, hin⟩ := ask_of (cs := [d3, d4, d5, d6, d7, d8, d9, d10, d11, d12]) rfl h3
        obtain ⟨n4, e4, _, w4⟩ := DataW.trod_int Try.underlying3 (cs := [d13]) h4
        obtain ⟨n5, e5, _, w5⟩ := DataW.trod_int Try.underlying3 (cs := [d14]) h5
        simp at e0 e2 e4 e5
        subst e0 e1 e2 e4 e5
        refine ⟨⟨n0, A, cap, es, n2, a, n4, n5⟩, ?_, ⟨wf_i64 w0, k1, k3, k4, wf_i64 w2, hin, wf_i64 w4, wf_i64 w5⟩⟩
        show _ :: _ :: _ :: ([d3, d4, d5, d6, d7, d8, d9, d10, d11, d12] ++ _) = _
        rw [ea]
        rfl
  obtain ⟨l, hs, hin⟩ := key
  refine ⟨l, ?_, hin⟩
  rw [show (#[.int .i64 l.ticks, .slice l.A l.es.length l.cap, .int .i64 l.goes, .int .i64 l.c.id, .slice l.c.A l.c.pl.length l.c.cap, .int .i64 l.c.m, .int .i64 l.c.v.a, .int .i64 l.c.v.b, .int .i64 l.c.v.c, .int .i64 l.c.v.d, .int .i64 l.c.k, .int .i64 l.c.s, .slice l.c.G l.c.g.length l.c.gc, .int .i64 l.at_, .int .i64 l.turn] : Array Value) = l.cells.toArray from rfl, ← hs]
end Go.Proofs.Ythkofnahimlijaa
namespace Go.Proofs.Ythkofnahimlijaa
open Go Go.RowKit
theorem pass_t {xs : List V4} {up : List Bool} {now : Int} {hs : List Hd} {ks : List Ak} (hE : opnE xs up now (hdF hs) hs.length = 0) (j : Nat) : i64 (passS xs up now hs ks j).t ∧ (0 ≤ (passS xs up now hs ks j).t → now ≤ (passS xs up now hs ks j).t) ∧ (passS xs up now hs ks j).l.length ≤ 16 := by
  rw [passS_eq hE]
  unfold slot
  refine ⟨?_, fun h => ?_, slt_len⟩
  · by_cases h : 0 ≤ (slt up xs.length now (fA up xs.length (wsF xs) now (freeOf (wsF xs) (hBk now hs)) (akF ks) ks.length j) (akF ks j)).t
    · obtain ⟨f1, f2⟩ := slt_found h
      obtain ⟨_, _, _, b1, b2, _⟩ := fnd_gang f1 f2
      obtain ⟨s1, s2, s3⟩ := (spanB_iff _ _).1 b2
      unfold i64
      omega
    · have e := congrArg Slt.t (slt_not h).1
      change _ = (-1 : Int) at e
      unfold i64
      omega
  · obtain ⟨⟨_, _, _, _, f5⟩, _⟩ := slt_found h
    have := f5.1
    omega
theorem own_aks {w : World} {base n : Nat} {v : Value} {B : List Ak} (h : w.ownsRow base 42 10 v n (rowC B)) (hB : ∀ a, a ∈ B → a.In w) : ∃ A cap, v = .slice A B.length cap ∧ Aks w w A B := by
  have hn : n = B.length := by
    have := h.1
    rw [rowC_len] at this
    omega
  subst hn
  obtain ⟨_, ⟨rfl, h0⟩ | ⟨b, cap, cs, rfl, _, hbh, _⟩⟩ := id h
  · have : B = [] := List.eq_nil_of_length_eq_zero h0
    subst this
    exact ⟨none, 0, rfl, .inl rfl⟩
  · refine ⟨_, cap, rfl, .inr ⟨b, 0, rfl, lt_of hbh, fun j x hx => ⟨x.cells, ⟨rfl, hB x (List.mem_of_getElem? hx)⟩, rfl, fun i hi => ?_⟩⟩⟩
    rw [Nat.zero_add]
    exact own_cells h hx i hi
theorem hrowC_len (xs : List Hd) : (hrowC xs).length = xs.length * 6 := by
  induction xs with
  | nil => rfl
  | cons a xs ih =>
    show (a.cells ++ hrowC xs).length = _
    rw [List.length_append, ih]
    show 6 + _ = _
    simp
    omega
theorem own_hds {w : World} {base n : Nat} {v : Value} {B : List Hd} (h : w.ownsRow base 53 6 v n (hrowC B)) (hB : ∀ a, a ∈ B → a.In w) : ∃ A cap, v = .slice A B.length cap ∧ Hds w w A B := by
  have hn : n = B.length := by
    have := h.1
    rw [hrowC_len] at this
    omega
  subst hn
  obtain ⟨_, ⟨rfl, h0⟩ | ⟨b, cap, cs, rfl, _, hbh, _⟩⟩ := id h
  · have : B = [] := List.eq_nil_of_length_eq_zero h0
    subst this
    exact ⟨none, 0, rfl, .inl rfl⟩
  · refine ⟨_, cap, rfl, .inr ⟨b, 0, rfl, lt_of hbh, fun j x hx => ⟨x.cells, ⟨rfl, hB x (List.mem_of_getElem? hx)⟩, rfl, fun i hi => ?_⟩⟩⟩
    have hk2 := (List.getElem?_eq_some_iff.1 hx).1
    rw [Nat.zero_add, h.cellAt (j * 6 + i) (by omega), hrowC_at hx hi]
theorem and_15 {x : Int} : 0 ≤ bits .and .i64 x 15 ∧ bits .and .i64 x 15 ≤ 15 := by
  simp only [bits, BitVec.toNat_and]
  have h1 : (BitVec.ofInt IntKind.i64.bits x).toNat &&& (BitVec.ofInt IntKind.i64.bits 15).toNat ≤ 15 := Nat.and_le_right
  rw [IntKind.wrap_i64]
  omega
/-- The mixed asks stand in memory. -/
theorem mix_in {w : World} {ks : List Ak} {S : Nat → Slt} {A P Q R : List Ak} {c : Ak} (hA : AgRel w ks S A) (hp : (P ++ Q ++ R).Perm A) (hc : c.In w) : ∀ a, a ∈ P ++ { c with s := -1, G := none, gc := 0, g := [] } :: Q → a.In w := by
  intro a ha
  have hin : ∀ b, b ∈ A → b.In w := fun b hb => by
    obtain ⟨j, hj⟩ := List.getElem?_of_mem hb
    exact (hA j b hj).1
  rcases List.mem_append.1 ha with h | h
  · exact hin a (hp.mem_iff.1 (List.mem_append_left _ (List.mem_append_left _ h)))
  · rcases List.mem_cons.1 h with rfl | h
    · exact ⟨hc.p, hc.pl, .inl rfl, by show ([] : List Int).length ≤ _; decide, Nat.le_refl _, hc.m, hc.k, by show i64 (-1); unfold i64; decide⟩
    · exact hin a (hp.mem_iff.1 (List.mem_append_left _ (List.mem_append_right _ h)))
theorem ag_prom {w : World} {xs : List V4} {up : List Bool} {now : Int} {hs : List Hd} {ks A : List Ak} (h : AgRel w ks (passS xs up now hs ks) A) (hl : A.length = ks.length) : Prom xs up now hs ks A := ⟨hl, fun j a a0 hj h0 => by
  obtain ⟨_, a1, h1, t1, t2, t3, t4, t5, t6, t7, t8, t9⟩ := h j a hj
  rw [h0] at h1
  cases h1
  exact ⟨t4, t5, t6, t7, t8, t9⟩⟩
end Go.Proofs.Ythkofnahimlijaa
