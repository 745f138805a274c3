/- Bookings of a pool: what is used of each node at each tick; bookings that fit. Plain mathematics. Conditions: none. What a pass promises, ask by ask, as functions of what is free; that its bookings fit. Plain mathematics. Conditions: none. The holds of a pass, taken one by one: plain mathematics. Conditions: none. slices.Contains of numbers; plan's right, places. Conditions: what came in stands in memory. A book; plan's take. Conditions: what came in stands in memory. gang.Give as a deferred call. Conditions: the pool and the numbers stand in memory. How the laws' arguments open: amounts, numbers, acts, rows of them. Conditions: none. -/
import Derived.Test.YthkofnahimlijaaGang27
import Derived.Deep.RegionHeld3
import Derived.IntWalk
import Derived.Defers
import Derived.Lib.SmallJoins
import Derived.OpenShut
import Derived.ProofKit
import Derived.Deep.Slices
namespace Go.Proofs.Ythkofnahimlijaa
open Go Go.RowKit
/-- A booking: so much of each of some nodes, from a tick to below another one. -/
structure Bk where
  xs : List Int
  a : Int
  c : Int
  v : V4
def Bk.at (d : Bk) (i : Nat) (t : Int) : V4 := if d.xs.contains (i : Int) = true ∧ d.a ≤ t ∧ t < d.c then d.v else V4.z
def used : List Bk → Nat → Int → V4
  | [], _, _ => V4.z
  | d :: D, i, t => (d.at i t).add (used D i t)
theorem V4.ext4 {x y : V4} (h0 : x.a = y.a) (h1 : x.b = y.b) (h2 : x.c = y.c) (h3 : x.d = y.d) : x = y := by
  obtain ⟨a, b, c, d⟩ := x
  obtain ⟨a', b', c', d'⟩ := y
  simp only at h0 h1 h2 h3
  subst h0 h1 h2 h3
  rfl
theorem used_app (D E : List Bk) (i : Nat) (t : Int) : used (D ++ E) i t = (used D i t).add (used E i t) := by
  induction D with
  | nil => apply V4.ext4 <;> simp [used, V4.add, V4.z]
  | cons d D ih =>
    rw [List.cons_append]
    show (d.at i t).add (used (D ++ E) i t) = ((d.at i t).add (used D i t)).add (used E i t)
    rw [ih]
    apply V4.ext4 <;> simp only [V4.add] <;> omega
theorem used_perm {D E : List Bk} (h : D.Perm E) (i : Nat) (t : Int) : used D i t = used E i t := by
  induction h with
  | nil => rfl
  | cons d _ ih => show (d.at i t).add _ = (d.at i t).add _; rw [ih]
  | swap d e D =>
    show (e.at i t).add ((d.at i t).add _) = (d.at i t).add ((e.at i t).add _)
    apply V4.ext4 <;> simp only [V4.add] <;> omega
  | trans _ _ ih1 ih2 => rw [ih1, ih2]
def freeOf (Ws : Nat → V4) (D : List Bk) : Nat → Int → V4 := fun i t => (Ws i).sub (used D i t)
theorem freeOf_perm {D E : List Bk} (Ws : Nat → V4) (h : D.Perm E) : freeOf Ws D = freeOf Ws E := by
  funext i t
  unfold freeOf
  rw [used_perm h]
theorem freeOf_nil (Ws : Nat → V4) : freeOf Ws [] = fun i _ => Ws i := by
  funext i t
  apply V4.ext4 <;> simp [freeOf, used, V4.sub, V4.z]
theorem freeOf_take (Ws : Nat → V4) (xs : List Int) (a c : Int) (v : V4) (D : List Bk) : fsT (freeOf Ws D) xs a c v xs.length = freeOf Ws (⟨xs, a, c, v⟩ :: D) := by
  funext i t
  have e1 : fsT (freeOf Ws D) xs a c v xs.length i = if xs.contains (i : Int) = true then chF (freeOf Ws D i) a c (fun x => x.sub v) else freeOf Ws D i := by
    unfold fsT
    rw [List.take_length]
  have e2 : freeOf Ws (⟨xs, a, c, v⟩ :: D) i t = (Ws i).sub ((Bk.at ⟨xs, a, c, v⟩ i t).add (used D i t)) := rfl
  have e3 : freeOf Ws D i t = (Ws i).sub (used D i t) := rfl
  rw [e1, e2]
  by_cases h1 : xs.contains (i : Int) = true
  · rw [if_pos h1]
    by_cases h2 : a ≤ t ∧ t < c
    · have e4 : Bk.at ⟨xs, a, c, v⟩ i t = v := if_pos ⟨h1, h2.1, h2.2⟩
      rw [chF_in h2.1 h2.2, e4, e3]
      apply V4.ext4 <;> simp only [V4.add, V4.sub] <;> omega
    · have e4 : Bk.at ⟨xs, a, c, v⟩ i t = V4.z := if_neg (fun h => h2 h.2)
      rw [chF_out (by omega), e4, e3]
      apply V4.ext4 <;> simp only [V4.add, V4.sub, V4.z] <;> omega
  · have e4 : Bk.at ⟨xs, a, c, v⟩ i t = V4.z := if_neg (fun h => h1 h.1)
    rw [if_neg h1, e4, e3]
    apply V4.ext4 <;> simp only [V4.add, V4.sub, V4.z] <;> omega
theorem freeOf_give (Ws : Nat → V4) (xs : List Int) (a c : Int) (v : V4) (D : List Bk) : fsG (freeOf Ws (⟨xs, a, c, v⟩ :: D)) xs a c v xs.length 0 = freeOf Ws D := by
  rw [← freeOf_take, fsG_back_all]
/-- Bookings that may be, and leave no node with less than nothing. -/
structure Good (n : Nat) (Ws : Nat → V4) (D : List Bk) : Prop where
  b : ∀ d, d ∈ D → ¬ badG n d.xs d.a d.c d.v
  f : ∀ i t, i < n → (used D i t).le (Ws i)
theorem Bk.nn {n : Nat} {d : Bk} (h : ¬ badG n d.xs d.a d.c d.v) (i : Nat) (t : Int) : V4.z.le (d.at i t) := by
  have hv := (V4.okB_iff _).1 (badG_no h).2.2
  unfold Bk.at
  split
  · unfold V4.ok at hv
    unfold V4.le V4.z
    simp only
    omega
  · exact V4.le_refl _
theorem used_nn {n : Nat} {D : List Bk} (h : ∀ d, d ∈ D → ¬ badG n d.xs d.a d.c d.v) (i : Nat) (t : Int) : V4.z.le (used D i t) := by
  induction D with
  | nil => exact V4.le_refl _
  | cons d D ih =>
    have h1 := Bk.nn (h d (by simp)) i t
    have h2 := ih fun d hd => h d (List.mem_cons_of_mem _ hd)
    show V4.z.le ((d.at i t).add (used D i t))
    unfold V4.le V4.add V4.z at *
    simp only at *
    omega
theorem Good.perm {n : Nat} {Ws : Nat → V4} {D E : List Bk} (h : Good n Ws D) (p : D.Perm E) : Good n Ws E :=
  ⟨fun d hd => h.b d (p.mem_iff.2 hd), fun i t hi => by rw [← used_perm p]; exact h.f i t hi⟩
theorem Good.right {n : Nat} {Ws : Nat → V4} {D E : List Bk} (h : Good n Ws (D ++ E)) : Good n Ws E := by
  refine ⟨fun d hd => h.b d (List.mem_append_right _ hd), fun i t hi => ?_⟩
  have h1 := h.f i t hi
  have h2 := used_nn (fun d hd => h.b d (List.mem_append_left _ hd)) i t
  rw [used_app] at h1
  unfold V4.le V4.add V4.z at *
  simp only at *
  omega
theorem Good.left {n : Nat} {Ws : Nat → V4} {D E : List Bk} (h : Good n Ws (D ++ E)) : Good n Ws D := (h.perm List.perm_append_comm).right
theorem Good.tail {n : Nat} {Ws : Nat → V4} {d : Bk} {D : List Bk} (h : Good n Ws (d :: D)) : Good n Ws D := Good.right (D := [d]) h
theorem Good.nil (n : Nat) (Ws : Nat → V4) (h : ∀ i, i < n → (Ws i).ok) : Good n Ws [] := by
  refine ⟨fun d hd => by simp at hd, fun i t hi => ?_⟩
  have := h i hi
  unfold V4.ok at this
  unfold used V4.le V4.z
  simp only
  omega
/-- What Take answers, and what is free behind it. -/
noncomputable def pkE (n : Nat) (F : Nat → Int → V4) (xs : List Int) (a c : Int) (v : V4) : Int :=
  open Classical in if badG n xs a c v then 1 else if ∃ i : Nat, (i : Int) ∈ xs ∧ opB (F i) v a c = false then 60 else 0
noncomputable def pkF (n : Nat) (F : Nat → Int → V4) (xs : List Int) (a c : Int) (v : V4) : Nat → Int → V4 :=
  open Classical in if pkE n F xs a c v = 0 then fsT F xs a c v xs.length else F
noncomputable def gvF (n : Nat) (Ws : Nat → V4) (F : Nat → Int → V4) (xs : List Int) (a c : Int) (v : V4) : Nat → Int → V4 :=
  open Classical in if ¬ badG n xs a c v ∧ (∀ i : Nat, (i : Int) ∈ xs → ∀ t, a ≤ t → t < c → (V4.add (F i t) v).le (Ws i)) then fsG F xs a c v xs.length 0 else F
theorem pkE_zero {n : Nat} {F : Nat → Int → V4} {xs : List Int} {a c : Int} {v : V4} : pkE n F xs a c v = 0 ↔ ¬ badG n xs a c v ∧ ∀ i : Nat, (i : Int) ∈ xs → opB (F i) v a c = true := by
  unfold pkE
  constructor
  · intro h
    split at h
    · cases h
    · next h1 =>
      split at h
      · cases h
      · next h2 =>
        refine ⟨h1, fun i hi => ?_⟩
        cases hb : opB (F i) v a c
        · exact absurd ⟨i, hi, hb⟩ h2
        · rfl
  · rintro ⟨h1, h2⟩
    rw [if_neg h1, if_neg]
    rintro ⟨i, hi, hb⟩
    rw [h2 i hi] at hb
    cases hb
theorem take_all2 (q : Nat) (sv : Value) (n : Nat) (ps : Nat → Nat) (Ws : Nat → V4) (fs : Nat → Int → V4) (A : Option Addr) (cap : Nat) (xs : List Int) (a c : Int) (v : V4) (w : World) (h : PL w q sv n ps Ws fs) (hN : Ns w A xs) (hl : xs.length ≤ 9223372036854775807) (hap : xs ≠ [] → Apart A n ps) :
    Calls Try.prog 16 #[.pointer (some ⟨q, 0, none⟩), .slice A xs.length cap, .int .i64 a, .int .i64 c, .agg #[.int .i64 v.a, .int .i64 v.b, .int .i64 v.c, .int .i64 v.d]] w fun e w' => e = .returned (.int .i64 (pkE n fs xs a c v)) ∧ PL w' q sv n ps Ws (pkF n fs xs a c v) ∧ FrP w w' n ps := by
  by_cases hx : xs = []
  · have h1 : badG n xs a c v := .inl (gangB_no fun h => h.1 hx)
    refine (gtake_bad _ n _ xs a c v w (gangK_any q sv n ps Ws fs A cap xs w h hN hl) h1).mono ?_
    rintro e w' ⟨rfl, hw⟩
    have h0 : pkE n fs xs a c v = 1 := if_pos h1
    refine ⟨by rw [h0], ?_, FrP.of n ps hw⟩
    unfold pkF
    rw [if_neg (by rw [h0]; decide)]
    exact h.keep hw
  refine (take_all q sv n ps Ws fs A cap xs a c v w h hN hl (hap hx)).mono ?_
  rintro e w' ⟨x, fs', rfl, hp, hf, ⟨rfl, h1, rfl⟩ | ⟨rfl, h1, h2, rfl⟩ | ⟨rfl, h1, h2, rfl⟩⟩
  · have h0 : pkE n fs' xs a c v = 1 := if_pos h1
    refine ⟨by rw [h0], ?_, hf⟩
    unfold pkF
    rw [if_neg (by rw [h0]; decide)]
    exact hp
  · have h0 : pkE n fs' xs a c v = 60 := by
      unfold pkE
      rw [if_neg h1, if_pos h2]
    refine ⟨by rw [h0], ?_, hf⟩
    unfold pkF
    rw [if_neg (by rw [h0]; decide)]
    exact hp
  · have h0 : pkE n fs xs a c v = 0 := pkE_zero.2 ⟨h1, h2⟩
    refine ⟨by rw [h0], ?_, hf⟩
    unfold pkF
    rw [if_pos h0]
    exact hp
theorem give_all2 (q : Nat) (sv : Value) (n : Nat) (ps : Nat → Nat) (Ws : Nat → V4) (fs : Nat → Int → V4) (A : Option Addr) (cap : Nat) (xs : List Int) (a c : Int) (v : V4) (w : World) (h : PL w q sv n ps Ws fs) (hN : Ns w A xs) (hl : xs.length ≤ 9223372036854775807) (hcap : xs.length ≤ cap) (hap : xs ≠ [] → Apart A n ps) :
    Calls Try.prog 20 #[.pointer (some ⟨q, 0, none⟩), .slice A xs.length cap, .int .i64 a, .int .i64 c, .agg #[.int .i64 v.a, .int .i64 v.b, .int .i64 v.c, .int .i64 v.d]] w fun e w' => (∃ x : Int, e = .returned (.int .i64 x)) ∧ PL w' q sv n ps Ws (gvF n Ws fs xs a c v) ∧ FrP w w' n ps := by
  by_cases hx : xs = []
  · have h1 : badG n xs a c v := .inl (gangB_no fun h => h.1 hx)
    refine (ggive_bad _ n _ xs a c v w (gangK_any q sv n ps Ws fs A cap xs w h hN hl) h1).mono ?_
    rintro e w' ⟨rfl, hw⟩
    refine ⟨⟨_, rfl⟩, ?_, FrP.of n ps hw⟩
    unfold gvF
    rw [if_neg (fun h => h.1 h1)]
    exact h.keep hw
  refine (give_all q sv n ps Ws fs A cap xs a c v w h hN hl hcap (hap hx)).mono ?_
  rintro e w' ⟨x, fs', rfl, hp, hf, ⟨rfl, h1, rfl⟩ | ⟨rfl, h1, ⟨i, hi, t, t1, t2, h2⟩, rfl⟩ | ⟨rfl, h1, h2, rfl⟩⟩
  · refine ⟨⟨_, rfl⟩, ?_, hf⟩
    unfold gvF
    rw [if_neg (fun h => h.1 h1)]
    exact hp
  · refine ⟨⟨_, rfl⟩, ?_, hf⟩
    unfold gvF
    rw [if_neg (fun h => h2 (h.2 i hi t t1 t2))]
    exact hp
  · refine ⟨⟨_, rfl⟩, ?_, hf⟩
    unfold gvF
    rw [if_pos ⟨h1, h2⟩]
    exact hp
/-- Take of bookings that fit. -/
theorem pk_good {n : Nat} {Ws : Nat → V4} {D : List Bk} {d : Bk} (h : Good n Ws (d :: D)) : pkE n (freeOf Ws D) d.xs d.a d.c d.v = 0 ∧ pkF n (freeOf Ws D) d.xs d.a d.c d.v = freeOf Ws (d :: D) := by
  have hb := h.b d (by simp)
  have h0 : pkE n (freeOf Ws D) d.xs d.a d.c d.v = 0 := pkE_zero.2 ⟨hb, fun i hi => (opB_iff _ _ _ _).2 fun t t1 t2 => by
    have hin : i < n := by
      obtain ⟨j, hj⟩ := List.getElem?_of_mem hi
      have := (badG_no hb).1.2.1 j _ hj
      omega
    have h1 := h.f i t hin
    have e : d.at i t = d.v := if_pos ⟨by simpa using hi, t1, t2⟩
    change V4.le (V4.add (d.at i t) (used D i t)) (Ws i) at h1
    rw [e] at h1
    unfold freeOf
    unfold V4.le V4.add V4.sub at *
    simp only at *
    omega⟩
  refine ⟨h0, ?_⟩
  unfold pkF
  rw [if_pos h0, freeOf_take]
theorem good_pk {n : Nat} {Ws : Nat → V4} {D : List Bk} {xs : List Int} {a c : Int} {v : V4} (h : Good n Ws D) (hk : pkE n (freeOf Ws D) xs a c v = 0) : Good n Ws (⟨xs, a, c, v⟩ :: D) := by
  obtain ⟨hb, ho⟩ := pkE_zero.1 hk
  refine ⟨fun d hd => ?_, fun i t hi => ?_⟩
  · rcases List.mem_cons.1 hd with rfl | hd
    · exact hb
    · exact h.b d hd
  · show V4.le (V4.add (Bk.at ⟨xs, a, c, v⟩ i t) (used D i t)) (Ws i)
    have h1 := h.f i t hi
    unfold Bk.at
    split
    · next hc =>
      have h2 := (opB_iff _ _ _ _).1 (ho i (by simpa using hc.1)) t hc.2.1 hc.2.2
      unfold freeOf at h2
      unfold V4.le V4.add V4.sub at *
      simp only at *
      omega
    · unfold V4.le V4.add V4.z at *
      simp only at *
      omega
theorem gv_good {n : Nat} {Ws : Nat → V4} {D : List Bk} {xs : List Int} {a c : Int} {v : V4} (h : Good n Ws (⟨xs, a, c, v⟩ :: D)) : gvF n Ws (freeOf Ws (⟨xs, a, c, v⟩ :: D)) xs a c v = freeOf Ws D := by
  have hb := h.b ⟨xs, a, c, v⟩ (by simp)
  unfold gvF
  rw [if_pos, freeOf_give]
  refine ⟨hb, fun i hi t t1 t2 => ?_⟩
  have e : Bk.at ⟨xs, a, c, v⟩ i t = v := if_pos ⟨by simpa using hi, t1, t2⟩
  have h2 := used_nn (fun d hd => h.b d (List.mem_cons_of_mem _ hd)) i t
  show V4.le (V4.add (V4.sub (Ws i) (V4.add (Bk.at ⟨xs, a, c, v⟩ i t) (used D i t))) v) (Ws i)
  rw [e]
  unfold V4.le V4.add V4.sub V4.z at *
  simp only at *
  omega
/-- What was given back is free there. -/
theorem free_given {n : Nat} {Ws : Nat → V4} {D : List Bk} {d : Bk} (h : Good n Ws (d :: D)) : ∀ i : Nat, (i : Int) ∈ d.xs → opB (freeOf Ws D i) d.v d.a d.c = true := (pkE_zero.1 (pk_good h).1).2
end Go.Proofs.Ythkofnahimlijaa
namespace Go.Proofs.Ythkofnahimlijaa
open Go Go.RowKit
/-- An ask. -/
structure Ak where
  id : Int
  A : Option Addr
  cap : Nat
  pl : List Int
  m : Int
  v : V4
  k : Int
  s : Int
  G : Option Addr
  gc : Nat
  g : List Int
def askB (a : Ak) : Bool := decide (0 < a.m ∧ 0 < a.k) && a.v.okB
def plcN (up : List Bool) (pl : List Int) : List Nat := (List.range up.length).filter fun i => up.getD i false && pl.contains (i : Int)
theorem plcN_mem {up : List Bool} {pl : List Int} {i : Nat} : i ∈ plcN up pl ↔ i < up.length ∧ up.getD i false = true ∧ (i : Int) ∈ pl := by
  unfold plcN
  rw [List.mem_filter, List.mem_range]
  simp
theorem plcN_pair (up : List Bool) (pl : List Int) : (plcN up pl).Pairwise (· < ·) := List.Pairwise.filter _ List.pairwise_lt_range
/-- May what an ask asks for be taken of these nodes at this tick, but for what is free? -/
def Bk1 (up : List Bool) (a : Ak) (xs : List Int) (t : Int) : Prop := askB a = true ∧ (xs.length : Int) = a.m ∧ t ≤ 1099511627776 ∧ a.k ≤ 1099511627776 ∧ ∀ x, x ∈ xs → x ∈ intL (plcN up a.pl)
noncomputable def bkB (up : List Bool) (n : Nat) (F : Nat → Int → V4) (a : Ak) (xs : List Int) (t : Int) : Bool := @decide (Bk1 up a xs t ∧ pkE n F xs t (t + a.k) a.v = 0) (Classical.propDecidable _)
noncomputable def bkF (up : List Bool) (n : Nat) (F : Nat → Int → V4) (a : Ak) (xs : List Int) (t : Int) : Nat → Int → V4 := if bkB up n F a xs t = true then fsT F xs t (t + a.k) a.v xs.length else F
theorem bkB_iff (up : List Bool) (n : Nat) (F : Nat → Int → V4) (a : Ak) (xs : List Int) (t : Int) : bkB up n F a xs t = true ↔ Bk1 up a xs t ∧ pkE n F xs t (t + a.k) a.v = 0 := by
  unfold bkB
  exact @decide_eq_true_iff _ (Classical.propDecidable _)
structure Slt where
  id : Int
  t : Int
  l : List Nat
section
variable (up : List Bool) (n : Nat) (Ws : Nat → V4) (now : Int) (F0 : Nat → Int → V4) (al : Nat → Ak) (N : Nat)
noncomputable def kFl : Nat → (Nat → Int → V4)
  | 0 => F0
  | k + 1 => if 0 ≤ (al k).s then bkF up n (kFl k) (al k) (al k).g (max (al k).s now) else kFl k
noncomputable def kB (k : Nat) : Bool := decide (0 ≤ (al k).s) && bkB up n (kFl up n now F0 al k) (al k) (al k).g (max (al k).s now)
noncomputable def gB (F : Nat → Int → V4) (a : Ak) (b : Bool) : Nat → Int → V4 := if b = true then gvF n Ws F a.g (max a.s now) (max a.s now + a.k) a.v else F
def Fnd (F : Nat → Int → V4) (a : Ak) (t : Int) : Prop := askB a = true ∧ FindOk n F (intL (plcN up a.pl)) a.v now a.k a.m t
open Classical in
noncomputable def slt (F : Nat → Int → V4) (a : Ak) : Slt := if h : ∃ t, Fnd up n now F a t then ⟨a.id, h.choose, (openL n F (intL (plcN up a.pl)) h.choose (h.choose + a.k) a.v).take a.m.toNat⟩ else ⟨a.id, -1, []⟩
noncomputable def tF : Nat → (Nat → Int → V4)
  | 0 => kFl up n now F0 al N
  | k + 1 => if 0 ≤ (slt up n now (gB n Ws now (tF k) (al k) (kB up n now F0 al k)) (al k)).t then bkF up n (gB n Ws now (tF k) (al k) (kB up n now F0 al k)) (al k) (intL (slt up n now (gB n Ws now (tF k) (al k) (kB up n now F0 al k)) (al k)).l) (slt up n now (gB n Ws now (tF k) (al k) (kB up n now F0 al k)) (al k)).t else gB n Ws now (tF k) (al k) (kB up n now F0 al k)
noncomputable def fA (k : Nat) : Nat → Int → V4 := gB n Ws now (tF up n Ws now F0 al N k) (al k) (kB up n now F0 al k)
noncomputable def slot (k : Nat) : Slt := slt up n now (fA up n Ws now F0 al N k) (al k)
theorem tF_succ (k : Nat) : tF up n Ws now F0 al N (k + 1) = if 0 ≤ (slot up n Ws now F0 al N k).t then bkF up n (fA up n Ws now F0 al N k) (al k) (intL (slot up n Ws now F0 al N k).l) (slot up n Ws now F0 al N k).t else fA up n Ws now F0 al N k := rfl
def bkK (k : Nat) : Bk := ⟨(al k).g, max (al k).s now, max (al k).s now + (al k).k, (al k).v⟩
noncomputable def bkS (k : Nat) : Bk := ⟨intL (slot up n Ws now F0 al N k).l, (slot up n Ws now F0 al N k).t, (slot up n Ws now F0 al N k).t + (al k).k, (al k).v⟩
noncomputable def keptTo (k : Nat) : List Bk := ((List.range k).filter (kB up n now F0 al)).map (bkK now al)
noncomputable def keptFrom (k : Nat) : List Bk := ((List.range' k (N - k)).filter (kB up n now F0 al)).map (bkK now al)
noncomputable def promTo (k : Nat) : List Bk := ((List.range k).filter fun i => decide (0 ≤ (slot up n Ws now F0 al N i).t)).map (bkS up n Ws now F0 al N)
end
theorem slt_some {up : List Bool} {n : Nat} {now : Int} {F : Nat → Int → V4} {a : Ak} {t : Int} (h : Fnd up n now F a t) : slt up n now F a = ⟨a.id, t, (openL n F (intL (plcN up a.pl)) t (t + a.k) a.v).take a.m.toNat⟩ := by
  have h1 : ∃ t, Fnd up n now F a t := ⟨t, h⟩
  have h2 := h1.choose_spec
  have e : h1.choose = t := h2.2.2.2.2.uniq h.2.2.2.2
  unfold slt
  rw [dif_pos h1, e]
theorem slt_none {up : List Bool} {n : Nat} {now : Int} {F : Nat → Int → V4} {a : Ak} (h : ∀ t, ¬ Fnd up n now F a t) : slt up n now F a = ⟨a.id, -1, []⟩ := by
  unfold slt
  rw [dif_neg (fun ⟨t, ht⟩ => h t ht)]
theorem slt_id (up : List Bool) (n : Nat) (now : Int) (F : Nat → Int → V4) (a : Ak) : (slt up n now F a).id = a.id := by
  unfold slt
  split <;> rfl
/-- What was found: a tick and a gang that can be taken there. -/
theorem slt_found {up : List Bool} {n : Nat} {now : Int} {F : Nat → Int → V4} {a : Ak} (h : 0 ≤ (slt up n now F a).t) : Fnd up n now F a (slt up n now F a).t ∧ (slt up n now F a).l = (openL n F (intL (plcN up a.pl)) (slt up n now F a).t ((slt up n now F a).t + a.k) a.v).take a.m.toNat := by
  by_cases h1 : ∃ t, Fnd up n now F a t
  · obtain ⟨t, ht⟩ := h1
    rw [slt_some ht]
    exact ⟨ht, rfl⟩
  · rw [slt_none (fun t ht => h1 ⟨t, ht⟩)] at h
    have h' : (0 : Int) ≤ -1 := h
    omega
theorem slt_not {up : List Bool} {n : Nat} {now : Int} {F : Nat → Int → V4} {a : Ak} (h : ¬ 0 ≤ (slt up n now F a).t) : slt up n now F a = ⟨a.id, -1, []⟩ ∧ ∀ t, ¬ Fnd up n now F a t := by
  by_cases h1 : ∃ t, Fnd up n now F a t
  · obtain ⟨t, ht⟩ := h1
    have h2 := ht.2.2.2.2.1
    rw [slt_some ht] at h
    simp only at h
    omega
  · exact ⟨slt_none (fun t ht => h1 ⟨t, ht⟩), fun t ht => h1 ⟨t, ht⟩⟩
theorem fnd_gang {up : List Bool} {n : Nat} {now : Int} {F : Nat → Int → V4} {a : Ak} {t : Int} {l : List Nat} (h : Fnd up n now F a t) (hl : l = (openL n F (intL (plcN up a.pl)) t (t + a.k) a.v).take a.m.toNat) :
    (l.length : Int) = a.m ∧ Gang n (intL l) ∧ (∀ i, i ∈ l → i < n ∧ i ∈ plcN up a.pl ∧ opB (F i) a.v t (t + a.k) = true) ∧ Bk1 up a (intL l) t ∧ spanB t (t + a.k) = true ∧ a.v.okB = true := by
  obtain ⟨h1, h2, h3, h4, h5, h6, h7, h8⟩ := h
  have hmem : ∀ i, i ∈ l → i < n ∧ i ∈ plcN up a.pl ∧ opB (F i) a.v t (t + a.k) = true := fun i hi => by
    rw [hl] at hi
    obtain ⟨k1, k2, k3⟩ := openL_mem hi
    exact ⟨k1, mem_intL.1 k2, k3⟩
  have hlen : (l.length : Int) = a.m := by
    rw [hl, List.length_take]
    omega
  refine ⟨hlen, ?_, hmem, ⟨h1, by rw [intL_len]; exact hlen, by omega, by omega, fun x hx => ?_⟩, (spanB_iff _ _).2 ⟨by omega, by omega, by omega⟩, h4⟩
  · refine gang_of ?_ ?_ fun i hi => (hmem i hi).1
    · intro e
      rw [e] at hlen
      simp at hlen
      omega
    · rw [hl]
      exact openL_pair _ _ _ _ _ _ _
  · unfold intL at hx ⊢
    obtain ⟨j, hj, rfl⟩ := List.mem_map.1 hx
    exact List.mem_map.2 ⟨j, (hmem j hj).2.1, rfl⟩
theorem not_bad {n : Nat} {xs : List Int} {a c : Int} {v : V4} (h1 : Gang n xs) (h2 : spanB a c = true) (h3 : v.okB = true) : ¬ badG n xs a c v := by
  rintro (h | h | h)
  · rw [(gangB_iff _ _).2 h1] at h
    cases h
  · rw [h2] at h
    cases h
  · rw [h3] at h
    cases h
theorem fnd_take {up : List Bool} {n : Nat} {now : Int} {F : Nat → Int → V4} {a : Ak} {t : Int} {l : List Nat} (h : Fnd up n now F a t) (hl : l = (openL n F (intL (plcN up a.pl)) t (t + a.k) a.v).take a.m.toNat) : bkB up n F a (intL l) t = true := by
  obtain ⟨_, h2, h3, h4, h5, h6⟩ := fnd_gang h hl
  refine (bkB_iff _ _ _ _ _ _).2 ⟨h4, pkE_zero.2 ⟨not_bad h2 h5 h6, fun i hi => (h3 i (mem_intL.1 hi)).2.2⟩⟩
section
variable {up : List Bool} {n : Nat} {Ws : Nat → V4} {now : Int} {D : List Bk} {al : Nat → Ak} {N : Nat}
theorem bk_good {F : Nat → Int → V4} {E : List Bk} {a : Ak} {xs : List Int} {t : Int} (hF : F = freeOf Ws E) (h : Good n Ws E) (hb : bkB up n F a xs t = true) : bkF up n F a xs t = freeOf Ws (⟨xs, t, t + a.k, a.v⟩ :: E) ∧ Good n Ws (⟨xs, t, t + a.k, a.v⟩ :: E) := by
  unfold bkF
  rw [if_pos hb, hF, freeOf_take]
  refine ⟨rfl, good_pk h ?_⟩
  have := ((bkB_iff _ _ _ _ _ _).1 hb).2
  rwa [hF] at this
/-- Behind the first k asks the kept bookings are taken. -/
theorem kept_good (hD : Good n Ws D) (k : Nat) : kFl up n now (freeOf Ws D) al k = freeOf Ws (keptTo up n now (freeOf Ws D) al k ++ D) ∧ Good n Ws (keptTo up n now (freeOf Ws D) al k ++ D) := by
  induction k with
  | zero => exact ⟨rfl, hD⟩
  | succ k ih =>
    obtain ⟨h1, h2⟩ := ih
    have e : keptTo up n now (freeOf Ws D) al (k + 1) = keptTo up n now (freeOf Ws D) al k ++ (if kB up n now (freeOf Ws D) al k = true then [bkK now al k] else []) := by
      unfold keptTo
      rw [List.range_succ, List.filter_append, List.map_append]
      congr 1
      cases hb : kB up n now (freeOf Ws D) al k <;> simp [hb]
    rw [e]
    cases hb : kB up n now (freeOf Ws D) al k with
    | false =>
      rw [if_neg (by decide), List.append_nil]
      have h3 : kFl up n now (freeOf Ws D) al (k + 1) = kFl up n now (freeOf Ws D) al k := by
        show (if 0 ≤ (al k).s then bkF up n (kFl up n now (freeOf Ws D) al k) (al k) (al k).g (max (al k).s now) else kFl up n now (freeOf Ws D) al k) = _
        split
        · next hs =>
          unfold kB at hb
          rw [decide_eq_true hs, Bool.true_and] at hb
          unfold bkF
          rw [if_neg (by rw [hb]; decide)]
        · rfl
      rw [h3]
      exact ⟨h1, h2⟩
    | true =>
      rw [if_pos rfl]
      have hb0 := hb
      unfold kB at hb
      rw [Bool.and_eq_true] at hb
      have hs := of_decide_eq_true hb.1
      obtain ⟨h3, h4⟩ := bk_good h1 h2 hb.2
      have p : (bkK now al k :: (keptTo up n now (freeOf Ws D) al k ++ D)).Perm (keptTo up n now (freeOf Ws D) al k ++ [bkK now al k] ++ D) := by
        rw [List.append_assoc]
        exact List.perm_middle.symm
      refine ⟨?_, h4.perm p⟩
      rw [← freeOf_perm Ws p]
      show (if 0 ≤ (al k).s then bkF up n (kFl up n now (freeOf Ws D) al k) (al k) (al k).g (max (al k).s now) else kFl up n now (freeOf Ws D) al k) = _
      rw [if_pos hs]
      exact h3
theorem keptFrom_zero (F0 : Nat → Int → V4) : keptFrom up n now F0 al N 0 = keptTo up n now F0 al N := by
  unfold keptFrom keptTo
  rw [List.range_eq_range', Nat.sub_zero]
theorem keptFrom_step (F0 : Nat → Int → V4) {k : Nat} (hk : k < N) : keptFrom up n now F0 al N k = (if kB up n now F0 al k = true then [bkK now al k] else []) ++ keptFrom up n now F0 al N (k + 1) := by
  unfold keptFrom
  obtain ⟨d, hd⟩ : ∃ d, N - k = d + 1 := ⟨N - k - 1, by omega⟩
  rw [hd, show N - (k + 1) = d by omega, List.range'_succ]
  cases hb : kB up n now F0 al k <;> simp [hb]
theorem keptFrom_end (F0 : Nat → Int → V4) : keptFrom up n now F0 al N N = [] := by
  unfold keptFrom
  rw [Nat.sub_self]
  rfl
theorem promTo_step (F0 : Nat → Int → V4) (k : Nat) : promTo up n Ws now F0 al N (k + 1) = promTo up n Ws now F0 al N k ++ (if 0 ≤ (slot up n Ws now F0 al N k).t then [bkS up n Ws now F0 al N k] else []) := by
  unfold promTo
  rw [List.range_succ, List.filter_append, List.map_append]
  congr 1
  by_cases hb : 0 ≤ (slot up n Ws now F0 al N k).t <;> simp [hb]
/-- The bookings at the turn of ask k, its own given back. -/
noncomputable def bkT (up : List Bool) (n : Nat) (Ws : Nat → V4) (now : Int) (D : List Bk) (al : Nat → Ak) (N k : Nat) : List Bk := promTo up n Ws now (freeOf Ws D) al N k ++ keptFrom up n now (freeOf Ws D) al N (k + 1) ++ D
theorem turn_good (hD : Good n Ws D) (k : Nat) (hk : k ≤ N) : tF up n Ws now (freeOf Ws D) al N k = freeOf Ws (promTo up n Ws now (freeOf Ws D) al N k ++ keptFrom up n now (freeOf Ws D) al N k ++ D) ∧ Good n Ws (promTo up n Ws now (freeOf Ws D) al N k ++ keptFrom up n now (freeOf Ws D) al N k ++ D) := by
  induction k with
  | zero =>
    show kFl up n now (freeOf Ws D) al N = freeOf Ws ([] ++ keptFrom up n now (freeOf Ws D) al N 0 ++ D) ∧ Good n Ws ([] ++ keptFrom up n now (freeOf Ws D) al N 0 ++ D)
    rw [List.nil_append, keptFrom_zero]
    exact kept_good hD N
  | succ k ih =>
    obtain ⟨h1, h2⟩ := ih (by omega)
    have hA : fA up n Ws now (freeOf Ws D) al N k = freeOf Ws (bkT up n Ws now D al N k) ∧ Good n Ws (bkT up n Ws now D al N k) := by
      rw [keptFrom_step _ (show k < N by omega)] at h1 h2
      unfold fA gB
      cases hb : kB up n now (freeOf Ws D) al k with
      | false =>
        rw [hb, if_neg (by decide), List.nil_append] at h1 h2
        rw [if_neg (by decide)]
        exact ⟨h1, h2⟩
      | true =>
        rw [hb, if_pos rfl] at h1 h2
        rw [if_pos rfl]
        have p : (promTo up n Ws now (freeOf Ws D) al N k ++ ([bkK now al k] ++ keptFrom up n now (freeOf Ws D) al N (k + 1)) ++ D).Perm (bkK now al k :: bkT up n Ws now D al N k) := by
          unfold bkT
          rw [List.append_assoc, List.append_assoc, List.append_assoc]
          exact List.perm_middle
        rw [h1, freeOf_perm Ws p]
        have h3 := h2.perm p
        exact ⟨gv_good h3, h3.tail⟩
    obtain ⟨h3, h4⟩ := hA
    rw [tF_succ, promTo_step]
    by_cases hs : 0 ≤ (slot up n Ws now (freeOf Ws D) al N k).t
    · rw [if_pos hs, if_pos hs]
      obtain ⟨k1, k2⟩ := slt_found hs
      have h5 := bk_good h3 h4 (fnd_take k1 k2)
      have p : (bkS up n Ws now (freeOf Ws D) al N k :: bkT up n Ws now D al N k).Perm (promTo up n Ws now (freeOf Ws D) al N k ++ [bkS up n Ws now (freeOf Ws D) al N k] ++ keptFrom up n now (freeOf Ws D) al N (k + 1) ++ D) := by
        unfold bkT
        rw [List.append_assoc, List.append_assoc, List.append_assoc]
        exact List.perm_middle.symm
      rw [← freeOf_perm Ws p]
      exact ⟨h5.1, h5.2.perm p⟩
    · rw [if_neg hs, if_neg hs, List.append_nil]
      exact ⟨h3, h4⟩
theorem turn_fA (hD : Good n Ws D) {k : Nat} (hk : k < N) : fA up n Ws now (freeOf Ws D) al N k = freeOf Ws (bkT up n Ws now D al N k) ∧ Good n Ws (bkT up n Ws now D al N k) ∧ (kB up n now (freeOf Ws D) al k = true → Good n Ws (bkK now al k :: bkT up n Ws now D al N k)) := by
  obtain ⟨h1, h2⟩ := turn_good (up := up) (now := now) (al := al) hD k (Nat.le_of_lt hk)
  rw [keptFrom_step _ hk] at h1 h2
  unfold fA gB
  cases hb : kB up n now (freeOf Ws D) al k with
  | false =>
    rw [hb, if_neg (by decide), List.nil_append] at h1 h2
    rw [if_neg (by decide)]
    exact ⟨h1, h2, fun h => by cases h⟩
  | true =>
    rw [hb, if_pos rfl] at h1 h2
    rw [if_pos rfl]
    have p : (promTo up n Ws now (freeOf Ws D) al N k ++ ([bkK now al k] ++ keptFrom up n now (freeOf Ws D) al N (k + 1)) ++ D).Perm (bkK now al k :: bkT up n Ws now D al N k) := by
      unfold bkT
      rw [List.append_assoc, List.append_assoc, List.append_assoc]
      exact List.perm_middle
    have h3 := h2.perm p
    refine ⟨?_, h3.tail, fun _ => h3⟩
    rw [h1, freeOf_perm Ws p]
    exact gv_good h3
end
end Go.Proofs.Ythkofnahimlijaa
namespace Go.Proofs.Ythkofnahimlijaa
open Go Go.RowKit
/-- A hold. -/
structure Hd where
  G : Option Addr
  gc : Nat
  g : List Int
  v : V4
  u : Int
def Hd.bk (now : Int) (h : Hd) : Bk := ⟨h.g, now, max h.u (now + 1), h.v⟩
section
variable (n : Nat) (now : Int) (F0 : Nat → Int → V4) (hl : Nat → Hd)
noncomputable def hFl : Nat → (Nat → Int → V4)
  | 0 => F0
  | k + 1 => pkF n (hFl k) (hl k).g now (max (hl k).u (now + 1)) (hl k).v
noncomputable def hE : Nat → Int
  | 0 => 0
  | k + 1 => if hE k = 0 then pkE n (hFl n now F0 hl k) (hl k).g now (max (hl k).u (now + 1)) (hl k).v else hE k
def hTo (k : Nat) : List Bk := ((List.range k).map fun j => (hl j).bk now).reverse
end
theorem hE_stays {n : Nat} {now : Int} {F0 : Nat → Int → V4} {hl : Nat → Hd} {k : Nat} (h : hE n now F0 hl k ≠ 0) (d : Nat) : hE n now F0 hl (k + d) = hE n now F0 hl k := by
  induction d with
  | zero => rfl
  | succ d ih =>
    show (if hE n now F0 hl (k + d) = 0 then _ else hE n now F0 hl (k + d)) = _
    rw [if_neg (by rw [ih]; exact h), ih]
theorem hE_zero {n : Nat} {now : Int} {F0 : Nat → Int → V4} {hl : Nat → Hd} {k j : Nat} (h : hE n now F0 hl k = 0) (hj : j ≤ k) : hE n now F0 hl j = 0 := by
  cases e : decide (hE n now F0 hl j = 0) with
  | true => exact of_decide_eq_true e
  | false =>
    have h1 := of_decide_eq_false e
    have := hE_stays h1 (k - j)
    rw [show j + (k - j) = k by omega, h] at this
    exact absurd this.symm h1
theorem hTo_succ (now : Int) (hl : Nat → Hd) (k : Nat) : hTo now hl (k + 1) = (hl k).bk now :: hTo now hl k := by
  unfold hTo
  rw [List.range_succ, List.map_append, List.reverse_append]
  rfl
theorem hold_good {n : Nat} {Ws : Nat → V4} {now : Int} {D : List Bk} {hl : Nat → Hd} (hD : Good n Ws D) {k : Nat} (h : hE n now (freeOf Ws D) hl k = 0) : hFl n now (freeOf Ws D) hl k = freeOf Ws (hTo now hl k ++ D) ∧ Good n Ws (hTo now hl k ++ D) := by
  induction k with
  | zero => exact ⟨rfl, hD⟩
  | succ k ih =>
    have h0 := hE_zero h (Nat.le_succ k)
    obtain ⟨h1, h2⟩ := ih h0
    have hk : pkE n (hFl n now (freeOf Ws D) hl k) (hl k).g now (max (hl k).u (now + 1)) (hl k).v = 0 := by
      have h' := h
      unfold hE at h'
      rwa [if_pos h0] at h'
    rw [h1] at hk
    have h3 := good_pk h2 hk
    rw [hTo_succ]
    refine ⟨?_, h3⟩
    show pkF n (hFl n now (freeOf Ws D) hl k) (hl k).g now (max (hl k).u (now + 1)) (hl k).v = _
    rw [h1]
    exact (pk_good h3).2
theorem hold_ok {n : Nat} {Ws : Nat → V4} {now : Int} {D : List Bk} {hl : Nat → Hd} {k : Nat} (hD : Good n Ws (hTo now hl k ++ D)) : hE n now (freeOf Ws D) hl k = 0 := by
  induction k with
  | zero => rfl
  | succ k ih =>
    rw [hTo_succ] at hD
    have h1 := ih (Good.tail hD)
    have h2 := (hold_good (Good.right (D := hTo now hl (k + 1)) (E := D) (by rw [hTo_succ]; exact hD)) h1).1
    unfold hE
    rw [if_pos h1, h2]
    exact (pk_good hD).1
/-- May the pool be? -/
def WhB (xs : List V4) : Bool := decide (xs.length ≤ 16) && xs.all V4.okB
def wsF (xs : List V4) : Nat → V4 := fun i => xs.getD i V4.z
/-- What a book's opening answers. -/
noncomputable def opnE (xs : List V4) (up : List Bool) (now : Int) (hl : Nat → Hd) (M : Nat) : Int :=
  if (WhB xs && decide (up.length = xs.length) && decide (0 ≤ now ∧ now < 1099511627776)) = true then hE xs.length now (fun i _ => wsF xs i) hl M else 1
theorem wsF_ok {xs : List V4} (h : WhB xs = true) : ∀ i, i < xs.length → (wsF xs i).ok := by
  intro i hi
  unfold WhB at h
  rw [Bool.and_eq_true, List.all_eq_true] at h
  unfold wsF
  have e : xs.getD i V4.z = xs[i] := by simp [List.getD, hi]
  rw [e]
  exact (V4.okB_iff _).1 (h.2 _ (List.getElem_mem hi))
theorem opnE_zero {xs : List V4} {up : List Bool} {now : Int} {hl : Nat → Hd} {M : Nat} (h : opnE xs up now hl M = 0) : WhB xs = true ∧ up.length = xs.length ∧ 0 ≤ now ∧ now < 1099511627776 ∧ hE xs.length now (freeOf (wsF xs) []) hl M = 0 := by
  unfold opnE at h
  split at h
  · next h1 =>
    simp only [Bool.and_eq_true, decide_eq_true_eq] at h1
    refine ⟨h1.1.1, h1.1.2, h1.2.1, h1.2.2, ?_⟩
    rw [freeOf_nil]
    exact h
  · cases h
theorem opnE_up {xs : List V4} {up up' : List Bool} (h : up.length = up'.length) (now : Int) (hl : Nat → Hd) (M : Nat) : opnE xs up now hl M = opnE xs up' now hl M := by
  unfold opnE
  rw [h]
end Go.Proofs.Ythkofnahimlijaa
namespace Go.Proofs.Ythkofnahimlijaa
open Go Go.RowKit
def IxR (xs : List Int) (y r : Int) : Prop := 0 ≤ r ↔ xs.contains y = true
theorem index_any (A : Option Addr) (cap : Nat) (xs : List Int) (y : Int) (w : World) (hN : Ns w A xs) (hl : xs.length ≤ 9223372036854775807) : Calls Try.prog 71 #[.slice A xs.length cap, .int .i64 y] w fun e w' => (∃ r : Int, e = .returned (.int .i64 r) ∧ IxR xs y r) ∧ w = w' := by
  have HN := hid hN
  obtain ⟨m, hm⟩ : ∃ m, m = xs.length := ⟨_, rfl⟩
  rw [← hm] at hl ⊢
  have HM := hid hm
  clear hN hm
  go_enter Try.func71, Try.ntmps71
  go_wp2_with fail
  go_loop [8] (fun x => ∃ k : Nat, k ≤ m ∧ x = .int .i64 k ∧ ∀ (j : Nat) z, j < k → xs[j]? = some z → z ≠ y) (fun x => m - (intOf x).toNat)
  case atStart => exact ⟨0, Nat.zero_le _, rfl, fun j z hj => by omega⟩
  case round =>
    obtain ⟨k, hk, rfl, hr⟩ := hrel
    have HR := hid hr
    clear hr
    by_cases hlt : k < m
    · have hlt' : (k : Int) < (m : Int) := by omega
      obtain ⟨x, hx⟩ : ∃ x, xs[k]? = some x := ⟨_, List.getElem?_eq_getElem (by have := HM.out; omega)⟩
      obtain ⟨b, off, rfl, hc⟩ := HN.out.at hx
      have c0 := hc k x hx
      have HX := hid hx
      clear hc hx
      by_cases hxy : x = y
      · subst hxy
        have hr : xs.contains x = true := by
          rw [List.contains_iff_mem]
          exact List.mem_of_getElem? HX.out
        have HR2 := hid hr
        clear hr
        go_wp2_with fail
        go_returns
        exact ⟨⟨k, rfl, (⟨fun _ => HR2.out, fun _ => by omega⟩ : (0 : Int) ≤ (k : Int) ↔ xs.contains x = true)⟩, rfl⟩
      · have hb : (y == x) = false := by simpa using fun h : y = x => hxy h.symm
        have HXY := hid hxy
        clear hxy
        go_wp2_with fail
        go_round
        case rel =>
          refine ⟨k + 1, by omega, by go_num, fun j z hj hz => ?_⟩
          rcases Nat.lt_or_ge j k with h | h
          · exact HR.out j z h hz
          · obtain rfl : j = k := by omega
            rw [HX.out] at hz
            cases hz
            exact HXY.out
        case measure => simp [intOf]; omega
    · obtain rfl : k = m := by omega
      have hr : ¬ xs.contains y = true := by
        intro hc
        rw [List.contains_iff_mem] at hc
        obtain ⟨j, hj⟩ := List.getElem?_of_mem hc
        exact absurd rfl (HR.out j y (by have := (List.getElem?_eq_some_iff.1 hj).1; have := HM.out; omega) hj)
      have HR2 := hid hr
      clear hr
      go_wp2_with fail
      go_returns
      exact ⟨⟨-1, rfl, (⟨fun h => absurd h (by decide), fun h => absurd h HR2.out⟩ : (0 : Int) ≤ -1 ↔ xs.contains y = true)⟩, rfl⟩
theorem contains_any (A : Option Addr) (cap : Nat) (xs : List Int) (y : Int) (w : World) (hN : Ns w A xs) (hl : xs.length ≤ 9223372036854775807) : Calls Try.prog 47 #[.slice A xs.length cap, .int .i64 y] w fun e w' => e = .returned (.bool (xs.contains y)) ∧ w = w' := by
  have K := hid (index_any A cap xs y w hN hl)
  obtain ⟨cb, hcb⟩ : ∃ cb, cb = xs.contains y := ⟨_, rfl⟩
  have HC := hid hcb
  rw [← hcb]
  clear hN hcb
  go_enter Try.func47, Try.ntmps47
  go_wp2_with fail
  refine K.out.mono ?_
  rintro _ w1 ⟨⟨r, rfl, hr⟩, rfl⟩
  have HR := hid hr
  clear hr
  go_wp2_with fail
  all_goals go_returns
  all_goals exact ⟨ret_bool (by rw [HC.out, Bool.eq_iff_iff]; refine Iff.trans ?_ HR.out; simp), rfl⟩
/-- Truths that lie in memory. -/
def Bs (w : World) (A : Option Addr) (xs : List Bool) : Prop := xs = [] ∨ ∃ b off, A = some ⟨b, off, none⟩ ∧ b < w.heap.size ∧ ∀ (i : Nat) x, xs[i]? = some x → w.cell? ⟨b, off + i, none⟩ = some (.bool x)
theorem Bs.keep {w w' : World} {A : Option Addr} {xs : List Bool} (h : Bs w A xs) (hb : Below w.heap.size w w') : Bs w' A xs := by
  rcases h with e | ⟨b, off, rfl, hlt, hc⟩
  · exact .inl e
  · exact .inr ⟨b, off, rfl, Nat.lt_of_lt_of_le hlt hb.size, fun i x hx => by rw [hb.cell (p := ⟨b, off + i, none⟩) hlt]; exact hc i x hx⟩
theorem Bs.at {w : World} {A : Option Addr} {xs : List Bool} (h : Bs w A xs) {i : Nat} {x : Bool} (hi : xs[i]? = some x) : ∃ b off, A = some ⟨b, off, none⟩ ∧ w.cell? ⟨b, off + i, none⟩ = some (.bool x) := by
  rcases h with rfl | ⟨b, off, rfl, _, hc⟩
  · simp at hi
  · exact ⟨b, off, rfl, hc i x hi⟩
/-- An ask as it is handed on. -/
def Ak.val (a : Ak) : Value := .agg #[.int .i64 a.id, .slice a.A a.pl.length a.cap, .int .i64 a.m, .int .i64 a.v.a, .int .i64 a.v.b, .int .i64 a.v.c, .int .i64 a.v.d, .int .i64 a.k, .int .i64 a.s, .slice a.G a.g.length a.gc]
def Ak.obj (a : Ak) : Obj := .cells #[.int .i64 a.id, .slice a.A a.pl.length a.cap, .int .i64 a.m, .int .i64 a.v.a, .int .i64 a.v.b, .int .i64 a.v.c, .int .i64 a.v.d, .int .i64 a.k, .int .i64 a.s, .slice a.G a.g.length a.gc] 42
theorem ten {w : World} {B : Nat} {a0 a1 a2 a3 a4 a5 a6 a7 a8 a9 : Value} {T : TypeId} (h : w.heap[B]? = some (.cells #[a0, a1, a2, a3, a4, a5, a6, a7, a8, a9] T (0, 0))) :
    w.cell? ⟨B, 0, none⟩ = some a0 ∧ w.cell? ⟨B, 1, none⟩ = some a1 ∧ w.cell? ⟨B, 2, none⟩ = some a2 ∧ w.cell? ⟨B, 3, none⟩ = some a3 ∧ w.cell? ⟨B, 4, none⟩ = some a4 ∧ w.cell? ⟨B, 5, none⟩ = some a5 ∧ w.cell? ⟨B, 6, none⟩ = some a6 ∧ w.cell? ⟨B, 7, none⟩ = some a7 ∧ w.cell? ⟨B, 8, none⟩ = some a8 ∧ w.cell? ⟨B, 9, none⟩ = some a9 := by
  refine ⟨?_, ?_, ?_, ?_, ?_, ?_, ?_, ?_, ?_, ?_⟩
  · rw [cell_of h 0]; rfl
  · rw [cell_of h 1]; rfl
  · rw [cell_of h 2]; rfl
  · rw [cell_of h 3]; rfl
  · rw [cell_of h 4]; rfl
  · rw [cell_of h 5]; rfl
  · rw [cell_of h 6]; rfl
  · rw [cell_of h 7]; rfl
  · rw [cell_of h 8]; rfl
  · rw [cell_of h 9]; rfl
theorem pright_any (a : Ak) (w : World) : Calls Try.prog 45 #[.agg #[.int .i64 a.id, .slice a.A a.pl.length a.cap, .int .i64 a.m, .int .i64 a.v.a, .int .i64 a.v.b, .int .i64 a.v.c, .int .i64 a.v.d, .int .i64 a.k, .int .i64 a.s, .slice a.G a.g.length a.gc]] w fun e w' => e = .returned (.bool (askB a)) ∧ Below w.heap.size w w' := by
  have X0 := hid (heap_new w (.cells #[.int .i64 a.id, .slice a.A a.pl.length a.cap, .int .i64 a.m, .int .i64 a.v.a, .int .i64 a.v.b, .int .i64 a.v.c, .int .i64 a.v.d, .int .i64 a.k, .int .i64 a.s, .slice a.G a.g.length a.gc] 42))
  have g0 := hid (show Below w.heap.size w (w.alloc (.cells #[.int .i64 a.id, .slice a.A a.pl.length a.cap, .int .i64 a.m, .int .i64 a.v.a, .int .i64 a.v.b, .int .i64 a.v.c, .int .i64 a.v.d, .int .i64 a.k, .int .i64 a.s, .slice a.G a.g.length a.gc] 42)) from by go_grown)
  have KR := hid (right4 a.v)
  obtain ⟨x0, x1, x2, x3, x4, x5, x6, x7, x8, x9⟩ := ten X0.out
  obtain ⟨rb, hrb⟩ : ∃ rb, rb = askB a := ⟨_, rfl⟩
  have HB := hid hrb
  obtain ⟨ob, hob⟩ : ∃ ob, ob = a.v.okB := ⟨_, rfl⟩
  have HO := hid hob
  rw [← hrb]
  rw [← hob] at KR
  clear hrb hob
  by_cases h1 : 0 < a.m
  · by_cases h2 : 0 < a.k
    · have e : rb = ob := by rw [HB.out, HO.out, askB, decide_eq_true ⟨h1, h2⟩, Bool.true_and]
      have HE := hid e
      have d1 : decide (0 < a.m) = true := decide_eq_true h1
      have d2 : decide (0 < a.k) = true := decide_eq_true h2
      clear e
      go_enter Try.func45, Try.ntmps45
      go_wp2_with (go_at_call 34; (with_reducible refine (KR.out _).mono ?_); rintro _ w3 ⟨rfl, hb⟩; have g3 := hid (below_step g0.out g0.out.size hb); clear hb)
      go_returns
      exact ⟨ret_bool HE.out.symm, g3.out⟩
    · have e : rb = false := by rw [HB.out, askB, decide_eq_false (fun h => h2 h.2), Bool.false_and]
      have HE := hid e
      have d1 : decide (0 < a.m) = true := decide_eq_true h1
      have d2 : decide (0 < a.k) = false := decide_eq_false h2
      clear e
      go_enter Try.func45, Try.ntmps45
      go_wp2_with fail
      go_returns
      exact ⟨ret_bool HE.out.symm, g0.out⟩
  · have e : rb = false := by rw [HB.out, askB, decide_eq_false (fun h => h1 h.1), Bool.false_and]
    have HE := hid e
    have d1 : decide (0 < a.m) = false := decide_eq_false h1
    clear e
    go_enter Try.func45, Try.ntmps45
    go_wp2_with fail
    go_returns
    exact ⟨ret_bool HE.out.symm, g0.out⟩
theorem own_mono {w : World} {base base' : Nat} {e : TypeId} {size : Nat} {v : Value} {n : Nat} {xs : List Value} (h : w.ownsRow base e size v n xs) (hb : base' ≤ base) : w.ownsRow base' e size v n xs := by
  obtain ⟨h1, h2 | ⟨g, cap, cur, rfl, h3, h4⟩⟩ := h
  · exact ⟨h1, .inl h2⟩
  · exact ⟨h1, .inr ⟨g, cap, cur, rfl, Nat.le_trans hb h3, h4⟩⟩
theorem tri {w : World} {B : Nat} {a0 a1 a2 : Value} {T : TypeId} (h : w.heap[B]? = some (.cells #[a0, a1, a2] T (0, 0))) : w.cell? ⟨B, 0, none⟩ = some a0 ∧ w.cell? ⟨B, 1, none⟩ = some a1 ∧ w.cell? ⟨B, 2, none⟩ = some a2 := by
  refine ⟨?_, ?_, ?_⟩
  · rw [cell_of h 0]; rfl
  · rw [cell_of h 1]; rfl
  · rw [cell_of h 2]; rfl
def plK (up : List Bool) (pl : List Int) (k : Nat) : List Nat := (List.range k).filter fun i => up.getD i false && pl.contains (i : Int)
theorem plK_succ (up : List Bool) (pl : List Int) (k : Nat) : plK up pl (k + 1) = if (up.getD k false && pl.contains (k : Int)) = true then plK up pl k ++ [k] else plK up pl k := by
  unfold plK
  generalize hQ : (fun i : Nat => up.getD i false && pl.contains (i : Int)) = Q
  have e : (up.getD k false && pl.contains (k : Int)) = Q k := by rw [← hQ]
  rw [e, List.range_succ, List.filter_append]
  cases h : Q k <;> simp [h]
theorem plK_le (up : List Bool) (pl : List Int) (k : Nat) : (plK up pl k).length ≤ k := by
  have := List.length_filter_le (fun i => up.getD i false && pl.contains (i : Int)) (List.range k)
  simpa [plK] using this
def PlPost (w : World) (up : List Bool) (pl : List Int) (e : Ending) (w' : World) : Prop := ∃ v', e = .returned v' ∧ w'.ownsRow w.heap.size 3 1 v' (plcN up pl).length (nums (plcN up pl)) ∧ Below w.heap.size w w'
set_option maxHeartbeats 2000000 in
theorem places_any (bb : Nat) (pv : Value) (U : Option Addr) (ucap : Nat) (up : List Bool) (now : Int) (a : Ak) (w : World) (hB : w.heap[bb]? = some (.cells #[pv, .slice U up.length ucap, .int .i64 now] 76 (0, 0))) (hU : Bs w U up) (hul : up.length ≤ 1000) (hP : Ns w a.A a.pl) (hpl : a.pl.length ≤ 9223372036854775807) :
    Calls Try.prog 46 #[.pointer (some ⟨bb, 0, none⟩), .agg #[.int .i64 a.id, .slice a.A a.pl.length a.cap, .int .i64 a.m, .int .i64 a.v.a, .int .i64 a.v.b, .int .i64 a.v.c, .int .i64 a.v.d, .int .i64 a.k, .int .i64 a.s, .slice a.G a.g.length a.gc]] w (PlPost w up a.pl) := by
  have X0 := hid (heap_new w (.cells #[.int .i64 a.id, .slice a.A a.pl.length a.cap, .int .i64 a.m, .int .i64 a.v.a, .int .i64 a.v.b, .int .i64 a.v.c, .int .i64 a.v.d, .int .i64 a.k, .int .i64 a.s, .slice a.G a.g.length a.gc] 42))
  have g0 := hid (show Below w.heap.size w (w.alloc (.cells #[.int .i64 a.id, .slice a.A a.pl.length a.cap, .int .i64 a.m, .int .i64 a.v.a, .int .i64 a.v.b, .int .i64 a.v.c, .int .i64 a.v.d, .int .i64 a.k, .int .i64 a.s, .slice a.G a.g.length a.gc] 42)) from by go_grown)
  have HB := hid hB
  have HU := hid hU
  have KC := hid (fun (y : Int) w1 (hb : Below w.heap.size w w1) => contains_any a.A a.cap a.pl y w1 (hP.keep hb) hpl)
  obtain ⟨_, b1, _⟩ := tri (keep0 g0.out HB.out)
  obtain ⟨i0, hi, hz0, hz1, hz2⟩ := int_info
  obtain ⟨m, hm⟩ : ∃ m, m = up.length := ⟨_, rfl⟩
  have HM := hid hm
  rw [← hm] at hul b1
  clear hB hU hP hpl hm
  go_enter Try.func46, Try.ntmps46
  go_wp2_with fail
  go_loopw [5, 13] (fun o x wr => ∃ k : Nat, k ≤ m ∧ x = .int .i64 k ∧ wr.ownsRow (w.heap.size + 1) 3 1 o (plK up a.pl k).length (nums (plK up a.pl k)) ∧ Below w.heap.size w wr ∧ wr.heap[w.heap.size]? = some (.cells #[.int .i64 a.id, .slice a.A a.pl.length a.cap, .int .i64 a.m, .int .i64 a.v.a, .int .i64 a.v.b, .int .i64 a.v.c, .int .i64 a.v.d, .int .i64 a.k, .int .i64 a.s, .slice a.G a.g.length a.gc] 42 (0, 0))) (fun _ x _ => m - (intOf x).toNat)
  case atStart => exact ⟨0, Nat.zero_le _, rfl, World.ownsRow_nil _ _ _ _, g0.out, X0.out⟩
  case round =>
    clear X0 g0 b1
    obtain ⟨k, hk, rfl, ho, hg, hx⟩ := hrel
    have HO := hid ho
    have HG := hid hg
    have HX := hid hx
    clear ho hg hx
    have hLl := plK_le up a.pl k
    by_cases hlt : k < m
    · have hlt' : (k : Int) < (m : Int) := by omega
      obtain ⟨u, hu⟩ : ∃ u, up[k]? = some u := ⟨_, List.getElem?_eq_getElem (by have := HM.out; omega)⟩
      have hgd : up.getD k false = u := by simp [List.getD, hu]
      obtain ⟨b, off, rfl, c0⟩ := (HU.out.keep HG.out).at hu
      obtain ⟨_, x1, _⟩ := ten HX.out
      have HL := hid (plK_succ up a.pl k)
      rw [hgd] at HL
      clear hu hgd
      cases u with
      | false =>
        rw [Bool.false_and, if_neg (by decide)] at HL
        go_wp2_with fail
        go_roundw
        case rel => exact ⟨k + 1, by omega, by go_num, by rw [HL.out]; exact HO.out, HG.out, HX.out⟩
        case measure => simp [intOf]; omega
      | true =>
        rw [Bool.true_and] at HL
        have KI := hid (KC.out (k : Int) wr HG.out)
        cases hc : a.pl.contains (k : Int) with
        | false =>
          rw [hc] at HL KI
          rw [if_neg (by decide)] at HL
          clear hc
          go_wp2_with (go_at_call 47; (with_reducible refine KI.out.mono ?_); rintro _ w5 ⟨rfl, rfl⟩)
          go_roundw
          case rel => exact ⟨k + 1, by omega, by go_num, by rw [HL.out]; exact HO.out, HG.out, HX.out⟩
          case measure => simp [intOf]; omega
        | true =>
          rw [hc] at HL KI
          rw [if_pos rfl] at HL
          clear hc
          obtain ⟨L, hL⟩ : ∃ L, L = plK up a.pl k := ⟨_, rfl⟩
          rw [← hL] at HO HL hLl
          clear hL
          have OA := hid (HO.out.alloc (.cells #[.int .i64 (k : Nat)] 3))
          have NA := hid (World.news_of_block (heap_new wr (.cells #[.int .i64 (k : Nat)] 3)))
          have gA := hid (HG.out.alloc HG.out.size (.cells #[.int .i64 (k : Nat)] 3))
          have XA := hid (heapA (o := .cells #[.int .i64 (k : Nat)] 3) HX.out)
          have hsz := lt_of HX.out
          go_wp2_with (first | (go_at_call 47; (with_reducible refine KI.out.mono ?_); rintro _ w5 ⟨rfl, rfl⟩) | (at_builtin; refine wpList_append_own _ rfl _ _ 31 rfl (w.heap.size + 1) 3 i0 _ 1 8 Try.underlying31 hi hz0 hz1 hz2 rfl (by decide) _ _ _ rfl OA.out ⟨wr.heap.size, 0, none⟩ 1 1 [.int .i64 (k : Nat)] rfl rfl NA.out (fun u hu => by simp at hu; rw [hu]; rfl) (by unfold maxLen; omega) (by omega) (by simp; omega) ?_; rintro v' w' ho hgr hv; have O2 := hid ho; have R2 := hid hgr; clear ho hgr hv))
          go_roundw
          case rel =>
            refine ⟨k + 1, by omega, by go_num, ?_, ?_, ?_⟩
            · rw [HL.out]
              have := O2.out
              simpa [nums] using this
            · exact below_own gA.out R2.out OA.out (Nat.le_succ _) (by simp; omega)
            · exact gb_keep R2.out XA.out (own_ne OA.out (Nat.lt_succ_self _))
          case measure => simp [intOf]; omega
    · obtain rfl : k = m := by omega
      have e : plK up a.pl k = plcN up a.pl := by rw [HM.out]; rfl
      rw [e] at HO
      clear e
      go_wp2_with fail
      go_returns
      exact ⟨_, rfl, own_mono HO.out (Nat.le_succ _), HG.out⟩
end Go.Proofs.Ythkofnahimlijaa
namespace Go.Proofs.Ythkofnahimlijaa
open Go Go.RowKit
/-- A book at block bb: its pool, which nodes are up, the tick. -/
structure Bo (w : World) (bb q : Nat) (sv : Value) (n : Nat) (ps : Nat → Nat) (Ws : Nat → V4) (fs : Nat → Int → V4) (U : Option Addr) (ucap : Nat) (up : List Bool) (now : Int) : Prop where
  h : w.heap[bb]? = some (.cells #[.pointer (some ⟨q, 0, none⟩), .slice U up.length ucap, .int .i64 now] 76 (0, 0))
  p : PL w q sv n ps Ws fs
  u : Bs w U up
  ap : up ≠ [] → Apart U n ps
  l : up.length ≤ 1000
theorem Bo.keep {w w' : World} {bb q : Nat} {sv : Value} {n : Nat} {ps : Nat → Nat} {Ws : Nat → V4} {fs : Nat → Int → V4} {U : Option Addr} {ucap : Nat} {up : List Bool} {now : Int} (h : Bo w bb q sv n ps Ws fs U ucap up now) (hb : Below w.heap.size w w') : Bo w' bb q sv n ps Ws fs U ucap up now :=
  ⟨keep0 hb h.h, h.p.keep hb, h.u.keep hb, h.ap, h.l⟩
theorem PL.apart {w : World} {q : Nat} {sv : Value} {n : Nat} {ps : Nat → Nat} {Ws : Nat → V4} {fs : Nat → Int → V4} (h : PL w q sv n ps Ws fs) {k : Nat} {cs : Array Value} {t : TypeId} {fr : Nat × Nat} (hk : w.heap[k]? = some (.cells cs t fr)) (ht : t ≠ 108) : ∀ i, i < n → k ≠ ps i := by
  intro i hi e
  obtain ⟨cs', hc⟩ := (h.p i hi).type
  rw [e, hc] at hk
  simp at hk
  exact ht hk.2.1.symm
theorem frp_keep {w w' : World} {n : Nat} {ps : Nat → Nat} (hf : FrP w w' n ps) {k : Nat} {c : Obj} (hk : w.heap[k]? = some c) (hn : ∀ i, i < n → k ≠ ps i) : w'.heap[k]? = some c := (hf.block k (lt_of hk) hn).trans hk
theorem Bs.fr {w w' : World} {A : Option Addr} {xs : List Bool} {n : Nat} {ps : Nat → Nat} (h : Bs w A xs) (hb : FrP w w' n ps) (ha : xs ≠ [] → Apart A n ps) : Bs w' A xs := by
  by_cases hx : xs = []
  · exact .inl hx
  replace ha := ha hx
  rcases h with e | ⟨b, off, rfl, hlt, hc⟩
  · exact .inl e
  · refine .inr ⟨b, off, rfl, Nat.lt_of_lt_of_le hlt hb.size, fun i x hx => ?_⟩
    have h1 := hb.block b hlt (fun j hj => ha _ rfl j hj)
    have h2 := hc i x hx
    simp only [World.cell?, h1] at h2 ⊢
    exact h2
theorem Bo.fr {w w' : World} {bb q : Nat} {sv : Value} {n : Nat} {ps : Nat → Nat} {Ws : Nat → V4} {fs fs' : Nat → Int → V4} {U : Option Addr} {ucap : Nat} {up : List Bool} {now : Int} (h : Bo w bb q sv n ps Ws fs U ucap up now) (hp : PL w' q sv n ps Ws fs') (hf : FrP w w' n ps) : Bo w' bb q sv n ps Ws fs' U ucap up now :=
  ⟨frp_keep hf h.h (h.p.apart h.h (by decide)), hp, h.u.fr hf h.ap, h.ap, h.l⟩
theorem bkB_no {up : List Bool} {n : Nat} {F : Nat → Int → V4} {a : Ak} {xs : List Int} {t : Int} (h : ¬ Bk1 up a xs t) : bkB up n F a xs t = false ∧ bkF up n F a xs t = F := by
  have e : bkB up n F a xs t = false := by
    cases hb : bkB up n F a xs t
    · rfl
    · exact absurd ((bkB_iff _ _ _ _ _ _).1 hb).1 h
  refine ⟨e, ?_⟩
  unfold bkF
  rw [if_neg (by rw [e]; decide)]
theorem bkB_yes {up : List Bool} {n : Nat} {F : Nat → Int → V4} {a : Ak} {xs : List Int} {t : Int} (h : Bk1 up a xs t) : bkB up n F a xs t = (pkE n F xs t (t + a.k) a.v == 0) ∧ bkF up n F a xs t = pkF n F xs t (t + a.k) a.v := by
  have e : bkB up n F a xs t = (pkE n F xs t (t + a.k) a.v == 0) := by
    rw [Bool.eq_iff_iff, bkB_iff]
    simp [h]
  refine ⟨e, ?_⟩
  unfold bkF pkF
  rw [e]
  by_cases h0 : pkE n F xs t (t + a.k) a.v = 0
  · rw [if_pos (by simp [h0]), if_pos h0]
  · rw [if_neg (by simpa using h0), if_neg h0]
theorem own_ns {w : World} {B : Nat} {v : Value} {l : List Nat} (h : w.ownsRow B 3 1 v l.length (nums l)) : ∃ A cap, v = .slice A (intL l).length cap ∧ Ns w A (intL l) ∧ (A = none ∨ ∃ b, A = some ⟨b, 0, none⟩ ∧ B ≤ b) ∧ l.length ≤ cap := by
  rcases Nl.of_any h with ⟨rfl, rfl⟩ | ⟨b, cap, rfl, hB, hn⟩
  · exact ⟨none, 0, rfl, .inl rfl, .inl rfl, Nat.le_refl _⟩
  · exact ⟨some ⟨b, 0, none⟩, cap, by rw [intL_len], hn.ns, .inr ⟨b, rfl, hB⟩, hn.choose_spec.2.2.1⟩
theorem own_ns2 {w w1 : World} {v : Value} {l : List Nat} (h : w1.ownsRow w.heap.size 3 1 v l.length (nums l)) : ∃ A cap, v = .slice A (intL l).length cap ∧ Ns w1 A (intL l) := by
  obtain ⟨A, cap, e, h1, _⟩ := own_ns h
  exact ⟨A, cap, e, h1⟩
def TkPost (w : World) (bb q : Nat) (sv : Value) (n : Nat) (ps : Nat → Nat) (Ws : Nat → V4) (fs : Nat → Int → V4) (U : Option Addr) (ucap : Nat) (up : List Bool) (now : Int) (a : Ak) (xs : List Int) (t : Int) (e : Ending) (w' : World) : Prop :=
  e = .returned (.bool (bkB up n fs a xs t)) ∧ Bo w' bb q sv n ps Ws (bkF up n fs a xs t) U ucap up now ∧ FrP w w' n ps
set_option maxRecDepth 100000 in
set_option maxHeartbeats 4000000 in
theorem ptake_any (bb q : Nat) (sv : Value) (n : Nat) (ps : Nat → Nat) (Ws : Nat → V4) (fs : Nat → Int → V4) (U : Option Addr) (ucap : Nat) (up : List Bool) (now : Int) (a : Ak) (A : Option Addr) (cap : Nat) (xs : List Int) (t : Int) (w : World)
    (h : Bo w bb q sv n ps Ws fs U ucap up now) (hP : Ns w a.A a.pl) (hpl : a.pl.length ≤ 9223372036854775807) (hN : Ns w A xs) (hxl : xs.length ≤ 9223372036854775807) (hap : xs ≠ [] → Apart A n ps) (ht : 0 ≤ t) :
    Calls Try.prog 23 #[.pointer (some ⟨bb, 0, none⟩), .agg #[.int .i64 a.id, .slice a.A a.pl.length a.cap, .int .i64 a.m, .int .i64 a.v.a, .int .i64 a.v.b, .int .i64 a.v.c, .int .i64 a.v.d, .int .i64 a.k, .int .i64 a.s, .slice a.G a.g.length a.gc], .slice A xs.length cap, .int .i64 t] w (TkPost w bb q sv n ps Ws fs U ucap up now a xs t) := by
  have X0 := hid (heap_new w (.cells #[.int .i64 a.id, .slice a.A a.pl.length a.cap, .int .i64 a.m, .int .i64 a.v.a, .int .i64 a.v.b, .int .i64 a.v.c, .int .i64 a.v.d, .int .i64 a.k, .int .i64 a.s, .slice a.G a.g.length a.gc] 42))
  have g0 := hid (show Below w.heap.size w (w.alloc (.cells #[.int .i64 a.id, .slice a.A a.pl.length a.cap, .int .i64 a.m, .int .i64 a.v.a, .int .i64 a.v.b, .int .i64 a.v.c, .int .i64 a.v.d, .int .i64 a.k, .int .i64 a.s, .slice a.G a.g.length a.gc] 42)) from by go_grown)
  have HB := hid h
  have HN := hid hN
  have KR := hid (fun w1 => pright_any a w1)
  have KP := hid (fun w1 (hb : Below w.heap.size w w1) => places_any bb _ U ucap up now a w1 (h.keep hb).h (h.keep hb).u h.l (hP.keep hb) hpl)
  have KT := hid (fun c w1 (hb : Below w.heap.size w w1) => take_all2 q sv n ps Ws fs A cap xs t c a.v w1 (h.keep hb).p (hN.keep hb) hxl hap)
  obtain ⟨m, hm⟩ : ∃ m, m = xs.length := ⟨_, rfl⟩
  have HM := hid hm
  rw [← hm] at hxl KT ⊢
  obtain ⟨x0, x1, x2, x3, x4, x5, x6, x7, x8, x9⟩ := ten X0.out
  have HNO : Hid (¬ Bk1 up a xs t → ∀ w', Below w.heap.size w w' → TkPost w bb q sv n ps Ws fs U ucap up now a xs t (.returned (.bool false)) w') := hid fun hno w' hb => by
    obtain ⟨e1, e2⟩ := bkB_no (n := n) (F := fs) hno
    exact ⟨by rw [e1], by rw [e2]; exact HB.out.keep hb, FrP.of n ps hb⟩
  clear h hN hP hm
  cases hr : askB a with
  | false =>
    have HR := hid (HNO.out (fun h => by rw [h.1] at hr; cases hr))
    rw [hr] at KR
    clear hr
    go_enter Try.func23, Try.ntmps23
    go_wp2_with (go_at_call 45; (with_reducible refine (KR.out _).mono ?_); rintro _ w3 ⟨rfl, hb⟩; have g3 := hid (below_step g0.out g0.out.size hb); clear hb)
    go_returns
    exact HR.out _ g3.out
  | true =>
    rw [hr] at KR
    by_cases h1 : (m : Int) = a.m
    rotate_left
    · have HR := hid (HNO.out (fun h => h1 (by have := h.2.1; rw [← HM.out] at this; exact this)))
      have d1 : ((m : Int) != a.m) = true := by simpa using h1
      have d1' : ((m : Int) == a.m) = false := by simpa using h1
      clear hr h1
      go_enter Try.func23, Try.ntmps23
      go_wp2_with (go_at_call 45; (with_reducible refine (KR.out _).mono ?_); rintro _ w3 ⟨rfl, hb⟩; have g3 := hid (below_step g0.out g0.out.size hb); have X3 := hid (keep0 hb X0.out); obtain ⟨y0, y1, y2, y3, y4, y5, y6, y7, y8, y9⟩ := ten X3.out; clear hb)
      go_returns
      exact HR.out _ g3.out
    have d1 : ((m : Int) != a.m) = false := by simp [h1]
    have d1' : ((m : Int) == a.m) = true := by simp [h1]
    by_cases h2 : t ≤ 1099511627776
    rotate_left
    · have HR := hid (HNO.out (fun h => h2 h.2.2.1))
      have d2 : decide (1099511627776 < t) = true := decide_eq_true (by omega)
      clear hr h1 h2
      go_enter Try.func23, Try.ntmps23
      go_wp2_with (go_at_call 45; (with_reducible refine (KR.out _).mono ?_); rintro _ w3 ⟨rfl, hb⟩; have g3 := hid (below_step g0.out g0.out.size hb); have X3 := hid (keep0 hb X0.out); obtain ⟨y0, y1, y2, y3, y4, y5, y6, y7, y8, y9⟩ := ten X3.out; clear hb)
      go_returns
      exact HR.out _ g3.out
    have d2 : decide (1099511627776 < t) = false := decide_eq_false (by omega)
    by_cases h3 : a.k ≤ 1099511627776
    rotate_left
    · have HR := hid (HNO.out (fun h => h3 h.2.2.2.1))
      have d3 : decide (1099511627776 < a.k) = true := decide_eq_true (by omega)
      clear hr h1 h2 h3
      go_enter Try.func23, Try.ntmps23
      go_wp2_with (go_at_call 45; (with_reducible refine (KR.out _).mono ?_); rintro _ w3 ⟨rfl, hb⟩; have g3 := hid (below_step g0.out g0.out.size hb); have X3 := hid (keep0 hb X0.out); obtain ⟨y0, y1, y2, y3, y4, y5, y6, y7, y8, y9⟩ := ten X3.out; clear hb)
      go_returns
      exact HR.out _ g3.out
    have d3 : decide (1099511627776 < a.k) = false := decide_eq_false (by omega)
    have hk0 : 0 < a.k := by
      unfold askB at hr
      rw [Bool.and_eq_true] at hr
      exact (of_decide_eq_true hr.1).2
    have HRI := hid hr
    have H1 := hid h1
    clear hr h1
    go_enter Try.func23, Try.ntmps23
    go_wp2_with (first
      | (go_at_call 45; (with_reducible refine (KR.out _).mono ?_); rintro _ w3 ⟨rfl, hb⟩; have g3 := hid (below_step g0.out g0.out.size hb); have X3 := hid (keep0 hb X0.out); obtain ⟨y0, y1, y2, y3, y4, y5, y6, y7, y8, y9⟩ := ten X3.out; clear hb)
      | (go_at_call 46; (with_reducible refine (KP.out _ g3.out).mono ?_); rintro _ w4 ⟨pv, rfl, ho, hb⟩; obtain ⟨PA, pcap, rfl, hpn⟩ := own_ns2 ho; have g4 := hid (below_step g3.out g3.out.size hb); have X4 := hid (keep0 hb X3.out); have HPN := hid hpn; clear hb ho hpn))
    have KC := hid (fun (y : Int) => contains_any PA pcap (intL (plcN up a.pl)) y w4 HPN.out (by rw [intL_len]; have := plK_le up a.pl up.length; have := HB.out.l; show (plK up a.pl up.length).length ≤ _; omega))
    clear y0 y1 y2 y3 y4 y5 y6 y7 y8 y9
    go_loop [36] (fun x => ∃ k : Nat, k ≤ m ∧ x = .int .i64 k ∧ ∀ (j : Nat) z, j < k → xs[j]? = some z → z ∈ intL (plcN up a.pl)) (fun x => m - (intOf x).toNat)
    case atStart => exact ⟨0, Nat.zero_le _, rfl, fun j z hj => by omega⟩
    case round =>
      obtain ⟨k, hk, rfl, hall⟩ := hrel
      have HALL := hid hall
      clear hall
      by_cases hlt : k < m
      · have hlt' : (k : Int) < (m : Int) := by omega
        obtain ⟨x, hx⟩ : ∃ x, xs[k]? = some x := ⟨_, List.getElem?_eq_getElem (by have := HM.out; omega)⟩
        obtain ⟨b, off, rfl, hc⟩ := (HN.out.keep g4.out).at hx
        have c0 := hc k x hx
        have HX := hid hx
        have KI := hid (KC.out x)
        clear hc hx
        cases hcx : (intL (plcN up a.pl)).contains x with
        | false =>
          have HR := hid (HNO.out (fun h => by
            have h1 := h.2.2.2.2 x (List.mem_of_getElem? HX.out)
            rw [← List.contains_iff_mem, hcx] at h1
            cases h1))
          rw [hcx] at KI
          clear hcx
          go_wp2_with (go_at_call 47; (with_reducible refine KI.out.mono ?_); rintro _ w5 ⟨rfl, rfl⟩)
          go_returns
          exact HR.out _ g4.out
        | true =>
          rw [hcx] at KI
          have HMEM := hid (List.contains_iff_mem.1 hcx)
          clear hcx
          go_wp2_with (go_at_call 47; (with_reducible refine KI.out.mono ?_); rintro _ w5 ⟨rfl, rfl⟩)
          go_round
          case rel =>
            refine ⟨k + 1, by omega, by go_num, fun j z hj hz => ?_⟩
            rcases Nat.lt_or_ge j k with h | h
            · exact HALL.out j z h hz
            · obtain rfl : j = k := by omega
              rw [HX.out] at hz
              cases hz
              exact HMEM.out
          case measure => simp [intOf]; omega
      · obtain rfl : k = m := by omega
        have hB1 : Bk1 up a xs t := ⟨HRI.out, by rw [← HM.out]; exact H1.out, h2, h3, fun x hx => by
          obtain ⟨j, hj⟩ := List.getElem?_of_mem hx
          exact HALL.out j x (by have := (List.getElem?_eq_some_iff.1 hj).1; have := HM.out; omega) hj⟩
        obtain ⟨e1, e2⟩ := bkB_yes (n := n) (F := fs) hB1
        have HE1 := hid e1
        have HE2 := hid e2
        obtain ⟨b0, b1, b2⟩ := tri (HB.out.keep g4.out).h
        obtain ⟨y0, y1, y2, y3, y4, y5, y6, y7, y8, y9⟩ := ten X4.out
        have KTc := hid (KT.out (t + a.k))
        have HWR := hid (show IntKind.i64.wrap (t + a.k) = t + a.k from IntWalk.i64_in _ (by omega))
        generalize pkE n fs xs t (t + a.k) a.v = px at *
        clear hB1 e1 e2
        go_wp2_with fail
        go_region_held3 (fun w' => w'.cell? ⟨bb, 0, none⟩ = some (.pointer (some ⟨q, 0, none⟩)) ∧ w'.cell? ⟨w.heap.size, 3, none⟩ = some (.int .i64 a.v.a) ∧ w'.cell? ⟨w.heap.size, 4, none⟩ = some (.int .i64 a.v.b) ∧ w'.cell? ⟨w.heap.size, 5, none⟩ = some (.int .i64 a.v.c) ∧ w'.cell? ⟨w.heap.size, 6, none⟩ = some (.int .i64 a.v.d) ∧ w'.cell? ⟨w.heap.size, 7, none⟩ = some (.int .i64 a.k)) (first | exact ⟨b0, y3, y4, y5, y6, y7⟩ | exact ⟨bz0, yz3, yz4, yz5, yz6, yz7⟩ | go_keep)
          (first | (go_at_call 16; (try rw [HWR.out]); (refine (KTc.out _ (Below.drew g4.out)).mono ?_); rintro _ w6 ⟨rfl, hp, hf⟩; have P6 := hid hp; have F6 := hid hf; have HB6 : Hid (Bo w6 bb q sv n ps Ws (pkF n fs xs t (t + a.k) a.v) U ucap up now) := hid ((HB.out.keep (Below.drew g4.out)).fr hp hf); have X6 := hid (frp_keep hf (heapD X4.out) ((HB.out.keep (Below.drew g4.out)).p.apart (heapD X4.out) (by decide))); obtain ⟨bz0, _, _⟩ := tri HB6.out.h; obtain ⟨_, _, _, yz3, yz4, yz5, yz6, yz7, _, _⟩ := ten X6.out; clear hp hf))
        all_goals go_wp2_with fail
        all_goals go_returns
        all_goals exact ⟨ret_bool HE1.out.symm, by rw [HE2.out]; exact HB6.out, (FrP.of n ps g4.out).trans ⟨F6.out.os, F6.out.tape, F6.out.output, F6.out.size, F6.out.block⟩⟩
end Go.Proofs.Ythkofnahimlijaa
namespace Go.Proofs.Ythkofnahimlijaa
open Go Go.RowKit
set_option maxRecDepth 100000 in
theorem ggive_badD (u : FrameMode) (po : Option Addr) (n : Nat) (av : Value) (xs : List Int) (a c : Int) (v : V4) (w : World) (hg : GangK (.pointer po) n av xs w) (hb : badG n xs a c v) : CallsD Try.prog 20 #[.pointer po, av, .int .i64 a, .int .i64 c, .agg #[.int .i64 v.a, .int .i64 v.b, .int .i64 v.c, .int .i64 v.d]] u w fun e u' w' => u' = u ∧ (e = .returned (.int .i64 1) ∧ Below w.heap.size w w') := by
  have V0 := hid (heap_new w (.cells #[.int .i64 v.a, .int .i64 v.b, .int .i64 v.c, .int .i64 v.d] 40))
  have g0 := hid (show Below w.heap.size w (w.alloc (.cells #[.int .i64 v.a, .int .i64 v.b, .int .i64 v.c, .int .i64 v.d] 40)) from by go_grown)
  have KG := hid (hg _ g0.out)
  have KS := hid (gspan_any a c)
  have KR := hid (right4 v)
  obtain ⟨v0, v1, v2, v3⟩ := four V0.out
  have h3 : gangB n xs = false ∨ (gangB n xs = true ∧ spanB a c = false) ∨ (gangB n xs = true ∧ spanB a c = true ∧ v.okB = false) := by
    rcases hb with hb | hb | hb
    · exact .inl hb
    · cases hg1 : gangB n xs
      · exact .inl rfl
      · exact .inr (.inl ⟨rfl, hb⟩)
    · cases hg1 : gangB n xs
      · exact .inl rfl
      · cases hs1 : spanB a c
        · exact .inr (.inl ⟨rfl, rfl⟩)
        · exact .inr (.inr ⟨rfl, rfl, hb⟩)
  clear hb hg
  rcases h3 with h1 | ⟨h1, h2⟩ | ⟨h1, h2, h3⟩
  · rw [h1] at KG
    clear h1
    go_enter_d Try.func20, Try.ntmps20
    go_wp2_with (go_at_call 32; (with_reducible refine KG.out.mono ?_); rintro _ w2 ⟨rfl, rfl⟩)
    go_returns
    exact ⟨rfl, g0.out⟩
  · rw [h1] at KG
    rw [h2] at KS
    clear h1 h2
    go_enter_d Try.func20, Try.ntmps20
    go_wp2_with (first
      | (go_at_call 32; (with_reducible refine KG.out.mono ?_); rintro _ w2 ⟨rfl, rfl⟩)
      | (go_at_call 33; (with_reducible refine (KS.out _).mono ?_); rintro _ w2 ⟨rfl, rfl⟩))
    go_returns
    exact ⟨rfl, g0.out⟩
  · rw [h1] at KG
    rw [h2] at KS
    rw [h3] at KR
    clear h1 h2 h3
    go_enter_d Try.func20, Try.ntmps20
    go_wp2_with (first
      | (go_at_call 32; (with_reducible refine KG.out.mono ?_); rintro _ w2 ⟨rfl, rfl⟩)
      | (go_at_call 33; (with_reducible refine (KS.out _).mono ?_); rintro _ w2 ⟨rfl, rfl⟩)
      | (go_at_call 34; (with_reducible refine (KR.out _).mono ?_); rintro _ w3 ⟨rfl, hb⟩; have g3 := hid (below_step g0.out g0.out.size hb); clear hb))
    go_returns
    exact ⟨rfl, g3.out⟩
set_option maxRecDepth 100000 in
set_option maxHeartbeats 2000000 in
theorem ggive_anyD (u : FrameMode) (q : Nat) (sv : Value) (n : Nat) (ps : Nat → Nat) (Ws : Nat → V4) (fs : Nat → Int → V4) (A : Option Addr) (cap : Nat) (xs : List Int) (a c : Int) (v : V4) (w : World) (h : PL w q sv n ps Ws fs) (hN : Ns w A xs) (hl : xs.length ≤ 9223372036854775807) (hcap : xs.length ≤ cap) (hap : Apart A n ps) (hg : Gang n xs) (hs : spanB a c = true) (hv : v.okB = true) :
    CallsD Try.prog 20 #[.pointer (some ⟨q, 0, none⟩), .slice A xs.length cap, .int .i64 a, .int .i64 c, .agg #[.int .i64 v.a, .int .i64 v.b, .int .i64 v.c, .int .i64 v.d]] u w (fun e u' w' => u' = u ∧ GGivePost w q sv n ps Ws fs xs a c v e w') := by
  have V0 := hid (heap_new w (.cells #[.int .i64 v.a, .int .i64 v.b, .int .i64 v.c, .int .i64 v.d] 40))
  have g0 := hid (show Below w.heap.size w (w.alloc (.cells #[.int .i64 v.a, .int .i64 v.b, .int .i64 v.c, .int .i64 v.d] 40)) from by go_grown)
  have KG : Hid (Calls Try.prog 32 #[.pointer (some ⟨q, 0, none⟩), .slice A xs.length cap] (w.alloc (.cells #[.int .i64 v.a, .int .i64 v.b, .int .i64 v.c, .int .i64 v.d] 40)) fun e w' => e = .returned (.bool true) ∧ (w.alloc (.cells #[.int .i64 v.a, .int .i64 v.b, .int .i64 v.c, .int .i64 v.d] 40)) = w') := hid (by
    have h1 := gang_any q sv n ps Ws fs A cap xs _ (h.keep g0.out) (hN.keep g0.out) hl
    rw [(gangB_iff n xs).2 hg] at h1
    exact h1)
  have KS : Hid (∀ w1, Calls Try.prog 33 #[.int .i64 a, .int .i64 c] w1 fun e w' => e = .returned (.bool true) ∧ w1 = w') := hid fun w1 => by
    have h := gspan_any a c w1
    rw [hs] at h
    exact h
  have KR : Hid (∀ w1, Calls Try.prog 34 #[.agg #[.int .i64 v.a, .int .i64 v.b, .int .i64 v.c, .int .i64 v.d]] w1 fun e w' => e = .returned (.bool true) ∧ Below w1.heap.size w1 w') := hid fun w1 => by
    have h := right4 v w1
    rw [hv] at h
    exact h
  have KT := hid (fun i f w1 (hp : Pr w1 (ps i) (Ws i) f) ho => take_free (ps i) (Ws i) f a c v w1 hp hs hv ho)
  have KV := hid (fun i f w1 (hp : Pr w1 (ps i) (Ws i) f) => give_two (ps i) (Ws i) f a c v w1 hp hs hv)
  have HPL := hid h
  have HN := hid hN
  have HG := hid hg
  have hpl := hid (fun i (hi : i < n) => (h.p i hi).lt)
  have hql := lt_of h.h
  obtain ⟨m, hm⟩ : ∃ m, m = xs.length := ⟨_, rfl⟩
  have HM := hid hm
  rw [← hm] at hl hcap KG ⊢
  obtain ⟨v0, v1, v2, v3⟩ := four V0.out
  clear h hN hg hs hv hm
  have hm0 : ¬ m = 0 := by
    intro e
    exact HG.out.1 (List.eq_nil_of_length_eq_zero (by have := HM.out; omega))
  go_enter_d Try.func20, Try.ntmps20
  go_upto_region 3 with (first
    | (go_at_call 32; (with_reducible refine KG.out.mono ?_); rintro _ w2 ⟨rfl, rfl⟩)
    | (go_at_call 33; (with_reducible refine (KS.out _).mono ?_); rintro _ w2 ⟨rfl, rfl⟩)
    | (go_at_call 34; (with_reducible refine (KR.out _).mono ?_); rintro _ w3 ⟨rfl, hb⟩; have g3 := hid (below_step g0.out g0.out.size hb); have V3 := hid (keep0 hb V0.out); clear hb))
  go_wp2_with fail
  have P4 := hid (HPL.out.keep g3.out)
  have F4 := hid (FrP.of n ps g3.out)
  have hn0 : 0 < n := by
    obtain ⟨x, hx⟩ : ∃ x, xs[0]? = some x := ⟨_, List.getElem?_eq_getElem (by have := HM.out; omega)⟩
    have := HG.out.2.1 0 x hx
    omega
  obtain ⟨g, cp, rfl, _, _, _⟩ := HPL.out.row hn0
  clear KG KS KR V0 v0 v1 v2 v3 g0
  go_loopw [33] (fun x wr => ∃ k : Nat, k ≤ m ∧ x = .int .i64 k ∧ (∀ j (i : Nat), j < k → xs[j]? = some (i : Int) → ∀ t, a ≤ t → t < c → (V4.add (fs i t) v).le (Ws i)) ∧ PL wr q (.slice (some ⟨g, 0, none⟩) n cp) n ps Ws (fsG fs xs a c v k 0) ∧ FrP w wr n ps ∧ wr.heap[w.heap.size]? = some (.cells #[.int .i64 v.a, .int .i64 v.b, .int .i64 v.c, .int .i64 v.d] 40 (0, 0))) (fun x _ => m - (intOf x).toNat)
  case atStart => exact ⟨0, Nat.zero_le _, rfl, fun j i hj => absurd hj (Nat.not_lt_zero _), by rw [fsG_zero]; exact P4.out, F4.out, V3.out⟩
  case round =>
    clear P4 F4 V3 g3
    obtain ⟨k, hk, rfl, hfit, hp, hf, hv⟩ := hrel
    have HFIT := hid hfit
    have HP := hid hp
    have HF := hid hf
    have HV := hid hv
    clear hp hf hv hfit
    by_cases hlt : k < m
    · have hlt' : (k : Int) < (m : Int) := by omega
      obtain ⟨x, hx⟩ : ∃ x, xs[k]? = some x := ⟨_, List.getElem?_eq_getElem (by have := HM.out; omega)⟩
      obtain ⟨x0, x1⟩ := HG.out.2.1 k x hx
      obtain ⟨d, rfl⟩ := Int.eq_ofNat_of_zero_le x0
      have hdn : d < n := by omega
      obtain ⟨b, off, rfl, hc⟩ := (HN.out.fr HF.out hap).at hx
      have c0 := hc k _ hx
      obtain ⟨e1, e2⟩ := fsG_give (fs := fs) (a := a) (c := c) (v := v) HG.out hx
      have E2 := hid e2
      have hp := HP.out.p d hdn
      rw [e1] at hp
      have KVd : Hid (Calls Try.prog 44 #[.pointer (some ⟨ps d, 0, none⟩), .int .i64 a, .int .i64 c, .agg #[.int .i64 v.a, .int .i64 v.b, .int .i64 v.c, .int .i64 v.d]] wr.drew fun e w' => ∃ y : Int, e = .returned (.int .i64 y) ∧ ((y = 61 ∧ (∃ t, a ≤ t ∧ t < c ∧ ¬ (V4.add (fs d t) v).le (Ws d)) ∧ Below wr.heap.size wr w') ∨ (y = 0 ∧ (∀ t, a ≤ t → t < c → (V4.add (fs d t) v).le (Ws d)) ∧ Pr w' (ps d) (Ws d) (chF (fs d) a c fun x => x.add v) ∧ wr.grownBy w' (some (ps d))))) := hid ((KV.out d (fs d) wr.drew (hp.keep (Below.drew (Below.refl _ _)))).mono (by
        rintro e w' (⟨h1, h2, h3⟩ | ⟨h1, h2, h3, h4⟩)
        · exact ⟨61, h1, .inl ⟨rfl, h2, ⟨h3.os, h3.tape, h3.output, h3.size, h3.block⟩⟩⟩
        · exact ⟨0, h1, .inr ⟨rfl, h2, h3, ⟨h4.os, h4.tape, h4.output, h4.size, h4.block⟩⟩⟩))
      have hpd := hpl.out d hdn
      have HROW : Hid (∀ (w1 : World) F, PL w1 q (.slice (some ⟨g, 0, none⟩) n cp) n ps Ws F → w1.cell? ⟨g, d, none⟩ = some (.pointer (some ⟨ps d, 0, none⟩)) ∧ w1.cell? ⟨q, 0, none⟩ = some (.slice (some ⟨g, 0, none⟩) n cp)) := hid fun w1 F h1 => by
        obtain ⟨g', cp', e, _, _, h2⟩ := h1.row hn0
        cases e
        exact ⟨h2 d hdn, h1.cell⟩
      obtain ⟨n0, q0⟩ := HROW.out wr _ HP.out
      obtain ⟨v0, v1, v2, v3⟩ := four HV.out
      have hd0 : (d : Int) < (n : Int) := by omega
      have HX := hid hx
      clear hc hx e1 e2 hp x0 x1
      go_wp2_with fail
      go_region_held3 (fun w' => w'.cell? ⟨q, 0, none⟩ = some (.slice (some ⟨g, 0, none⟩) n cp) ∧ w'.cell? ⟨g, d, none⟩ = some (.pointer (some ⟨ps d, 0, none⟩)) ∧ w'.cell? ⟨w.heap.size, 0, none⟩ = some (.int .i64 v.a) ∧ w'.cell? ⟨w.heap.size, 1, none⟩ = some (.int .i64 v.b) ∧ w'.cell? ⟨w.heap.size, 2, none⟩ = some (.int .i64 v.c) ∧ w'.cell? ⟨w.heap.size, 3, none⟩ = some (.int .i64 v.d)) (first | exact ⟨q0, n0, v0, v1, v2, v3⟩ | exact ⟨qa0, na0, va0, va1, va2, va3⟩ | go_keep)
        (first | (go_at_call 44; (with_reducible refine KVd.out.mono ?_); rintro _ w5 ⟨y, rfl, hy⟩; have HY := hid hy; have V5 : Hid (w5.heap[w.heap.size]? = some (.cells #[.int .i64 v.a, .int .i64 v.b, .int .i64 v.c, .int .i64 v.d] 40 (0, 0))) := hid (by (rcases hy with ⟨_, _, hb⟩ | ⟨_, _, _, hb⟩); (exact keep0 hb HV.out); (exact gb_keep hb HV.out (by simp; omega))); have P5 : Hid (∃ F, PL w5 q (.slice (some ⟨g, 0, none⟩) n cp) n ps Ws F) := hid (by (rcases hy with ⟨_, _, hb⟩ | ⟨_, _, hp5, hb⟩); (exact ⟨_, HP.out.keep hb⟩); (exact ⟨_, HP.out.put hdn hp5 hb⟩)); obtain ⟨F5, hF5⟩ := P5.out; obtain ⟨na0, qa0⟩ := HROW.out _ _ hF5; obtain ⟨va0, va1, va2, va3⟩ := four V5.out; clear hy hF5))
      rcases HY.out with ⟨rfl, hno, hb⟩ | ⟨rfl, hyes, hp5, hb⟩
      · have P5 := hid (HP.out.keep hb)
        have F5 := hid (show FrP w w5 n ps from ⟨hb.os.trans HF.out.os, hb.tape.trans HF.out.tape, hb.output.trans HF.out.output, Nat.le_trans HF.out.size hb.size, fun k hk hn => (hb.block k (by have := HF.out.size; omega)).trans (HF.out.block k hk hn)⟩)
        have HNO := hid hno
        have hkc : (k : Int) ≤ (cap : Int) := by omega
        clear HY hno hb
        go_wp2_with fail
        go_loopw [55] (fun x ws => ∃ j : Nat, j ≤ k ∧ x = .int .i64 j ∧ PL ws q (.slice (some ⟨g, 0, none⟩) n cp) n ps Ws (fsG fs xs a c v k j) ∧ FrP w ws n ps ∧ ws.heap[w.heap.size]? = some (.cells #[.int .i64 v.a, .int .i64 v.b, .int .i64 v.c, .int .i64 v.d] 40 (0, 0))) (fun x _ => k - (intOf x).toNat)
        case atStart => exact ⟨0, Nat.zero_le _, rfl, P5.out, F5.out, V5.out⟩
        case round =>
          clear P5 F5 V5 n0 q0 v0 v1 v2 v3 c0 KVd HROW HP HF HV
          obtain ⟨j, hj, rfl, hp, hf, hv⟩ := hrel
          have HP := hid hp
          have HF := hid hf
          have HV := hid hv
          clear hp hf hv
          by_cases hjk : j < k
          · have hjk' : (j : Int) < (k : Int) := by omega
            obtain ⟨x, hx⟩ : ∃ x, xs[j]? = some x := ⟨_, List.getElem?_eq_getElem (by have := HM.out; omega)⟩
            obtain ⟨x0, x1⟩ := HG.out.2.1 j x hx
            obtain ⟨i, rfl⟩ := Int.eq_ofNat_of_zero_le x0
            have hin : i < n := by omega
            obtain ⟨b', off', hA, hc⟩ := (HN.out.fr HF.out hap).at hx
            cases hA
            have c0 := hc j _ hx
            obtain ⟨e1, e2⟩ := fsG_back (fs := fs) (a := a) (c := c) (v := v) HG.out hx hjk
            have E2 := hid e2
            have hp := HP.out.p i hin
            rw [e1] at hp
            have KTd := hid (KT.out i _ wr.drew (hp.keep (Below.drew (Below.refl _ _))) (op_ford (HPL.out.p i hin).facts.2.2.1))
            have HROW : Hid (∀ (w1 : World) F, PL w1 q (.slice (some ⟨g, 0, none⟩) n cp) n ps Ws F → w1.cell? ⟨g, i, none⟩ = some (.pointer (some ⟨ps i, 0, none⟩)) ∧ w1.cell? ⟨q, 0, none⟩ = some (.slice (some ⟨g, 0, none⟩) n cp)) := hid fun w1 F h1 => by
              obtain ⟨g', cp', e, _, _, h2⟩ := h1.row hn0
              cases e
              exact ⟨h2 i hin, h1.cell⟩
            obtain ⟨n0, q0⟩ := HROW.out wr _ HP.out
            obtain ⟨v0, v1, v2, v3⟩ := four HV.out
            have hpi := hpl.out i hin
            have hi0 : (i : Int) < (n : Int) := by omega
            clear hc hx e1 e2 hp x0 x1
            go_wp2_with fail
            go_region_held3 (fun w' => w'.cell? ⟨q, 0, none⟩ = some (.slice (some ⟨g, 0, none⟩) n cp) ∧ w'.cell? ⟨g, i, none⟩ = some (.pointer (some ⟨ps i, 0, none⟩)) ∧ w'.cell? ⟨w.heap.size, 0, none⟩ = some (.int .i64 v.a) ∧ w'.cell? ⟨w.heap.size, 1, none⟩ = some (.int .i64 v.b) ∧ w'.cell? ⟨w.heap.size, 2, none⟩ = some (.int .i64 v.c) ∧ w'.cell? ⟨w.heap.size, 3, none⟩ = some (.int .i64 v.d)) (first | exact ⟨q0, n0, v0, v1, v2, v3⟩ | exact ⟨qb0, nb0, vb0, vb1, vb2, vb3⟩ | go_keep)
              (first | (go_at_call 36; (with_reducible refine KTd.out.mono ?_); rintro _ w6 ⟨rfl, hp6, hb⟩; have hbw := (show wr.grownBy w6 (some (ps i)) from ⟨hb.os, hb.tape, hb.output, hb.size, hb.block⟩); have P6 := hid (HP.out.put hin hp6 hbw); have F6 := hid (HF.out.then hbw hin); have V6 := hid (gb_keep hbw HV.out (by simp; omega)); obtain ⟨nb0, qb0⟩ := HROW.out _ _ P6.out; obtain ⟨vb0, vb1, vb2, vb3⟩ := four V6.out; clear hb hbw hp6))
            all_goals go_wp2_with fail
            all_goals go_roundw
            case rel => exact ⟨j + 1, by omega, by go_num, by rw [← E2.out]; exact P6.out, F6.out, V6.out⟩
            case measure => simp [intOf]; omega
          · obtain rfl : j = k := by omega
            go_wp2_with fail
            go_returns
            exact .inl ⟨rfl, ⟨d, List.mem_of_getElem? HX.out, HNO.out⟩, by have h := HP.out; rw [fsG_same] at h; exact h, HF.out⟩
      · have P5 := hid (HP.out.put hdn hp5 hb)
        have F5 := hid (HF.out.then hb hdn)
        have HYES := hid hyes
        clear HY hyes hp5 hb
        go_wp2_with fail
        go_roundw
        case rel => exact ⟨k + 1, by omega, by go_num, fun j i hj hi => by
          rcases Nat.lt_or_ge j k with h | h
          · exact HFIT.out j i h hi
          · obtain rfl : j = k := by omega
            have h2 := HX.out
            rw [hi] at h2
            obtain rfl : i = d := by
              have := Option.some.inj h2
              omega
            exact HYES.out, by rw [← E2.out]; exact P5.out, F5.out, V5.out⟩
        case measure => simp [intOf]; omega
    · obtain rfl : k = m := by omega
      go_wp2_with fail
      go_returns
      exact .inr ⟨rfl, fun i hi => by
        obtain ⟨j, hj⟩ := List.getElem?_of_mem hi
        have := (List.getElem?_eq_some_iff.1 hj).1
        exact HFIT.out j i (by have := HM.out; omega) hj, by rw [← HM.out]; exact HP.out, HF.out⟩
theorem give_allD (u : FrameMode) (q : Nat) (sv : Value) (n : Nat) (ps : Nat → Nat) (Ws : Nat → V4) (fs : Nat → Int → V4) (A : Option Addr) (cap : Nat) (xs : List Int) (a c : Int) (v : V4) (w : World) (h : PL w q sv n ps Ws fs) (hN : Ns w A xs) (hl : xs.length ≤ 9223372036854775807) (hcap : xs.length ≤ cap) (hap : Apart A n ps) :
    CallsD Try.prog 20 #[.pointer (some ⟨q, 0, none⟩), .slice A xs.length cap, .int .i64 a, .int .i64 c, .agg #[.int .i64 v.a, .int .i64 v.b, .int .i64 v.c, .int .i64 v.d]] u w (fun e u' w' => u' = u ∧ GiveP w q sv n ps Ws fs xs a c v e w') := by
  by_cases hb : badG n xs a c v
  · refine (ggive_badD u _ n _ xs a c v w (gangK_any q sv n ps Ws fs A cap xs w h hN hl) hb).mono ?_
    rintro e u' w' ⟨rfl, rfl, hw⟩
    exact ⟨rfl, 1, fs, rfl, h.keep hw, FrP.of n ps hw, .inl ⟨rfl, hb, rfl⟩⟩
  · obtain ⟨h1, h2, h3⟩ := badG_no hb
    refine (ggive_anyD u q sv n ps Ws fs A cap xs a c v w h hN hl hcap hap h1 h2 h3).mono ?_
    rintro e u' w' ⟨rfl, (⟨rfl, hx, hp, hf⟩ | ⟨rfl, hx, hp, hf⟩)⟩
    · exact ⟨rfl, 61, fs, rfl, hp, hf, .inr (.inl ⟨rfl, hb, hx, rfl⟩)⟩
    · exact ⟨rfl, 0, _, rfl, hp, hf, .inr (.inr ⟨rfl, hb, hx, rfl⟩)⟩
theorem give_all2D (u : FrameMode) (q : Nat) (sv : Value) (n : Nat) (ps : Nat → Nat) (Ws : Nat → V4) (fs : Nat → Int → V4) (A : Option Addr) (cap : Nat) (xs : List Int) (a c : Int) (v : V4) (w : World) (h : PL w q sv n ps Ws fs) (hN : Ns w A xs) (hl : xs.length ≤ 9223372036854775807) (hcap : xs.length ≤ cap) (hap : xs ≠ [] → Apart A n ps) :
    CallsD Try.prog 20 #[.pointer (some ⟨q, 0, none⟩), .slice A xs.length cap, .int .i64 a, .int .i64 c, .agg #[.int .i64 v.a, .int .i64 v.b, .int .i64 v.c, .int .i64 v.d]] u w fun e u' w' => u' = u ∧ ((∃ x : Int, e = .returned (.int .i64 x)) ∧ PL w' q sv n ps Ws (gvF n Ws fs xs a c v) ∧ FrP w w' n ps) := by
  by_cases hx : xs = []
  · have h1 : badG n xs a c v := .inl (gangB_no fun h => h.1 hx)
    refine (ggive_badD u _ n _ xs a c v w (gangK_any q sv n ps Ws fs A cap xs w h hN hl) h1).mono ?_
    rintro e u' w' ⟨rfl, rfl, hw⟩
    refine ⟨rfl, ⟨_, rfl⟩, ?_, FrP.of n ps hw⟩
    unfold gvF
    rw [if_neg (fun h => h.1 h1)]
    exact h.keep hw
  refine (give_allD u q sv n ps Ws fs A cap xs a c v w h hN hl hcap (hap hx)).mono ?_
  rintro e u' w' ⟨rfl, x, fs', rfl, hp, hf, ⟨rfl, h1, rfl⟩ | ⟨rfl, h1, ⟨i, hi, t, t1, t2, h2⟩, rfl⟩ | ⟨rfl, h1, h2, rfl⟩⟩
  · refine ⟨rfl, ⟨_, rfl⟩, ?_, hf⟩
    unfold gvF
    rw [if_neg (fun h => h.1 h1)]
    exact hp
  · refine ⟨rfl, ⟨_, rfl⟩, ?_, hf⟩
    unfold gvF
    rw [if_neg (fun h => h2 (h.2 i hi t t1 t2))]
    exact hp
  · refine ⟨rfl, ⟨_, rfl⟩, ?_, hf⟩
    unfold gvF
    rw [if_pos ⟨h1, h2⟩]
    exact hp
end Go.Proofs.Ythkofnahimlijaa
namespace Go.Proofs.Ythkofnahimlijaa
open Go Go.Joins Go.ChangeShapes Go.WideShapes Go.RowKit
set_option maxRecDepth 100000
theorem wf_i64 {n : Int} (h : (Lit.int .i64 n).wf = true) : -9223372036854775808 ≤ n ∧ n ≤ 9223372036854775807 := by
  simpa [Lit.wf, IntKind.min, IntKind.max, IntKind.signed, IntKind.bits] using h
theorem okWide_array {P : Program} {w : World} {r : Reach} {base n : Nat} {t e : TypeId} {v : Value} (ht : P.underlying t = some (.array n e)) (h : Value.okWide P w r base t v) : ∃ cs, v = .agg cs ∧ cs.size = P.cellsOf t := by
  simp only [Value.okWide, ht] at h
  obtain ⟨cs, h1, h2, _⟩ := h
  exact ⟨cs, h1, h2⟩
theorem add_off (b off j : Nat) : (⟨b, off, none⟩ : Addr).add j = ⟨b, off + j, none⟩ := by
  unfold Addr.add
  split <;> simp_all
theorem add_add (b off i j : Nat) : ((⟨b, off, none⟩ : Addr).add i).add j = ⟨b, off + i + j, none⟩ := by rw [add_off, add_off]
/-- The slice at A holds a row of elements of so many cells each, each of which is told by R. -/
def RowOf {α : Type} (w : World) (A : Option Addr) (size : Nat) (R : α → List Value → Prop) (xs : List α) : Prop :=
  xs = [] ∨ ∃ b off, A = some ⟨b, off, none⟩ ∧ b < w.heap.size ∧ ∀ (j : Nat) x, xs[j]? = some x → ∃ cs, R x cs ∧ cs.length = size ∧ ∀ i, i < size → w.cell? ⟨b, off + j * size + i, none⟩ = cs[i]?
theorem RowOf.keep {α : Type} {w w' : World} {A : Option Addr} {size : Nat} {R : α → List Value → Prop} {xs : List α} (h : RowOf w A size R xs) (hb : Below w.heap.size w w') : RowOf w' A size R xs := by
  rcases h with e | ⟨b, off, rfl, hlt, hc⟩
  · exact .inl e
  · refine .inr ⟨b, off, rfl, Nat.lt_of_lt_of_le hlt hb.size, fun j x hx => ?_⟩
    obtain ⟨cs, h1, h2, h3⟩ := hc j x hx
    exact ⟨cs, h1, h2, fun i hi => by rw [hb.cell (p := ⟨b, off + j * size + i, none⟩) hlt]; exact h3 i hi⟩
theorem row_is {α : Type} {P : Program} {H : Type} {enc : TypeId × Value → H} {W : World} {t e : TypeId} (size : Nat) (ht : P.underlying t = some (.slice e)) (hsz : P.cellsOf e = size) (hpos : 0 < size) (R : α → List Value → Prop)
    (hR : ∀ cs n x, cs.length = size → DataW.trod enc P W 0 (fun _ => true) true n e cs = some x → ∃ y : α, R y cs) {fuel : Nat} {cs0 : List Value} {x0 : DataW H × List MemPlace} (h : DataW.trod enc P W 0 (fun _ => true) true fuel t cs0 = some x0) :
    ∃ A cap xs, cs0 = [.slice A (List.length xs) cap] ∧ RowOf W A size R xs ∧ xs.length ≤ cap ∧ xs.length ≤ 9223372036854775807 ∧ (A = none → cap = 0) := by
  rcases Go.Deep.open_slice ht h with ⟨hcs, _⟩ | ⟨a, l, c, m, n, D, Pl, hcs, _, hl, hm, hmm, _, hi⟩
  · exact ⟨none, 0, [], hcs, .inl rfl, Nat.le_refl _, by simp, fun _ => rfl⟩
  · have hm' : m = c := by simpa using hmm
    subst hm'
    rw [hsz] at hi
    unfold maxLen at hm
    by_cases h0 : l = 0
    · subst h0
      exact ⟨some a, m, [], hcs, .inl rfl, Nat.zero_le _, by simp, fun h => by cases h⟩
    have key : ∀ i, i < l → ∃ (x : α) (cs : List Value), R x cs ∧ cs.length = size ∧ ∀ j, j < size → W.cell? ((a.add (i * size)).add j) = cs[j]? := by
      intro i hil
      obtain ⟨cs', hcell, htr⟩ := hi i (by omega)
      obtain ⟨_, hl1, hc⟩ := World.cells?_some hcell
      obtain ⟨y, hy⟩ := hR cs' _ _ hl1 htr
      exact ⟨y, cs', hy, hl1, fun j hj => hc j (by omega)⟩
    obtain ⟨b, off, spot⟩ := a
    obtain ⟨x, cs1, _, hl1, k0⟩ := key 0 (by omega)
    have k00 := k0 0 hpos
    rw [List.getElem?_eq_getElem (by omega)] at k00
    have hspot : spot = none := by
      have := World.cell?_spot k00
      simpa [Addr.add] using this
    subst hspot
    have hb : b < W.heap.size := by
      have := block_lt_of_cell k00
      simpa [Addr.add] using this
    have key' : ∀ i, i < l → ∃ (x : α), ∃ cs : List Value, R x cs ∧ cs.length = size ∧ ∀ j, j < size → W.cell? ⟨b, off + i * size + j, none⟩ = cs[j]? := fun i hi => by
      obtain ⟨x, cs, h1, h2, h3⟩ := key i hi
      exact ⟨x, cs, h1, h2, fun j hj => by rw [← h3 j hj, add_add]⟩
    refine ⟨some ⟨b, off, none⟩, m, (List.range l).map (fun i => if h : i < l then (key' i h).choose else x), by simpa using hcs, .inr ⟨b, off, rfl, hb, fun j y hy => ?_⟩, by simpa using hl, by simp; omega, fun h => by cases h⟩
    rw [List.getElem?_map] at hy
    obtain ⟨j', hj', rfl⟩ := Option.map_eq_some_iff.1 hy
    have hj : j < l ∧ j' = j := by
      obtain ⟨h1, h2⟩ := List.getElem?_eq_some_iff.1 hj'
      simp at h1 h2
      exact ⟨h1, h2.symm⟩
    obtain ⟨hj, rfl⟩ := hj
    rw [dif_pos hj]
    exact (key' j' hj).choose_spec
def i64 (n : Int) : Prop := -9223372036854775808 ≤ n ∧ n ≤ 9223372036854775807
def V4.In (v : V4) : Prop := i64 v.a ∧ i64 v.b ∧ i64 v.c ∧ i64 v.d
theorem vec_of {H : Type} {enc : TypeId × Value → H} {W : World} {fuel : Nat} {x0 x1 x2 x3 : Value} {x : DataW H × List MemPlace}
    (hf : DataW.trod enc Try.prog W 0 (fun _ => true) true fuel 40 [x0, x1, x2, x3] = some x) : ∃ v : V4, x0 = .int .i64 v.a ∧ x1 = .int .i64 v.b ∧ x2 = .int .i64 v.c ∧ x3 = .int .i64 v.d ∧ v.In := by
  obtain ⟨xs, m, _, _, _, hx, hfield⟩ := DataW.trod_array Try.underlying40 hf
  have c3 : Try.prog.cellsOf 3 = 1 := by kernel_rfl
  have key : ∀ i (x : Value), i < 4 → ([x0, x1, x2, x3].drop (i * 1)).take 1 = [x] → ∃ n : Int, x = .int .i64 n ∧ i64 n := by
    intro i x hi hx'
    have hf' := hfield i hi
    rw [c3] at hf'
    obtain ⟨y, hy⟩ : ∃ y, xs[i]? = some y := ⟨_, List.getElem?_eq_getElem (by rw [hx]; exact hi)⟩
    rw [hy, hx'] at hf'
    obtain ⟨n, e0, _, w0⟩ := DataW.trod_int Try.underlying3 hf'
    simp only [List.cons.injEq, and_true] at e0
    exact ⟨n, e0, wf_i64 w0⟩
  obtain ⟨n0, rfl, a0⟩ := key 0 x0 (by decide) rfl
  obtain ⟨n1, rfl, a1⟩ := key 1 x1 (by decide) rfl
  obtain ⟨n2, rfl, a2⟩ := key 2 x2 (by decide) rfl
  obtain ⟨n3, rfl, a3⟩ := key 3 x3 (by decide) rfl
  exact ⟨⟨n0, n1, n2, n3⟩, rfl, rfl, rfl, rfl, a0, a1, a2, a3⟩
theorem vec_is {H : Type} {enc : TypeId × Value → H} {W : World} {base : Nat} {v : Value} {d : DataW H} {p : List MemPlace}
    (hv : Value.okWide Try.prog W .any base 40 v) (h : DataW.Trod enc Try.prog W 0 (fun _ => true) true 40 v d p) :
    ∃ x : V4, v = .agg #[.int .i64 x.a, .int .i64 x.b, .int .i64 x.c, .int .i64 x.d] ∧ x.In := by
  obtain ⟨cs, rfl, hn⟩ := okWide_array Try.underlying40 hv
  have hc : Try.prog.cellsOf 40 = 4 := by kernel_rfl
  rw [hc] at hn
  obtain ⟨fuel, hf⟩ := h
  obtain ⟨l⟩ := cs
  match l, hn with
  | [x0, x1, x2, x3], _ =>
    obtain ⟨x, rfl, rfl, rfl, rfl, hx⟩ := vec_of (x0 := x0) (x1 := x1) (x2 := x2) (x3 := x3) hf
    exact ⟨x, rfl, hx⟩

def IntR : Int → List Value → Prop := fun x cs => cs = [.int .i64 x] ∧ i64 x
theorem ints_of {H : Type} {enc : TypeId × Value → H} {W : World} {fuel : Nat} {c0 : Value} {x : DataW H × List MemPlace} (hf : DataW.trod enc Try.prog W 0 (fun _ => true) true fuel 31 [c0] = some x) :
    ∃ A cap xs, c0 = .slice A (List.length xs) cap ∧ Ns W A xs ∧ xs.length ≤ cap ∧ xs.length ≤ 9223372036854775807 ∧ ∀ x, x ∈ xs → i64 x := by
  obtain ⟨A, cap, xs, h1, h2, h3, h4, h5⟩ := row_is (α := Int) 1 Try.underlying31 (by kernel_rfl) (by decide) IntR (fun cs n x hl ht => by
    match cs, hl with
    | [c0], _ =>
      obtain ⟨n, e0, _, w0⟩ := DataW.trod_int Try.underlying3 ht
      exact ⟨n, e0, wf_i64 w0⟩) hf
  simp at h1
  refine ⟨A, cap, xs, h1, ?_, h3, h4, ?_⟩
  · rcases h2 with rfl | ⟨b, off, rfl, hlt, hc⟩
    · exact .inl rfl
    · refine .inr ⟨b, off, rfl, hlt, fun i x hx => ?_⟩
      obtain ⟨cs, ⟨rfl, _⟩, _, k⟩ := hc i x hx
      have := k 0 (by omega)
      simpa using this
  · intro x hx
    rcases h2 with rfl | ⟨b, off, rfl, hlt, hc⟩
    · simp at hx
    · obtain ⟨i, hi⟩ := List.getElem?_of_mem hx
      obtain ⟨cs, ⟨_, h⟩, _⟩ := hc i x hi
      exact h
/-- A row of amounts. -/
theorem vecs_is {H : Type} {enc : TypeId × Value → H} {W : World} {base : Nat} {v : Value} {d : DataW H} {p : List MemPlace}
    (hv : Value.okWide Try.prog W .any base 22 v) (h : DataW.Trod enc Try.prog W 0 (fun _ => true) true 22 v d p) :
    ∃ A cap xs, v = .slice A (List.length xs) cap ∧ Vs W A xs ∧ xs.length ≤ 9223372036854775807 ∧ ∀ x, x ∈ xs → x.In := by
  obtain ⟨a0, len, cap, rfl⟩ := okWide_slice Try.underlying22 hv
  obtain ⟨fuel, hf⟩ := h
  obtain ⟨A, cap', xs, h1, h2, h3, h4, h5⟩ := row_is (α := V4) 4 Try.underlying22 (by kernel_rfl) (by decide) (fun x cs => cs = [.int .i64 x.a, .int .i64 x.b, .int .i64 x.c, .int .i64 x.d] ∧ x.In) (fun cs n x hl ht => by
    match cs, hl with
    | [x0, x1, x2, x3], _ =>
      obtain ⟨x, rfl, rfl, rfl, rfl, hx⟩ := vec_of (x0 := x0) (x1 := x1) (x2 := x2) (x3 := x3) ht
      exact ⟨x, rfl, hx⟩) hf
  simp [Value.cells] at h1
  obtain ⟨rfl, rfl, rfl⟩ := h1
  refine ⟨_, _, xs, rfl, ?_, h4, ?_⟩
  · rcases h2 with rfl | ⟨b, off, rfl, hlt, hc⟩
    · exact .inl rfl
    · refine .inr ⟨b, off, rfl, hlt, fun i x hx => ?_⟩
      obtain ⟨cs, ⟨rfl, _⟩, _, k⟩ := hc i x hx
      exact ⟨k 0 (by omega), k 1 (by omega), k 2 (by omega), k 3 (by omega)⟩
  · intro x hx
    rcases h2 with rfl | ⟨b, off, rfl, hlt, hc⟩
    · simp at hx
    · obtain ⟨i, hi⟩ := List.getElem?_of_mem hx
      obtain ⟨cs, ⟨_, h⟩, _⟩ := hc i x hi
      exact h
end Go.Proofs.Ythkofnahimlijaa
