/- gang's Take, Give, Find with whatever arguments. Conditions: the pool and the numbers stand in memory. -/
import Derived.Test.YthkofnahimlijaaGang19
namespace Go.Proofs.Ythkofnahimlijaa
open Go Go.RowKit
def TakeP (w : World) (q : Nat) (sv : Value) (n : Nat) (ps : Nat → Nat) (Ws : Nat → V4) (fs : Nat → Int → V4) (xs : List Int) (a c : Int) (v : V4) (e : Ending) (w' : World) : Prop :=
  ∃ (x : Int) (fs' : Nat → Int → V4), e = .returned (.int .i64 x) ∧ PL w' q sv n ps Ws fs' ∧ FrP w w' n ps ∧
    ((x = 1 ∧ badG n xs a c v ∧ fs' = fs) ∨ (x = 60 ∧ ¬ badG n xs a c v ∧ (∃ i : Nat, (i : Int) ∈ xs ∧ opB (fs i) v a c = false) ∧ fs' = fs) ∨
      (x = 0 ∧ ¬ badG n xs a c v ∧ (∀ i : Nat, (i : Int) ∈ xs → opB (fs i) v a c = true) ∧ fs' = fsT fs xs a c v xs.length))
def GiveP (w : World) (q : Nat) (sv : Value) (n : Nat) (ps : Nat → Nat) (Ws : Nat → V4) (fs : Nat → Int → V4) (xs : List Int) (a c : Int) (v : V4) (e : Ending) (w' : World) : Prop :=
  ∃ (x : Int) (fs' : Nat → Int → V4), e = .returned (.int .i64 x) ∧ PL w' q sv n ps Ws fs' ∧ FrP w w' n ps ∧
    ((x = 1 ∧ badG n xs a c v ∧ fs' = fs) ∨ (x = 61 ∧ ¬ badG n xs a c v ∧ (∃ i : Nat, (i : Int) ∈ xs ∧ ∃ t, a ≤ t ∧ t < c ∧ ¬ (V4.add (fs i t) v).le (Ws i)) ∧ fs' = fs) ∨
      (x = 0 ∧ ¬ badG n xs a c v ∧ (∀ i : Nat, (i : Int) ∈ xs → ∀ t, a ≤ t → t < c → (V4.add (fs i t) v).le (Ws i)) ∧ fs' = fsG fs xs a c v xs.length 0))
theorem badG_no {n : Nat} {xs : List Int} {a c : Int} {v : V4} (h : ¬ badG n xs a c v) : Gang n xs ∧ spanB a c = true ∧ v.okB = true := by
  unfold badG at h
  refine ⟨?_, ?_, ?_⟩
  · cases hb : gangB n xs
    · exact absurd (.inl hb) h
    · exact (gangB_iff _ _).1 hb
  · cases hb : spanB a c
    · exact absurd (.inr (.inl hb)) h
    · rfl
  · cases hb : v.okB
    · exact absurd (.inr (.inr hb)) h
    · rfl
theorem take_all (q : Nat) (sv : Value) (n : Nat) (ps : Nat → Nat) (Ws : Nat → V4) (fs : Nat → Int → V4) (A : Option Addr) (cap : Nat) (xs : List Int) (a c : Int) (v : V4) (w : World) (h : PL w q sv n ps Ws fs) (hN : Ns w A xs) (hl : xs.length ≤ 9223372036854775807) (hap : Apart A n ps) :
    Calls Try.prog 16 #[.pointer (some ⟨q, 0, none⟩), .slice A xs.length cap, .int .i64 a, .int .i64 c, .agg #[.int .i64 v.a, .int .i64 v.b, .int .i64 v.c, .int .i64 v.d]] w (TakeP w q sv n ps Ws fs xs a c v) := by
  by_cases hb : badG n xs a c v
  · refine (gtake_bad _ n _ xs a c v w (gangK_any q sv n ps Ws fs A cap xs w h hN hl) hb).mono ?_
    rintro e w' ⟨rfl, hw⟩
    exact ⟨1, fs, rfl, h.keep hw, FrP.of n ps hw, .inl ⟨rfl, hb, rfl⟩⟩
  · obtain ⟨h1, h2, h3⟩ := badG_no hb
    refine (gtake_any q sv n ps Ws fs A cap xs a c v w h hN hl hap h1 h2 h3).mono ?_
    rintro e w' (⟨rfl, hx, hw⟩ | ⟨rfl, hx, hp, hf⟩)
    · exact ⟨60, fs, rfl, h.keep hw, FrP.of n ps hw, .inr (.inl ⟨rfl, hb, hx, rfl⟩)⟩
    · exact ⟨0, _, rfl, hp, hf, .inr (.inr ⟨rfl, hb, hx, rfl⟩)⟩
theorem give_all (q : Nat) (sv : Value) (n : Nat) (ps : Nat → Nat) (Ws : Nat → V4) (fs : Nat → Int → V4) (A : Option Addr) (cap : Nat) (xs : List Int) (a c : Int) (v : V4) (w : World) (h : PL w q sv n ps Ws fs) (hN : Ns w A xs) (hl : xs.length ≤ 9223372036854775807) (hcap : xs.length ≤ cap) (hap : Apart A n ps) :
    Calls Try.prog 20 #[.pointer (some ⟨q, 0, none⟩), .slice A xs.length cap, .int .i64 a, .int .i64 c, .agg #[.int .i64 v.a, .int .i64 v.b, .int .i64 v.c, .int .i64 v.d]] w (GiveP w q sv n ps Ws fs xs a c v) := by
  by_cases hb : badG n xs a c v
  · refine (ggive_bad _ n _ xs a c v w (gangK_any q sv n ps Ws fs A cap xs w h hN hl) hb).mono ?_
    rintro e w' ⟨rfl, hw⟩
    exact ⟨1, fs, rfl, h.keep hw, FrP.of n ps hw, .inl ⟨rfl, hb, rfl⟩⟩
  · obtain ⟨h1, h2, h3⟩ := badG_no hb
    refine (ggive_any q sv n ps Ws fs A cap xs a c v w h hN hl hcap hap h1 h2 h3).mono ?_
    rintro e w' (⟨rfl, hx, hp, hf⟩ | ⟨rfl, hx, hp, hf⟩)
    · exact ⟨61, fs, rfl, hp, hf, .inr (.inl ⟨rfl, hb, hx, rfl⟩)⟩
    · exact ⟨0, _, rfl, hp, hf, .inr (.inr ⟨rfl, hb, hx, rfl⟩)⟩
/-- May it be asked, and is there such a tick? -/
def FindOk (n : Nat) (fs : Nat → Int → V4) (xs : List Int) (v : V4) (a k m t : Int) : Prop := 1 ≤ m ∧ 1 ≤ k ∧ v.okB = true ∧ FindAt n fs xs v a k m.toNat t
def FindR (w : World) (n : Nat) (fs : Nat → Int → V4) (xs : List Int) (v : V4) (a k m : Int) (e : Ending) (w' : World) : Prop :=
  Below w.heap.size w w' ∧ ((∃ t v', e = .returned (.tuple #[.int .i64 t, v', .bool true]) ∧ FindOk n fs xs v a k m t ∧ w'.ownsRow w.heap.size 3 1 v' m.toNat (nums ((openL n fs xs t (t + k) v).take m.toNat))) ∨
    (e = .returned (.tuple #[.int .i64 0, .slice none 0 0, .bool false]) ∧ ∀ t, ¬ FindOk n fs xs v a k m t))
theorem openL_cntl (n : Nat) (fs : Nat → Int → V4) (xs : List Int) (a c : Int) (v : V4) : (openL n fs xs a c v).length ≤ (cntL n xs 16).length := by
  unfold openL
  exact List.length_filter_le _ _
theorem find_all (q : Nat) (sv : Value) (n : Nat) (ps : Nat → Nat) (Ws : Nat → V4) (fs : Nat → Int → V4) (A : Option Addr) (cap : Nat) (xs : List Int) (m k a : Int) (v : V4) (w : World) (h : PL w q sv n ps Ws fs) (hN : Ns w A xs) (hl : xs.length ≤ 9223372036854775807) (hk2 : k ≤ 9223372036854775807) (ha : a ≤ 9223372036854775807) :
    Calls Try.prog 18 #[.pointer (some ⟨q, 0, none⟩), .slice A xs.length cap, .int .i64 m, .agg #[.int .i64 v.a, .int .i64 v.b, .int .i64 v.c, .int .i64 v.d], .int .i64 k, .int .i64 a] w (FindR w n fs xs v a k m) := by
  by_cases hb : m < 1 ∨ ((cntL n xs 16).length : Int) < m ∨ k < 1 ∨ v.okB = false
  · refine (find_bad _ n A cap xs m k a v w (hasK_any q sv n ps Ws fs w h) h.m hN hl hb).mono ?_
    rintro e w' ⟨rfl, hw⟩
    refine ⟨hw, .inr ⟨rfl, ?_⟩⟩
    rintro t ⟨h1, h2, h3, h4⟩
    have := h4.2.2.1
    have := openL_cntl n fs xs t (t + k) v
    rcases hb with hb | hb | hb | hb
    · omega
    · omega
    · omega
    · rw [h3] at hb
      cases hb
  · have hm : 1 ≤ m := by
      rcases Int.lt_or_le m 1 with h1 | h1
      · exact absurd (.inl h1) hb
      · exact h1
    have hc : m ≤ ((cntL n xs 16).length : Int) := by
      rcases Int.lt_or_le ((cntL n xs 16).length : Int) m with h1 | h1
      · exact absurd (.inr (.inl h1)) hb
      · exact h1
    have hk : 1 ≤ k := by
      rcases Int.lt_or_le k 1 with h1 | h1
      · exact absurd (.inr (.inr (.inl h1))) hb
      · exact h1
    have hv : v.okB = true := by
      cases hv : v.okB
      · exact absurd (.inr (.inr (.inr hv))) hb
      · rfl
    obtain ⟨d, rfl⟩ := Int.eq_ofNat_of_zero_le (show 0 ≤ m by omega)
    refine (find_core q sv n ps Ws fs A cap d xs k a v w h hN hl (by omega) (by omega) hk hk2 ha hv).mono ?_
    rintro e w' ⟨hw, ⟨t, v', rfl, h1, h2⟩ | ⟨rfl, h1⟩⟩
    · exact ⟨hw, .inl ⟨t, v', rfl, ⟨hm, hk, hv, h1⟩, h2⟩⟩
    · refine ⟨hw, .inr ⟨rfl, ?_⟩⟩
      rintro t ⟨_, _, _, t1, t2, t3, _⟩
      have := h1 t t1 t2
      simp at t3
      omega
theorem find_nil (A : Option Addr) (cap : Nat) (xs : List Int) (m k a : Int) (v : V4) (w : World) (hN : Ns w A xs) (hl : xs.length ≤ 9223372036854775807) :
    Calls Try.prog 18 #[.pointer none, .slice A xs.length cap, .int .i64 m, .agg #[.int .i64 v.a, .int .i64 v.b, .int .i64 v.c, .int .i64 v.d], .int .i64 k, .int .i64 a] w (FindNo w) := by
  refine find_bad none 0 A cap xs m k a v w (hasK_nil w) (by omega) hN hl ?_
  have he : cntL 0 xs 16 = [] := by
    rw [List.eq_nil_iff_forall_not_mem]
    intro i hi
    exact absurd (cntL_lt hi) (by omega)
  rw [he]
  rcases Int.lt_or_le m 1 with h1 | h1
  · exact .inl h1
  · exact .inr (.inl (by simp; omega))
/-- The profiles lie behind all that was there: so what is changed of them changes nothing that was there. -/
theorem FrP.below {w0 w w' : World} {n : Nat} {ps : Nat → Nat} (h : Below w0.heap.size w0 w) (hb : FrP w w' n ps) (hp : ∀ i, i < n → w0.heap.size ≤ ps i) : Below w0.heap.size w0 w' :=
  ⟨hb.os.trans h.os, hb.tape.trans h.tape, hb.output.trans h.output, Nat.le_trans h.size hb.size, fun k hk => (hb.block k (Nat.lt_of_lt_of_le hk h.size) (fun i hi e => by have := hp i hi; omega)).trans (h.block k hk)⟩
theorem Apart.new {w : World} {q : Nat} {sv : Value} {n : Nat} {ps : Nat → Nat} {Ws : Nat → V4} {fs : Nat → Int → V4} (h : PL w q sv n ps Ws fs) {b off : Nat} (hb : w.heap.size ≤ b) : Apart (some ⟨b, off, none⟩) n ps := by
  intro a ha i hi
  cases ha
  have := (h.p i hi).lt
  simp
  omega
theorem Apart.old {n : Nat} {ps : Nat → Nat} {B b off : Nat} (hp : ∀ i, i < n → B ≤ ps i) (hb : b < B) : Apart (some ⟨b, off, none⟩) n ps := by
  intro a ha i hi
  cases ha
  have := hp i hi
  simp
  omega
theorem Apart.none (n : Nat) (ps : Nat → Nat) : Apart Option.none n ps := by
  intro a ha
  cases ha
end Go.Proofs.Ythkofnahimlijaa
