/- profile.Take, Give of any profile. Conditions: the profile stands in memory. -/
import Derived.Test.YthkofnahimlijaaProf7
namespace Go.Proofs.Ythkofnahimlijaa
open Go Go.RowKit
set_option maxRecDepth 100000 in
theorem change_bad (p b cap : Nat) (W : V4) (n : Nat) (T : Nat → Int) (V : Nat → V4) (a c : Int) (v : V4) (r : Int) (fv : Value) (w : World) (h : PV w p b cap W n T V) (hb : spanB a c = false ∨ v.okB = false) :
    Calls Try.prog 62 #[.pointer (some ⟨p, 0, none⟩), .int .i64 a, .int .i64 c, .agg #[.int .i64 v.a, .int .i64 v.b, .int .i64 v.c, .int .i64 v.d], .int .i64 r, fv] w fun e w' => e = .returned (.int .i64 1) ∧ Below w.heap.size w w' := by
  have KM : Hid (∀ w1, PV w1 p b cap W n T V → Calls Try.prog 65 #[.pointer (some ⟨p, 0, none⟩)] w1 fun e w' => e = .returned (.bool true) ∧ w1 = w') := hid fun w1 h1 => made_any p b cap W n T V w1 h1
  have KS := hid (span_any a c)
  have KR := hid (right4 v)
  have X0 := hid (heap_new w (.cells #[.int .i64 v.a, .int .i64 v.b, .int .i64 v.c, .int .i64 v.d] 40))
  have P0 := hid (h.A (.cells #[.int .i64 v.a, .int .i64 v.b, .int .i64 v.c, .int .i64 v.d] 40))
  have g0 := hid (show Below w.heap.size w (w.alloc (.cells #[.int .i64 v.a, .int .i64 v.b, .int .i64 v.c, .int .i64 v.d] 40)) from by go_grown)
  obtain ⟨x0, x1, x2, x3⟩ := four X0.out
  clear h
  cases hs : spanB a c with
  | false =>
    rw [hs] at KS
    clear hs hb
    go_enter Try.func62, Try.ntmps62
    go_wp2_with (first
      | (go_at_call 65; (with_reducible refine (KM.out _ P0.out).mono ?_); rintro _ w2 ⟨rfl, rfl⟩)
      | (go_at_call 79; (with_reducible refine (KS.out _).mono ?_); rintro _ w2 ⟨rfl, rfl⟩))
    go_returns
    exact ⟨rfl, g0.out⟩
  | true =>
    have hv : v.okB = false := by
      rcases hb with hb | hb
      · rw [hs] at hb
        cases hb
      · exact hb
    rw [hs] at KS
    rw [hv] at KR
    clear hs hb hv
    go_enter Try.func62, Try.ntmps62
    go_wp2_with (first
      | (go_at_call 65; (with_reducible refine (KM.out _ P0.out).mono ?_); rintro _ w2 ⟨rfl, rfl⟩)
      | (go_at_call 79; (with_reducible refine (KS.out _).mono ?_); rintro _ w2 ⟨rfl, rfl⟩)
      | (go_at_call 34; (with_reducible refine (KR.out _).mono ?_); rintro _ w3 ⟨rfl, hb⟩; have g3 := hid (below_step g0.out g0.out.size hb); clear hb))
    go_returns
    exact ⟨rfl, g3.out⟩
set_option maxRecDepth 100000 in
theorem change_nil (a c : Int) (v : V4) (r : Int) (fv : Value) (w : World) :
    Calls Try.prog 62 #[.pointer none, .int .i64 a, .int .i64 c, .agg #[.int .i64 v.a, .int .i64 v.b, .int .i64 v.c, .int .i64 v.d], .int .i64 r, fv] w fun e w' => e = .returned (.int .i64 1) ∧ Below w.heap.size w w' := by
  have KM := hid made_nil
  have g0 := hid (show Below w.heap.size w (w.alloc (.cells #[.int .i64 v.a, .int .i64 v.b, .int .i64 v.c, .int .i64 v.d] 40)) from by go_grown)
  go_enter Try.func62, Try.ntmps62
  go_wp2_with (go_at_call 65; (with_reducible refine (KM.out _).mono ?_); rintro _ w2 ⟨rfl, rfl⟩)
  go_returns
  exact ⟨rfl, g0.out⟩
/-- A profile of a whole, with f free at each tick. -/
def Pr (w : World) (p : Nat) (W : V4) (f : Int → V4) : Prop := ∃ b cap n T V, PV w p b cap W n T V ∧ Rp n T V 1099511627777 f ∧ (∀ t, (f t).le W) ∧ (∀ t, (t < 0 ∨ 1099511627776 ≤ t) → f t = W) ∧ (∀ t, (f t).ok) ∧ W.ok
theorem Pr.keep {w w' : World} {p : Nat} {W : V4} {f : Int → V4} (h : Pr w p W f) (hb : Below w.heap.size w w') : Pr w' p W f := by
  obtain ⟨b, cap, n, T, V, h1, h2⟩ := h
  exact ⟨b, cap, n, T, V, h1.keep hb, h2⟩
theorem Pr.lt {w : World} {p : Nat} {W : V4} {f : Int → V4} (h : Pr w p W f) : p < w.heap.size := by
  obtain ⟨b, cap, n, T, V, h1, h2⟩ := h
  exact lt_of h1.h
def TakePost (w : World) (p : Nat) (W : V4) (f : Int → V4) (a c : Int) (v : V4) (e : Ending) (w' : World) : Prop :=
  (e = .returned (.int .i64 1) ∧ (spanB a c = false ∨ v.okB = false) ∧ Below w.heap.size w w') ∨
  (e = .returned (.int .i64 60) ∧ (spanB a c = true ∧ v.okB = true) ∧ (∃ t, a ≤ t ∧ t < c ∧ ¬ v.le (f t)) ∧ Below w.heap.size w w') ∨
  (e = .returned (.int .i64 0) ∧ (spanB a c = true ∧ v.okB = true) ∧ (∀ t, a ≤ t → t < c → v.le (f t)) ∧ w.grownBy w' (some p) ∧ Pr w' p W (chF f a c fun x => x.sub v))
def GivePost (w : World) (p : Nat) (W : V4) (f : Int → V4) (a c : Int) (v : V4) (e : Ending) (w' : World) : Prop :=
  (e = .returned (.int .i64 1) ∧ (spanB a c = false ∨ v.okB = false) ∧ Below w.heap.size w w') ∨
  (e = .returned (.int .i64 61) ∧ (spanB a c = true ∧ v.okB = true) ∧ (∃ t, a ≤ t ∧ t < c ∧ ¬ (V4.add (f t) v).le W) ∧ Below w.heap.size w w') ∨
  (e = .returned (.int .i64 0) ∧ (spanB a c = true ∧ v.okB = true) ∧ (∀ t, a ≤ t → t < c → (V4.add (f t) v).le W) ∧ w.grownBy w' (some p) ∧ Pr w' p W (chF f a c fun x => x.add v))
theorem chF_eq {f : Int → V4} {a c : Int} {g k : V4 → V4} (h : ∀ t, a ≤ t → t < c → g (f t) = k (f t)) : chF f a c g = chF f a c k := by
  funext t
  unfold chF
  split
  · next h1 => exact h t h1.1 h1.2
  · rfl
theorem spanB_iff (a c : Int) : spanB a c = true ↔ 0 ≤ a ∧ a < c ∧ c ≤ 1099511627776 := by simp [spanB]
theorem eg_take1 : ∀ args w, (callFunc 63 args).run Try.prog w = .ok (.enter 63 args) w := enters_of Try.func63 (by kernel_rfl) rfl
theorem eg_give1 : ∀ args w, (callFunc 69 args).run Try.prog w = .ok (.enter 69 args) w := enters_of Try.func69 (by kernel_rfl) rfl
theorem mvT_yes {v x : V4} (h : (mvT v x).2 = true) : v.le x ∧ (mvT v x).1 = x.sub v := by
  unfold mvT at *
  split at h
  · next k =>
    rw [if_pos k]
    exact ⟨(V4.leB_iff _ _).1 k, rfl⟩
  · simp at h
theorem mvT_no {v x : V4} (h : (mvT v x).2 = false) : ¬ v.le x := by
  unfold mvT at h
  split at h
  · simp at h
  · next k => exact fun h => k ((V4.leB_iff _ _).2 h)
theorem mvG_yes {W v x : V4} (h : (mvG W v x).2 = true) : (x.add v).le W ∧ (mvG W v x).1 = x.add v := by
  unfold mvG at *
  split at h
  · next k =>
    rw [if_pos k]
    exact ⟨(V4.leB_iff _ _).1 k, rfl⟩
  · simp at h
theorem mvG_no {W v x : V4} (h : (mvG W v x).2 = false) : ¬ (x.add v).le W := by
  unfold mvG at h
  split at h
  · simp at h
  · next k => exact fun h => k ((V4.leB_iff _ _).2 h)
/-- The change behind Take, with v in the box at block X. -/
theorem change_take (p : Nat) (W : V4) (f : Int → V4) (a c : Int) (v : V4) (X : Nat) (w : World) (h : Pr w p W f) (hX : w.heap[X]? = some (.cells #[.int .i64 v.a, .int .i64 v.b, .int .i64 v.c, .int .i64 v.d] 40 (0, 0))) :
    Calls Try.prog 62 #[.pointer (some ⟨p, 0, none⟩), .int .i64 a, .int .i64 c, .agg #[.int .i64 v.a, .int .i64 v.b, .int .i64 v.c, .int .i64 v.d], .int .i64 60, .func (.func 63) #[] #[.pointer (some ⟨X, 0, none⟩)]] w (TakePost w p W f a c v) := by
  obtain ⟨b, cap, n, T, V, h1, h2, h3, h4, h5, h6⟩ := h
  by_cases hs : spanB a c = true ∧ v.okB = true
  · obtain ⟨hs1, hs2⟩ := hs
    obtain ⟨s1, s2, s3⟩ := (spanB_iff a c).1 hs1
    have hv := (V4.okB_iff v).1 hs2
    refine (change_any p b cap W n T V f a c v 60 63 #[.pointer (some ⟨X, 0, none⟩)] (mvT v) w h1 h2 h3 h4 h5 hs2 s1 s2 s3 eg_take1 (hid fun x w1 hx _ hb => take1_any X v x w1 hv hx (by rw [hb.block X (lt_of hX), hX]))).mono ?_
    rintro e w' (⟨e1, ⟨t, t1, t2, t3⟩, e3⟩ | ⟨e1, e2, e3, b', cap', n', T', V', k1, k2⟩)
    · exact .inr (.inl ⟨e1, ⟨hs1, hs2⟩, ⟨t, t1, t2, mvT_no t3⟩, e3⟩)
    · refine .inr (.inr ⟨e1, ⟨hs1, hs2⟩, fun t t1 t2 => (mvT_yes (e2 t t1 t2)).1, e3, b', cap', n', T', V', k1, ?_, fun t => ?_, fun t ht => ?_, fun t => ?_, h6⟩)
      · rw [chF_eq (k := fun x => x.sub v) (fun t t1 t2 => (mvT_yes (e2 t t1 t2)).2)] at k2
        exact k2
      · unfold chF
        split
        · exact V4.sub_le (h3 t) hv
        · exact h3 t
      · rw [chF_out (by omega), h4 t ht]
      · unfold chF
        split
        · next q => exact (V4.sub_ok (h5 t) hv).2 (mvT_yes (e2 t q.1 q.2)).1
        · exact h5 t
  · have hb : spanB a c = false ∨ v.okB = false := by
      cases k1 : spanB a c
      · exact .inl rfl
      · cases k2 : v.okB
        · exact .inr rfl
        · exact absurd ⟨k1, k2⟩ hs
    refine (change_bad p b cap W n T V a c v 60 _ w h1 hb).mono ?_
    rintro e w' ⟨e1, e2⟩
    exact .inl ⟨e1, hb, e2⟩
theorem change_give (p : Nat) (W : V4) (f : Int → V4) (a c : Int) (v : V4) (X Y : Nat) (w : World) (h : Pr w p W f) (hX : w.heap[X]? = some (.cells #[.int .i64 v.a, .int .i64 v.b, .int .i64 v.c, .int .i64 v.d] 40 (0, 0))) (hY : w.heap[Y]? = some (.cells #[.pointer (some ⟨p, 0, none⟩)] 81 (0, 0))) :
    Calls Try.prog 62 #[.pointer (some ⟨p, 0, none⟩), .int .i64 a, .int .i64 c, .agg #[.int .i64 v.a, .int .i64 v.b, .int .i64 v.c, .int .i64 v.d], .int .i64 61, .func (.func 69) #[] #[.pointer (some ⟨X, 0, none⟩), .pointer (some ⟨Y, 0, none⟩)]] w (GivePost w p W f a c v) := by
  obtain ⟨b, cap, n, T, V, h1, h2, h3, h4, h5, h6⟩ := h
  by_cases hs : spanB a c = true ∧ v.okB = true
  · obtain ⟨hs1, hs2⟩ := hs
    obtain ⟨s1, s2, s3⟩ := (spanB_iff a c).1 hs1
    have hv := (V4.okB_iff v).1 hs2
    refine (change_any p b cap W n T V f a c v 61 69 #[.pointer (some ⟨X, 0, none⟩), .pointer (some ⟨Y, 0, none⟩)] (mvG W v) w h1 h2 h3 h4 h5 hs2 s1 s2 s3 eg_give1 (hid fun x w1 hx _ hb => give1_any X Y p _ W v x w1 hv hx h6 (by rw [hb.block X (lt_of hX), hX]) (by rw [hb.block Y (lt_of hY), hY]) (by rw [hb.block p (lt_of h1.h), h1.h]))).mono ?_
    rintro e w' (⟨e1, ⟨t, t1, t2, t3⟩, e3⟩ | ⟨e1, e2, e3, b', cap', n', T', V', k1, k2⟩)
    · exact .inr (.inl ⟨e1, ⟨hs1, hs2⟩, ⟨t, t1, t2, mvG_no t3⟩, e3⟩)
    · refine .inr (.inr ⟨e1, ⟨hs1, hs2⟩, fun t t1 t2 => (mvG_yes (e2 t t1 t2)).1, e3, b', cap', n', T', V', k1, ?_, fun t => ?_, fun t ht => ?_, fun t => ?_, h6⟩)
      · rw [chF_eq (k := fun x => x.add v) (fun t t1 t2 => (mvG_yes (e2 t t1 t2)).2)] at k2
        exact k2
      · unfold chF
        split
        · next q => exact (mvG_yes (e2 t q.1 q.2)).1
        · exact h3 t
      · rw [chF_out (by omega), h4 t ht]
      · unfold chF
        split
        · next q => exact V4.add_le_ok (h5 t) hv h6 (mvG_yes (e2 t q.1 q.2)).1
        · exact h5 t
  · have hb : spanB a c = false ∨ v.okB = false := by
      cases k1 : spanB a c
      · exact .inl rfl
      · cases k2 : v.okB
        · exact .inr rfl
        · exact absurd ⟨k1, k2⟩ hs
    refine (change_bad p b cap W n T V a c v 61 _ w h1 hb).mono ?_
    rintro e w' ⟨e1, e2⟩
    exact .inl ⟨e1, hb, e2⟩
theorem take_any (p : Nat) (W : V4) (f : Int → V4) (a c : Int) (v : V4) (w : World) (h : Pr w p W f) : Calls Try.prog 36 #[.pointer (some ⟨p, 0, none⟩), .int .i64 a, .int .i64 c, .agg #[.int .i64 v.a, .int .i64 v.b, .int .i64 v.c, .int .i64 v.d]] w (TakePost w p W f a c v) := by
  have X0 := hid (heap_new w (.cells #[.int .i64 v.a, .int .i64 v.b, .int .i64 v.c, .int .i64 v.d] 40))
  have g0 := hid (show Below w.heap.size w (w.alloc (.cells #[.int .i64 v.a, .int .i64 v.b, .int .i64 v.c, .int .i64 v.d] 40)) from by go_grown)
  have K := hid (change_take p W f a c v w.heap.size _ (h.keep g0.out) X0.out)
  have HF : Hid (∀ e w', TakePost (w.alloc (.cells #[.int .i64 v.a, .int .i64 v.b, .int .i64 v.c, .int .i64 v.d] 40)) p W f a c v e w' → ∃ x, e = .returned (.int .i64 x) ∧ TakePost w p W f a c v e w') := hid fun e w' hp => by
    have hs := g0.out.size
    rcases hp with ⟨rfl, h2, h3⟩ | ⟨rfl, h2, h4, h3⟩ | ⟨rfl, h2, h4, h3, h5⟩
    · exact ⟨_, rfl, .inl ⟨rfl, h2, below_step g0.out hs h3⟩⟩
    · exact ⟨_, rfl, .inr (.inl ⟨rfl, h2, h4, below_step g0.out hs h3⟩)⟩
    · exact ⟨_, rfl, .inr (.inr ⟨rfl, h2, h4, gb_trans g0.out h3, h5⟩)⟩
  obtain ⟨x0, x1, x2, x3⟩ := four X0.out
  clear h
  go_enter Try.func36, Try.ntmps36
  go_wp2_with fail
  refine K.out.mono ?_
  rintro _ w2 hp
  obtain ⟨x, rfl, hq⟩ := HF.out _ _ hp
  have HQ := hid hq
  clear hp hq
  go_wp2_with fail
  go_returns
  exact HQ.out
theorem give_any (p : Nat) (W : V4) (f : Int → V4) (a c : Int) (v : V4) (w : World) (h : Pr w p W f) : Calls Try.prog 44 #[.pointer (some ⟨p, 0, none⟩), .int .i64 a, .int .i64 c, .agg #[.int .i64 v.a, .int .i64 v.b, .int .i64 v.c, .int .i64 v.d]] w (GivePost w p W f a c v) := by
  have Y0 := hid (show ((w.alloc (.cells #[.pointer (some ⟨p, 0, none⟩)] 81)).alloc (.cells #[.int .i64 v.a, .int .i64 v.b, .int .i64 v.c, .int .i64 v.d] 40)).heap[w.heap.size]? = some (.cells #[.pointer (some ⟨p, 0, none⟩)] 81 (0, 0)) from heapA (heap_new w _))
  have X0 := hid (show ((w.alloc (.cells #[.pointer (some ⟨p, 0, none⟩)] 81)).alloc (.cells #[.int .i64 v.a, .int .i64 v.b, .int .i64 v.c, .int .i64 v.d] 40)).heap[w.heap.size + 1]? = some (.cells #[.int .i64 v.a, .int .i64 v.b, .int .i64 v.c, .int .i64 v.d] 40 (0, 0)) from by simpa using heap_new (w.alloc (.cells #[.pointer (some ⟨p, 0, none⟩)] 81)) (.cells #[.int .i64 v.a, .int .i64 v.b, .int .i64 v.c, .int .i64 v.d] 40))
  have g0 := hid (show Below w.heap.size w ((w.alloc (.cells #[.pointer (some ⟨p, 0, none⟩)] 81)).alloc (.cells #[.int .i64 v.a, .int .i64 v.b, .int .i64 v.c, .int .i64 v.d] 40)) from by go_grown)
  have K := hid (change_give p W f a c v (w.heap.size + 1) w.heap.size _ (h.keep g0.out) X0.out Y0.out)
  have HF : Hid (∀ e w', GivePost ((w.alloc (.cells #[.pointer (some ⟨p, 0, none⟩)] 81)).alloc (.cells #[.int .i64 v.a, .int .i64 v.b, .int .i64 v.c, .int .i64 v.d] 40)) p W f a c v e w' → ∃ x, e = .returned (.int .i64 x) ∧ GivePost w p W f a c v e w') := hid fun e w' hp => by
    have hs := g0.out.size
    rcases hp with ⟨rfl, h2, h3⟩ | ⟨rfl, h2, h4, h3⟩ | ⟨rfl, h2, h4, h3, h5⟩
    · exact ⟨_, rfl, .inl ⟨rfl, h2, below_step g0.out hs h3⟩⟩
    · exact ⟨_, rfl, .inr (.inl ⟨rfl, h2, h4, below_step g0.out hs h3⟩)⟩
    · exact ⟨_, rfl, .inr (.inr ⟨rfl, h2, h4, gb_trans g0.out h3, h5⟩)⟩
  obtain ⟨x0, x1, x2, x3⟩ := four X0.out
  have y0 := one Y0.out
  clear h
  go_enter Try.func44, Try.ntmps44
  go_wp2_with fail
  refine K.out.mono ?_
  rintro _ w2 hp
  obtain ⟨x, rfl, hq⟩ := HF.out _ _ hp
  have HQ := hid hq
  clear hp hq
  go_wp2_with fail
  go_returns
  exact HQ.out
theorem take_nil (a c : Int) (v : V4) (w : World) : Calls Try.prog 36 #[.pointer none, .int .i64 a, .int .i64 c, .agg #[.int .i64 v.a, .int .i64 v.b, .int .i64 v.c, .int .i64 v.d]] w fun e w' => e = .returned (.int .i64 1) ∧ Below w.heap.size w w' := by
  have X0 := hid (heap_new w (.cells #[.int .i64 v.a, .int .i64 v.b, .int .i64 v.c, .int .i64 v.d] 40))
  have g0 := hid (show Below w.heap.size w (w.alloc (.cells #[.int .i64 v.a, .int .i64 v.b, .int .i64 v.c, .int .i64 v.d] 40)) from by go_grown)
  have K := hid (fun fv => change_nil a c v 60 fv (w.alloc (.cells #[.int .i64 v.a, .int .i64 v.b, .int .i64 v.c, .int .i64 v.d] 40)))
  obtain ⟨x0, x1, x2, x3⟩ := four X0.out
  go_enter Try.func36, Try.ntmps36
  go_wp2_with fail
  refine (K.out _).mono ?_
  rintro _ w2 ⟨rfl, hb⟩
  have g2 := hid (below_step g0.out g0.out.size hb)
  clear hb
  go_wp2_with fail
  go_returns
  exact ⟨rfl, g2.out⟩
theorem give_nil (a c : Int) (v : V4) (w : World) : Calls Try.prog 44 #[.pointer none, .int .i64 a, .int .i64 c, .agg #[.int .i64 v.a, .int .i64 v.b, .int .i64 v.c, .int .i64 v.d]] w fun e w' => e = .returned (.int .i64 1) ∧ Below w.heap.size w w' := by
  have Y0 := hid (show ((w.alloc (.cells #[.pointer none] 81)).alloc (.cells #[.int .i64 v.a, .int .i64 v.b, .int .i64 v.c, .int .i64 v.d] 40)).heap[w.heap.size]? = some (.cells #[.pointer none] 81 (0, 0)) from heapA (heap_new w _))
  have X0 := hid (show ((w.alloc (.cells #[.pointer none] 81)).alloc (.cells #[.int .i64 v.a, .int .i64 v.b, .int .i64 v.c, .int .i64 v.d] 40)).heap[w.heap.size + 1]? = some (.cells #[.int .i64 v.a, .int .i64 v.b, .int .i64 v.c, .int .i64 v.d] 40 (0, 0)) from by simpa using heap_new (w.alloc (.cells #[.pointer none] 81)) (.cells #[.int .i64 v.a, .int .i64 v.b, .int .i64 v.c, .int .i64 v.d] 40))
  have g0 := hid (show Below w.heap.size w ((w.alloc (.cells #[.pointer none] 81)).alloc (.cells #[.int .i64 v.a, .int .i64 v.b, .int .i64 v.c, .int .i64 v.d] 40)) from by go_grown)
  have K := hid (fun fv => change_nil a c v 61 fv ((w.alloc (.cells #[.pointer none] 81)).alloc (.cells #[.int .i64 v.a, .int .i64 v.b, .int .i64 v.c, .int .i64 v.d] 40)))
  obtain ⟨x0, x1, x2, x3⟩ := four X0.out
  have y0 := one Y0.out
  go_enter Try.func44, Try.ntmps44
  go_wp2_with fail
  refine (K.out _).mono ?_
  rintro _ w2 ⟨rfl, hb⟩
  have g2 := hid (below_step g0.out g0.out.size hb)
  clear hb
  go_wp2_with fail
  go_returns
  exact ⟨rfl, g2.out⟩
end Go.Proofs.Ythkofnahimlijaa
