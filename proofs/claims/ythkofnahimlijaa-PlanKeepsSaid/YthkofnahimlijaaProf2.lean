/- vec's functions in terms of amounts as four numbers; a step put behind others. Conditions: amounts that may be, where told. -/
import Derived.Test.YthkofnahimlijaaProf1
import Derived.Test.YthkofnahimlijaaRefR
import Derived.Test.YthkofnahimlijaaRefF
namespace Go.Proofs.Ythkofnahimlijaa
open Go Go.RowKit
def V4.m (x : V4) : Nat → Int
  | 0 => x.a
  | 1 => x.b
  | 2 => x.c
  | _ => x.d
theorem rightB_m (x : V4) : rightB x.m = x.okB := by
  rw [Bool.eq_iff_iff, rightB_iff, V4.okB_iff]
  constructor
  · intro h
    exact ⟨h 0 (by decide), h 1 (by decide), h 2 (by decide), h 3 (by decide)⟩
  · rintro ⟨h0, h1, h2, h3⟩ i hi
    rcases (by omega : i = 0 ∨ i = 1 ∨ i = 2 ∨ i = 3) with rfl | rfl | rfl | rfl
    · exact h0
    · exact h1
    · exact h2
    · exact h3
theorem fitsB_m (x y : V4) : fitsB x.m y.m = x.leB y := by
  rw [Bool.eq_iff_iff, fitsB_iff, V4.leB_iff]
  constructor
  · intro h
    exact ⟨h 0 (by decide), h 1 (by decide), h 2 (by decide), h 3 (by decide)⟩
  · rintro ⟨h0, h1, h2, h3⟩ i hi
    rcases (by omega : i = 0 ∨ i = 1 ∨ i = 2 ∨ i = 3) with rfl | rfl | rfl | rfl
    · exact h0
    · exact h1
    · exact h2
    · exact h3
theorem right4 (x : V4) (w : World) : Calls Try.prog 34 #[.agg #[.int .i64 x.a, .int .i64 x.b, .int .i64 x.c, .int .i64 x.d]] w fun e w' => e = .returned (.bool x.okB) ∧ Below w.heap.size w w' := by
  have h := right_any x.m w
  rw [rightB_m] at h
  exact h
theorem rright4 (x : V4) (w : World) : Calls Try.prog 37 #[.agg #[.int .i64 x.a, .int .i64 x.b, .int .i64 x.c, .int .i64 x.d]] w fun e w' => e = .returned (.bool x.okB) ∧ Below w.heap.size w w' := by
  have h := rright_any x.m w
  rw [rightB_m] at h
  exact h
theorem fits4 (x y : V4) (w : World) : Calls Try.prog 60 #[.agg #[.int .i64 x.a, .int .i64 x.b, .int .i64 x.c, .int .i64 x.d], .agg #[.int .i64 y.a, .int .i64 y.b, .int .i64 y.c, .int .i64 y.d]] w fun e w' => e = .returned (.bool (x.leB y)) ∧ Below w.heap.size w w' := by
  have h := fits_any x.m y.m w
  rw [fitsB_m] at h
  exact h
theorem rfits4 (x y : V4) (w : World) : Calls Try.prog 72 #[.agg #[.int .i64 x.a, .int .i64 x.b, .int .i64 x.c, .int .i64 x.d], .agg #[.int .i64 y.a, .int .i64 y.b, .int .i64 y.c, .int .i64 y.d]] w fun e w' => e = .returned (.bool (x.leB y)) ∧ Below w.heap.size w w' := by
  have h := rfits_any x.m y.m w
  rw [fitsB_m] at h
  exact h
theorem least4 (x y : V4) (w : World) : Calls Try.prog 78 #[.agg #[.int .i64 x.a, .int .i64 x.b, .int .i64 x.c, .int .i64 x.d], .agg #[.int .i64 y.a, .int .i64 y.b, .int .i64 y.c, .int .i64 y.d]] w fun e w' => e = .returned (.agg #[.int .i64 (x.mn y).a, .int .i64 (x.mn y).b, .int .i64 (x.mn y).c, .int .i64 (x.mn y).d]) ∧ Below w.heap.size w w' := least_any x.m y.m w
def subV (x y : V4) : V4 × Int := if (x.sub y).okB = true then (x.sub y, 0) else (V4.z, 31)
def addV (x y : V4) : V4 × Int := if (x.add y).okB = true then (x.add y, 0) else (V4.z, 30)
theorem withF_m (x : V4) (e : Int) : withF x.m e = if x.okB = true then (x.m, 0) else (fun _ => 0, e) := by
  unfold withF
  rw [rightB_m]
theorem sub4 (x y : V4) (hx : x.ok) (hy : y.ok) (w : World) : Calls Try.prog 64 #[.agg #[.int .i64 x.a, .int .i64 x.b, .int .i64 x.c, .int .i64 x.d], .agg #[.int .i64 y.a, .int .i64 y.b, .int .i64 y.c, .int .i64 y.d]] w fun e w' => e = .returned (.tuple #[.agg #[.int .i64 ((subV x y).1).a, .int .i64 ((subV x y).1).b, .int .i64 ((subV x y).1).c, .int .i64 ((subV x y).1).d], .int .i64 (subV x y).2]) ∧ Below w.heap.size w w' := by
  have h := sub_any x.m y.m w
  have e : subF x.m y.m = withF (x.sub y).m 31 := by
    unfold subF
    rw [if_pos ⟨by rw [rightB_m]; exact (V4.okB_iff _).2 hx, by rw [rightB_m]; exact (V4.okB_iff _).2 hy⟩]
    congr 1
    funext i
    match i with
    | 0 => rfl
    | 1 => rfl
    | 2 => rfl
    | _ + 3 => rfl
  rw [e, withF_m] at h
  unfold subV
  by_cases hk : (x.sub y).okB = true
  · rw [if_pos hk] at h ⊢
    exact h
  · rw [if_neg hk] at h ⊢
    exact h
theorem add4 (x y : V4) (hx : x.ok) (hy : y.ok) (w : World) : Calls Try.prog 70 #[.agg #[.int .i64 x.a, .int .i64 x.b, .int .i64 x.c, .int .i64 x.d], .agg #[.int .i64 y.a, .int .i64 y.b, .int .i64 y.c, .int .i64 y.d]] w fun e w' => e = .returned (.tuple #[.agg #[.int .i64 ((addV x y).1).a, .int .i64 ((addV x y).1).b, .int .i64 ((addV x y).1).c, .int .i64 ((addV x y).1).d], .int .i64 (addV x y).2]) ∧ Below w.heap.size w w' := by
  have h := add_any x.m y.m w
  have e : addF x.m y.m = withF (x.add y).m 30 := by
    unfold addF
    rw [if_pos ⟨by rw [rightB_m]; exact (V4.okB_iff _).2 hx, by rw [rightB_m]; exact (V4.okB_iff _).2 hy⟩]
    congr 1
    funext i
    match i with
    | 0 => rfl
    | 1 => rfl
    | 2 => rfl
    | _ + 3 => rfl
  rw [e, withF_m] at h
  unfold addV
  by_cases hk : (x.add y).okB = true
  · rw [if_pos hk] at h ⊢
    exact h
  · rw [if_neg hk] at h ⊢
    exact h
theorem eq_v4 (x y : V4) (w : World) : (Op.equalIn 10000 40 (.agg #[.int .i64 x.a, .int .i64 x.b, .int .i64 x.c, .int .i64 x.d]) (.agg #[.int .i64 y.a, .int .i64 y.b, .int .i64 y.c, .int .i64 y.d])).run Try.prog w = .ok (x.eqB y) w := eq_vec x.a x.b x.c x.d y.a y.b y.c y.d w
/-- Whose block a row of steps is: nobody's (then nothing is written over), or the caller's own. -/
def Ow (w : World) (o : Option Nat) (b cap n : Nat) : Prop := (o = none ∧ cap = n) ∨ (o = some b ∧ cap ≤ maxLen ∧ ∃ cs, w.heap[b]? = some (.cells cs 105 (0, 0)) ∧ cs.size = cap * 5)
theorem Ow.row {w : World} {b cap n : Nat} {T : Nat → Int} {V : Nat → V4} (hs : Sl w b n T V) (hc : n ≤ cap) (h : Ow w (some b) b cap n) : w.ownsRow 0 105 5 (.slice (some ⟨b, 0, none⟩) n cap) n (srow n T V) := by
  rcases h with ⟨h, _⟩ | ⟨_, hm, cs, hh, hz⟩
  · cases h
  · obtain ⟨cs', fr, h1, h2⟩ := hs
    rw [hh] at h1
    obtain ⟨rfl, rfl⟩ : cs = cs' ∧ (0, 0) = fr := by simpa using h1
    exact ⟨srow_len _ _ _, .inr ⟨b, cap, cs, rfl, Nat.zero_le _, hh, hc, hm, hz, h2⟩⟩
theorem Ow.gb {w w' : World} {o o' : Option Nat} {b cap n : Nat} (h : Ow w o b cap n) (hb : w.grownBy w' o') (hn : o' ≠ some b) : Ow w' o b cap n := by
  rcases h with h | ⟨h1, h2, cs, hh, hz⟩
  · exact .inl h
  · exact .inr ⟨h1, h2, cs, gb_keep hb hh hn, hz⟩
theorem Ow.keep {w w' : World} {o : Option Nat} {b cap n : Nat} (h : Ow w o b cap n) (hb : Below w.heap.size w w') : Ow w' o b cap n := by
  rcases h with h | ⟨h1, h2, cs, hh, hz⟩
  · exact .inl h
  · exact .inr ⟨h1, h2, cs, keep0 hb hh, hz⟩
/-- What came of a step put behind n others: the row, whose it is, and what else changed. -/
structure Gr (w w' : World) (o : Option Nat) (v : Value) (n : Nat) (T : Nat → Int) (V : Nat → V4) (o' : Option Nat) (b cap : Nat) : Prop where
  v : v = .slice (some ⟨b, 0, none⟩) n cap
  s : Sl w' b n T V
  c : n ≤ cap
  r : Ow w' o' b cap n
  g : w.grownBy w' o
  a : o' = o ∨ ∃ k, o' = some k ∧ w.heap.size ≤ k
def Grown (w w' : World) (o : Option Nat) (v : Value) (n : Nat) (T : Nat → Int) (V : Nat → V4) : Prop := ∃ o' b cap, Gr w w' o v n T V o' b cap
theorem info_parts {i : Option TypeInfo} {z : Value} {s b : Nat} (h : ∃ i0, i = some i0 ∧ i0.zero = some z ∧ i0.size = s ∧ i0.bytes = b) : ∃ i0, i = some i0 ∧ i0.zero = some z ∧ i0.size = s ∧ i0.bytes = b := h
theorem step_info : ∃ i0, Try.prog.info? 105 = some i0 ∧ i0.zero = some (.agg #[.int .i64 0, .int .i64 0, .int .i64 0, .int .i64 0, .int .i64 0]) ∧ i0.size = 5 ∧ i0.bytes = 40 := by
  obtain ⟨i, hi⟩ := Option.isSome_iff_exists.1 (show (Try.prog.info? 105).isSome = true by kernel_rfl)
  have h1 : (Try.prog.info? 105).map (·.zero) = some (some (.agg #[.int .i64 0, .int .i64 0, .int .i64 0, .int .i64 0, .int .i64 0])) := by kernel_rfl
  have h2 : (Try.prog.info? 105).map (·.size) = some 5 := by kernel_rfl
  have h3 : (Try.prog.info? 105).map (·.bytes) = some 40 := by kernel_rfl
  rw [hi] at h1 h2 h3
  simp at h1 h2 h3
  exact ⟨i, hi, h1, h2, h3⟩
/-- append of one step that was laid into block g, for the walk. -/
theorem wpList_append_step {w : World} {ops : Array Oper} {rest : List Oper} {o : Oper} {a : Act} {Q : Exit → Act → World → Prop} (hgd : o.guard = none) (s x : Operand)
    (ho : o.op = .call { callee := .builtin .append, args := #[s, x], argTypes := #[106, 106] }) (ow : Option Nat) (b cap n : Nat) (T : Nat → Int) (V : Nat → V4) (hs : a.eval s = .slice (some ⟨b, 0, none⟩) n cap)
    (hl : Sl w b n T V) (hc : n ≤ cap) (how : Ow w ow b cap n) (g : Nat) (t : Int) (v : V4) (hx : a.eval x = .slice (some ⟨g, 0, none⟩) 1 1) (hg : w.heap[g]? = some (.cells #[.int .i64 t, .int .i64 v.a, .int .i64 v.b, .int .i64 v.c, .int .i64 v.d] 105 (0, 0))) (hn : n ≤ 2199023255552)
    (h : ∀ v' w', Grown w w' ow v' (n + 1) (upd T n t) (upd V n v) → wpList Try.prog ops Q rest (a.put o.dst v') w') : wpList Try.prog ops Q (o :: rest) a w := by
  obtain ⟨i0, hi, hz0, hz1, hz2⟩ := step_info
  have hnews := World.news_of_block hg
  have h1 : ∀ u ∈ (#[.int .i64 t, .int .i64 v.a, .int .i64 v.b, .int .i64 v.c, .int .i64 v.d] : Array Value).toList, u.oneCell' = true := by
    intro u hu
    simp at hu
    rcases hu with rfl | rfl | rfl | rfl | rfl <;> rfl
  have he : srow (n + 1) (upd T n t) (upd V n v) = srow n T V ++ (#[.int .i64 t, .int .i64 v.a, .int .i64 v.b, .int .i64 v.c, .int .i64 v.d] : Array Value).toList := srow_upd
  have fin : ∀ {v' : Value} {w' : World} {B : Nat}, w'.ownsRow B 105 5 v' (n + 1) (srow n T V ++ (#[.int .i64 t, .int .i64 v.a, .int .i64 v.b, .int .i64 v.c, .int .i64 v.d] : Array Value).toList) → ∃ b' cap', v' = .slice (some ⟨b', 0, none⟩) (n + 1) cap' ∧ B ≤ b' ∧ Sl w' b' (n + 1) (upd T n t) (upd V n v) ∧ n + 1 ≤ cap' ∧ Ow w' (some b') b' cap' (n + 1) := by
    rintro v' w' B ⟨_, ⟨_, h0⟩ | ⟨b', cap', cur, rfl, hB, hh, h3, h4, h5, h6⟩⟩
    · omega
    · exact ⟨b', cap', rfl, hB, ⟨cur, _, hh, by rw [h6, he]⟩, h3, .inr ⟨rfl, h4, cur, hh, h5⟩⟩
  by_cases hroom : n + 1 ≤ cap
  · have how' : ow = some b := by
      rcases how with ⟨_, h0⟩ | ⟨h0, _⟩
      · omega
      · exact h0
    subst how'
    refine wpList_append_own_spare w hgd s x 106 ho 0 105 i0 5 Try.underlying106 hi hz1 b n cap (srow n T V) hs (Ow.row hl hc how) ⟨g, 0, none⟩ 1 1 _ hx rfl hnews h1 hroom ?_
    intro w' ho' hgr
    obtain ⟨b', cap', e, _, k1, k2, k3⟩ := fin ho'
    simp only [Value.slice.injEq, Option.some.injEq, Addr.mk.injEq] at e
    obtain ⟨⟨rfl, _⟩, _, rfl⟩ := e
    exact h _ w' ⟨some b, b, cap, rfl, k1, k2, k3, by simpa [Value.ownBlock] using hgr, .inl rfl⟩
  · have hcells : ∀ b0, some (⟨b, 0, none⟩ : Addr) = some b0 → ∀ j u, (srow n T V)[j]? = some u → w.cell? (b0.add j) = some u := by
      intro b0 e j u hj
      cases e
      obtain ⟨cs, fr, c1, c2⟩ := hl
      have hlt : j < n * 5 := by
        have := (List.getElem?_eq_some_iff.1 hj).1
        rwa [srow_len] at this
      have hadd : (⟨b, 0, none⟩ : Addr).add j = ⟨b, j, none⟩ := by unfold Addr.add; split <;> simp_all
      rw [hadd, ← hj, ← c2, List.getElem?_take_of_lt hlt]
      simp [World.cell?, c1]
    refine wpList_append_grows w hgd s x 106 ho 105 i0 _ 5 40 Try.underlying106 hi hz0 hz1 hz2 rfl (by decide) (some ⟨b, 0, none⟩) n cap (srow n T V) hs (fun e => by cases e) (srow_len _ _ _) hcells ⟨g, 0, none⟩ 1 1 _ hx rfl hnews h1 (by omega) (by unfold maxLen; omega) (by omega) ?_
    intro v' w' ho' hgr
    obtain ⟨b', cap', rfl, hB, k1, k2, k3⟩ := fin ho'
    have hgr' : Below w.heap.size w w' := gb_none hgr
    rcases how with ⟨rfl, _⟩ | ⟨rfl, _⟩
    · exact h _ w' ⟨some b', b', cap', rfl, k1, k2, k3, gb_below hgr' _, .inr ⟨b', rfl, hB⟩⟩
    · exact h _ w' ⟨some b', b', cap', rfl, k1, k2, k3, gb_below hgr' _, .inr ⟨b', rfl, hB⟩⟩
end Go.Proofs.Ythkofnahimlijaa
