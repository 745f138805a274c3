/- profile.join: a step put behind others, if what is free changes there. Conditions: the steps stand in memory; whose they are. -/
import Derived.Test.YthkofnahimlijaaProf2
namespace Go.Proofs.Ythkofnahimlijaa
open Go Go.RowKit
theorem gb_trans {w w1 w2 : World} {o : Option Nat} (h : Below w.heap.size w w1) (k : w1.grownBy w2 o) : w.grownBy w2 o :=
  ⟨k.os.trans h.os, k.tape.trans h.tape, k.output.trans h.output, Nat.le_trans h.size k.size, fun j hj hn => (k.block j (by have := h.size; omega) hn).trans (h.block j hj)⟩
theorem Grown.behind {w w1 w2 : World} {o : Option Nat} {v : Value} {n : Nat} {T : Nat → Int} {V : Nat → V4} (h : Below w.heap.size w w1) (k : Grown w1 w2 o v n T V) : Grown w w2 o v n T V := by
  obtain ⟨o', b, cap, k⟩ := k
  refine ⟨o', b, cap, k.v, k.s, k.c, k.r, gb_trans h k.g, ?_⟩
  rcases k.a with a | ⟨j, a, hj⟩
  · exact .inl a
  · exact .inr ⟨j, a, by have := h.size; omega⟩
theorem dN {B : Nat} {w w1 : World} (h : Below B w w1) (q : Nat) : Below B w (w1.drewN q) := ⟨h.os, h.tape, h.output, h.size, h.block⟩
def JoinPost (w : World) (ow : Option Nat) (n : Nat) (T : Nat → Int) (V : Nat → V4) (e : Ending) (w' : World) : Prop := ∃ v', e = .returned v' ∧ Grown w w' ow v' n T V
theorem join_any (ow : Option Nat) (b cap n : Nat) (T : Nat → Int) (V : Nat → V4) (t : Int) (v : V4) (w : World) (hl : Sl w b n T V) (hc : n ≤ cap) (how : Ow w ow b cap n) (hn : n ≤ 2199023255552) :
    Calls Try.prog 80 #[.slice (some ⟨b, 0, none⟩) n cap, .agg #[.int .i64 t, .int .i64 v.a, .int .i64 v.b, .int .i64 v.c, .int .i64 v.d]] w (JoinPost w ow (jn n V v) (upd T n t) (upd V n v)) := by
  have hE := eq_v4
  have B0 := hid (heap_new w (.cells #[.int .i64 t, .int .i64 v.a, .int .i64 v.b, .int .i64 v.c, .int .i64 v.d] 105))
  have g0 := hid (show Below w.heap.size w (w.alloc (.cells #[.int .i64 t, .int .i64 v.a, .int .i64 v.b, .int .i64 v.c, .int .i64 v.d] 105)) from by go_grown)
  obtain ⟨x0, x1, x2, x3, x4⟩ := five B0.out
  have HL := hid hl
  have HO := hid how
  clear how
  have C1 : Hid (∀ q, (((w.alloc (.cells #[.int .i64 t, .int .i64 v.a, .int .i64 v.b, .int .i64 v.c, .int .i64 v.d] 105)).drewN q).alloc (.cells #[.int .i64 t, .int .i64 v.a, .int .i64 v.b, .int .i64 v.c, .int .i64 v.d] 105)).heap[w.heap.size + 1]? = some (.cells #[.int .i64 t, .int .i64 v.a, .int .i64 v.b, .int .i64 v.c, .int .i64 v.d] 105)) := hid fun q => by simpa using heap_new ((w.alloc (.cells #[.int .i64 t, .int .i64 v.a, .int .i64 v.b, .int .i64 v.c, .int .i64 v.d] 105)).drewN q) (.cells #[.int .i64 t, .int .i64 v.a, .int .i64 v.b, .int .i64 v.c, .int .i64 v.d] 105)
  have D1 : Hid (∀ q, Below w.heap.size w (((w.alloc (.cells #[.int .i64 t, .int .i64 v.a, .int .i64 v.b, .int .i64 v.c, .int .i64 v.d] 105)).drewN q).alloc (.cells #[.int .i64 t, .int .i64 v.a, .int .i64 v.b, .int .i64 v.c, .int .i64 v.d] 105))) := hid fun q => (dN g0.out q).alloc (by show w.heap.size ≤ (w.alloc (.cells #[.int .i64 t, .int .i64 v.a, .int .i64 v.b, .int .i64 v.c, .int .i64 v.d] 105)).heap.size; simp) (.cells #[.int .i64 t, .int .i64 v.a, .int .i64 v.b, .int .i64 v.c, .int .i64 v.d] 105)
  by_cases h0 : 0 < n
  · obtain ⟨m, rfl⟩ : ∃ m, n = m + 1 := ⟨n - 1, by omega⟩
    obtain ⟨_, y1, y2, y3, y4⟩ := (hl.keep g0.out).cells (i := m) (by omega)
    have hm0 : (0 : Int) < ((m + 1 : Nat) : Int) := by omega
    have hm1 : ((m + 1 : Nat) : Int) - 1 = (m : Int) := by omega
    have hlt := hl.lt
    clear hl
    by_cases hq : (V m).eqB v = true
    · have hj : jn (m + 1) V v = m + 1 := jn_same (by omega) (by rw [Nat.add_sub_cancel]; exact (V4.eqB_iff _ _).1 hq)
      rw [hj]
      clear hj
      go_enter Try.func80, Try.ntmps80
      go_wp2_with fail
      go_quiet (fail)
      all_goals
        go_wp2_with fail
        go_returns
        exact ⟨_, rfl, ow, b, cap, rfl, ((HL.out.keep g0.out).of rfl).congr (fun i hi => upd_lt _ _ hi) (fun i hi => upd_lt _ _ hi), hc, HO.out.keep (dN g0.out nq), gb_below (dN g0.out nq) _, .inl rfl⟩
    · have hj : jn (m + 1) V v = m + 1 + 1 := jn_more (by rw [Nat.add_sub_cancel]; exact fun h => hq ((V4.eqB_iff _ _).2 h.2))
      rw [hj]
      have hq' : (V m).eqB v = false := by simpa using hq
      clear hj hq
      go_enter Try.func80, Try.ntmps80
      go_wp2_with fail
      go_quiet (fail)
      all_goals
        go_wp2_with (at_builtin; refine wpList_append_step rfl _ _ rfl ow b cap (m + 1) T V rfl (HL.out.keep (D1.out nq)) hc (HO.out.keep (D1.out nq)) (w.heap.size + 1) t v rfl (C1.out nq) hn ?_; rintro v' w' hG; have HG := hid (hG.behind (D1.out nq)); clear hG)
        go_returns
        exact ⟨_, rfl, HG.out⟩
  · have hj : jn n V v = n + 1 := jn_more (by omega)
    rw [hj]
    obtain rfl : n = 0 := by omega
    have hd : decide ((0 : Int) < 0) = false := rfl
    clear hj hl h0
    go_enter Try.func80, Try.ntmps80
    go_wp2_with fail
    go_quiet (fail)
    all_goals
      go_wp2_with (at_builtin; refine wpList_append_step rfl _ _ rfl ow b cap 0 T V rfl (HL.out.keep (D1.out nq)) hc (HO.out.keep (D1.out nq)) (w.heap.size + 1) t v rfl (C1.out nq) hn ?_; rintro v' w' hG; have HG := hid (hG.behind (D1.out nq)); clear hG)
      go_returns
      exact ⟨_, rfl, HG.out⟩
end Go.Proofs.Ythkofnahimlijaa
