/- The disk in memory: what it holds, how it stays; New, Claim, bytes, Room, fenced, Cut. Condition: the disk stands in memory. -/
import Derived.Test.YtbpgeghenninnaaDoorBase
import Derived.BigQuiet
import Derived.Deep.QuietTactic
import Derived.Laws.StructEq
namespace Go.Proofs.YtbpgeghenninnaaDoor
open Go Go.RowKit
/-- What a disk holds. -/
structure Dsk where
  room : Int
  e : Int
  o : Int
  u : Int
  log : List UInt8
  snap : List UInt8
  stg : List UInt8
  armed : Bool
  cut : Int
def Dsk.cells (d : Dsk) (lv sv tv : Value) : Array Value := #[.int .i64 d.room, .int .i64 d.e, .int .i64 d.o, .int .i64 d.u, lv, sv, tv, .bool d.armed, .int .i64 d.cut]
structure Dsk.Good (d : Dsk) : Prop where
  r0 : 0 ≤ d.room
  r1 : d.room ≤ 1048576
  l : d.log.length ≤ 1048576
  s : d.snap.length ≤ 1048576
  t : d.stg.length ≤ 1048576
/-- The disk at block db, with these three slices; its own blocks lie from B on, the log's apart from the others'. -/
structure DV (w : World) (B db : Nat) (d : Dsk) (lv sv tv : Value) : Prop where
  h : w.heap[db]? = some (.cells (d.cells lv sv tv) 57 (0, 0))
  l : Own w B lv d.log
  s : Own w B sv d.snap
  t : Own w B tv d.stg
  a : ∀ k, lv.ownBlock = some k → sv.ownBlock ≠ some k ∧ tv.ownBlock ≠ some k
  g : d.Good
def DK (w : World) (B db : Nat) (d : Dsk) : Prop := ∃ lv sv tv, DV w B db d lv sv tv
theorem DV.dk {w : World} {B db : Nat} {d : Dsk} {lv sv tv : Value} (h : DV w B db d lv sv tv) : DK w B db d := ⟨_, _, _, h⟩
theorem DV.keep {w w' : World} {B db : Nat} {d : Dsk} {lv sv tv : Value} (h : DV w B db d lv sv tv) (hb : Below w.heap.size w w') : DV w' B db d lv sv tv :=
  ⟨keep0 hb h.h, h.l.keep hb, h.s.keep hb, h.t.keep hb, h.a, h.g⟩
theorem DK.keep {w w' : World} {B db : Nat} {d : Dsk} (h : DK w B db d) (hb : Below w.heap.size w w') : DK w' B db d := by
  obtain ⟨lv, sv, tv, h⟩ := h
  exact ⟨lv, sv, tv, h.keep hb⟩
theorem DK.lt {w : World} {B db : Nat} {d : Dsk} (h : DK w B db d) : db < w.heap.size := by
  obtain ⟨lv, sv, tv, h⟩ := h
  exact lt_of h.h
theorem DK.good {w : World} {B db : Nat} {d : Dsk} (h : DK w B db d) : d.Good := by
  obtain ⟨lv, sv, tv, h⟩ := h
  exact h.g
theorem Own.lt {w : World} {B : Nat} {v : Value} {bs : List UInt8} (h : Own w B v bs) : ∀ k, v.ownBlock = some k → ∃ cs, w.heap[k]? = some (.cells cs 5 (0, 0)) := by
  intro k hk
  obtain ⟨_, ⟨rfl, _⟩ | ⟨g, cap, cur, rfl, hb, hh, _⟩⟩ := h
  · cases hk
  · obtain rfl : g = k := by simpa [Value.ownBlock] using hk
    exact ⟨cur, hh⟩
/-- What a method of the disk may change: the disk's block and rows of bytes from B on. -/
def Fr (B db : Nat) (w w' : World) : Prop := Below B w w' ∧ ∀ k o, w.heap[k]? = some o → k ≠ db → (∀ cs, o ≠ .cells cs 5 (0, 0)) → w'.heap[k]? = some o
theorem Fr.of {B db : Nat} {w w' : World} (h : Below w.heap.size w w') (hB : B ≤ w.heap.size) : Fr B db w w' :=
  ⟨h.mono hB, fun _ _ hk _ _ => keep0 h hk⟩
theorem Fr.trans {B db : Nat} {w w' w'' : World} (h : Fr B db w w') (h2 : Fr B db w' w'') : Fr B db w w'' :=
  ⟨h.1.trans h2.1, fun k o hk hn ho => h2.2 k o (h.2 k o hk hn ho) hn ho⟩
theorem Fr.set {B db : Nat} {w w' : World} (h : Fr B db w w') (hB : B ≤ db) (i : Nat) (v : Value) : Fr B db w (w'.setCell ⟨db, i, none⟩ v) :=
  ⟨h.1.setCell (p := ⟨db, i, none⟩) hB v, fun k o hk hn ho => by rw [heap_setCell_other _ _ _ _ hn]; exact h.2 k o hk hn ho⟩
theorem Fr.grown {B db : Nat} {w w1 w' : World} {lv : Value} {bs : List UInt8} (h : Fr B db w w1) (hl : Own w1 B lv bs) (hg : w1.grownBy w' lv.ownBlock) (hB : B ≤ w1.heap.size) : Fr B db w w' := by
  refine ⟨Below.grown h.1 hg hB (own_base hl), fun k o hk hn ho => ?_⟩
  have h1 := h.2 k o hk hn ho
  rw [hg.block k (lt_of h1) (fun e => ?_), h1]
  obtain ⟨cs, hc⟩ := hl.lt k e.symm
  rw [h1] at hc
  exact ho cs (Option.some.inj hc)
theorem DV.cells {w : World} {B db : Nat} {d : Dsk} {lv sv tv : Value} (h : DV w B db d lv sv tv) : w.cell? ⟨db, 0, none⟩ = some (.int .i64 d.room) ∧ w.cell? ⟨db, 1, none⟩ = some (.int .i64 d.e) ∧ w.cell? ⟨db, 2, none⟩ = some (.int .i64 d.o) ∧ w.cell? ⟨db, 3, none⟩ = some (.int .i64 d.u) ∧
    w.cell? ⟨db, 4, none⟩ = some lv ∧ w.cell? ⟨db, 5, none⟩ = some sv ∧ w.cell? ⟨db, 6, none⟩ = some tv ∧ w.cell? ⟨db, 7, none⟩ = some (.bool d.armed) ∧ w.cell? ⟨db, 8, none⟩ = some (.int .i64 d.cut) := by
  refine ⟨?_, ?_, ?_, ?_, ?_, ?_, ?_, ?_, ?_⟩ <;> (rw [cell_of h.h]; rfl)
theorem grown_set (w : World) (b i : Nat) (v : Value) : w.grownBy (w.setCell ⟨b, i, none⟩ v) (some b) :=
  ⟨rfl, rfl, rfl, by simp, fun k _ hk => heap_setCell_other _ _ _ _ (fun e => hk (by rw [e]))⟩
theorem Own.setD {w : World} {B db : Nat} {v : Value} {bs : List UInt8} {c : Array Value} (hd : w.heap[db]? = some (.cells c 57 (0, 0))) (h : Own w B v bs) (i : Nat) (x : Value) : Own (w.setCell ⟨db, i, none⟩ x) B v bs := by
  have hl := h
  obtain ⟨hl0, h0 | ⟨g, cap, cur, rfl, hB, hh, r⟩⟩ := h
  · exact ⟨hl0, .inl h0⟩
  · refine ⟨hl0, .inr ⟨g, cap, cur, rfl, hB, ?_, r⟩⟩
    rw [heap_setCell_other _ _ _ _ (fun e => ?_), hh]
    simp only at e
    subst e
    rw [hh] at hd
    cases hd
/-- A cell of the disk is set: what the disk is then. -/
theorem DV.set {w : World} {B db : Nat} {d d' : Dsk} {lv sv tv : Value} (h : DV w B db d lv sv tv) (i : Nat) (x : Value) (lv' sv' tv' : Value)
    (e : (d.cells lv sv tv).setIfInBounds i x = d'.cells lv' sv' tv') (hl : Own w B lv' d'.log) (hs : Own w B sv' d'.snap) (ht : Own w B tv' d'.stg) (ha : ∀ k, lv'.ownBlock = some k → sv'.ownBlock ≠ some k ∧ tv'.ownBlock ≠ some k) (hg : d'.Good) :
    DV (w.setCell ⟨db, i, none⟩ x) B db d' lv' sv' tv' := by
  refine ⟨?_, hl.setD h.h i x, hs.setD h.h i x, ht.setD h.h i x, ha, hg⟩
  have := heap_setCell_same w db i _ 57 x h.h
  rw [← e]
  exact this
theorem DV.setE {w : World} {B db : Nat} {d d' : Dsk} {lv sv tv : Value} (h : DV w B db d lv sv tv) (i : Nat) (x : Value) 
    (e : (d.cells lv sv tv).setIfInBounds i x = d'.cells lv sv tv) (hl : d'.log = d.log) (hs : d'.snap = d.snap) (ht : d'.stg = d.stg) (hr : d'.room = d.room) :
    DV (w.setCell ⟨db, i, none⟩ x) B db d' lv sv tv :=
  h.set i x lv sv tv e (hl ▸ h.l) (hs ▸ h.s) (ht ▸ h.t) h.a ⟨hr ▸ h.g.r0, hr ▸ h.g.r1, hl ▸ h.g.l, hs ▸ h.g.s, ht ▸ h.g.t⟩
def Dsk.new (room : Int) : Dsk := ⟨min (max room 0) 1048576, 0, 0, 0, [], [], [], false, 0⟩
theorem Dsk.new_good (room : Int) : (Dsk.new room).Good := by
  refine ⟨?_, ?_, ?_, ?_, ?_⟩ <;> simp [Dsk.new] <;> omega
theorem own_nil (w : World) (B : Nat) : Own w B (.slice none 0 0) [] := ⟨by simp, .inl ⟨rfl, rfl⟩⟩
theorem new_any (room : Int) (w : World) : Calls Tryd.prog 8 #[.int .i64 room] w fun e w' => e = .returned (.pointer (some ⟨w.heap.size, 0, none⟩)) ∧ DK w' w.heap.size w.heap.size (Dsk.new room) ∧ Below w.heap.size w w' := by
  go_enter Tryd.func8, Tryd.ntmps8
  go_wp2_with fail
  all_goals go_returns
  all_goals refine ⟨rfl, ⟨.slice none 0 0, .slice none 0 0, .slice none 0 0, ?_, own_nil _ _, own_nil _ _, own_nil _ _, (fun k hk => by cases hk), Dsk.new_good _⟩, by go_grown⟩
  all_goals rw [heap_new]
  all_goals (simp only [Dsk.cells, Dsk.new]; congr 5; congr 1; omega)
theorem claim_any (B db : Nat) (d : Dsk) (w : World) (h : DK w B db d) : Calls Tryd.prog 14 #[.pointer (some ⟨db, 0, none⟩)] w fun e w' => e = .returned (.agg #[.int .i64 d.e, .int .i64 d.o, .int .i64 d.u]) ∧ Below w.heap.size w w' := by
  obtain ⟨lv, sv, tv, h⟩ := h
  obtain ⟨c0, c1, c2, c3, _⟩ := h.cells
  have hlt := lt_of h.h
  clear h
  generalize d.e = e at *
  generalize d.o = o at *
  generalize d.u = u at *
  go_enter Tryd.func14, Tryd.ntmps14
  go_wp2_with fail
  all_goals go_returns
  all_goals exact ⟨rfl, by go_grown⟩
theorem Own.slice {w : World} {B : Nat} {v : Value} {bs : List UInt8} (h : Own w B v bs) : ∃ A cap, v = .slice A bs.length cap := by
  obtain ⟨A, cap, h, _⟩ := h.is
  exact ⟨A, cap, h⟩
theorem bytes_any (B db : Nat) (d : Dsk) (lv sv tv : Value) (w : World) (h : DV w B db d lv sv tv) : Calls Tryd.prog 23 #[.pointer (some ⟨db, 0, none⟩)] w fun e w' => e = .returned (.agg (d.cells lv sv tv)) ∧ Below w.heap.size w w' := by
  have hlt := lt_of h.h
  obtain ⟨k0, k1, k2, k3, k4, k5, k6, k7, k8⟩ := h.cells
  obtain ⟨lA, lc, rfl⟩ := h.l.slice
  obtain ⟨sA, sc, rfl⟩ := h.s.slice
  obtain ⟨tA, tc, rfl⟩ := h.t.slice
  clear h
  obtain ⟨room, e, o, u, log, snap, stg, armed, cut⟩ := d
  simp only [Dsk.cells] at *
  go_enter Tryd.func23, Tryd.ntmps23
  go_wp2_with fail
  all_goals go_returns
  all_goals exact ⟨rfl, by go_grown⟩
theorem bytes_nil (w : World) : Calls Tryd.prog 23 #[.pointer none] w fun e w' => e = .returned (.agg #[.int .i64 0, .int .i64 0, .int .i64 0, .int .i64 0, .slice none 0 0, .slice none 0 0, .slice none 0 0, .bool false, .int .i64 0]) ∧ Below w.heap.size w w' := by
  go_enter Tryd.func23, Tryd.ntmps23
  go_wp2_with fail
  all_goals go_returns
  all_goals exact ⟨rfl, by go_grown⟩
theorem fieldRoom (a0 a1 a2 a3 a4 a5 a6 a7 a8 : Value) (w : World) : (Instr.field 57 (.agg #[a0, a1, a2, a3, a4, a5, a6, a7, a8]) 0).run Tryd.prog w = .ok a0 w := by kernel_rfl
theorem fieldLog (a0 a1 a2 a3 a5 a6 a7 a8 : Value) (A : Option Addr) (n c : Nat) (w : World) : (Instr.field 57 (.agg #[a0, a1, a2, a3, .slice A n c, a5, a6, a7, a8]) 2).run Tryd.prog w = .ok (.slice A n c) w := by kernel_rfl
theorem fieldSnap (a0 a1 a2 a3 a4 a6 a7 a8 : Value) (A : Option Addr) (n c : Nat) (w : World) : (Instr.field 57 (.agg #[a0, a1, a2, a3, a4, .slice A n c, a6, a7, a8]) 3).run Tryd.prog w = .ok (.slice A n c) w := by kernel_rfl
theorem room_any (B db : Nat) (d : Dsk) (w : World) (h : DK w B db d) : Calls Tryd.prog 10 #[.pointer (some ⟨db, 0, none⟩)] w fun e w' => e = .returned (.int .i64 d.room) ∧ Below w.heap.size w w' := by
  obtain ⟨lv, sv, tv, h⟩ := h
  have K := hid (bytes_any B db d lv sv tv w h)
  obtain ⟨lA, lc, rfl⟩ := h.l.slice
  obtain ⟨sA, sc, rfl⟩ := h.s.slice
  obtain ⟨tA, tc, rfl⟩ := h.t.slice
  simp only [Dsk.cells] at K
  clear h
  have hF := @fieldRoom
  go_enter Tryd.func10, Tryd.ntmps10
  go_wp2_with fail
  refine K.out.mono ?_
  rintro _ w1 ⟨rfl, hb⟩
  have g := hid hb
  clear hb
  go_wp2_with fail
  all_goals go_returns
  all_goals exact ⟨rfl, g.out⟩
theorem fenced_any (B db : Nat) (d : Dsk) (ep : Int) (w : World) (h : DK w B db d) : Calls Tryd.prog 32 #[.pointer (some ⟨db, 0, none⟩), .int .i64 ep] w fun e w' => e = .returned (.int .i64 (if ep = d.e then 0 else 150)) ∧ w = w' := by
  obtain ⟨lv, sv, tv, h⟩ := h
  obtain ⟨c0, c1, c2, c3, _⟩ := h.cells
  clear h
  generalize d.e = e at *
  by_cases he : ep = e
  · subst he
    rw [if_pos rfl]
    go_enter Tryd.func32, Tryd.ntmps32
    go_wp2_with fail
    all_goals go_returns
    all_goals exact ⟨rfl, rfl⟩
  · rw [if_neg he]
    have h1 : (ep != e) = true := by simpa using he
    clear he
    go_enter Tryd.func32, Tryd.ntmps32
    go_wp2_with fail
    all_goals go_returns
    all_goals exact ⟨rfl, rfl⟩
theorem cut_any (B db : Nat) (d : Dsk) (n : Int) (w : World) (h : DK w B db d) (hB : B ≤ db) : Calls Tryd.prog 22 #[.pointer (some ⟨db, 0, none⟩), .int .i64 n] w fun e w' => e = .returned (.tuple #[]) ∧ DK w' B db { d with armed := true, cut := n } ∧ Fr B db w w' := by
  obtain ⟨lv, sv, tv, h⟩ := h
  obtain ⟨c0, c1, c2, c3, c4, c5, c6, c7, c8⟩ := h.cells
  have hlt := lt_of h.h
  have f7 := free_of h.h 7
  have f8 := free_of h.h 8
  have h1 := hid (((h.setE (d' := { d with armed := true }) 7 (.bool true) rfl rfl rfl rfl rfl).setE (d' := { d with armed := true, cut := n }) 8 (.int .i64 n) rfl rfl rfl rfl rfl).dk)
  have g1 := hid ((((Fr.of (Below.refl _ w) (by omega) : Fr B db w w)).set hB 7 (.bool true)).set hB 8 (.int .i64 n))
  clear h
  go_enter Tryd.func22, Tryd.ntmps22
  go_wp2_with fail
  all_goals go_returns
  all_goals exact ⟨rfl, h1.out, g1.out⟩
theorem fenced_nil (ep : Int) (w : World) : Calls Tryd.prog 32 #[.pointer none, .int .i64 ep] w fun e w' => e = .returned (.int .i64 1) ∧ w = w' := by
  go_enter Tryd.func32, Tryd.ntmps32
  go_wp2_with fail
  all_goals go_returns
  all_goals exact ⟨rfl, rfl⟩
end Go.Proofs.YtbpgeghenninnaaDoor
