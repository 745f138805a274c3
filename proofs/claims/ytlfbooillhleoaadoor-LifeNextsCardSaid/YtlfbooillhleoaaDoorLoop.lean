/- life.Next's loop over its table: what it gives from each row on. Condition: the tables stand as the program's text lays them. -/
import Derived.Test.YtlfbooillhleoaaDoorNext
import Derived.Outline
import Derived.Laws.Tables
namespace Go.Proofs.YtlfbooillhleoaaDoor
open Go Go.RowKit
theorem results_row_tmp {P : Program} {fn : Func} {p u : Tmp} {ty : TypeId} (h : fn.results = #[.cell p ty, .tmp u]) (tmps : Array Value) (w : World) (g : Nat) (t : TypeId) (cs : Array Value) (fr : Nat × Nat) (d : TypeDesc)
    (v : Value) (hp : tmps.getD p undef = .pointer (some ⟨g, 0, none⟩)) (hv : tmps.getD u undef = v) (hg : w.heap[g]? = some (.cells cs t fr))
    (hu : P.underlying ty = some d) (hd : (match d with | .struct _ | .array _ _ => true | _ => false) = true) (hi : (P.info? ty).map (·.size) = some cs.size) :
    (results fn tmps).run P w = .ok (.tuple #[.agg cs, v]) w := by
  subst hv
  have hp' : tmps[p]?.getD undef = .pointer (some ⟨g, 0, none⟩) := by simpa using hp
  simp [results, h, hp', asAddr, run_loadVar_row w g t ty cs fr d hg hu hd hi]
theorem below_setRow {B : Nat} {a w : World} (h : Below B a w) {g : Nat} (hg : B ≤ g) (cs : Array Value) : Below B a (w.setRow g cs) :=
  ⟨h.os, h.tape, h.output, by have := h.size; simpa [World.setRow] using this, fun k hk => (setRow_other w g k cs (by omega)).trans (h.block k hk)⟩
structure NInv (B : Nat) (s a l : Int) (b t : Bool) (sg : Int) (wr : World) : Prop where
  size : B + 4 ≤ wr.heap.size
  box : wr.heap[B]? = some (.cells #[.int .i64 s, .int .i64 a, .int .i64 l, .bool b, .bool t] 24 (0, 0))
  res : wr.heap[B + 1]? = some (.cells #[.int .i64 0, .int .i64 0, .int .i64 0, .bool false, .bool false] 24 (0, 0))
  now : wr.heap[B + 1 + 1 + 1]? = some (.cells #[.int .i64 s, .int .i64 sg] 43 (0, 0))
theorem NInv.alloc {B : Nat} {s a l : Int} {b t : Bool} {sg : Int} {wr : World} (h : NInv B s a l b t sg wr) (o : Obj) : NInv B s a l b t sg (wr.alloc o) := by
  have hs := h.size
  refine ⟨by simp; omega, ?_, ?_, ?_⟩
  · rw [Below.heap_alloc _ _ _ (by omega)]; exact h.box
  · rw [Below.heap_alloc _ _ _ (by omega)]; exact h.res
  · rw [Below.heap_alloc _ _ _ (by omega)]; exact h.now
theorem heap_new (w : World) (o : Obj) : (w.alloc o).heap[w.heap.size]? = some o := by
  show (w.heap.push o)[w.heap.size]? = some o
  simp
theorem NInv.start (w : World) (s a l : Int) (b t : Bool) (sg : Int) (o : Obj) : NInv w.heap.size s a l b t sg ((((w.alloc (.cells #[.int .i64 s, .int .i64 a, .int .i64 l, .bool b, .bool t] 24)).alloc (.cells #[.int .i64 0, .int .i64 0, .int .i64 0, .bool false, .bool false] 24)).alloc o).alloc (.cells #[.int .i64 s, .int .i64 sg] 43)) := by
  refine ⟨by simp, ?_, ?_, ?_⟩
  · rw [Below.heap_alloc _ _ _ (by simp; try omega), Below.heap_alloc _ _ _ (by simp; try omega), Below.heap_alloc _ _ _ (by simp)]
    exact heap_new w _
  · rw [Below.heap_alloc _ _ _ (by simp; try omega), Below.heap_alloc _ _ _ (by simp)]
    have := heap_new (w.alloc (.cells #[.int .i64 s, .int .i64 a, .int .i64 l, .bool b, .bool t] 24)) (.cells #[.int .i64 0, .int .i64 0, .int .i64 0, .bool false, .bool false] 24)
    simpa using this
  · have := heap_new (((w.alloc (.cells #[.int .i64 s, .int .i64 a, .int .i64 l, .bool b, .bool t] 24)).alloc (.cells #[.int .i64 0, .int .i64 0, .int .i64 0, .bool false, .bool false] 24)).alloc o) (.cells #[.int .i64 s, .int .i64 sg] 43)
    simpa using this
theorem cell_of {w : World} {B : Nat} {cs : Array Value} {t : TypeId} (h : w.heap[B]? = some (.cells cs t (0, 0))) (i : Nat) : w.cell? ⟨B, i, none⟩ = cs[i]? := by simp [World.cell?, h]
theorem free_of {w : World} {B : Nat} {cs : Array Value} {t : TypeId} (h : w.heap[B]? = some (.cells cs t (0, 0))) (i : Nat) : w.frozen? ⟨B, i, none⟩ = false := by simp [World.frozen?, h]
def rowK (k : Nat) : Int × Int × Int :=
  match k with
  | 0 => (1, 1, 2) | 1 => (2, 2, 1) | 2 => (1, 3, 3) | 3 => (1, 6, 8) | 4 => (2, 6, 8) | 5 => (1, 7, 8) | 6 => (2, 7, 8) | 7 => (3, 4, 4) | 8 => (3, 5, 4) | 9 => (3, 6, 4) | 10 => (4, 4, 4) | 11 => (4, 5, 4) | 12 => (4, 6, 4) | _ => (3, 8, 5)
def missK (k : Nat) (s sg : Int) : Prop := ∀ j, j < k → ¬ (s = (rowK j).1 ∧ sg = (rowK j).2.1)
theorem missK_succ {k : Nat} {s sg p q : Int} (h : missK k s sg) (hp : (rowK k).1 = p) (hq : (rowK k).2.1 = q) (hx : ¬ (p = s ∧ q = sg)) : missK (k + 1) s sg := by
  intro j hj
  by_cases e : j = k
  · subst e
    rw [hp, hq]
    exact fun hh => hx ⟨hh.1.symm, hh.2.symm⟩
  · exact h j (by omega)
theorem idx_row (k : Nat) (h : k < 14) (W : World) : (Instr.index 47 (.agg rowCells.toArray) (.int .i64 (k : Int))).run Tryd.prog W = .ok (.agg #[.int .i64 (rowK k).1, .int .i64 (rowK k).2.1, .int .i64 (rowK k).2.2]) W := by
  rcases (by omega : k = 0 ∨ k = 1 ∨ k = 2 ∨ k = 3 ∨ k = 4 ∨ k = 5 ∨ k = 6 ∨ k = 7 ∨ k = 8 ∨ k = 9 ∨ k = 10 ∨ k = 11 ∨ k = 12 ∨ k = 13) with rfl | rfl | rfl | rfl | rfl | rfl | rfl | rfl | rfl | rfl | rfl | rfl | rfl | rfl <;> kernel_rfl
/-- What the loop leaves: the row's step, or the error. -/
def LoopEnd (s a l : Int) (b t : Bool) (sg : Int) (e : Ending) : Prop :=
  (∃ k, k < 14 ∧ s = (rowK k).1 ∧ sg = (rowK k).2.1 ∧ e = .returned (.tuple #[.agg #[.int .i64 (rowK k).2.2, .int .i64 (stA sg a), .int .i64 l, .bool (stB sg b), .bool (stT sg (rowK k).2.2 t)], .int .i64 0])) ∨
  (missK 14 s sg ∧ e = .returned (.tuple #[.agg #[.int .i64 0, .int .i64 0, .int .i64 0, .bool false, .bool false], .int .i64 100]))
set_option maxHeartbeats 1000000 in
theorem next_loop (s a l : Int) (b t : Bool) (sg : Int) (w : World) (hT : Tab w) (h1 : 1 ≤ s) (h8 : s ≤ 8) (ha : 0 ≤ a) (hl : 0 ≤ l) (hal : a + l ≤ 6) (hx : ¬ (s = 4 ∧ (sg = 8 ∨ (sg = 6 ∧ t = true))))
   (K' : Hid (∀ W, Below w.heap.size w W → Calls Tryd.prog 13 #[.agg #[.int .i64 s, .int .i64 a, .int .i64 l, .bool b, .bool t]] W fun e w' => e = .returned (.bool true) ∧ W.alloc (.cells #[.int .i64 s, .int .i64 a, .int .i64 l, .bool b, .bool t] 24) = w')) :
    Calls Tryd.prog 10 #[.agg #[.int .i64 s, .int .i64 a, .int .i64 l, .bool b, .bool t], .int .i64 sg] w fun e w' => LoopEnd s a l b t sg e ∧ Below w.heap.size w w' := by
  obtain ⟨⟨t0, f0, g0⟩, g1⟩ := hT
  have hs0 : 0 < w.heap.size := (Array.getElem?_eq_some_iff.1 g0).1
  have G0 := hid g0
  clear g0 g1
  have hx' : (¬ s = 4 ∨ (s = 4 ∧ ¬ sg = 8 ∧ ¬ sg = 6)) ∨ (s = 4 ∧ sg = 6 ∧ t = false) := by
    by_cases p4 : s = 4
    · by_cases p6 : sg = 6
      · exact .inr ⟨p4, p6, by cases t; rfl; exact absurd ⟨p4, .inr ⟨p6, rfl⟩⟩ hx⟩
      · exact .inl (.inr ⟨p4, fun p8 => hx ⟨p4, .inl p8⟩, p6⟩)
    · exact .inl (.inl p4)
  clear hx
  rcases hx' with (p4 | ⟨rfl, p8, p6⟩) | ⟨rfl, rfl, rfl⟩
  · go_enter Tryd.func10, Tryd.ntmps10
    go_wp2_with (first | (go_at_call 13; refine (K'.out _ (by go_grown)).mono ?_; rintro e w1 ⟨rfl, rfl⟩) | (refine wpList_load_row rfl 47 _ rfl 0 rfl t0 rowCells.toArray f0 _ (((by go_grown : Below w.heap.size w _).block 0 hs0).trans G0.out) Tryd.underlying47 rfl (by kernel_rfl) ?_))
    go_loopw [31] (fun i wr => ∃ k : Nat, k ≤ 14 ∧ i = .int .i64 k ∧ NInv w.heap.size s a l b t sg wr ∧ Below w.heap.size w wr ∧ missK k s sg) (fun i _ => 14 - (intOf i).toNat)
    case atStart => exact ⟨0, by omega, rfl, NInv.start _ _ _ _ _ _ _ _, by go_grown, fun j hj => absurd hj (by omega)⟩
    case round =>
      obtain ⟨k, hk, rfl, hN, hb, hm⟩ := hrel
      have HM := hid hm
      have HB := hid hb
      have hz := hN.size
      have r0 : wr.cell? ⟨w.heap.size + 1, 0, none⟩ = some (.int .i64 0) := by rw [cell_of hN.res 0]; rfl
      have q0 : wr.frozen? ⟨w.heap.size + 1, 0, none⟩ = false := free_of hN.res 0
      have r1 : wr.cell? ⟨w.heap.size + 1, 1, none⟩ = some (.int .i64 0) := by rw [cell_of hN.res 1]; rfl
      have q1 : wr.frozen? ⟨w.heap.size + 1, 1, none⟩ = false := free_of hN.res 1
      have r2 : wr.cell? ⟨w.heap.size + 1, 2, none⟩ = some (.int .i64 0) := by rw [cell_of hN.res 2]; rfl
      have q2 : wr.frozen? ⟨w.heap.size + 1, 2, none⟩ = false := free_of hN.res 2
      have r3 : wr.cell? ⟨w.heap.size + 1, 3, none⟩ = some (.bool false) := by rw [cell_of hN.res 3]; rfl
      have q3 : wr.frozen? ⟨w.heap.size + 1, 3, none⟩ = false := free_of hN.res 3
      have r4 : wr.cell? ⟨w.heap.size + 1, 4, none⟩ = some (.bool false) := by rw [cell_of hN.res 4]; rfl
      have q4 : wr.frozen? ⟨w.heap.size + 1, 4, none⟩ = false := free_of hN.res 4
      have b0 : wr.cell? ⟨w.heap.size, 0, none⟩ = some (.int .i64 s) := by rw [cell_of hN.box 0]; rfl
      have b1 : wr.cell? ⟨w.heap.size, 1, none⟩ = some (.int .i64 a) := by rw [cell_of hN.box 1]; rfl
      have b2 : wr.cell? ⟨w.heap.size, 2, none⟩ = some (.int .i64 l) := by rw [cell_of hN.box 2]; rfl
      have b3 : wr.cell? ⟨w.heap.size, 3, none⟩ = some (.bool b) := by rw [cell_of hN.box 3]; rfl
      have b4 : wr.cell? ⟨w.heap.size, 4, none⟩ = some (.bool t) := by rw [cell_of hN.box 4]; rfl
      have n0 : wr.cell? ⟨w.heap.size + 1 + 1 + 1, 0, none⟩ = some (.int .i64 s) := by rw [cell_of hN.now 0]; rfl
      have n1 : wr.cell? ⟨w.heap.size + 1 + 1 + 1, 1, none⟩ = some (.int .i64 sg) := by rw [cell_of hN.now 1]; rfl
      have z00 : w.heap.size < wr.heap.size := by omega
      have z01 : w.heap.size < wr.heap.size + 1 := by omega
      have z02 : w.heap.size < wr.heap.size + 1 + 1 := by omega
      have z03 : w.heap.size < wr.heap.size + 1 + 1 + 1 := by omega
      have z10 : w.heap.size + 1 < wr.heap.size := by omega
      have z11 : w.heap.size + 1 < wr.heap.size + 1 := by omega
      have z12 : w.heap.size + 1 < wr.heap.size + 1 + 1 := by omega
      have z13 : w.heap.size + 1 < wr.heap.size + 1 + 1 + 1 := by omega
      have z20 : w.heap.size + 1 + 1 + 1 < wr.heap.size := by omega
      have z21 : w.heap.size + 1 + 1 + 1 < wr.heap.size + 1 := by omega
      have z22 : w.heap.size + 1 + 1 + 1 < wr.heap.size + 1 + 1 := by omega
      have z23 : w.heap.size + 1 + 1 + 1 < wr.heap.size + 1 + 1 + 1 := by omega
      have HN := hid hN
      clear hN hm hb
      by_cases h14 : k < 14
      · have ix := idx_row k h14
        generalize hp : (rowK k).1 = p at ix
        generalize hq : (rowK k).2.1 = q at ix
        generalize hn : (rowK k).2.2 = n at ix
        have HP := hid hp
        have HQ := hid hq
        have HNx := hid hn
        clear hp hq hn
        by_cases hpq : p = s ∧ q = sg
        · obtain ⟨rfl, rfl⟩ := hpq
          go_wp2_with (first | (go_at_call 23; refine (step_any _ _ _ _ _ _ _ _ (by omega) (by omega)).mono ?_; rintro e w' ⟨rfl, rfl⟩) | (refine wpList_store_row rfl 24 _ _ rfl (w.heap.size + 1) #[.int .i64 n, .int .i64 (stA q a), .int .i64 l, .bool (stB q b), .bool (stT q n t)] rfl rfl 24 _ (((HN.out.alloc _).alloc _).alloc _).res (by kernel_rfl) rfl (by kernel_rfl) ?_))
          refine bodyPost_ret (v := .tuple #[.agg #[.int .i64 n, .int .i64 (stA q a), .int .i64 l, .bool (stB q b), .bool (stT q n t)], .int .i64 0]) (results_row_tmp Tryd.results10 _ _ (w.heap.size + 1) 24 _ (0, 0) _ _ rfl rfl (setRow_heap _ _ _ _ _ _ (((HN.out.alloc _).alloc _).alloc _).res) Tryd.underlying24 rfl (by kernel_rfl)) rfl ⟨.inl ⟨k, h14, HP.out.symm, HQ.out.symm, ?_⟩, below_setRow (by have hb := HB.out; go_grown) (by omega) _⟩
          rw [HNx.out]
        · by_cases hps : p = s
          · have hqs : ¬ q = sg := fun hh => hpq ⟨hps, hh⟩
            have hm' := hid (missK_succ HM.out HP.out HQ.out hpq)
            clear hpq
            subst hps
            go_wp2_with fail
            go_roundw
            case rel => exact ⟨k + 1, by omega, by go_num, HN.out.alloc _, by have hb := HB.out; go_grown, hm'.out⟩
            case measure => simp [intOf]; omega
          · have hm' := hid (missK_succ HM.out HP.out HQ.out hpq)
            clear hpq
            go_wp2_with fail
            go_roundw
            case rel => exact ⟨k + 1, by omega, by go_num, HN.out.alloc _, by have hb := HB.out; go_grown, hm'.out⟩
            case measure => simp [intOf]; omega
      · obtain rfl : k = 14 := by omega
        go_wp2_with (refine wpList_store_row rfl 24 _ _ rfl (w.heap.size + 1) #[.int .i64 0, .int .i64 0, .int .i64 0, .bool false, .bool false] rfl rfl 24 _ HN.out.res (by kernel_rfl) rfl (by kernel_rfl) ?_)
        exact bodyPost_ret (v := .tuple #[.agg #[.int .i64 0, .int .i64 0, .int .i64 0, .bool false, .bool false], .int .i64 100]) (results_row_tmp Tryd.results10 _ _ (w.heap.size + 1) 24 _ (0, 0) _ _ rfl rfl (setRow_heap _ _ _ _ _ _ HN.out.res) Tryd.underlying24 rfl (by kernel_rfl)) rfl ⟨.inr ⟨HM.out, rfl⟩, below_setRow HB.out (by omega) _⟩
  · go_enter Tryd.func10, Tryd.ntmps10
    go_wp2_with (first | (go_at_call 13; refine (K'.out _ (by go_grown)).mono ?_; rintro e w1 ⟨rfl, rfl⟩) | (refine wpList_load_row rfl 47 _ rfl 0 rfl t0 rowCells.toArray f0 _ (((by go_grown : Below w.heap.size w _).block 0 hs0).trans G0.out) Tryd.underlying47 rfl (by kernel_rfl) ?_))
    go_loopw [31] (fun i wr => ∃ k : Nat, k ≤ 14 ∧ i = .int .i64 k ∧ NInv w.heap.size 4 a l b t sg wr ∧ Below w.heap.size w wr ∧ missK k 4 sg) (fun i _ => 14 - (intOf i).toNat)
    case atStart => exact ⟨0, by omega, rfl, NInv.start _ _ _ _ _ _ _ _, by go_grown, fun j hj => absurd hj (by omega)⟩
    case round =>
      obtain ⟨k, hk, rfl, hN, hb, hm⟩ := hrel
      have HM := hid hm
      have HB := hid hb
      have hz := hN.size
      have r0 : wr.cell? ⟨w.heap.size + 1, 0, none⟩ = some (.int .i64 0) := by rw [cell_of hN.res 0]; rfl
      have q0 : wr.frozen? ⟨w.heap.size + 1, 0, none⟩ = false := free_of hN.res 0
      have r1 : wr.cell? ⟨w.heap.size + 1, 1, none⟩ = some (.int .i64 0) := by rw [cell_of hN.res 1]; rfl
      have q1 : wr.frozen? ⟨w.heap.size + 1, 1, none⟩ = false := free_of hN.res 1
      have r2 : wr.cell? ⟨w.heap.size + 1, 2, none⟩ = some (.int .i64 0) := by rw [cell_of hN.res 2]; rfl
      have q2 : wr.frozen? ⟨w.heap.size + 1, 2, none⟩ = false := free_of hN.res 2
      have r3 : wr.cell? ⟨w.heap.size + 1, 3, none⟩ = some (.bool false) := by rw [cell_of hN.res 3]; rfl
      have q3 : wr.frozen? ⟨w.heap.size + 1, 3, none⟩ = false := free_of hN.res 3
      have r4 : wr.cell? ⟨w.heap.size + 1, 4, none⟩ = some (.bool false) := by rw [cell_of hN.res 4]; rfl
      have q4 : wr.frozen? ⟨w.heap.size + 1, 4, none⟩ = false := free_of hN.res 4
      have b0 : wr.cell? ⟨w.heap.size, 0, none⟩ = some (.int .i64 4) := by rw [cell_of hN.box 0]; rfl
      have b1 : wr.cell? ⟨w.heap.size, 1, none⟩ = some (.int .i64 a) := by rw [cell_of hN.box 1]; rfl
      have b2 : wr.cell? ⟨w.heap.size, 2, none⟩ = some (.int .i64 l) := by rw [cell_of hN.box 2]; rfl
      have b3 : wr.cell? ⟨w.heap.size, 3, none⟩ = some (.bool b) := by rw [cell_of hN.box 3]; rfl
      have b4 : wr.cell? ⟨w.heap.size, 4, none⟩ = some (.bool t) := by rw [cell_of hN.box 4]; rfl
      have n0 : wr.cell? ⟨w.heap.size + 1 + 1 + 1, 0, none⟩ = some (.int .i64 4) := by rw [cell_of hN.now 0]; rfl
      have n1 : wr.cell? ⟨w.heap.size + 1 + 1 + 1, 1, none⟩ = some (.int .i64 sg) := by rw [cell_of hN.now 1]; rfl
      have z00 : w.heap.size < wr.heap.size := by omega
      have z01 : w.heap.size < wr.heap.size + 1 := by omega
      have z02 : w.heap.size < wr.heap.size + 1 + 1 := by omega
      have z03 : w.heap.size < wr.heap.size + 1 + 1 + 1 := by omega
      have z10 : w.heap.size + 1 < wr.heap.size := by omega
      have z11 : w.heap.size + 1 < wr.heap.size + 1 := by omega
      have z12 : w.heap.size + 1 < wr.heap.size + 1 + 1 := by omega
      have z13 : w.heap.size + 1 < wr.heap.size + 1 + 1 + 1 := by omega
      have z20 : w.heap.size + 1 + 1 + 1 < wr.heap.size := by omega
      have z21 : w.heap.size + 1 + 1 + 1 < wr.heap.size + 1 := by omega
      have z22 : w.heap.size + 1 + 1 + 1 < wr.heap.size + 1 + 1 := by omega
      have z23 : w.heap.size + 1 + 1 + 1 < wr.heap.size + 1 + 1 + 1 := by omega
      have HN := hid hN
      clear hN hm hb
      by_cases h14 : k < 14
      · have ix := idx_row k h14
        generalize hp : (rowK k).1 = p at ix
        generalize hq : (rowK k).2.1 = q at ix
        generalize hn : (rowK k).2.2 = n at ix
        have HP := hid hp
        have HQ := hid hq
        have HNx := hid hn
        clear hp hq hn
        by_cases hpq : p = 4 ∧ q = sg
        · obtain ⟨rfl, rfl⟩ := hpq
          go_wp2_with (first | (go_at_call 23; refine (step_any _ _ _ _ _ _ _ _ (by omega) (by omega)).mono ?_; rintro e w' ⟨rfl, rfl⟩) | (refine wpList_store_row rfl 24 _ _ rfl (w.heap.size + 1) #[.int .i64 n, .int .i64 (stA q a), .int .i64 l, .bool (stB q b), .bool (stT q n t)] rfl rfl 24 _ (((HN.out.alloc _).alloc _).alloc _).res (by kernel_rfl) rfl (by kernel_rfl) ?_))
          refine bodyPost_ret (v := .tuple #[.agg #[.int .i64 n, .int .i64 (stA q a), .int .i64 l, .bool (stB q b), .bool (stT q n t)], .int .i64 0]) (results_row_tmp Tryd.results10 _ _ (w.heap.size + 1) 24 _ (0, 0) _ _ rfl rfl (setRow_heap _ _ _ _ _ _ (((HN.out.alloc _).alloc _).alloc _).res) Tryd.underlying24 rfl (by kernel_rfl)) rfl ⟨.inl ⟨k, h14, HP.out.symm, HQ.out.symm, ?_⟩, below_setRow (by have hb := HB.out; go_grown) (by omega) _⟩
          rw [HNx.out]
        · by_cases hps : p = 4
          · have hqs : ¬ q = sg := fun hh => hpq ⟨hps, hh⟩
            have hm' := hid (missK_succ HM.out HP.out HQ.out hpq)
            clear hpq
            subst hps
            go_wp2_with fail
            go_roundw
            case rel => exact ⟨k + 1, by omega, by go_num, HN.out.alloc _, by have hb := HB.out; go_grown, hm'.out⟩
            case measure => simp [intOf]; omega
          · have hm' := hid (missK_succ HM.out HP.out HQ.out hpq)
            clear hpq
            go_wp2_with fail
            go_roundw
            case rel => exact ⟨k + 1, by omega, by go_num, HN.out.alloc _, by have hb := HB.out; go_grown, hm'.out⟩
            case measure => simp [intOf]; omega
      · obtain rfl : k = 14 := by omega
        go_wp2_with (refine wpList_store_row rfl 24 _ _ rfl (w.heap.size + 1) #[.int .i64 0, .int .i64 0, .int .i64 0, .bool false, .bool false] rfl rfl 24 _ HN.out.res (by kernel_rfl) rfl (by kernel_rfl) ?_)
        exact bodyPost_ret (v := .tuple #[.agg #[.int .i64 0, .int .i64 0, .int .i64 0, .bool false, .bool false], .int .i64 100]) (results_row_tmp Tryd.results10 _ _ (w.heap.size + 1) 24 _ (0, 0) _ _ rfl rfl (setRow_heap _ _ _ _ _ _ HN.out.res) Tryd.underlying24 rfl (by kernel_rfl)) rfl ⟨.inr ⟨HM.out, rfl⟩, below_setRow HB.out (by omega) _⟩
  · go_enter Tryd.func10, Tryd.ntmps10
    go_wp2_with (first | (go_at_call 13; refine (K'.out _ (by go_grown)).mono ?_; rintro e w1 ⟨rfl, rfl⟩) | (refine wpList_load_row rfl 47 _ rfl 0 rfl t0 rowCells.toArray f0 _ (((by go_grown : Below w.heap.size w _).block 0 hs0).trans G0.out) Tryd.underlying47 rfl (by kernel_rfl) ?_))
    go_loopw [31] (fun i wr => ∃ k : Nat, k ≤ 14 ∧ i = .int .i64 k ∧ NInv w.heap.size 4 a l b false 6 wr ∧ Below w.heap.size w wr ∧ missK k 4 6) (fun i _ => 14 - (intOf i).toNat)
    case atStart => exact ⟨0, by omega, rfl, NInv.start _ _ _ _ _ _ _ _, by go_grown, fun j hj => absurd hj (by omega)⟩
    case round =>
      obtain ⟨k, hk, rfl, hN, hb, hm⟩ := hrel
      have HM := hid hm
      have HB := hid hb
      have hz := hN.size
      have r0 : wr.cell? ⟨w.heap.size + 1, 0, none⟩ = some (.int .i64 0) := by rw [cell_of hN.res 0]; rfl
      have q0 : wr.frozen? ⟨w.heap.size + 1, 0, none⟩ = false := free_of hN.res 0
      have r1 : wr.cell? ⟨w.heap.size + 1, 1, none⟩ = some (.int .i64 0) := by rw [cell_of hN.res 1]; rfl
      have q1 : wr.frozen? ⟨w.heap.size + 1, 1, none⟩ = false := free_of hN.res 1
      have r2 : wr.cell? ⟨w.heap.size + 1, 2, none⟩ = some (.int .i64 0) := by rw [cell_of hN.res 2]; rfl
      have q2 : wr.frozen? ⟨w.heap.size + 1, 2, none⟩ = false := free_of hN.res 2
      have r3 : wr.cell? ⟨w.heap.size + 1, 3, none⟩ = some (.bool false) := by rw [cell_of hN.res 3]; rfl
      have q3 : wr.frozen? ⟨w.heap.size + 1, 3, none⟩ = false := free_of hN.res 3
      have r4 : wr.cell? ⟨w.heap.size + 1, 4, none⟩ = some (.bool false) := by rw [cell_of hN.res 4]; rfl
      have q4 : wr.frozen? ⟨w.heap.size + 1, 4, none⟩ = false := free_of hN.res 4
      have b0 : wr.cell? ⟨w.heap.size, 0, none⟩ = some (.int .i64 4) := by rw [cell_of hN.box 0]; rfl
      have b1 : wr.cell? ⟨w.heap.size, 1, none⟩ = some (.int .i64 a) := by rw [cell_of hN.box 1]; rfl
      have b2 : wr.cell? ⟨w.heap.size, 2, none⟩ = some (.int .i64 l) := by rw [cell_of hN.box 2]; rfl
      have b3 : wr.cell? ⟨w.heap.size, 3, none⟩ = some (.bool b) := by rw [cell_of hN.box 3]; rfl
      have b4 : wr.cell? ⟨w.heap.size, 4, none⟩ = some (.bool false) := by rw [cell_of hN.box 4]; rfl
      have n0 : wr.cell? ⟨w.heap.size + 1 + 1 + 1, 0, none⟩ = some (.int .i64 4) := by rw [cell_of hN.now 0]; rfl
      have n1 : wr.cell? ⟨w.heap.size + 1 + 1 + 1, 1, none⟩ = some (.int .i64 6) := by rw [cell_of hN.now 1]; rfl
      have z00 : w.heap.size < wr.heap.size := by omega
      have z01 : w.heap.size < wr.heap.size + 1 := by omega
      have z02 : w.heap.size < wr.heap.size + 1 + 1 := by omega
      have z03 : w.heap.size < wr.heap.size + 1 + 1 + 1 := by omega
      have z10 : w.heap.size + 1 < wr.heap.size := by omega
      have z11 : w.heap.size + 1 < wr.heap.size + 1 := by omega
      have z12 : w.heap.size + 1 < wr.heap.size + 1 + 1 := by omega
      have z13 : w.heap.size + 1 < wr.heap.size + 1 + 1 + 1 := by omega
      have z20 : w.heap.size + 1 + 1 + 1 < wr.heap.size := by omega
      have z21 : w.heap.size + 1 + 1 + 1 < wr.heap.size + 1 := by omega
      have z22 : w.heap.size + 1 + 1 + 1 < wr.heap.size + 1 + 1 := by omega
      have z23 : w.heap.size + 1 + 1 + 1 < wr.heap.size + 1 + 1 + 1 := by omega
      have HN := hid hN
      clear hN hm hb
      by_cases h14 : k < 14
      · have ix := idx_row k h14
        generalize hp : (rowK k).1 = p at ix
        generalize hq : (rowK k).2.1 = q at ix
        generalize hn : (rowK k).2.2 = n at ix
        have HP := hid hp
        have HQ := hid hq
        have HNx := hid hn
        clear hp hq hn
        by_cases hpq : p = 4 ∧ q = 6
        · obtain ⟨rfl, rfl⟩ := hpq
          go_wp2_with (first | (go_at_call 23; refine (step_any _ _ _ _ _ _ _ _ (by omega) (by omega)).mono ?_; rintro e w' ⟨rfl, rfl⟩) | (refine wpList_store_row rfl 24 _ _ rfl (w.heap.size + 1) #[.int .i64 n, .int .i64 (stA 6 a), .int .i64 l, .bool (stB 6 b), .bool (stT 6 n false)] rfl rfl 24 _ (((HN.out.alloc _).alloc _).alloc _).res (by kernel_rfl) rfl (by kernel_rfl) ?_))
          refine bodyPost_ret (v := .tuple #[.agg #[.int .i64 n, .int .i64 (stA 6 a), .int .i64 l, .bool (stB 6 b), .bool (stT 6 n false)], .int .i64 0]) (results_row_tmp Tryd.results10 _ _ (w.heap.size + 1) 24 _ (0, 0) _ _ rfl rfl (setRow_heap _ _ _ _ _ _ (((HN.out.alloc _).alloc _).alloc _).res) Tryd.underlying24 rfl (by kernel_rfl)) rfl ⟨.inl ⟨k, h14, HP.out.symm, HQ.out.symm, ?_⟩, below_setRow (by have hb := HB.out; go_grown) (by omega) _⟩
          rw [HNx.out]
        · by_cases hps : p = 4
          · have hqs : ¬ q = 6 := fun hh => hpq ⟨hps, hh⟩
            have hm' := hid (missK_succ HM.out HP.out HQ.out hpq)
            clear hpq
            subst hps
            go_wp2_with fail
            go_roundw
            case rel => exact ⟨k + 1, by omega, by go_num, HN.out.alloc _, by have hb := HB.out; go_grown, hm'.out⟩
            case measure => simp [intOf]; omega
          · have hm' := hid (missK_succ HM.out HP.out HQ.out hpq)
            clear hpq
            go_wp2_with fail
            go_roundw
            case rel => exact ⟨k + 1, by omega, by go_num, HN.out.alloc _, by have hb := HB.out; go_grown, hm'.out⟩
            case measure => simp [intOf]; omega
      · obtain rfl : k = 14 := by omega
        go_wp2_with (refine wpList_store_row rfl 24 _ _ rfl (w.heap.size + 1) #[.int .i64 0, .int .i64 0, .int .i64 0, .bool false, .bool false] rfl rfl 24 _ HN.out.res (by kernel_rfl) rfl (by kernel_rfl) ?_)
        exact bodyPost_ret (v := .tuple #[.agg #[.int .i64 0, .int .i64 0, .int .i64 0, .bool false, .bool false], .int .i64 100]) (results_row_tmp Tryd.results10 _ _ (w.heap.size + 1) 24 _ (0, 0) _ _ rfl rfl (setRow_heap _ _ _ _ _ _ HN.out.res) Tryd.underlying24 rfl (by kernel_rfl)) rfl ⟨.inr ⟨HM.out, rfl⟩, below_setRow HB.out (by omega) _⟩
end Go.Proofs.YtlfbooillhleoaaDoor
