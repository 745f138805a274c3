/- The small functions of package life and of the reference, each called at any value: what they return. Conditions: where a table is read, it stands as the program's text lays it. -/
import Derived.Test.YtlfbooillhleoaaDoorProg
import Derived.WalkKit
import Derived.Handy
import Derived.WalkLawsBesides
import Derived.WalkSpells
namespace Go.Proofs.YtlfbooillhleoaaDoor
open Go Go.RowKit

theorem hid {p : Prop} (h : p) : Hid p := h
theorem ret_bool {a b : Bool} (h : a = b) : Ending.returned (.bool a) = .returned (.bool b) := by rw [h]

def overB (s : Int) : Bool := decide (5 ≤ s ∧ s ≤ 8)
def liveB (s : Int) : Bool := decide (3 ≤ s ∧ s ≤ 4)
theorem over_any (s : Int) (w : World) :
    Calls Tryd.prog 15 #[.int .i64 s] w fun e w' => e = .returned (.bool (overB s)) ∧ w = w' := by
  go_enter Tryd.func15, Tryd.ntmps15
  go_wp2
  all_goals
    go_returns
    exact ⟨ret_bool (by rw [Bool.eq_iff_iff]; simp [overB]; try omega), rfl⟩
theorem rover_any (s : Int) (w : World) :
    Calls Tryd.prog 16 #[.int .i64 s] w fun e w' => e = .returned (.bool (overB s)) ∧ w = w' := by
  go_enter Tryd.func16, Tryd.ntmps16
  go_wp2
  all_goals
    go_returns
    exact ⟨ret_bool (by rw [Bool.eq_iff_iff]; simp [overB]; try omega), rfl⟩
theorem live_any (s : Int) (w : World) :
    Calls Tryd.prog 17 #[.int .i64 s] w fun e w' => e = .returned (.bool (liveB s)) ∧ w = w' := by
  go_enter Tryd.func17, Tryd.ntmps17
  go_wp2
  all_goals
    go_returns
    exact ⟨ret_bool (by rw [Bool.eq_iff_iff]; simp [liveB]; try omega), rfl⟩
theorem rlive_any (s : Int) (w : World) :
    Calls Tryd.prog 18 #[.int .i64 s] w fun e w' => e = .returned (.bool (liveB s)) ∧ w = w' := by
  go_enter Tryd.func18, Tryd.ntmps18
  go_wp2
  all_goals
    go_returns
    exact ⟨ret_bool (by rw [Bool.eq_iff_iff]; simp [liveB]; try omega), rfl⟩

def rowCells : List Value := [1,1,2, 2,2,1, 1,3,3, 1,6,8, 2,6,8, 1,7,8, 2,7,8, 3,4,4, 3,5,4, 3,6,4, 4,4,4, 4,5,4, 4,6,4, 3,8,5].map (Value.int .i64)
def nm : Nat → ByteArray
  | 1 => ⟨#[112, 101, 110, 100, 105, 110, 103]⟩
  | 2 => ⟨#[104, 101, 108, 100]⟩
  | 3 => ⟨#[114, 117, 110, 110, 105, 110, 103]⟩
  | 4 => ⟨#[101, 110, 100, 105, 110, 103]⟩
  | 5 => ⟨#[100, 111, 110, 101]⟩
  | 6 => ⟨#[116, 105, 109, 101, 100, 111, 117, 116]⟩
  | 7 => ⟨#[102, 97, 105, 108, 101, 100]⟩
  | 8 => ⟨#[99, 97, 110, 99, 101, 108, 108, 101, 100]⟩
  | _ => ⟨#[]⟩
def nameCells : List Value := [0,1,2,3,4,5,6,7,8].map fun k => Value.string (nm k)
/-- The two tables stand as the text lays them. -/
def Tab (w : World) : Prop := (∃ t f, w.heap[0]? = some (.cells rowCells.toArray t f)) ∧ (∃ t f, w.heap[1]? = some (.cells nameCells.toArray t f))
theorem Tab.size {w : World} (h : Tab w) : 2 ≤ w.heap.size := by
  obtain ⟨_, t, f, h1⟩ := h
  have := (Array.getElem?_eq_some_iff.1 h1).1
  omega
theorem Tab.below {w w' : World} (h : Tab w) (hb : Below w.heap.size w w') : Tab w' := by
  have hs := h.size
  obtain ⟨⟨t0, f0, h0⟩, t1, f1, h1⟩ := h
  exact ⟨⟨t0, f0, (hb.block 0 (by omega)).trans h0⟩, t1, f1, (hb.block 1 (by omega)).trans h1⟩
theorem Tab.names {w : World} (h : Tab w) (i : Nat) : w.cell? ⟨1, i, none⟩ = nameCells.toArray[i]? := by
  obtain ⟨_, t, f, h1⟩ := h
  simp [World.cell?, h1]

theorem name_in (s : Int) (w : World) (hT : Tab w) (h0 : 0 ≤ s) (hs : s ≤ 8) :
    Calls Tryd.prog 19 #[.int .i64 s] w fun e w' => e = .returned (.string (nm s.toNat)) ∧ w = w' := by
  obtain ⟨n, rfl⟩ := Int.eq_ofNat_of_zero_le h0
  rw [Int.toNat_natCast]
  have hc : w.cell? ⟨1, n, none⟩ = some (.string (nm n)) := by
    rw [hT.names n]
    rcases (by omega : n = 0 ∨ n = 1 ∨ n = 2 ∨ n = 3 ∨ n = 4 ∨ n = 5 ∨ n = 6 ∨ n = 7 ∨ n = 8) with rfl | rfl | rfl | rfl | rfl | rfl | rfl | rfl | rfl <;> rfl
  clear hT
  go_enter Tryd.func19, Tryd.ntmps19
  go_wp2
  go_returns
  exact ⟨rfl, rfl⟩
theorem nm_some (s : Int) (h1 : 1 ≤ s) (h8 : s ≤ 8) : (nm s.toNat).data.toList.isEmpty = false := by
  rcases (by omega : s = 1 ∨ s = 2 ∨ s = 3 ∨ s = 4 ∨ s = 5 ∨ s = 6 ∨ s = 7 ∨ s = 8) with rfl | rfl | rfl | rfl | rfl | rfl | rfl | rfl <;> rfl
theorem name_out (s : Int) (w : World) (hs : s < 0 ∨ 8 < s) :
    Calls Tryd.prog 19 #[.int .i64 s] w fun e w' => e = .returned (.string ⟨#[]⟩) ∧ w = w' := by
  rcases hs with hs | hs
  · go_enter Tryd.func19, Tryd.ntmps19
    go_wp2
    go_returns
    exact ⟨rfl, rfl⟩
  · have h0 : ¬ s < 0 := by omega
    go_enter Tryd.func19, Tryd.ntmps19
    go_wp2
    go_returns
    exact ⟨rfl, rfl⟩

def rightB (s a l : Int) (b t : Bool) : Bool := decide (1 ≤ s ∧ s ≤ 8 ∧ 0 ≤ a ∧ 0 ≤ l ∧ a + l ≤ (if s = 1 ∨ s = 2 then 5 else 6) ∧ (a = 0 → s = 1 ∨ s = 2 ∨ s = 8) ∧ (s = 4 ∨ (b = false ∧ t = false)))

theorem settle_any (s a l : Int) (b t : Bool) (w : World) (hl0 : 0 ≤ l) (hl : l ≤ 6) :
    Calls Tryd.prog 22 #[.agg #[.int .i64 s, .int .i64 a, .int .i64 l, .bool b, .bool t]] w fun e w' => e = .returned (.agg #[.int .i64 (if t then 8 else if b then 6 else if 0 < l then 1 else 7), .int .i64 a, .int .i64 (if t then l else if b then l else if 0 < l then l - 1 else l), .bool false, .bool false]) ∧ (w.alloc (.cells #[.int .i64 (if t then 8 else if b then 6 else if 0 < l then 1 else 7), .int .i64 a, .int .i64 (if t then l else if b then l else if 0 < l then l - 1 else l), .bool false, .bool false] 24)).alloc (.cells #[.int .i64 (if t then 8 else if b then 6 else if 0 < l then 1 else 7), .int .i64 a, .int .i64 (if t then l else if b then l else if 0 < l then l - 1 else l), .bool false, .bool false] 24) = w' := by
  cases t <;> cases b
  all_goals
    go_enter Tryd.func22, Tryd.ntmps22
    go_wp2
    all_goals go_returns
    all_goals exact ⟨rfl, rfl⟩
theorem over10_any (s a l : Int) (b t : Bool) (w : World) (hl0 : 0 ≤ l) (hl : l ≤ 6) :
    Calls Tryd.prog 24 #[.agg #[.int .i64 s, .int .i64 a, .int .i64 l, .bool b, .bool t]] w fun e w' => e = .returned (.agg #[.int .i64 (if t then 8 else if b then 6 else if 0 < l then 1 else 7), .int .i64 a, .int .i64 (if t then l else if b then l else if 0 < l then l - 1 else l), .bool false, .bool false]) ∧ ((w.alloc (.cells #[.int .i64 s, .int .i64 a, .int .i64 l, .bool b, .bool t] 24)).alloc (.cells #[.int .i64 (if t then 8 else if b then 6 else if 0 < l then 1 else 7), .int .i64 a, .int .i64 (if t then l else if b then l else if 0 < l then l - 1 else l), .bool false, .bool false] 24)).alloc (.cells #[.int .i64 (if t then 8 else if b then 6 else if 0 < l then 1 else 7), .int .i64 a, .int .i64 (if t then l else if b then l else if 0 < l then l - 1 else l), .bool false, .bool false] 24) = w' := by
  cases t <;> cases b
  all_goals
    go_enter Tryd.func24, Tryd.ntmps24
    go_wp2
    all_goals go_returns
    all_goals exact ⟨rfl, rfl⟩
end Go.Proofs.YtlfbooillhleoaaDoor
