/- Bytes in memory: a slice that reads as bytes, the string that it makes; what the call owns reads so. Condition: none. -/
import Derived.Test.YtbpgeghenninnaaDoorProg
import Derived.Test.YtbpgeghenninnaaDoorKit
import Derived.OwnWalk
import Derived.Laws.AppendOwn
import Derived.Laws.OwnMore
import Derived.Laws.CopyOwn
import Derived.Laws.BytesArg
import Derived.Laws.MakeOwn
namespace Go.Proofs.YtbpgeghenninnaaDoor
open Go Go.RowKit
/-- A byte as a value. -/
def bv (x : UInt8) : Value := .int .u8 (x.toNat : Int)
/-- The slice at A reads as these bytes. -/
def Bts (w : World) (A : Option Addr) (bs : List UInt8) : Prop :=
  bs = [] ∨ ∃ b off, A = some ⟨b, off, none⟩ ∧ b < w.heap.size ∧ ∀ (j : Nat) x, bs[j]? = some x → w.cell? ⟨b, off + j, none⟩ = some (bv x)
theorem Bts.nil (w : World) (A : Option Addr) : Bts w A [] := .inl rfl
theorem Bts.keep {w w' : World} {A : Option Addr} {bs : List UInt8} (h : Bts w A bs) (hb : Below w.heap.size w w') : Bts w' A bs := by
  rcases h with rfl | ⟨b, off, rfl, hlt, hc⟩
  · exact .inl rfl
  · exact .inr ⟨b, off, rfl, Nat.lt_of_lt_of_le hlt hb.size, fun j x hx => by rw [hb.cell (p := ⟨b, off + j, none⟩) hlt]; exact hc j x hx⟩
theorem bv_one (x : UInt8) : (bv x).oneCell' = true := rfl
/-- What the call owns: a slice of so many elements that reads as these bytes. -/
def Own (w : World) (B : Nat) (v : Value) (bs : List UInt8) : Prop := w.ownsRow B 5 1 v bs.length (bs.map bv)
theorem own_base {w : World} {base : Nat} {e : TypeId} {size : Nat} {v : Value} {n : Nat} {xs : List Value} (h : w.ownsRow base e size v n xs) : ∀ k, v.ownBlock = some k → base ≤ k := by
  intro k hk
  obtain ⟨_, ⟨rfl, _⟩ | ⟨g, cap, cur, rfl, hb, _⟩⟩ := h
  · cases hk
  · obtain rfl : g = k := by simpa [Value.ownBlock] using hk
    exact hb
/-- The block of A is one of bytes. -/
def Tag (w : World) (A : Option Addr) : Prop := ∀ a, A = some a → ∃ cs, w.heap[a.block]? = some (.cells cs 5 (0, 0))
theorem Own.is {w : World} {B : Nat} {v : Value} {bs : List UInt8} (h : Own w B v bs) : ∃ A cap, v = .slice A bs.length cap ∧ Bts w A bs ∧ bs.length ≤ cap ∧ Tag w A := by
  obtain ⟨hl, ⟨rfl, h0⟩ | ⟨g, cap, cur, rfl, hb, hh, hn, hcap, hcur, htake⟩⟩ := h
  · have e : bs = [] := List.eq_nil_of_length_eq_zero h0
    subst e
    exact ⟨none, 0, rfl, .inl rfl, Nat.le_refl _, fun a h => by cases h⟩
  · refine ⟨some ⟨g, 0, none⟩, cap, rfl, .inr ⟨g, 0, rfl, lt_of hh, fun j x hx => ?_⟩, hn, fun a h => by cases h; exact ⟨cur, hh⟩⟩
    have hj : j < bs.length := (List.getElem?_eq_some_iff.1 hx).1
    rw [cell_of hh, Nat.zero_add, ← Array.getElem?_toList]
    have h1 : (cur.toList.take (bs.length * 1))[j]? = some (bv x) := by
      rw [htake, List.getElem?_map, hx]
      rfl
    rw [List.getElem?_take, if_pos (by omega)] at h1
    exact h1
theorem Own.keep {w w' : World} {B : Nat} {v : Value} {bs : List UInt8} (h : Own w B v bs) (hb : Below w.heap.size w w') : Own w' B v bs := by
  obtain ⟨hl, h0 | ⟨g, cap, cur, rfl, hB, hh, r⟩⟩ := h
  · exact ⟨hl, .inl h0⟩
  · exact ⟨hl, .inr ⟨g, cap, cur, rfl, hB, keep0 hb hh, r⟩⟩
theorem Own.mono {w : World} {B C : Nat} {v : Value} {bs : List UInt8} (h : Own w B v bs) (hC : C ≤ B) : Own w C v bs := by
  obtain ⟨hl, h0 | ⟨g, cap, cur, rfl, hB, r⟩⟩ := h
  · exact ⟨hl, .inl h0⟩
  · exact ⟨hl, .inr ⟨g, cap, cur, rfl, Nat.le_trans hC hB, r⟩⟩
theorem str_of {w : World} {A : Option Addr} {bs : List UInt8} (cap : Nat) (h : Bts w A bs) : (convert 32 9 (.slice A bs.length cap)).run Tryd.prog w = .ok (.string ⟨bs.toArray⟩) w := by
  have hs : strOfNums (bs.map fun x => (x.toNat : Int)) = ⟨bs.toArray⟩ := by
    have e : ((fun n : Int => UInt8.ofNat n.toNat) ∘ fun x : UInt8 => (x.toNat : Int)) = id := funext fun x => by simp
    unfold strOfNums
    rw [List.map_map, e, List.map_id]
  rcases h with rfl | ⟨b, off, rfl, _, hc⟩
  · cases A with
    | none => exact run_convert_bytes_nil w 32 5 Tryd.underlying32 Tryd.underlying5 _ _ 9 Tryd.underlying9
    | some a =>
      have hl : (loadCells a 0).run Tryd.prog w = .ok #[] w := by simpa using run_loadCells_list (P := Tryd.prog) w a [] (fun j v hj => by simp at hj)
      show (convert 32 9 (.slice (some a) 0 cap)).run Tryd.prog w = _
      rw [run_convert_bytes_string w 32 9 5 _ 0 cap Tryd.underlying32 Tryd.underlying5 Tryd.underlying9, run_bytesToString w a 0 cap [] (by simpa using hl)]
      rfl
  · rw [run_convert_bytes_arg w 32 5 Tryd.underlying32 Tryd.underlying5 b off bs.length cap (bs.map fun x => (x.toNat : Int)) (by simp) (fun i hi => ?_) 9 Tryd.underlying9, hs]
    rw [hc i bs[i] (List.getElem?_eq_getElem hi), List.getD_eq_getElem?_getD, List.getElem?_map, List.getElem?_eq_getElem hi]
    rfl
theorem Tryd.info5 : (Tryd.prog.info? 5).map (fun i => (i.zero, i.size, i.bytes)) = some (some (.int .u8 0), 1, 1) := by kernel_rfl
theorem make_bytes (n c : Nat) (h : n ≤ c) (hc : c ≤ 281474976710656) (w : World) : (Instr.makeSlice 32 (.int .i64 (n : Int)) (.int .i64 (c : Int))).run Tryd.prog w = .ok (.slice (some ⟨w.heap.size, 0, none⟩) n c) (w.alloc (.cells (madeCells #[.int .u8 0] c) 5)) := by
  obtain ⟨i0, hi, hz0, hz1, hz2⟩ := info_parts Tryd.info5
  have := run_make (P := Tryd.prog) (w := w) 32 5 i0 (.int .u8 0) Tryd.underlying32 hi hz0 .i64 .i64 (n : Int) (c : Int) (by omega) (by omega) (by rw [hz2]; omega) (by omega)
  rw [this, hz1]
  simp [Value.cells]
end Go.Proofs.YtbpgeghenninnaaDoor
