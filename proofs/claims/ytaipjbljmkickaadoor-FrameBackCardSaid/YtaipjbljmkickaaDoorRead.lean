/- A word of four bytes read, frame.word and the document's number. Condition: the bytes stand in memory. -/
import Derived.Test.YtaipjbljmkickaaDoorWord
namespace Go.Proofs.YtaipjbljmkickaaDoor
open Go Go.RowKit
def num4 : List UInt8 → Nat
  | a :: b :: c :: d :: _ => 16777216 * a.toNat + 65536 * b.toNat + 256 * c.toNat + d.toNat
  | _ => 0
theorem four_cells {w : World} {A : Option Addr} {a b c d : UInt8} {t : List UInt8} (h : Bts w A (a :: b :: c :: d :: t)) : ∃ B off, A = some ⟨B, off, none⟩ ∧ B < w.heap.size ∧
    w.cell? ⟨B, off, none⟩ = some (.int .u8 (a.toNat : Int)) ∧ w.cell? ⟨B, off + 1, none⟩ = some (.int .u8 (b.toNat : Int)) ∧ w.cell? ⟨B, off + 2, none⟩ = some (.int .u8 (c.toNat : Int)) ∧ w.cell? ⟨B, off + 3, none⟩ = some (.int .u8 (d.toNat : Int)) := by
  rcases h with h | ⟨B, off, rfl, hlt, hc⟩
  · cases h
  · exact ⟨B, off, rfl, hlt, hc 0 a rfl, hc 1 b rfl, hc 2 c rfl, hc 3 d rfl⟩
theorem four_of {bs : List UInt8} (h : 4 ≤ bs.length) : ∃ a b c d t, bs = a :: b :: c :: d :: t := by
  match bs, h with
  | a :: b :: c :: d :: t, _ => exact ⟨a, b, c, d, t, rfl⟩
theorem or_step (x y k : Nat) (hx : x < 4294967296) (hy : y < 4294967296) (hm : x % 2 ^ k = 0) (hk : y < 2 ^ k) : bits .or .u32 (x : Int) (y : Int) = ((x + y : Nat) : Int) := by
  rw [u32_or_nat x y hx hy, nat_join k x y hm hk]
theorem or_four (a b c d : Nat) (la : a < 256) (lb : b < 256) (lc : c < 256) (ld : d < 256) :
    bits .or .u32 (bits .or .u32 (bits .or .u32 ((a : Int) * 16777216) ((b : Int) * 65536)) ((c : Int) * 256)) (d : Int) = 16777216 * (a : Int) + 65536 * (b : Int) + 256 * (c : Int) + (d : Int) := by
  have k1 : (a : Int) * 16777216 = ((a * 16777216 : Nat) : Int) := by simp
  have k2 : (b : Int) * 65536 = ((b * 65536 : Nat) : Int) := by simp
  have k3 : (c : Int) * 256 = ((c * 256 : Nat) : Int) := by simp
  rw [k1, k2, k3, or_step (a * 16777216) (b * 65536) 24 (by omega) (by omega) (by omega) (by omega), or_step (a * 16777216 + b * 65536) (c * 256) 16 (by omega) (by omega) (by omega) (by omega),
    or_step (a * 16777216 + b * 65536 + c * 256) d 8 (by omega) (by omega) (by omega) (by omega)]
  clear k1 k2 k3
  omega
set_option maxHeartbeats 1000000 in
theorem word_any (A : Option Addr) (n cap : Nat) (bs : List UInt8) (w : World) (hb : Bts w A bs) (h4 : 4 ≤ bs.length) (hn : n = bs.length) :
    Calls Tryd.prog 25 #[.slice A n cap] w fun e w' => e = .returned (.int .u32 (num4 bs : Nat)) ∧ ∃ k, w' = w.drewN k := by
  obtain ⟨a, b, c, d, t, rfl⟩ := four_of h4
  obtain ⟨B, off, rfl, _, c0, c1, c2, c3⟩ := four_cells hb
  have hn4 : (4 : Int) ≤ (n : Int) := by rw [hn]; simp; omega
  have i0 : (0 : Int) < (n : Int) := by omega
  have i1 : (1 : Int) < (n : Int) := by omega
  have i2 : (2 : Int) < (n : Int) := by omega
  have i3 : (3 : Int) < (n : Int) := by omega
  have la := a.toNat_lt
  have lb := b.toNat_lt
  have lc := c.toNat_lt
  have ld := d.toNat_lt
  have HE : Hid (num4 (a :: b :: c :: d :: t) = 16777216 * a.toNat + 65536 * b.toNat + 256 * c.toNat + d.toNat) := hid rfl
  generalize num4 (a :: b :: c :: d :: t) = r at *
  clear hb hn h4
  generalize a.toNat = a at *
  generalize b.toNat = b at *
  generalize c.toNat = c at *
  generalize d.toNat = d at *
  go_enter Tryd.func25, Tryd.ntmps25
  go_wp2_with fail
  go_quiet (fail)
  go_wp2_with fail
  all_goals go_returns
  refine ⟨?_, nq, rfl⟩
  have hr : (r : Int) = 16777216 * (a : Int) + 65536 * (b : Int) + 256 * (c : Int) + (d : Int) := by have := HE.out; omega
  rw [hr]
  exact congrArg (fun z => Ending.returned (Value.int .u32 z)) (or_four a b c d la lb lc ld)
set_option maxHeartbeats 1000000 in
theorem number_any (A : Option Addr) (n cap : Nat) (bs : List UInt8) (w : World) (hb : Bts w A bs) (h4 : 4 ≤ bs.length) (hn : n = bs.length) :
    Calls Tryd.prog 23 #[.slice A n cap] w fun e w' => e = .returned (.int .i64 (num4 bs : Nat)) ∧ ∃ k, w' = w.drewN k := by
  obtain ⟨a, b, c, d, t, rfl⟩ := four_of h4
  obtain ⟨B, off, rfl, _, c0, c1, c2, c3⟩ := four_cells hb
  have hn4 : (4 : Int) ≤ (n : Int) := by rw [hn]; simp; omega
  have i0 : (0 : Int) < (n : Int) := by omega
  have i1 : (1 : Int) < (n : Int) := by omega
  have i2 : (2 : Int) < (n : Int) := by omega
  have i3 : (3 : Int) < (n : Int) := by omega
  have la := a.toNat_lt
  have lb := b.toNat_lt
  have lc := c.toNat_lt
  have ld := d.toNat_lt
  have HE : Hid (num4 (a :: b :: c :: d :: t) = 16777216 * a.toNat + 65536 * b.toNat + 256 * c.toNat + d.toNat) := hid rfl
  generalize num4 (a :: b :: c :: d :: t) = r at *
  clear hb hn h4
  generalize a.toNat = a at *
  generalize b.toNat = b at *
  generalize c.toNat = c at *
  generalize d.toNat = d at *
  have hr := hid (show (r : Int) = 16777216 * (a : Int) + 65536 * (b : Int) + 256 * (c : Int) + (d : Int) by have := HE.out; omega)
  clear HE
  go_enter Tryd.func23, Tryd.ntmps23
  go_wp2_with fail
  go_quiet (fail)
  go_wp2_with fail
  all_goals go_returns
  refine ⟨?_, nq, rfl⟩
  rw [hr.out]
  rfl
theorem num4_lt {bs : List UInt8} (h : 4 ≤ bs.length) : num4 bs < 4294967296 := by
  obtain ⟨a, b, c, d, t, rfl⟩ := four_of h
  have la := a.toNat_lt
  have lb := b.toNat_lt
  have lc := c.toNat_lt
  have ld := d.toNat_lt
  show 16777216 * a.toNat + 65536 * b.toNat + 256 * c.toNat + d.toNat < _
  omega
theorem num4_word (n : Nat) (t : List UInt8) (h : n < 4294967296) : num4 (wordB n ++ t) = n := by
  show 16777216 * (UInt8.ofNat (n / 16777216)).toNat + 65536 * (UInt8.ofNat (n / 65536)).toNat + 256 * (UInt8.ofNat (n / 256)).toNat + (UInt8.ofNat n).toNat = n
  simp only [UInt8.toNat_ofNat']
  omega
end Go.Proofs.YtaipjbljmkickaaDoor
