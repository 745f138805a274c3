/- frame.Sum at any bytes: the CRC-32. Conditions: the bytes and the table of half bytes stand in memory. -/
import Derived.Test.YtbpgeghenninnaaDoorBase
import Derived.Test.YtbpgeghenninnaaDoorCrc
import Derived.Laws.BitsAll
namespace Go.Proofs.YtbpgeghenninnaaDoor
open Go Go.RowKit
def halfCells : List Value := halfL.map fun n : Nat => .int .u32 (n : Int)
def Tab (w : World) : Prop := ∃ T fr, w.heap[0]? = some (.cells halfCells.toArray T fr)
theorem tab_at {w : World} (h : Tab w) (i : Nat) (hi : i < 16) : w.cell? ⟨0, i, none⟩ = some (.int .u32 (half i : Nat)) := by
  obtain ⟨T, fr, h⟩ := h
  have e : w.cell? ⟨0, i, none⟩ = halfCells.toArray[i]? := by simp [World.cell?, h]
  rw [e]
  have : ∀ i, i < 16 → halfCells.toArray[i]? = some (.int .u32 (half i : Nat)) := by
    intro i hi
    simp [halfCells, half, List.getElem?_eq_getElem (show i < halfL.length by simpa [halfL] using hi)]
  exact this i hi
theorem bv_take (bs : List UInt8) (k : Nat) (h : k < bs.length) : bs.take (k + 1) = bs.take k ++ [bs[k]] := List.take_succ_eq_append_getElem h
theorem and15 (x : Nat) (hx : x < 4294967296) : ∃ m : Nat, m < 16 ∧ m = x % 16 ∧ bits .and .u32 (x : Int) 15 = (m : Int) := by
  refine ⟨x % 16, by omega, rfl, ?_⟩
  have h := u32_and_nat x 15 hx (by omega)
  have e : x &&& 15 = x % 16 := Nat.and_two_pow_sub_one_eq_mod x 4
  rw [e] at h
  exact h
theorem nib_step (x m : Nat) (hx : x < 4294967296) (hm : m = x % 16) : ∃ y : Nat, y = nib x ∧ bits .xor .u32 ((x : Int) / 16) (half m : Nat) = (y : Int) ∧ y < 4294967296 := by
  refine ⟨nib x, rfl, ?_, nib_lt hx⟩
  have h := u32_xor_nat (x / 16) (half m) (by omega) (half_lt m)
  rw [hm] at h ⊢
  exact h
set_option maxRecDepth 10000 in
set_option maxHeartbeats 1000000 in
theorem sum_any (A : Option Addr) (cap : Nat) (bs : List UInt8) (w : World) (hb : Bts w A bs) (hT : Tab w) (hlen : bs.length ≤ 1099511627776) :
    Calls Tryd.prog 33 #[.slice A bs.length cap] w fun e w' => e = .returned (.int .u32 (crc bs : Nat)) ∧ w = w' := by
  have HB := hid hb
  have HT := hid hT
  clear hb hT
  have hl : (bs.length : Int) ≤ 1099511627776 := by omega
  go_enter Tryd.func33, Tryd.ntmps33
  go_wp2_with fail
  go_loop [3, 8] (fun s i => ∃ k : Nat, k ≤ bs.length ∧ i = .int .i64 k ∧ s = .int .u32 (crcF 4294967295 (bs.take k) : Nat)) (fun _ i => bs.length - (intOf i).toNat)
  case atStart => exact ⟨0, Nat.zero_le _, rfl, rfl⟩
  case round =>
    obtain ⟨k, hk, rfl, rfl⟩ := hrel
    have hr := crcF_lt (bs.take k) 4294967295 (by omega)
    by_cases hlt : k < bs.length
    · rcases HB.out with rfl | ⟨b, off, rfl, hbl, hc⟩
      · simp at hlt
      · have cell := hc k bs[k] (List.getElem?_eq_getElem hlt)
        have hcl := bs[k].toNat_lt
        have hst := hid (show crcF 4294967295 (bs.take (k + 1)) = crcByte (crcF 4294967295 (bs.take k)) bs[k].toNat by rw [bv_take _ _ hlt, crcF_snoc])
        clear hc
        generalize bs[k] = c at *
        generalize crcF 4294967295 (bs.take k) = r at *
        unfold bv at cell
        generalize c.toNat = n at *
        obtain ⟨x, hx⟩ : ∃ x, x = r ^^^ n := ⟨_, rfl⟩
        have e1 : bits .xor .u32 (r : Int) (n : Int) = (x : Int) := by rw [hx]; exact u32_xor_nat r n hr (by omega)
        have hxl : x < 4294967296 := by rw [hx]; exact xor_lt32 hr (by omega)
        obtain ⟨m, hm, em, e2⟩ := and15 x hxl
        have c2 := tab_at HT.out m hm
        obtain ⟨y, hy, e3, hyl⟩ := nib_step x m hxl em
        obtain ⟨m', hm', em', e2'⟩ := and15 y hyl
        have c2' := tab_at HT.out m' hm'
        obtain ⟨z, hz, e3', hzl⟩ := nib_step y m' hyl em'
        have hfin := hid (show crcByte r n = z by rw [hz, hy, hx]; rfl)
        clear hx hy hz em em'
        generalize half m = hA at *
        generalize half m' = hB at *
        go_wp2_with fail
        go_round
        case rel => exact ⟨k + 1, by omega, by go_num, by rw [hst.out, hfin.out]⟩
        case measure => simp [intOf]; omega
    · obtain rfl : k = bs.length := by omega
      rw [List.take_length] at hr
      have e1 : bits .xor .u32 IntKind.u32.max (crcF 4294967295 bs : Int) = ((crc bs : Nat) : Int) := by
        have := u32_xor_nat 4294967295 _ (by omega) hr
        rw [xor_max hr] at this
        exact this
      rw [List.take_length]
      generalize crcF 4294967295 bs = r at *
      go_wp2_with fail
      go_ret
      exact ⟨rfl, rfl⟩
def steps : Nat → Nat → Nat
  | 0, r => r
  | j + 1, r => step1 (steps j r)
theorem steps_lt (j r : Nat) (h : r < 4294967296) : steps j r < 4294967296 := by
  induction j with
  | zero => exact h
  | succ j ih => exact step1_lt ih
theorem steps_eight (r : Nat) : steps 8 r = nib (nib r) := by rw [← four_steps, ← four_steps]; rfl
set_option maxRecDepth 10000 in
set_option maxHeartbeats 1000000 in
theorem refsum_any (A : Option Addr) (cap : Nat) (bs : List UInt8) (w : World) (hb : Bts w A bs) (hlen : bs.length ≤ 1099511627776) :
    Calls Tryd.prog 20 #[.slice A bs.length cap] w fun e w' => e = .returned (.int .u32 (crc bs : Nat)) ∧ w = w' := by
  have HB := hid hb
  clear hb
  have hl : (bs.length : Int) ≤ 1099511627776 := by omega
  go_enter Tryd.func20, Tryd.ntmps20
  go_wp2_with fail
  go_loop [3, 4] (fun s i => ∃ k : Nat, k ≤ bs.length ∧ i = .int .i64 k ∧ s = .int .u32 (crcF 4294967295 (bs.take k) : Nat)) (fun _ i => bs.length - (intOf i).toNat)
  case atStart => exact ⟨0, Nat.zero_le _, rfl, rfl⟩
  case round =>
    obtain ⟨k, hk, rfl, rfl⟩ := hrel
    have hr := crcF_lt (bs.take k) 4294967295 (by omega)
    by_cases hlt : k < bs.length
    · rcases HB.out with rfl | ⟨b, off, rfl, hbl, hc⟩
      · simp at hlt
      · have cell := hc k bs[k] (List.getElem?_eq_getElem hlt)
        have hcl := bs[k].toNat_lt
        have hst := hid (show crcF 4294967295 (bs.take (k + 1)) = crcByte (crcF 4294967295 (bs.take k)) bs[k].toNat by rw [bv_take _ _ hlt, crcF_snoc])
        clear hc
        generalize bs[k] = c at *
        generalize crcF 4294967295 (bs.take k) = r at *
        unfold bv at cell
        generalize c.toNat = n at *
        obtain ⟨x, hx⟩ : ∃ x, x = r ^^^ n := ⟨_, rfl⟩
        have e1 : bits .xor .u32 (r : Int) (n : Int) = (x : Int) := by rw [hx]; exact u32_xor_nat r n hr (by omega)
        have hxl : x < 4294967296 := by rw [hx]; exact xor_lt32 hr (by omega)
        have HX := hid hx
        clear hx
        go_wp2_with fail
        go_loop [3, 5] (fun s i => ∃ j : Nat, j ≤ 8 ∧ i = .int .i64 j ∧ s = .int .u32 (steps j x : Nat)) (fun _ i => 8 - (intOf i).toNat)
        case atStart => exact ⟨0, by omega, rfl, rfl⟩
        case round =>
          obtain ⟨j, hj, rfl, rfl⟩ := hrel
          have hv := steps_lt j x hxl
          have hnx := hid (show steps (j + 1) x = step1 (steps j x) from rfl)
          by_cases h8 : j < 8
          · have h8' : (j : Int) < 8 := by omega
            generalize steps j x = v at *
            by_cases hodd : v % 2 = 1
            · have hv1 : ((v : Int) % 2 == 1) = true := by simp; omega
              obtain ⟨y, hy⟩ : ∃ y, y = step1 v := ⟨_, rfl⟩
              have e2 : bits .xor .u32 ((v : Int) / 2) 3988292384 = (y : Int) := by
                have := u32_xor_nat (v / 2) 3988292384 (by omega) (by omega)
                rw [hy]
                unfold step1 sel
                rw [if_pos hodd]
                exact this
              have HY := hid hy
              clear hy hodd
              go_wp2_with fail
              go_round
              case rel => exact ⟨j + 1, by omega, by go_num, by rw [hnx.out, HY.out]⟩
              case measure => simp [intOf]; omega
            · have hv1 : ((v : Int) % 2 == 1) = false := by simp; omega
              have HY := hid (show step1 v = v / 2 by unfold step1 sel; rw [if_neg hodd]; simp)
              clear hodd
              go_wp2_with fail
              go_round
              case rel => exact ⟨j + 1, by omega, by go_num, by rw [hnx.out, HY.out]; rfl⟩
              case measure => simp [intOf]; omega
          · obtain rfl : j = 8 := by omega
            have hfin := hid (show steps 8 x = crcByte r n by rw [steps_eight, HX.out]; rfl)
            generalize steps 8 x = v at *
            go_wp2_with fail
            go_round
            case rel => exact ⟨k + 1, by omega, by go_num, by rw [hst.out, hfin.out]⟩
            case measure => simp [intOf]; omega
    · obtain rfl : k = bs.length := by omega
      rw [List.take_length] at hr
      have HE := hid (show crc bs = 4294967295 - crcF 4294967295 bs from rfl)
      rw [List.take_length]
      generalize crcF 4294967295 bs = r at *
      have e2 : ((4294967295 - r : Nat) : Int) = 4294967295 - (r : Int) := by omega
      go_wp2_with fail
      go_ret
      exact ⟨by rw [HE.out, e2]; rfl, rfl⟩
end Go.Proofs.YtbpgeghenninnaaDoor
