/- The CRC-32 by half bytes and by bits are one; a turned byte turns it. Condition: none. -/
import Derived.KernelRfl
namespace Go.Proofs.YtbpgeghenninnaaDoor
def sel (b : Nat) : Nat := if b = 1 then 3988292384 else 0
def step1 (r : Nat) : Nat := (r / 2) ^^^ sel (r % 2)
def halfL : List Nat := [0, 498536548, 997073096, 651767980, 1994146192, 1802195444, 1303535960, 1342533948, 3988292384, 4027552580, 3604390888, 3412177804, 2607071920, 2262029012, 2685067896, 3183342108]
def half (i : Nat) : Nat := halfL.getD i 0
def nib (r : Nat) : Nat := (r / 16) ^^^ half (r % 16)
def crcByte (r c : Nat) : Nat := nib (nib (r ^^^ c))
def crcF (r : Nat) (bs : List UInt8) : Nat := bs.foldl (fun r c => crcByte r c.toNat) r
def crc (bs : List UInt8) : Nat := 4294967295 - crcF 4294967295 bs
theorem sel_xor (a b : Nat) : sel ((a ^^^ b) % 2) = sel (a % 2) ^^^ sel (b % 2) := by
  have h := @Nat.xor_mod_two_eq_one a b
  unfold sel
  by_cases ha : a % 2 = 1 <;> by_cases hb : b % 2 = 1 <;> simp [ha, hb] at h ⊢ <;> omega
theorem step1_xor (a b : Nat) : step1 (a ^^^ b) = step1 a ^^^ step1 b := by
  unfold step1
  rw [Nat.xor_div_two, sel_xor]
  simp only [Nat.xor_assoc]
  congr 1
  rw [← Nat.xor_assoc, Nat.xor_comm (sel _), Nat.xor_assoc]
  rw [Nat.xor_comm (sel (a % 2)), Nat.xor_assoc]
theorem half_is : ∀ m, m < 16 → half m = sel (m / 8 % 2) ^^^ (step1 (sel (m / 4 % 2)) ^^^ (step1 (step1 (sel (m / 2 % 2))) ^^^ step1 (step1 (step1 (sel (m % 2)))))) := by decide
theorem four_steps (r : Nat) : step1 (step1 (step1 (step1 r))) = nib r := by
  have e1 : step1 r = (r / 2) ^^^ sel (r % 2) := rfl
  have e2 : step1 (r / 2) = (r / 4) ^^^ sel (r / 2 % 2) := by unfold step1; rw [Nat.div_div_eq_div_mul]
  have e3 : step1 (r / 4) = (r / 8) ^^^ sel (r / 4 % 2) := by unfold step1; rw [Nat.div_div_eq_div_mul]
  have e4 : step1 (r / 8) = (r / 16) ^^^ sel (r / 8 % 2) := by unfold step1; rw [Nat.div_div_eq_div_mul]
  have hm := half_is (r % 16) (by omega)
  have m8 : r % 16 / 8 % 2 = r / 8 % 2 := by omega
  have m4 : r % 16 / 4 % 2 = r / 4 % 2 := by omega
  have m2 : r % 16 / 2 % 2 = r / 2 % 2 := by omega
  have m1 : r % 16 % 2 = r % 2 := by omega
  rw [m8, m4, m2, m1] at hm
  unfold nib
  rw [hm, e1]
  simp only [step1_xor, e2, e3, e4, Nat.xor_assoc]
theorem sel_lt (b : Nat) : sel b < 4294967296 := by unfold sel; split <;> omega
theorem xor_lt32 {a b : Nat} (ha : a < 4294967296) (hb : b < 4294967296) : a ^^^ b < 4294967296 := Nat.xor_lt_two_pow (n := 32) ha hb
theorem step1_lt {r : Nat} (h : r < 4294967296) : step1 r < 4294967296 := xor_lt32 (by omega) (sel_lt _)
theorem half_lt (i : Nat) : half i < 4294967296 := by
  by_cases h : i < 16
  · have : ∀ i, i < 16 → half i < 4294967296 := by decide
    exact this i h
  · unfold half
    rw [List.getD_eq_getElem?_getD, List.getElem?_eq_none (by simp [halfL]; omega)]
    simp
theorem nib_lt {r : Nat} (h : r < 4294967296) : nib r < 4294967296 := xor_lt32 (by omega) (half_lt _)
theorem crcByte_lt {r c : Nat} (h : r < 4294967296) (hc : c < 256) : crcByte r c < 4294967296 := nib_lt (nib_lt (xor_lt32 h (by omega)))
theorem crcF_lt (bs : List UInt8) : ∀ r, r < 4294967296 → crcF r bs < 4294967296 := by
  induction bs with
  | nil => intro r h; exact h
  | cons c t ih => intro r h; exact ih _ (crcByte_lt h c.toNat_lt)
theorem crcF_snoc (r : Nat) (bs : List UInt8) (c : UInt8) : crcF r (bs ++ [c]) = crcByte (crcF r bs) c.toNat := by simp [crcF]
theorem crc_lt (bs : List UInt8) : crc bs < 4294967296 := by unfold crc; omega
theorem xor_self_left {a b c : Nat} (h : a ^^^ b = a ^^^ c) : b = c := by
  have : a ^^^ (a ^^^ b) = a ^^^ (a ^^^ c) := by rw [h]
  simpa [← Nat.xor_assoc] using this
theorem step1_inj {a b : Nat} (ha : a < 4294967296) (hb : b < 4294967296) (h : step1 a = step1 b) : a = b := by
  unfold step1 at h
  have key : ∀ x y : Nat, x < 2147483648 → y < 2147483648 → x ^^^ 3988292384 = y → False := by
    intro x y hx hy e
    have h1 : x ^^^ (x ^^^ 3988292384) = x ^^^ y := by rw [e]
    rw [← Nat.xor_assoc, Nat.xor_self, Nat.zero_xor] at h1
    have h2 : x ^^^ y < 2147483648 := Nat.xor_lt_two_pow (n := 31) hx hy
    omega
  rcases Nat.mod_two_eq_zero_or_one a with h1 | h1 <;> rcases Nat.mod_two_eq_zero_or_one b with h2 | h2
  · simp [h1, h2, sel] at h; omega
  · simp [h1, h2, sel] at h; exact (key _ _ (by omega) (by omega) h.symm).elim
  · simp [h1, h2, sel] at h; exact (key _ _ (by omega) (by omega) h).elim
  · rw [h1, h2, Nat.xor_comm, Nat.xor_comm (b / 2)] at h
    have := xor_self_left h
    omega
theorem nib_inj {a b : Nat} (ha : a < 4294967296) (hb : b < 4294967296) (h : nib a = nib b) : a = b := by
  rw [← four_steps, ← four_steps] at h
  exact step1_inj ha hb (step1_inj (step1_lt ha) (step1_lt hb) (step1_inj (step1_lt (step1_lt ha)) (step1_lt (step1_lt hb)) (step1_inj (step1_lt (step1_lt (step1_lt ha))) (step1_lt (step1_lt (step1_lt hb))) h)))
theorem crcByte_inj {r s c d : Nat} (hr : r < 4294967296) (hs : s < 4294967296) (hc : c < 256) (hd : d < 256) (h : crcByte r c = crcByte s d) : r ^^^ c = s ^^^ d :=
  nib_inj (xor_lt32 hr (by omega)) (xor_lt32 hs (by omega)) (nib_inj (nib_lt (xor_lt32 hr (by omega))) (nib_lt (xor_lt32 hs (by omega))) h)
theorem crcF_inj (bs : List UInt8) : ∀ r s, r < 4294967296 → s < 4294967296 → crcF r bs = crcF s bs → r = s := by
  induction bs with
  | nil => intro r s _ _ h; exact h
  | cons c t ih =>
    intro r s hr hs h
    have := ih _ _ (crcByte_lt hr c.toNat_lt) (crcByte_lt hs c.toNat_lt) h
    have := crcByte_inj hr hs c.toNat_lt c.toNat_lt this
    rw [Nat.xor_comm, Nat.xor_comm s] at this
    exact xor_self_left this
theorem crc_turned (pre post : List UInt8) (c d : UInt8) (h : crc (pre ++ c :: post) = crc (pre ++ d :: post)) : c = d := by
  have h1 := crcF_lt (pre ++ c :: post) 4294967295 (by omega)
  have h2 := crcF_lt (pre ++ d :: post) 4294967295 (by omega)
  unfold crc at h
  have h3 : crcF 4294967295 (pre ++ c :: post) = crcF 4294967295 (pre ++ d :: post) := by omega
  have hp := crcF_lt pre 4294967295 (by omega)
  have e : ∀ x : UInt8, crcF 4294967295 (pre ++ x :: post) = crcF (crcByte (crcF 4294967295 pre) x.toNat) post := by intro x; simp [crcF]
  rw [e, e] at h3
  have h4 := crcF_inj post _ _ (crcByte_lt hp c.toNat_lt) (crcByte_lt hp d.toNat_lt) h3
  have h5 := xor_self_left (crcByte_inj hp hp c.toNat_lt d.toNat_lt h4)
  exact UInt8.toNat_inj.1 h5
theorem xor_max {r : Nat} (h : r < 4294967296) : 4294967295 ^^^ r = 4294967295 - r := by
  have := BitVec.toNat_not (x := BitVec.ofNat 32 r)
  rw [BitVec.not_def, BitVec.toNat_xor] at this
  simp at this
  rw [Nat.mod_eq_of_lt h] at this
  omega
end Go.Proofs.YtbpgeghenninnaaDoor
