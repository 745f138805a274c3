/- code.Ints, called at any bytes and row of numbers. Conditions: both stand in memory; the row has at most 10^6 numbers, the bytes at most 2^38. -/
import Derived.Test.YtanjgobcfgmpfaaNils
namespace Go.Proofs.Ytanjgobcfgmpfaa
open Go Go.RowKit
/-- The slice at A reads as these numbers. -/
def Its (w : World) (A : Option Addr) (zs : List Int) : Prop :=
  zs = [] ∨ ∃ b off, A = some ⟨b, off, none⟩ ∧ b < w.heap.size ∧ ∀ (j : Nat) x, zs[j]? = some x → w.cell? ⟨b, off + j, none⟩ = some (.int .i64 x)
theorem Its.below {w w' : World} {A : Option Addr} {zs : List Int} (h : Its w A zs) (hb : Below w.heap.size w w') : Its w' A zs := by
  rcases h with rfl | ⟨b, off, rfl, hlt, hc⟩
  · exact .inl rfl
  · exact .inr ⟨b, off, rfl, Nat.lt_of_lt_of_le hlt hb.size, fun j x hx => by rw [hb.cell (p := ⟨b, off + j, none⟩) hlt]; exact hc j x hx⟩
/-- The bytes of numbers of either sign, one behind the other. -/
def encR (zs : List Int) : List UInt8 := (zs.map fun z => encU (foldF z)).flatten
theorem encR_snoc (zs : List Int) (z : Int) : encR (zs ++ [z]) = encR zs ++ encU (foldF z) := by simp [encR]
theorem encR_len (zs : List Int) (h : ∀ z ∈ zs, -9223372036854775808 ≤ z ∧ z ≤ 9223372036854775807) : (encR zs).length ≤ 10 * zs.length := by
  induction zs with
  | nil => simp [encR]
  | cons z zs ih =>
    have h1 := ih fun y hy => h y (List.mem_cons_of_mem _ hy)
    have h2 := encU_ten (foldF_lt (h z List.mem_cons_self))
    have e : encR (z :: zs) = encU (foldF z) ++ encR zs := by simp [encR]
    rw [e]
    simp only [List.length_append, List.length_cons]
    omega
set_option maxHeartbeats 2000000 in
theorem ints_any (A C : Option Addr) (cap cap2 : Nat) (bs : List UInt8) (zs : List Int) (w : World) (hb : Bts w A bs) (hz : Its w C zs) (hr : ∀ z ∈ zs, -9223372036854775808 ≤ z ∧ z ≤ 9223372036854775807) (hlen : bs.length ≤ 274877906944) (hzl : zs.length ≤ 1000000) :
    Calls Try.prog 16 #[.slice A bs.length cap, .slice C zs.length cap2] w fun e w' => ∃ v, e = .returned v ∧ Own w' w.heap.size v (bs ++ encU zs.length ++ encR zs) ∧ Below w.heap.size w w' := by
  have K : Hid (Calls Try.prog 35 #[.slice A bs.length cap, .int .i64 (10 + (zs.length : Int))] w fun e w' => ∃ v, e = .returned v ∧ Own w' w.heap.size v bs ∧ Below w.heap.size w w') := hid (fresh_any A cap (10 + zs.length) bs w hb (by omega))
  have h1 : (zs.length : Int) ≤ 1000000 := by omega
  have h2 := encU_ten (n := zs.length) (by omega)
  have HZ := hid hz
  have HR := hid hr
  clear hb hz hr
  go_enter Try.func16, Try.ntmps16
  go_wp2_with fail
  refine K.out.mono ?_
  rintro _ w1 ⟨v, rfl, ho, hbb⟩
  have G1 := hid hbb
  have K2 := hid (put_any w.heap.size zs.length v bs w1 (by omega) ho hbb.size (by omega))
  clear ho hbb K
  go_wp2_with fail
  refine K2.out.mono ?_
  rintro _ w2 ⟨v', rfl, ho, hbb⟩
  have O2 := hid ho
  have G2 := hid (G1.out.trans hbb)
  clear ho hbb
  go_wp2_with fail
  go_loopw [5, 19] (fun o i wr => ∃ k : Nat, k ≤ zs.length ∧ i = .int .i64 k ∧ Own wr w.heap.size o (bs ++ encU zs.length ++ encR (zs.take k)) ∧ Below w.heap.size w wr) (fun _ i _ => zs.length - (intOf i).toNat)
  case atStart => exact ⟨0, Nat.zero_le _, rfl, by simpa [encR] using O2.out, G2.out⟩
  case round =>
    obtain ⟨k, hk, rfl, ho, hg⟩ := hrel
    have HO := hid ho
    have HG := hid hg
    clear ho hg O2 G2 K2
    by_cases hlt : k < zs.length
    · have hlt' : (k : Int) < (zs.length : Int) := by omega
      have hzk := HR.out zs[k] (List.getElem_mem hlt)
      have hl : (bs ++ encU zs.length ++ encR (zs.take k)).length ≤ 1099511627776 := by
        have h3 := encR_len (zs.take k) fun z hz => HR.out z (List.mem_of_mem_take hz)
        have h4 : (zs.take k).length ≤ zs.length := by simp; omega
        simp only [List.length_append]
        omega
      have htk := hid (show encR (zs.take (k + 1)) = encR (zs.take k) ++ encU (foldF zs[k]) from by rw [List.take_succ_eq_append_getElem hlt, encR_snoc])
      rcases HZ.out with rfl | ⟨b, off, rfl, hbl, hc⟩
      · simp at hlt
      · have hx : wr.cell? ⟨b, off + k, none⟩ = some (.int .i64 zs[k]) := by
          rw [HG.out.cell (p := ⟨b, off + k, none⟩) hbl]
          exact hc k zs[k] (List.getElem?_eq_getElem hlt)
        have KF := hid (fun w => fold_any zs[k] w hzk)
        have KP := hid (fun wx (hw : wx = wr) => by subst hw; exact put_any w.heap.size (foldF zs[k]) _ _ wx (foldF_lt hzk) HO.out HG.out.size hl)
        generalize zs[k] = z at *
        clear hc
        go_wp2_with fail
        refine (KF.out _).mono ?_
        rintro _ w3 ⟨rfl, rfl⟩
        go_wp2_with fail
        refine (KP.out _ rfl).mono ?_
        rintro _ w4 ⟨v4, rfl, ho, hbb⟩
        have O4 := hid ho
        have G4 := hid (HG.out.trans hbb)
        clear ho hbb
        go_wp2_with fail
        go_roundw
        case rel => exact ⟨k + 1, by omega, by go_num, by rw [htk.out, ← List.append_assoc]; exact O4.out, G4.out⟩
        case measure => simp [intOf]; omega
    · obtain rfl : k = zs.length := by omega
      have O5 := HO.out
      rw [List.take_length] at O5
      have HO5 := hid O5
      clear O5 HO
      go_wp2_with fail
      all_goals go_returns
      all_goals exact ⟨_, rfl, HO5.out, HG.out⟩
end Go.Proofs.Ytanjgobcfgmpfaa
