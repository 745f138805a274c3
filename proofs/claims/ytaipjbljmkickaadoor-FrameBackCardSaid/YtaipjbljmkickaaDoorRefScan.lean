/- The document's Scan at any bytes. Condition: the bytes stand in memory. -/
import Derived.Test.YtaipjbljmkickaaDoorScanAll
namespace Go.Proofs.YtaipjbljmkickaaDoor
open Go Go.RowKit
/-- A row that the call owns, of slices that read as these bytes, in blocks below B. -/
def RowB (w : World) (B : Nat) (v : Value) (xs : List (List UInt8)) : Prop :=
  ∃ cells : List Value, w.ownsRow B 22 1 v xs.length cells ∧ cells.length = xs.length ∧ ∀ (j : Nat) x, xs[j]? = some x → ∃ A c, cells[j]? = some (.slice A x.length c) ∧ Bts w A x ∧ ∀ b o, A = some ⟨b, o, none⟩ → b < B
theorem bts_low {w w' : World} {B : Nat} {A : Option Addr} {x : List UInt8} (h : Bts w A x) (hl : ∀ b o, A = some ⟨b, o, none⟩ → b < B) (hz : w.heap.size ≤ w'.heap.size) (hb : ∀ k, k < B → w'.heap[k]? = w.heap[k]?) : Bts w' A x := by
  rcases h with e | ⟨b, o, rfl, hlt, hc⟩
  · exact .inl e
  · refine .inr ⟨b, o, rfl, Nat.lt_of_lt_of_le hlt hz, fun j y hy => ?_⟩
    rw [World.cell?_of_block (w := w) (hb b (hl b o rfl))]
    exact hc j y hy
theorem RowB.snoc {w w' : World} {B : Nat} {v v' : Value} {A : Option Addr} {c : Nat} {xs : List (List UInt8)} {x : List UInt8} {cells : List Value} (h1 : w.ownsRow B 22 1 v xs.length cells) (h2 : cells.length = xs.length)
    (h3 : ∀ (j : Nat) x, xs[j]? = some x → ∃ A c, cells[j]? = some (.slice A x.length c) ∧ Bts w A x ∧ ∀ b o, A = some ⟨b, o, none⟩ → b < B) (hB : B ≤ w.heap.size)
    (hu : Bts w A x) (hA : ∀ b o, A = some ⟨b, o, none⟩ → b < B) (hg : w.grownBy w' v.ownBlock) (hown : w'.ownsRow B 22 1 v' (xs.length + 1) (cells ++ [.slice A x.length c])) : RowB w' B v' (xs ++ [x]) := by
  have hb : ∀ k, k < B → w'.heap[k]? = w.heap[k]? := fun k hk => hg.block k (by omega) (fun e => by have := own_base h1 k e.symm; omega)
  refine ⟨cells ++ [.slice A x.length c], by simpa using hown, by simp [h2], fun j y hy => ?_⟩
  rw [List.getElem?_append] at hy
  split at hy
  · rename_i hj
    obtain ⟨A', c', hz, ho, hl⟩ := h3 j y hy
    refine ⟨A', c', ?_, bts_low ho hl hg.size hb, hl⟩
    rw [List.getElem?_append_left (by omega)]
    exact hz
  · rename_i hj
    have hj' : j = xs.length := by
      have := (List.getElem?_eq_some_iff.1 hy).1
      simp at this
      omega
    subst hj'
    have hy' : x = y := by simpa using hy
    subst hy'
    refine ⟨A, c, ?_, bts_low hu hA hg.size hb, hA⟩
    rw [← h2]
    simp
theorem RowB.keep {w w' : World} {B : Nat} {v : Value} {xs : List (List UInt8)} (h : RowB w B v xs) (hb : Below w.heap.size w w') : RowB w' B v xs := by
  obtain ⟨cells, h1, h2, h3⟩ := h
  refine ⟨cells, ownsRow_grown h1 (grown_below hb none) (fun k hk => by cases hk), h2, fun j x hx => ?_⟩
  obtain ⟨A, c, e, h, hl⟩ := h3 j x hx
  exact ⟨A, c, e, h.keep hb, hl⟩
set_option maxHeartbeats 1000000 in
theorem refscan_any (A : Option Addr) (cap : Nat) (bs : List UInt8) (w : World) (hb : Bts w A bs) (hcap : bs.length ≤ cap) (hlen : bs.length ≤ 1099511627776) :
    Calls Tryd.prog 17 #[.slice A bs.length cap] w fun e w' => ∃ v, e = .returned (.tuple #[v, .int .i64 ((scanS bs).2 : Nat)]) ∧ RowB w' w.heap.size v (scanS bs).1 ∧ Below w.heap.size w w' := by
  obtain ⟨i0, hi, hz0, hz1, hz2⟩ := info_parts Tryd.info22
  have HB := hid hb
  have hl : (bs.length : Int) ≤ 1099511627776 := by omega
  clear hb
  go_enter Tryd.func17, Tryd.ntmps17
  go_wp2_with fail
  go_loopw [4, 5] (fun v i wr => ∃ (p : Nat) (xs : List (List UInt8)), i = .int .i64 p ∧ RowB wr w.heap.size v xs ∧ Below w.heap.size w wr ∧ 8 * xs.length ≤ p ∧ p ≤ bs.length ∧ p + (scanS (bs.drop p)).2 = (scanS bs).2 ∧ xs ++ (scanS (bs.drop p)).1 = (scanS bs).1) (fun _ i _ => bs.length - (intOf i).toNat)
  case atStart => exact ⟨0, [], rfl, ⟨[], ⟨by simp, .inl ⟨rfl, rfl⟩⟩, rfl, fun j x hx => by simp at hx⟩, Below.refl _ _, by simp, by omega, by simp, by simp⟩
  case round =>
    obtain ⟨p, xs, rfl, ho, hg, h8, hp, hs1, hs2⟩ := hrel
    obtain ⟨A', hsl, hbts, hA'⟩ := slice_from A bs.length cap p hp
    have hbr := hbts wr bs (HB.out.keep hg) rfl hcap
    have HG := hid hg
    have HS1 := hid hs1
    have HS2 := hid hs2
    have hp' : (p : Int) ≤ (bs.length : Int) := by omega
    clear hg hs1 hs2 hbts
    by_cases h0 : (nextS (bs.drop p)).1 = 0
    · obtain ⟨n, hn⟩ : ∃ n, nextS (bs.drop p) = (0, n) := ⟨_, by rw [← h0]⟩
      obtain ⟨hn1, hn2, hn3, hn4⟩ := nextS_yes hn
      rw [List.length_drop] at hn3
      obtain ⟨b, o0, rfl, hb3⟩ : ∃ b o, A = some ⟨b, o, none⟩ ∧ b < w.heap.size := by
        rcases HB.out with rfl | ⟨b, o, he, hlt, _⟩
        · simp at hn3
        · exact ⟨b, o, he, hlt⟩
      obtain rfl := hA' b o0 rfl (by omega)
      obtain ⟨o, hoo⟩ : ∃ o, o = o0 + p := ⟨_, rfl⟩
      rw [← hoo] at hbr hsl
      clear hoo
      have K := hid (refnext_yes b o (cap - p) n (bs.drop p) wr hbr (by rw [List.length_drop]; omega) (by rw [List.length_drop]; omega) hn)
      rw [List.length_drop] at K
      have hsy := scanS_yes hn
      rw [List.drop_drop] at hsy
      have HS1' := hid (show p + (n + 8) + (scanS (bs.drop (p + (n + 8)))).2 = (scanS bs).2 by rw [← HS1.out, hsy]; simp only; omega)
      have HS2' := hid (show (xs ++ [bodyS (bs.drop p) n]) ++ (scanS (bs.drop (p + (n + 8)))).1 = (scanS bs).1 by rw [← HS2.out, hsy]; simp)
      have hxl : (bodyS (bs.drop p) n).length = n := by simp [bodyS]; omega
      have hx7 := hid (show Bts wr (some ⟨b, o + 4, none⟩) (bodyS (bs.drop p) n) from bts_take n (bts_drop 4 hbr))
      generalize bodyS (bs.drop p) n = x at *
      subst hxl
      have hxn : (x.length : Int) ≤ 65536 := by omega
      obtain ⟨cells, ho1, ho2, ho3⟩ := ho
      have HO3 := hid ho3
      clear hsy hn hn1 hn4 HS1 HS2 ho3 h0 hbr hA' HB
      go_wp2_with fail
      refine K.out.mono ?_
      rintro _ w1 ⟨rfl, k1, hw1⟩
      have hown1 := ownsRow_grown ho1 (grown_below (show Below wr.heap.size wr w1 by rw [hw1]; exact quiet_below (Below.refl _ _) k1) none) (fun k hk => by cases hk)
      have HG1 := hid (show Below w.heap.size w w1 by rw [hw1]; exact quiet_below HG.out k1)
      have HO1 := hid (show ∀ (j : Nat) x, xs[j]? = some x → ∃ A c, cells[j]? = some (.slice A x.length c) ∧ Bts w1 A x ∧ ∀ b o, A = some ⟨b, o, none⟩ → b < w.heap.size by rw [hw1]; exact HO3.out)
      have HX1 := hid (show Bts w1 (some ⟨b, o + 4, none⟩) x by rw [hw1]; exact hx7.out)
      clear hw1 ho1 HO3 hx7 K hsl
      go_wp2_with (at_builtin; refine wpList_append_own _ rfl _ _ 34 rfl w.heap.size 22 i0 (.slice none 0 0) 1 24 Tryd.underlying34 hi hz0 hz1 hz2 rfl (by decide) _ _ _ rfl (hown1.alloc _) ⟨w1.heap.size, 0, none⟩ 1 1 [.slice (some ⟨b, o + 4, none⟩) x.length (cap - p - 4)] rfl rfl ?c1 ?c2 ?c3 ?c4 ?c5 ?_)
      case c1 =>
        intro j u hj
        match j, hj with
        | 0, hj =>
          simp at hj
          subst hj
          rw [add_off, cell_of (heap_new w1 _)]
          rfl
      case c2 =>
        intro u hu
        obtain rfl := List.mem_singleton.1 hu
        rfl
      case c3 => unfold maxLen; omega
      case c4 => omega
      case c5 => have := HG1.out.size; simp; omega
      intro v6 w3 hown2 hgrow _
      have hb6 := own_base hown1
      have G3 := hid (show Below w.heap.size w w3 from Below.grown (HG1.out.alloc HG1.out.size _) hgrow (by have := HG1.out.size; simp; omega) hb6)
      have O3 := hid (show RowB w3 w.heap.size v6 (xs ++ [x]) from RowB.snoc (hown1.alloc _) ho2 (fun j y hy => by
        obtain ⟨A, c, e, h, hl⟩ := HO1.out j y hy
        exact ⟨A, c, e, h.keep (by go_grown), hl⟩) (by have := HG1.out.size; simp; omega) (HX1.out.keep (by go_grown)) (fun b' o' e => by cases e; exact hb3) hgrow hown2)
      clear hown2 hgrow hown1 hb6 HO1 HX1
      go_wp2_with fail
      go_roundw
      case rel => exact ⟨p + (x.length + 8), xs ++ [x], by go_num, O3.out, G3.out, by simp; omega, by omega, HS1'.out, HS2'.out⟩
      case measure => simp [intOf]; omega
    · rw [scanS_no h0] at HS1 HS2
      have K := hid (refnext_no A' (cap - p) _ (bs.drop p) wr hbr (by rw [List.length_drop]; omega) (by rw [List.length_drop]; omega) rfl h0)
      rw [List.length_drop] at K
      have HP := hid (show p = (scanS bs).2 from HS1.out)
      have HX := hid (show xs = (scanS bs).1 by rw [← HS2.out]; simp)
      have O := hid ho
      generalize (nextS (bs.drop p)).1 = E at *
      have z : ((E : Int) != 0) = true := by simpa using h0
      clear h0 HS1 HS2 ho hbr hA' HB
      go_wp2_with fail
      refine K.out.mono ?_
      rintro _ w1 ⟨rfl, k1, rfl⟩
      go_wp2_with fail
      all_goals go_ret2
      refine ⟨_, (show _ = Ending.returned (.tuple #[_, .int .i64 ((scanS bs).2 : Nat)]) from by rw [← HP.out]; rfl), ?_, quiet_below HG.out _⟩
      rw [← HX.out]
      exact O.out.keep (quiet_below (Below.refl _ _) k1)
end Go.Proofs.YtaipjbljmkickaaDoor
