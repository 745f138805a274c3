/- frame.Scan at any bytes. Conditions: the bytes and the table stand in memory. -/
import Derived.Test.YtaipjbljmkickaaDoorScan
import Derived.Deep.DeepCutAuto
namespace Go.Proofs.YtaipjbljmkickaaDoor
open Go Go.RowKit
theorem Tryd.info22 : (Tryd.prog.info? 22).map (fun i => (i.zero, i.size, i.bytes)) = some (some (.slice none 0 0), 1, 24) := by kernel_rfl
def scanS (bs : List UInt8) : List (List UInt8) × Nat :=
  if (nextS bs).1 = 0 then (bodyS bs (nextS bs).2 :: (scanS (bs.drop ((nextS bs).2 + 8))).1, (nextS bs).2 + 8 + (scanS (bs.drop ((nextS bs).2 + 8))).2) else ([], 0)
termination_by bs.length
decreasing_by
  all_goals
    rename_i h
    have := nextS_yes (bs := bs) (n := (nextS bs).2) (by rw [← h])
    simp only [List.length_drop]
    omega
theorem scanS_yes {bs : List UInt8} {n : Nat} (h : nextS bs = (0, n)) : scanS bs = (bodyS bs n :: (scanS (bs.drop (n + 8))).1, n + 8 + (scanS (bs.drop (n + 8))).2) := by
  rw [scanS, h]
  simp
theorem scanS_no {bs : List UInt8} (h : (nextS bs).1 ≠ 0) : scanS bs = ([], 0) := by
  rw [scanS, if_neg h]
theorem ownsRow_grown {w w' : World} {B : Nat} {e : TypeId} {s n : Nat} {v : Value} {xs : List Value} {row : Option Nat} (h : w.ownsRow B e s v n xs) (hg : w.grownBy w' row) (hne : ∀ k, row = some k → v.ownBlock ≠ some k) : w'.ownsRow B e s v n xs := by
  obtain ⟨hl, h0 | ⟨g, cap, cur, rfl, hb, hh, r⟩⟩ := h
  · exact ⟨hl, .inl h0⟩
  · refine ⟨hl, .inr ⟨g, cap, cur, rfl, hb, ?_, r⟩⟩
    rw [hg.block g (lt_of hh) (fun e => ?_)]
    · exact hh
    · cases row with
      | none => cases e
      | some k => exact hne k rfl (by simpa [Value.ownBlock] using e)
theorem ownsRow_apart {w : World} {B B' : Nat} {e e' : TypeId} {s s' n n' : Nat} {u v : Value} {xs ys : List Value} (h : w.ownsRow B e s u n xs) (h' : w.ownsRow B' e' s' v n' ys) (hee : e ≠ e') : ∀ k, v.ownBlock = some k → u.ownBlock ≠ some k := by
  intro k hv hu
  obtain ⟨_, ⟨rfl, _⟩ | ⟨g, cap, cur, rfl, _, hh, _⟩⟩ := h
  · cases hu
  · obtain ⟨_, ⟨rfl, _⟩ | ⟨g', cap', cur', rfl, _, hh', _⟩⟩ := h'
    · cases hv
    · obtain rfl : g = k := by simpa [Value.ownBlock] using hu
      obtain rfl : g' = g := by simpa [Value.ownBlock] using hv
      rw [hh] at hh'
      simp at hh'
      exact hee hh'.2
/-- A row of slices of bytes that the call owns. -/
def OwnB (w : World) (B : Nat) (v : Value) (xs : List (List UInt8)) : Prop :=
  ∃ cells : List Value, w.ownsRow B 22 1 v xs.length cells ∧ cells.length = xs.length ∧ ∀ (j : Nat) x, xs[j]? = some x → ∃ u, cells[j]? = some u ∧ Own w B u x
def slen : Value → Nat
  | .slice _ n _ => n
  | _ => 0
theorem slen_own {w : World} {B : Nat} {e : TypeId} {s n : Nat} {v : Value} {xs : List Value} (h : w.ownsRow B e s v n xs) : slen v = n := by
  obtain ⟨hl, ⟨rfl, h0⟩ | ⟨g, cap, cur, rfl, _⟩⟩ := h
  · exact h0.symm
  · rfl
theorem OwnB.grown {w w' : World} {B : Nat} {v : Value} {xs : List (List UInt8)} {row : Option Nat} (h : OwnB w B v xs) (hg : w.grownBy w' row) (hr : ∀ k, row = some k → k < B) : OwnB w' B v xs := by
  obtain ⟨cells, h1, h2, h3⟩ := h
  refine ⟨cells, ownsRow_grown h1 hg (fun k hk e => ?_), h2, fun j x hx => ?_⟩
  · have := own_base h1 k e
    have := hr k hk
    omega
  · obtain ⟨u, hu, ho⟩ := h3 j x hx
    refine ⟨u, hu, ownsRow_grown ho hg (fun k hk e => ?_)⟩
    have := own_base ho k e
    have := hr k hk
    omega
theorem own_alloc {w : World} {B : Nat} {v : Value} {x : List UInt8} (h : Own w B v x) (o : Obj) : Own (w.alloc o) B v x := World.ownsRow.alloc h o
theorem OwnB.snoc {w w' : World} {B : Nat} {v v' u : Value} {xs : List (List UInt8)} {x : List UInt8} {cells : List Value} (h1 : w.ownsRow B 22 1 v xs.length cells) (h2 : cells.length = xs.length) (h3 : ∀ (j : Nat) x, xs[j]? = some x → ∃ u, cells[j]? = some u ∧ Own w B u x)
    (hu : Own w B u x) (hg : w.grownBy w' v.ownBlock) (hown : w'.ownsRow B 22 1 v' (xs.length + 1) (cells ++ [u])) : OwnB w' B v' (xs ++ [x]) := by
  refine ⟨cells ++ [u], by simpa using hown, by simp [h2], fun j y hy => ?_⟩
  rw [List.getElem?_append] at hy
  split at hy
  · rename_i hj
    obtain ⟨z, hz, ho⟩ := h3 j y hy
    refine ⟨z, ?_, ownsRow_grown ho hg (fun k hk => ownsRow_apart ho h1 (by decide) k hk)⟩
    rw [List.getElem?_append_left (by omega)]
    exact hz
  · rename_i hj
    have hj' : j = xs.length := by
      have := (List.getElem?_eq_some_iff.1 hy).1
      simp at this
      omega
    subst hj'
    have hy' : x = y := by simpa using hy
    subst hy'
    refine ⟨u, ?_, ownsRow_grown hu hg (fun k hk => ownsRow_apart hu h1 (by decide) k hk)⟩
    rw [← h2]
    simp
theorem OwnB.mono {w : World} {B C : Nat} {v : Value} {xs : List (List UInt8)} (h : OwnB w B v xs) (hC : C ≤ B) : OwnB w C v xs := by
  obtain ⟨cells, ⟨hl, h1⟩, h2, h3⟩ := h
  refine ⟨cells, ⟨hl, ?_⟩, h2, fun j x hx => ?_⟩
  · rcases h1 with h0 | ⟨g, cap, cur, rfl, hb, r⟩
    · exact .inl h0
    · exact .inr ⟨g, cap, cur, rfl, Nat.le_trans hC hb, r⟩
  · obtain ⟨u, hu, ho⟩ := h3 j x hx
    exact ⟨u, hu, ho.mono hC⟩
def ScanRel (bs : List UInt8) (B : Nat) (A : Option Addr) (cap : Nat) (v6 v7 v8 : Value) (w0 wr : World) : Prop :=
  ∃ (p q : Nat) (xs : List (List UInt8)), OwnB wr (B + 2) v6 xs ∧ Below B w0 wr ∧ wr.heap[B]? = some (.cells #[.slice A bs.length cap] 22 (0, 0)) ∧ wr.heap[B + 1]? = some (.cells #[.int .i64 (q : Int)] 3 (0, 0)) ∧
    8 * xs.length ≤ p ∧ p ≤ bs.length ∧ p + (scanS (bs.drop p)).2 = (scanS bs).2 ∧ xs ++ (scanS (bs.drop p)).1 = (scanS bs).1 ∧
    ((∃ n, nextS (bs.drop p) = (0, n) ∧ v8 = .bool true ∧ q = p + (n + 8) ∧ Own wr (B + 2) v7 (bodyS (bs.drop p) n)) ∨ ((nextS (bs.drop p)).1 ≠ 0 ∧ v8 = .bool false ∧ q = p))
/-- What a call of the closure leaves: the relation at the next place. -/
theorem scan_step {bs : List UInt8} {B : Nat} {A : Option Addr} {cap q : Nat} {w0 wr : World} {v6 : Value} {xs : List (List UInt8)} (hb : Bts w0 A bs) (hB : B = w0.heap.size) (hcap : bs.length ≤ cap) (hT : Tab w0) (hlen : bs.length ≤ 1099511627776)
    (ho : OwnB wr (B + 2) v6 xs) (hg : Below B w0 wr) (hz : B + 2 ≤ wr.heap.size) (hbx : wr.heap[B]? = some (.cells #[.slice A bs.length cap] 22 (0, 0))) (hax : wr.heap[B + 1]? = some (.cells #[.int .i64 (q : Int)] 3 (0, 0)))
    (h8 : 8 * xs.length ≤ q) (hq : q ≤ bs.length) (hs1 : q + (scanS (bs.drop q)).2 = (scanS bs).2) (hs2 : xs ++ (scanS (bs.drop q)).1 = (scanS bs).1) :
    Calls Tryd.prog 24 #[.pointer (some ⟨B, 0, none⟩), .pointer (some ⟨B + 1, 0, none⟩)] wr fun e w' => ∃ v7 v8, e = .returned (.tuple #[v7, v8]) ∧ ScanRel bs B A cap v6 v7 v8 w0 w' := by
  have hb' : Bts wr A bs := by subst hB; exact hb.keep hg
  have hT' : Tab wr := by subst hB; exact tab_below hT hg
  have hG : ∀ w' : World, wr.grownBy w' (some (B + 1)) → Below B w0 w' := fun w' h => Below.grown hg h (by omega) (fun k hk => by cases hk; omega)
  have hbx' : ∀ w' : World, wr.grownBy w' (some (B + 1)) → w'.heap[B]? = some (.cells #[.slice A bs.length cap] 22 (0, 0)) := fun w' h => by
    rw [h.block B (lt_of hbx) (fun e => by simp at e), hbx]
  have hO : ∀ w' : World, wr.grownBy w' (some (B + 1)) → OwnB w' (B + 2) v6 xs := fun w' h => ho.grown h (fun k hk => by cases hk; omega)
  by_cases h0 : (nextS (bs.drop q)).1 = 0
  · obtain ⟨n, hn⟩ : ∃ n, nextS (bs.drop q) = (0, n) := ⟨_, by rw [← h0]⟩
    refine (clos_yes B (B + 1) q cap n A bs wr hb' hcap hT' hlen (fun b o e => ?_) hbx hax hq hn).mono ?_
    · have := nextS_yes hn
      rw [List.length_drop] at this
      rcases hb with rfl | ⟨b', o', he, hlt, _⟩
      · simp at this
      · rw [he] at e
        cases e
        omega
    · rintro e w' ⟨v, rfl, hv, hgr, hax'⟩
      exact ⟨_, _, rfl, q, q + (n + 8), xs, hO w' hgr, hG w' hgr, hbx' w' hgr, hax', h8, hq, hs1, hs2, .inl ⟨n, hn, rfl, rfl, hv.mono hz⟩⟩
  · refine (clos_no B (B + 1) q cap A bs wr hb' hcap hT' hlen hbx hax hq h0).mono ?_
    rintro e w' ⟨rfl, hgr, hax'⟩
    exact ⟨_, _, rfl, q, q, xs, hO w' hgr, hG w' hgr, hbx' w' hgr, hax', h8, hq, hs1, hs2, .inr ⟨h0, rfl, rfl⟩⟩
set_option maxHeartbeats 1000000 in
theorem scan_any (A : Option Addr) (cap : Nat) (bs : List UInt8) (w : World) (hb : Bts w A bs) (hcap : bs.length ≤ cap) (hT : Tab w) (hlen : bs.length ≤ 1099511627776) :
    Calls Tryd.prog 16 #[.slice A bs.length cap] w fun e w' => ∃ v, e = .returned (.tuple #[v, .int .i64 ((scanS bs).2 : Nat)]) ∧ OwnB w' w.heap.size v (scanS bs).1 ∧ Below w.heap.size w w' := by
  obtain ⟨B, hB⟩ : ∃ B, B = w.heap.size := ⟨_, rfl⟩
  obtain ⟨i0, hi, hz0, hz1, hz2⟩ := info_parts Tryd.info22
  have K := hid (fun (q : Nat) wr v6 xs => @scan_step bs B A cap q w wr v6 xs hb hB hcap hT hlen)
  obtain ⟨w1, hw1⟩ : ∃ w1, w1 = (w.alloc (.cells #[.slice A bs.length cap] 22)).alloc (.cells #[.int .i64 0] 3) := ⟨_, rfl⟩
  have K0 := hid (K.out 0 w1 (.slice none 0 0) [] ⟨[], ⟨by simp, .inl ⟨rfl, rfl⟩⟩, rfl, fun j x hx => by simp at hx⟩ (by rw [hw1, hB]; go_grown) (by rw [hw1, hB]; simp) (by rw [hw1, hB, Below.heap_alloc _ _ _ (by simp), heap_new]) (by rw [hw1, hB]; simpa using heap_new (w.alloc (.cells #[.slice A bs.length cap] 22)) (.cells #[.int .i64 0] 3)) (by simp) (by omega) (by simp) (by simp))
  rw [hw1] at K0
  clear hb hT hw1
  subst hB
  go_enter Tryd.func16, Tryd.ntmps16
  go_wp2_with fail
  refine K0.out.mono ?_
  rintro _ w2 ⟨v7, v8, rfl, hr⟩
  have HR := hid hr
  clear hr K0
  go_wp2_with fail
  go_loopw [6, 7, 8] (fun a b c wr => ScanRel bs w.heap.size A cap a b c w wr) (fun a _ _ _ => bs.length + 1 - slen a)
  case atStart => exact HR.out
  case round =>
    clear HR
    obtain ⟨p, q, xs, ho, hg, hbx, hax, h8, hp, hs1, hs2, hway⟩ := hrel
    have HG := hid hg
    have HBX := hid hbx
    have HAX := hid hax
    have HS1 := hid hs1
    have HS2 := hid hs2
    have hz : w.heap.size + 2 ≤ wr.heap.size := by
      have := lt_of hax
      omega
    clear hg hbx hax hs1 hs2
    rcases hway with ⟨n, hn, rfl, rfl, h7⟩ | ⟨h0, rfl, rfl⟩
    · obtain ⟨hn1, hn2, hn3, hn4⟩ := nextS_yes hn
      rw [List.length_drop] at hn3
      have hsy := scanS_yes hn
      rw [List.drop_drop] at hsy
      have HS1' := hid (show p + (n + 8) + (scanS (bs.drop (p + (n + 8)))).2 = (scanS bs).2 by rw [← HS1.out, hsy]; simp only; omega)
      have HS2' := hid (show (xs ++ [bodyS (bs.drop p) n]) ++ (scanS (bs.drop (p + (n + 8)))).1 = (scanS bs).1 by rw [← HS2.out, hsy]; simp)
      obtain ⟨x, hx⟩ : ∃ x, x = bodyS (bs.drop p) n := ⟨_, rfl⟩
      rw [← hx] at h7 HS2'
      clear hsy hx hn hn1 hn4 HS1 HS2
      obtain ⟨cells, ho1, ho2, ho3⟩ := ho
      have HO3 := hid ho3
      have H7 := hid h7
      have hsl := hid (slen_own ho1)
      obtain ⟨A7, c7, rfl, _, _, _⟩ := H7.out.is
      have hx24 : xs.length + 1 ≤ 1099511627776 := by omega
      clear ho3 h7
      go_wp2_with (at_builtin; refine wpList_append_own _ rfl _ _ 34 rfl (w.heap.size + 2) 22 i0 (.slice none 0 0) 1 24 Tryd.underlying34 hi hz0 hz1 hz2 rfl (by decide) _ _ _ rfl (ho1.alloc _) ⟨wr.heap.size, 0, none⟩ 1 1 [.slice A7 x.length c7] rfl rfl ?c1 ?c2 ?c3 ?c4 ?c5 ?_)
      case c1 =>
        intro j u hj
        match j, hj with
        | 0, hj =>
          simp at hj
          subst hj
          rw [add_off, cell_of (heap_new wr _)]
          rfl
      case c2 =>
        intro u hu
        obtain rfl := List.mem_singleton.1 hu
        rfl
      case c3 => unfold maxLen; omega
      case c4 => omega
      case c5 => simp; omega
      intro v6 w3 hown2 hgrow _
      have hb6 := own_base ho1
      have O3 := hid (show OwnB w3 (w.heap.size + 2) v6 (xs ++ [x]) from OwnB.snoc (ho1.alloc _) ho2 (fun j y hy => by
        obtain ⟨u, hu, ho⟩ := HO3.out j y hy
        exact ⟨u, hu, own_alloc ho _⟩) (own_alloc H7.out _) hgrow hown2)
      have G3 := hid (show Below w.heap.size w w3 from Below.grown (HG.out.alloc HG.out.size _) hgrow (by simp; omega) (fun k hk => by have := hb6 k hk; omega))
      have hne : ∀ k, k < w.heap.size + 2 → w3.heap[k]? = wr.heap[k]? := fun k hk => by
        rw [hgrow.block k (by simp; omega) (fun e => by have := hb6 k e.symm; omega), Below.heap_alloc _ _ _ (by omega)]
      have hz3 : w.heap.size + 2 ≤ w3.heap.size := by have := hgrow.size; simp at this; omega
      have K3 := hid (K.out (p + (n + 8)) w3 v6 (xs ++ [x]) O3.out G3.out hz3 (by rw [hne _ (by omega), HBX.out]) (by rw [hne _ (by omega), HAX.out]) (by simp; omega) (by omega) HS1'.out HS2'.out)
      have hsl2 := hid (slen_own hown2)
      clear hown2 hgrow hne ho1 ho2 hb6 HO3
      go_wp2_with fail
      refine K3.out.mono ?_
      rintro _ w4 ⟨v7, v8, rfl, hr⟩
      have HR := hid hr
      clear hr K3
      go_wp2_with fail
      go_roundw
      case rel => exact HR.out
      case measure =>
        have h1 := hsl.out
        have h2 := hsl2.out
        simp
        omega
    · rw [scanS_no h0] at HS1 HS2
      have HP := hid (show q = (scanS bs).2 from HS1.out)
      have HX := hid (show xs = (scanS bs).1 by rw [← HS2.out]; simp)
      have O := hid (show OwnB wr w.heap.size _ xs from ho.mono (by omega))
      have cax := one_of HAX.out
      clear h0 HS1 HS2 ho
      go_wp2_with fail
      go_quiet (fail)
      go_wp2_with fail
      all_goals go_ret2
      refine ⟨_, (show _ = Ending.returned (.tuple #[_, .int .i64 ((scanS bs).2 : Nat)]) from by rw [← HP.out]; rfl), ?_, quiet_below HG.out _⟩
      rw [← HX.out]
      exact O.out
end Go.Proofs.YtaipjbljmkickaaDoor
