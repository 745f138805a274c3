/- frame.Scan's closure at any place. Conditions: the bytes and the table stand in memory. -/
import Derived.Test.YtaipjbljmkickaaDoorNext
namespace Go.Proofs.YtaipjbljmkickaaDoor
open Go Go.RowKit
theorem slice_from (A : Option Addr) (L cap p : Nat) (hp : p ≤ L) : ∃ A' : Option Addr, (∀ w, (Instr.sliceAt 22 (.slice A L cap) (some (.int .i64 (p : Int))) none none).run Tryd.prog w = .ok (.slice A' (L - p) (cap - p)) w) ∧
    (∀ w bs, Bts w A bs → bs.length = L → L ≤ cap → Bts w A' (bs.drop p)) ∧ (∀ b o, A = some ⟨b, o, none⟩ → p < cap → A' = some ⟨b, o + p, none⟩) := by
  have hel : Tryd.prog.underlying 22 = some (.slice (Tryd.prog.elem 22)) := by kernel_rfl
  have hsz : ∀ w, (sizeOf (Tryd.prog.elem 22)).run Tryd.prog w = .ok 1 w := fun w => by kernel_rfl
  refine ⟨if cap = p then A else A.map (·.add (p * 1)), fun w => ?_, fun w bs hb hL hc => ?_, fun b o ha hp => ?_⟩
  · rw [run_sliceAt_slice (P := Tryd.prog) (w := w) 22 _ _ _ _ hel, run_slice_l (P := Tryd.prog) (w := w) 22 A L cap hel .i64 (p : Int) (by omega) (by omega), hsz]
    simp [Result.andThen, sliced]
  · split
    · left
      exact List.eq_nil_of_length_eq_zero (by rw [List.length_drop]; omega)
    · rcases hb with rfl | ⟨b, off, rfl, hlt, hcc⟩
      · left; simp
      · have e : (⟨b, off, none⟩ : Addr).add (p * 1) = ⟨b, off + p, none⟩ := by rw [Nat.mul_one]; exact add_off b off p
        rw [Option.map_some, e]
        exact bts_drop p (.inr ⟨b, off, rfl, hlt, hcc⟩)
  · rw [if_neg (by omega), ha, Option.map_some, Nat.mul_one, add_off]
theorem grown_set (w : World) (b i : Nat) (v : Value) : w.grownBy (w.setCell ⟨b, i, none⟩ v) (some b) :=
  ⟨rfl, rfl, rfl, by simp, fun k _ hk => heap_setCell_other _ _ _ _ (fun e => hk (by rw [e]))⟩
theorem grown_trans {w1 w2 w3 : World} {r : Option Nat} (h1 : w1.grownBy w2 r) (h2 : w2.grownBy w3 r) : w1.grownBy w3 r :=
  ⟨h2.os.trans h1.os, h2.tape.trans h1.tape, h2.output.trans h1.output, Nat.le_trans h1.size h2.size, fun k hk hne => (h2.block k (Nat.lt_of_lt_of_le hk h1.size) hne).trans (h1.block k hk hne)⟩
theorem grown_below {w1 w2 : World} (h : Below w1.heap.size w1 w2) (r : Option Nat) : w1.grownBy w2 r := ⟨h.os, h.tape, h.output, h.size, fun k hk _ => h.block k hk⟩
theorem one_of {w : World} {B : Nat} {v : Value} {T : TypeId} {f : Nat × Nat} (h : w.heap[B]? = some (.cells #[v] T f)) : w.cell? ⟨B, 0, none⟩ = some v := by rw [cell_of h 0]; rfl
theorem one_set {w : World} {B : Nat} {v u : Value} {T : TypeId} (h : w.heap[B]? = some (.cells #[v] T (0, 0))) : (w.setCell ⟨B, 0, none⟩ u).heap[B]? = some (.cells #[u] T (0, 0)) := by
  have := heap_setCell_same w B 0 _ T u h
  simpa using this
theorem clone_nil (w : World) : Calls Tryd.prog 22 #[.slice none 0 0] w fun e w' => e = .returned (.slice none 0 0) ∧ w = w' := by
  have hq := Lib.run_eql_slice_nil (P := Tryd.prog) w 22 5 none 0 0 0 0 Tryd.underlying22
  go_enter Tryd.func22, Tryd.ntmps22
  go_wp2_with fail
  all_goals go_returns
  exact ⟨rfl, rfl⟩
set_option maxHeartbeats 1000000 in
theorem clos_no (bx ax p cap : Nat) (A : Option Addr) (bs : List UInt8) (w : World) (hb : Bts w A bs) (hcap : bs.length ≤ cap) (hT : Tab w) (hlen : bs.length ≤ 1099511627776)
    (hbx : w.heap[bx]? = some (.cells #[.slice A bs.length cap] 22 (0, 0))) (hax : w.heap[ax]? = some (.cells #[.int .i64 (p : Int)] 3 (0, 0))) (hp : p ≤ bs.length) (h0 : (nextS (bs.drop p)).1 ≠ 0) :
    Calls Tryd.prog 24 #[.pointer (some ⟨bx, 0, none⟩), .pointer (some ⟨ax, 0, none⟩)] w fun e w' => e = .returned (.tuple #[.slice none 0 0, .bool false]) ∧ w.grownBy w' (some ax) ∧ w'.heap[ax]? = some (.cells #[.int .i64 (p : Int)] 3 (0, 0)) := by
  obtain ⟨A', hsl, hbts, -⟩ := slice_from A bs.length cap p hp
  have K := hid (fun k => first_no A' (cap - p) _ (bs.drop p) (w.drewN k) (hbts _ bs hb rfl hcap) (by simp; omega) hT (by simp; omega) rfl h0)
  rw [List.length_drop] at K
  have c0 := one_of hbx
  have c1 := one_of hax
  have f1 := free_of hax 0
  have HAX := hid hax
  have z0 : (p : Int) ≤ (bs.length : Int) := by omega
  have z1 : (bs.length : Int) ≤ 1099511627776 := by omega
  generalize (nextS (bs.drop p)).1 = E at *
  have z : ((E : Int) == 0) = false := by simpa using h0
  clear hb hT hbx hax hbts h0
  go_enter Tryd.func24, Tryd.ntmps24
  go_wp2_with fail
  refine (K.out 0).mono ?_
  rintro _ w1 ⟨rfl, k1, rfl⟩
  have c1' : ((w.drewN 0).drewN k1).cell? ⟨ax, 0, none⟩ = some (.int .i64 (p : Int)) := c1
  have f1' : ((w.drewN 0).drewN k1).frozen? ⟨ax, 0, none⟩ = false := f1
  go_wp2_with fail
  refine (clone_nil _).mono ?_
  rintro _ w2 ⟨rfl, rfl⟩
  have g := hid (grown_trans (grown_trans (grown_below (quiet_below (Below.refl _ w) k1) (some ax)) (grown_set _ ax 0 (.int .i64 (p : Int)))) (grown_below (Below.refl _ _) (some ax)))
  have hfin := hid (one_set (u := .int .i64 (p : Int)) (w := w.drewN k1) HAX.out)
  go_wp2_with fail
  all_goals go_ret2
  exact ⟨rfl, g.out, hfin.out⟩
set_option maxHeartbeats 1000000 in
theorem clos_yes (bx ax p cap n : Nat) (A : Option Addr) (bs : List UInt8) (w : World) (hb : Bts w A bs) (hcap : bs.length ≤ cap) (hT : Tab w) (hlen : bs.length ≤ 1099511627776) (htag : ∀ b o, A = some ⟨b, o, none⟩ → b ≠ ax)
    (hbx : w.heap[bx]? = some (.cells #[.slice A bs.length cap] 22 (0, 0))) (hax : w.heap[ax]? = some (.cells #[.int .i64 (p : Int)] 3 (0, 0))) (hp : p ≤ bs.length) (hn : nextS (bs.drop p) = (0, n)) :
    Calls Tryd.prog 24 #[.pointer (some ⟨bx, 0, none⟩), .pointer (some ⟨ax, 0, none⟩)] w fun e w' => ∃ v, e = .returned (.tuple #[v, .bool true]) ∧ Own w' w.heap.size v (bodyS (bs.drop p) n) ∧ w.grownBy w' (some ax) ∧ w'.heap[ax]? = some (.cells #[.int .i64 ((p + (n + 8) : Nat) : Int)] 3 (0, 0)) := by
  obtain ⟨A', hsl, hbts, hA'⟩ := slice_from A bs.length cap p hp
  have hy := nextS_yes hn
  rw [List.length_drop] at hy
  have hb' := hbts _ bs hb rfl hcap
  obtain ⟨b, o0, rfl⟩ := sl_some hb (by omega)
  obtain rfl := hA' b o0 rfl (by omega)
  obtain ⟨o, ho⟩ : ∃ o, o = o0 + p := ⟨_, rfl⟩
  rw [← ho] at hb' hsl
  clear ho
  have hne := htag _ _ rfl
  have K := hid (first_yes b o (cap - p) n (bs.drop p) w hb' (by rw [List.length_drop]; omega) hT (by rw [List.length_drop]; omega) hn)
  rw [List.length_drop] at K
  have KC : Hid (∀ w', w.grownBy w' (some ax) → Calls Tryd.prog 22 #[.slice (some ⟨b, o + 4, none⟩) n (cap - p - 4)] w' fun e w'' => ∃ v, e = .returned v ∧ Own w'' w'.heap.size v (bodyS (bs.drop p) n) ∧ Below w'.heap.size w' w'') := hid fun w' h => by
    have h1 : Bts w' (some ⟨b, o, none⟩) (bs.drop p) := by
      rcases hb' with e | ⟨b3, o3, e, hlt, hc⟩
      · exact .inl e
      · obtain ⟨rfl, rfl⟩ : b = b3 ∧ o = o3 := by simpa using e
        refine .inr ⟨b, o, rfl, Nat.lt_of_lt_of_le hlt h.size, fun j x hx => ?_⟩
        rw [World.cell?_of_block (w := w) (h.block b hlt (fun e => hne (Option.some.inj e)))]
        exact hc j x hx
    have k := clone_any (some ⟨b, o + 4, none⟩) (cap - p - 4) (bodyS (bs.drop p) n) w' (bts_take n (bts_drop 4 h1)) (by simp [bodyS]; omega)
    rw [show (bodyS (bs.drop p) n).length = n by simp [bodyS]; omega] at k
    exact k
  have c0 := one_of hbx
  have c1 := one_of hax
  have f1 := free_of hax 0
  have HAX := hid hax
  have z0 : (p : Int) ≤ (bs.length : Int) := by omega
  have z1 : (bs.length : Int) ≤ 1099511627776 := by omega
  have z2 : (n : Int) ≤ 65536 := by omega
  obtain ⟨R, hR⟩ : ∃ R, R = bodyS (bs.drop p) n := ⟨_, rfl⟩
  rw [← hR] at KC ⊢
  clear hb hT hbx hax hbts hb' hA' hn hy htag hR
  go_enter Tryd.func24, Tryd.ntmps24
  go_wp2_with fail
  refine K.out.mono ?_
  rintro _ w1 ⟨rfl, k1, hw1⟩
  have c1' : w1.cell? ⟨ax, 0, none⟩ = some (.int .i64 (p : Int)) := by rw [hw1]; exact c1
  have f1' : w1.frozen? ⟨ax, 0, none⟩ = false := by rw [hw1]; exact f1
  have HA1 := hid (show w1.heap[ax]? = some (.cells #[.int .i64 (p : Int)] 3 (0, 0)) by rw [hw1]; exact HAX.out)
  have G1 := hid (show w.grownBy w1 (some ax) by rw [hw1]; exact grown_below (quiet_below (Below.refl _ w) k1) (some ax))
  clear hw1 K c0 c1 f1
  go_wp2_with fail
  have G2 := hid (grown_trans G1.out (grown_set w1 ax 0 (.int .i64 ((p : Int) + ((n : Int) + 8)))))
  have HA2 := hid (one_set (u := .int .i64 ((p : Int) + ((n : Int) + 8))) HA1.out)
  refine (KC.out _ G2.out).mono ?_
  rintro _ w2 ⟨v, rfl, ho, hbb⟩
  have HA3 := hid (keep0 hbb HA2.out)
  have G3 := hid (grown_trans G2.out (grown_below hbb (some ax)))
  have O3 := hid (show Own w2 w.heap.size v R from ho.mono G2.out.size)
  clear ho hbb
  go_wp2_with fail
  all_goals go_ret2
  exact ⟨_, rfl, O3.out, G3.out, by rw [HA3.out]; simp⟩
end Go.Proofs.YtaipjbljmkickaaDoor
