/- code.Text, Read; the reader's Fail, Left, Err, called at any reader. Conditions: the bytes stand in memory, no longer than 2^38. -/
import Derived.Test.YtanjgobcfgmpfaaEnc
import Derived.Lib.AppendStr
namespace Go.Proofs.Ytanjgobcfgmpfaa
open Go Go.RowKit
theorem textP_any (A : Option Addr) (cap : Nat) (bs : List UInt8) (s : ByteArray) (w : World) (hb : Bts w A bs) (hlen : bs.length ≤ 274877906944) (hs : s.size ≤ 274877906944) :
    Calls Try.prog 14 #[.slice A bs.length cap, .string s] w fun e w' => ∃ v, e = .returned v ∧ Own w' w.heap.size v (bs ++ encU s.size ++ s.data.toList) ∧ Below w.heap.size w w' := by
  have K : Hid (Calls Try.prog 35 #[.slice A bs.length cap, .int .i64 (10 + (s.size : Int))] w fun e w' => ∃ v, e = .returned v ∧ Own w' w.heap.size v bs ∧ Below w.heap.size w w') := hid (fresh_any A cap (10 + s.size) bs w hb (by omega))
  have h1 : (s.size : Int) ≤ 274877906944 := by omega
  have h2 := encU_ten (n := s.size) (by omega)
  obtain ⟨i0, hi, hz0, hz1, hz2⟩ := info_parts Try.info5
  clear hb
  go_enter Try.func14, Try.ntmps14
  go_wp2_with fail
  refine K.out.mono ?_
  rintro _ w1 ⟨v, rfl, ho, hbb⟩
  have G1 := hid hbb
  have K2 := hid (put_any w.heap.size s.size v bs w1 (by omega) ho hbb.size (by omega))
  clear ho hbb K
  go_wp2_with fail
  refine K2.out.mono ?_
  rintro _ w2 ⟨v', rfl, ho, hbb⟩
  have hown : w2.ownsRow w.heap.size 5 1 v' (bs ++ encU s.size).length ((bs ++ encU s.size).map bv) := ho
  have hl : (bs ++ encU s.size).length ≤ 274877906954 := by simp; omega
  have G2 := hid (G1.out.trans hbb)
  clear ho hbb
  go_wp2_with (at_builtin; refine Lib.wpList_append_own_string _ rfl _ _ 22 9 rfl w.heap.size 5 i0 Try.underlying22 Try.underlying9 hi hz0 hz1 hz2 _ _ _ rfl hown s rfl ?c1 ?c2 ?c3 ?_)
  case c1 => unfold maxLen; omega
  case c2 => omega
  case c3 => exact G2.out.size
  · intro v3 w3 hown2 hgrow _
    have hb := own_base hown
    have G3 := hid (Below.grown G2.out hgrow G2.out.size hb)
    have O3 := hid (show Own w3 w.heap.size v3 (bs ++ encU s.size ++ s.data.toList) from by
      have e : (bs ++ encU s.size ++ s.data.toList).map bv = bs.map bv ++ ((encU s.size).map bv ++ Lib.strCells s) := by
        rw [List.map_append, List.map_append, List.append_assoc]
        rfl
      have e2 : (bs ++ encU s.size ++ s.data.toList).length = bs.length + (encU s.size).length + s.size := by simp; omega
      unfold Own
      rw [e, e2]
      first | exact hown2 | simpa using hown2)
    clear hown2 hgrow hown hb
    go_wp2_with fail
    all_goals go_returns
    all_goals exact ⟨_, rfl, O3.out, G3.out⟩
/-- A reader at block rb holds these bytes and this error. -/
def RS (w : World) (rb : Nat) (bs : List UInt8) (e : Int) : Prop := ∃ A cap, w.heap[rb]? = some (.cells #[.slice A bs.length cap, .int .i64 e] 61 (0, 0)) ∧ (bs.length ≤ cap ∧ Tag w A) ∧ Bts w A bs
theorem tag_below {w w' : World} {A : Option Addr} (h : Tag w A) (hb : Below w.heap.size w w') : Tag w' A := fun a ha => by
  obtain ⟨cs, hc⟩ := h a ha
  exact ⟨cs, keep0 hb hc⟩
theorem tag_grown {w w' : World} {A : Option Addr} {rb : Nat} {xs : Array Value} (hR : w.heap[rb]? = some (.cells xs 61 (0, 0))) (h : Tag w A) (hg : w.grownBy w' (some rb)) : Tag w' A := fun a ha => by
  obtain ⟨cs, hc⟩ := h a ha
  refine ⟨cs, ?_⟩
  rw [hg.block a.block (lt_of hc) (fun e => ?_)]
  · exact hc
  · rw [Option.some.inj e, hR] at hc
    simp at hc
theorem tag_off {w : World} {b o o' : Nat} (h : Tag w (some ⟨b, o, none⟩)) : Tag w (some ⟨b, o', none⟩) := fun a ha => by
  cases ha
  exact h ⟨b, o, none⟩ rfl
theorem grown_set (w : World) (b i : Nat) (v : Value) : w.grownBy (w.setCell ⟨b, i, none⟩ v) (some b) :=
  ⟨rfl, rfl, rfl, by simp, fun k _ hk => heap_setCell_other _ _ _ _ (fun e => hk (by rw [e]))⟩
theorem grown_trans {w1 w2 w3 : World} {r : Option Nat} (h1 : w1.grownBy w2 r) (h2 : w2.grownBy w3 r) : w1.grownBy w3 r :=
  ⟨h2.os.trans h1.os, h2.tape.trans h1.tape, h2.output.trans h1.output, Nat.le_trans h1.size h2.size, fun k hk hne => (h2.block k (Nat.lt_of_lt_of_le hk h1.size) hne).trans (h1.block k hk hne)⟩
theorem grown_below {w1 w2 : World} (h : Below w1.heap.size w1 w2) (r : Option Nat) : w1.grownBy w2 r := ⟨h.os, h.tape, h.output, h.size, fun k hk _ => h.block k hk⟩
theorem bts_grown {w w' : World} {A A' : Option Addr} {bs : List UInt8} {n cap rb : Nat} {e : Int} {T : TypeId} (hR : w.heap[rb]? = some (.cells #[.slice A' n cap, .int .i64 e] T (0, 0))) (h : Bts w A bs) (hg : w.grownBy w' (some rb)) : Bts w' A bs := by
  rcases h with rfl | ⟨b, off, rfl, hlt, hc⟩
  · exact .inl rfl
  · cases bs with
    | nil => exact .inl rfl
    | cons x l =>
      have hne : b ≠ rb := by
        rintro rfl
        have h0 := hc 0 x rfl
        rw [cell_of hR, Nat.add_zero] at h0
        match off, h0 with
        | 0, h0 => simp [bv] at h0
        | 1, h0 => simp [bv] at h0
        | off + 2, h0 => simp at h0
      refine .inr ⟨b, off, rfl, Nat.lt_of_lt_of_le hlt hg.size, fun j y hy => ?_⟩
      rw [World.cell?_of_block (w := w) (hg.block b hlt (fun e => hne (Option.some.inj e)))]
      exact hc j y hy
theorem two_rev {w2 : World} {B : Nat} {T : TypeId} {a0 a1 : Value} (v0 v1 : Value) (h : w2.heap[B]? = some (.cells #[a0, a1] T (0, 0))) :
    ((w2.setCell ⟨B, 1, none⟩ v1).setCell ⟨B, 0, none⟩ v0).heap[B]? = some (.cells #[v0, v1] T (0, 0)) := by
  have h0 := heap_setCell_same w2 B 1 _ T v1 h
  have h1 := heap_setCell_same _ B 0 _ T v0 h0
  simpa using h1
theorem read_any (A : Option Addr) (cap : Nat) (bs : List UInt8) (w : World) (hb : Bts w A bs) (hlen : bs.length ≤ 549755813888) :
    Calls Try.prog 18 #[.slice A bs.length cap] w fun e w' => ∃ rb, e = .returned (.pointer (some ⟨rb, 0, none⟩)) ∧ w.heap.size ≤ rb ∧ RS w' rb bs 0 ∧ Below w.heap.size w w' := by
  have K := hid (fresh_any A cap 0 bs w hb (by omega))
  clear hb
  go_enter Try.func18, Try.ntmps18
  go_wp2_with fail
  refine K.out.mono ?_
  rintro _ w1 ⟨v, rfl, ho, hbb⟩
  obtain ⟨A1, cap1, rfl, hb1, hc1, ht1⟩ := ho.is
  have G1 := hid hbb
  have B1 := hid hb1
  clear ho hb1 hbb K
  go_wp2_with fail
  all_goals go_returns
  all_goals exact ⟨w1.heap.size, rfl, G1.out.size, ⟨A1, cap1, heap_new w1 _, ⟨hc1, tag_below ht1 (by go_grown)⟩, B1.out.keep (by go_grown)⟩, G1.out.alloc G1.out.size _⟩
theorem left_any (rb : Nat) (bs : List UInt8) (e : Int) (w : World) (h : RS w rb bs e) : Calls Try.prog 30 #[.pointer (some ⟨rb, 0, none⟩)] w fun en w' => en = .returned (.int .i64 bs.length) ∧ w = w' := by
  obtain ⟨A, cap, hR, _, _⟩ := h
  obtain ⟨c0, c1⟩ := two hR
  clear hR
  go_enter Try.func30, Try.ntmps30
  go_wp2
  all_goals go_returns
  all_goals exact ⟨rfl, rfl⟩
theorem err_any (rb : Nat) (bs : List UInt8) (e : Int) (w : World) (h : RS w rb bs e) : Calls Try.prog 31 #[.pointer (some ⟨rb, 0, none⟩)] w fun en w' => en = .returned (.int .i64 e) ∧ w = w' := by
  obtain ⟨A, cap, hR, _, _⟩ := h
  obtain ⟨c0, c1⟩ := two hR
  clear hR
  go_enter Try.func31, Try.ntmps31
  go_wp2
  all_goals go_returns
  all_goals exact ⟨rfl, rfl⟩
theorem fail_ok (rb : Nat) (bs : List UInt8) (c : Int) (w : World) (h : RS w rb bs 0) (hc : c ≠ 0) : Calls Try.prog 28 #[.pointer (some ⟨rb, 0, none⟩), .int .i64 c] w fun en w' => en = .returned (.tuple #[]) ∧ RS w' rb [] c ∧ w.grownBy w' (some rb) := by
  obtain ⟨A, cap, hR, hcap, hb⟩ := h
  obtain ⟨c0, c1⟩ := two hR
  obtain ⟨f0, f1⟩ := twoF hR
  have HR := hid hR
  have n1 : (c == 0) = false := by simp [hc]
  clear hR hb hcap
  go_enter Try.func28, Try.ntmps28
  go_wp2_with fail
  all_goals go_returns
  all_goals exact ⟨rfl, ⟨none, 0, two_rev _ _ HR.out, ⟨Nat.le_refl _, fun a h => by cases h⟩, .inl rfl⟩, grown_trans (grown_set _ _ _ _) (grown_set _ _ _ _)⟩
theorem fail_not (rb : Nat) (bs : List UInt8) (e c : Int) (w : World) (h : RS w rb bs e) (hc : e ≠ 0 ∨ c = 0) : Calls Try.prog 28 #[.pointer (some ⟨rb, 0, none⟩), .int .i64 c] w fun en w' => en = .returned (.tuple #[]) ∧ w = w' := by
  obtain ⟨A, cap, hR, hcap, hb⟩ := h
  obtain ⟨c0, c1⟩ := two hR
  clear hR hb hcap
  rcases hc with hc | rfl
  · have n1 : (e != 0) = true := by simp [hc]
    go_enter Try.func28, Try.ntmps28
    go_wp2
    all_goals go_returns
    all_goals exact ⟨rfl, rfl⟩
  · go_enter Try.func28, Try.ntmps28
    go_wp2
    all_goals go_returns
    all_goals exact ⟨rfl, rfl⟩
end Go.Proofs.Ytanjgobcfgmpfaa
