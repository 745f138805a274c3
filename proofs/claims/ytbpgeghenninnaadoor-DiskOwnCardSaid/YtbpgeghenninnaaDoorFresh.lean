/- disk.fresh, Log, Snap: what they tell reads as it was, in new memory. Condition: the disk stands in memory. -/
import Derived.Test.YtbpgeghenninnaaDoorDisk
namespace Go.Proofs.YtbpgeghenninnaaDoor
open Go Go.RowKit
theorem add_off (b off j : Nat) : (⟨b, off, none⟩ : Addr).add j = ⟨b, off + j, none⟩ := by
  unfold Addr.add
  split <;> simp_all
theorem fresh_any (A : Option Addr) (cap : Nat) (bs : List UInt8) (w : World) (hb : Bts w A bs) (hlen : bs.length ≤ 1099511627776) :
    Calls Tryd.prog 30 #[.slice A bs.length cap] w fun e w' => ∃ v, e = .returned v ∧ Own w' w.heap.size v bs ∧ Below w.heap.size w w' := by
  have hmk := make_bytes bs.length bs.length (by omega) (by omega)
  have hlen' : (bs.length : Int) ≤ 1099511627776 := by omega
  have hcur : (w.alloc (.cells (madeCells #[.int .u8 0] bs.length) 5)).heap[w.heap.size]? = some (.cells (madeCells #[.int .u8 0] bs.length).toList.toArray 5 (0, 0)) := by simpa using heap_new w (.cells (madeCells #[.int .u8 0] bs.length) 5)
  have hb1 := hb.keep (show Below w.heap.size w (w.alloc (.cells (madeCells #[.int .u8 0] bs.length) 5)) from by go_grown)
  have g1 := hid (show Below w.heap.size w (w.alloc (.cells (madeCells #[.int .u8 0] bs.length) 5)) from by go_grown)
  have hsz : ((Tryd.prog.info? 5).map (·.size)) = some 1 := by kernel_rfl
  have HB1 := hid hb1
  clear hb hb1
  go_enter Tryd.func30, Tryd.ntmps30
  go_wp2_with (with_reducible refine wpList_copy_splice rfl (.tmp 7) (.tmp 8) 32 32 rfl 5 Tryd.underlying32 hsz (some ⟨w.heap.size, 0, none⟩) A bs.length bs.length bs.length cap rfl rfl w.heap.size 0 (madeCells #[.int .u8 0] bs.length).toList 5 hcur (bs.map bv) ?c1 ?c2 ?c3 ?c4 w.heap.size w g1.out (Nat.le_refl _) ?_)
  case c1 =>
    show (bs.map bv).length = min bs.length bs.length
    simp
  case c2 =>
    intro h0
    rcases HB1.out with rfl | ⟨b, off, rfl, _, hc⟩
    · simp at h0
    · refine ⟨⟨b, off, none⟩, rfl, fun j a hj => ?_⟩
      rw [add_off]
      exact hc j a hj
  case c3 => simp [size_madeCells]
  case c4 =>
    intro u hu
    first
      | (obtain ⟨x, _, rfl⟩ := List.mem_map.1 hu; rfl)
      | rfl
  · intro w' hh hbel
    have hO : Own w' w.heap.size (.slice (some ⟨w.heap.size, 0, none⟩) bs.length bs.length) bs := by
      refine ⟨by simp, .inr ⟨w.heap.size, bs.length, _, rfl, Nat.le_refl _, hh.out, by omega, by unfold maxLen; omega, ?_, ?_⟩⟩
      · simp [splice, size_madeCells]
      · simp [splice]
    have HO := hid hO
    have HG := hid hbel
    clear hO hh hbel
    go_wp2
    all_goals go_returns
    all_goals exact ⟨_, rfl, HO.out, HG.out⟩
theorem Own.bts {w : World} {B : Nat} {A : Option Addr} {n cap : Nat} {bs : List UInt8} (h : Own w B (.slice A n cap) bs) : Bts w A bs := by
  obtain ⟨A', cap', e, h2, _⟩ := h.is
  cases e
  exact h2
theorem log_any (B db : Nat) (d : Dsk) (w : World) (h : DK w B db d) : Calls Tryd.prog 12 #[.pointer (some ⟨db, 0, none⟩)] w fun e w' => ∃ v, e = .returned v ∧ Own w' w.heap.size v d.log ∧ Below w.heap.size w w' := by
  obtain ⟨lv, sv, tv, h⟩ := h
  have K := hid (bytes_any B db d lv sv tv w h)
  obtain ⟨lA, lc, rfl⟩ := h.l.slice
  obtain ⟨sA, sc, rfl⟩ := h.s.slice
  obtain ⟨tA, tc, rfl⟩ := h.t.slice
  have hb := h.l.bts
  have KF := hid (fun w1 (hg : Below w.heap.size w w1) => fresh_any lA lc d.log w1 (hb.keep hg) (by have := h.g.l; omega))
  simp only [Dsk.cells] at K
  have hF := @fieldLog
  clear h hb
  go_enter Tryd.func12, Tryd.ntmps12
  go_wp2_with fail
  refine K.out.mono ?_
  rintro _ w1 ⟨rfl, hb⟩
  have g := hid hb
  clear hb
  go_wp2_with fail
  refine (KF.out _ g.out).mono ?_
  rintro _ w2 ⟨v, rfl, ho, hb⟩
  have HO := hid (ho.mono g.out.size)
  have g2 := hid (below_step g.out g.out.size hb)
  clear ho hb
  go_wp2_with fail
  all_goals go_returns
  all_goals exact ⟨_, rfl, HO.out, g2.out⟩
theorem snap_any (B db : Nat) (d : Dsk) (w : World) (h : DK w B db d) : Calls Tryd.prog 13 #[.pointer (some ⟨db, 0, none⟩)] w fun e w' => ∃ v, e = .returned v ∧ Own w' w.heap.size v d.snap ∧ Below w.heap.size w w' := by
  obtain ⟨lv, sv, tv, h⟩ := h
  have K := hid (bytes_any B db d lv sv tv w h)
  obtain ⟨lA, lc, rfl⟩ := h.l.slice
  obtain ⟨sA, sc, rfl⟩ := h.s.slice
  obtain ⟨tA, tc, rfl⟩ := h.t.slice
  have hb := h.s.bts
  have KF := hid (fun w1 (hg : Below w.heap.size w w1) => fresh_any sA sc d.snap w1 (hb.keep hg) (by have := h.g.s; omega))
  simp only [Dsk.cells] at K
  have hF := @fieldSnap
  clear h hb
  go_enter Tryd.func13, Tryd.ntmps13
  go_wp2_with fail
  refine K.out.mono ?_
  rintro _ w1 ⟨rfl, hb⟩
  have g := hid hb
  clear hb
  go_wp2_with fail
  refine (KF.out _ g.out).mono ?_
  rintro _ w2 ⟨v, rfl, ho, hb⟩
  have HO := hid (ho.mono g.out.size)
  have g2 := hid (below_step g.out g.out.size hb)
  clear ho hb
  go_wp2_with fail
  all_goals go_returns
  all_goals exact ⟨_, rfl, HO.out, g2.out⟩
end Go.Proofs.YtbpgeghenninnaaDoor
