/- The disk's writing: what gets to the disk, or why nothing does. Condition: the disk stands in memory. -/
import Derived.Test.YtbpgeghenninnaaDoorFresh
namespace Go.Proofs.YtbpgeghenninnaaDoor
open Go Go.RowKit
/-- How a writing ends. -/
def wrE (d : Dsk) (ep used : Int) (atEnd : Bool) (n : Nat) : Int := if ep ≠ d.e then 150 else if atEnd = false then 151 else if d.room - used < (n : Int) then 153 else if d.armed = true then 152 else 0
/-- How many bytes get there. -/
def cutN (cut : Int) (n : Nat) : Nat := (min (max cut 0) (n : Int)).toNat
def wrB (d : Dsk) (ep used : Int) (atEnd : Bool) (bs : List UInt8) : List UInt8 := if wrE d ep used atEnd bs.length = 0 then bs else if wrE d ep used atEnd bs.length = 152 then bs.take (cutN d.cut bs.length) else []
def wrD (d : Dsk) (ep used : Int) (atEnd : Bool) (n : Nat) : Dsk := if wrE d ep used atEnd n = 152 then { d with armed := false } else d
theorem cutN_le (cut : Int) (n : Nat) : cutN cut n ≤ n := by unfold cutN; omega
theorem Bts.take {w : World} {A : Option Addr} {bs : List UInt8} (h : Bts w A bs) (k : Nat) : Bts w A (bs.take k) := by
  rcases h with rfl | ⟨b, off, rfl, hlt, hc⟩
  · exact .inl (by simp)
  · refine .inr ⟨b, off, rfl, hlt, fun j x hx => hc j x ?_⟩
    rw [List.getElem?_take] at hx
    split at hx
    · exact hx
    · cases hx
theorem Bts.setD {w : World} {db : Nat} {A : Option Addr} {bs : List UInt8} (h : Bts w A bs) (hn : bs = [] ∨ ∀ a, A = some a → a.block ≠ db) (i : Nat) (v : Value) : Bts (w.setCell ⟨db, i, none⟩ v) A bs := by
  rcases h with rfl | ⟨b, off, rfl, hlt, hc⟩
  · exact .inl rfl
  · rcases hn with rfl | hn
    · exact .inl rfl
    refine .inr ⟨b, off, rfl, by simpa using hlt, fun j x hx => ?_⟩
    have := hn _ rfl
    simp only at this
    rw [show (w.setCell ⟨db, i, none⟩ v).cell? ⟨b, off + j, none⟩ = w.cell? ⟨b, off + j, none⟩ from by unfold World.cell?; rw [heap_setCell_other _ _ _ _ this]]
    exact hc j x hx
def NilOk (A : Option Addr) (cap : Nat) (bs : List UInt8) : Prop := A = none → cap = 0 ∧ bs = []
theorem NilOk.nil : NilOk none 0 [] := fun _ => ⟨rfl, rfl⟩
theorem NilOk.take {A : Option Addr} {cap : Nat} {bs : List UInt8} (h : NilOk A cap bs) (k : Nat) : NilOk A cap (bs.take k) := fun e => ⟨(h e).1, by rw [(h e).2]; simp⟩
theorem Bts.ne {w : World} {A : Option Addr} {bs : List UInt8} (h : Bts w A bs) {db : Nat} (hdb : w.heap.size ≤ db) : bs = [] ∨ ∀ a, A = some a → a.block ≠ db := by
  rcases h with rfl | ⟨b, off, rfl, hlt, hc⟩
  · exact .inl rfl
  · refine .inr fun a e => ?_
    cases e
    simp only
    omega
theorem wrE_150 {d : Dsk} {ep used : Int} {atEnd : Bool} {n : Nat} (h : ep ≠ d.e) : wrE d ep used atEnd n = 150 := if_pos h
theorem wrE_151 {d : Dsk} {ep used : Int} {n : Nat} (h : ep = d.e) : wrE d ep used false n = 151 := by unfold wrE; rw [if_neg (by simp [h]), if_pos rfl]
theorem wrE_153 {d : Dsk} {ep used : Int} {n : Nat} (h : ep = d.e) (h2 : d.room - used < (n : Int)) : wrE d ep used true n = 153 := by unfold wrE; rw [if_neg (by simp [h]), if_neg (by simp), if_pos h2]
theorem wrE_152 {d : Dsk} {ep used : Int} {n : Nat} (h : ep = d.e) (h2 : ¬ d.room - used < (n : Int)) (h3 : d.armed = true) : wrE d ep used true n = 152 := by unfold wrE; rw [if_neg (by simp [h]), if_neg (by simp), if_neg h2, if_pos h3]
theorem wrE_0 {d : Dsk} {ep used : Int} {n : Nat} (h : ep = d.e) (h2 : ¬ d.room - used < (n : Int)) (h3 : d.armed = false) : wrE d ep used true n = 0 := by unfold wrE; rw [if_neg (by simp [h]), if_neg (by simp), if_neg h2, if_neg (by simp [h3])]
theorem wr_no {d : Dsk} {ep used : Int} {atEnd : Bool} {bs : List UInt8} {c : Int} (h : wrE d ep used atEnd bs.length = c) (h0 : c ≠ 0) (h1 : c ≠ 152) : wrB d ep used atEnd bs = [] ∧ wrD d ep used atEnd bs.length = d := by
  unfold wrB wrD
  rw [h, if_neg h0, if_neg h1, if_neg h1]
  exact ⟨rfl, rfl⟩
theorem wr_cut {d : Dsk} {ep used : Int} {atEnd : Bool} {bs : List UInt8} (h : wrE d ep used atEnd bs.length = 152) : wrB d ep used atEnd bs = bs.take (cutN d.cut bs.length) ∧ wrD d ep used atEnd bs.length = { d with armed := false } := by
  unfold wrB wrD
  rw [h]
  exact ⟨rfl, rfl⟩
theorem wr_ok {d : Dsk} {ep used : Int} {atEnd : Bool} {bs : List UInt8} (h : wrE d ep used atEnd bs.length = 0) : wrB d ep used atEnd bs = bs ∧ wrD d ep used atEnd bs.length = d := by
  unfold wrB wrD
  rw [h]
  exact ⟨rfl, rfl⟩
set_option maxHeartbeats 1000000 in
theorem clos_any (B db pb qb : Nat) (d : Dsk) (ep used : Int) (atEnd : Bool) (A : Option Addr) (cap : Nat) (bs : List UInt8) (w : World) (h : DK w B db d) (hB : B ≤ db)
    (hp : w.heap[pb]? = some (.cells #[.pointer (some ⟨db, 0, none⟩)] 24 (0, 0))) (hq : w.heap[qb]? = some (.cells #[.int .i64 ep] 3 (0, 0))) (hb : Bts w A bs) (hcap : bs.length ≤ cap) (hn : NilOk A cap bs) (hne : bs = [] ∨ ∀ a, A = some a → a.block ≠ db) (hlen : bs.length ≤ 1099511627776) (hu0 : 0 ≤ used) (hu1 : used ≤ 1048576) :
    Calls Tryd.prog 35 #[.int .i64 used, .bool atEnd, .slice A bs.length cap, .pointer (some ⟨pb, 0, none⟩), .pointer (some ⟨qb, 0, none⟩)] w fun e w' => ∃ A' cap', e = .returned (.tuple #[.slice A' (wrB d ep used atEnd bs).length cap', .int .i64 (wrE d ep used atEnd bs.length)]) ∧ Bts w' A' (wrB d ep used atEnd bs) ∧
      NilOk A' cap' (wrB d ep used atEnd bs) ∧ DK w' B db (wrD d ep used atEnd bs.length) ∧ Fr B db w w' := by
  have HD := hid h
  obtain ⟨lv, sv, tv, h⟩ := h
  obtain ⟨c0, c1, c2, c3, c4, c5, c6, c7, c8⟩ := h.cells
  have f7 := free_of h.h 7
  have hr0 := h.g.r0
  have hr1 := h.g.r1
  have p0 : w.cell? ⟨pb, 0, none⟩ = some (.pointer (some ⟨db, 0, none⟩)) := by rw [cell_of hp]; rfl
  have q0 : w.cell? ⟨qb, 0, none⟩ = some (.int .i64 ep) := by rw [cell_of hq]; rfl
  have KF := hid (fenced_any B db d ep w HD.out)
  have hlt := lt_of h.h
  have G0 := hid (Fr.of (Below.refl _ w) (by omega) : Fr B db w w)
  have HB := hid hb
  have HN := hid hn
  clear hn
  have hl63 : (bs.length : Int) ≤ 1099511627776 := by omega
  clear hp hq hb c1 c2 c3 c4 c5 c6
  by_cases he : ep = d.e
  · rw [if_pos he] at KF
    have he' := hid he
    cases atEnd with
    | false =>
      obtain ⟨e1, e2⟩ := wr_no (bs := bs) (wrE_151 (used := used) he) (by decide) (by decide)
      rw [e1, e2, wrE_151 he]
      clear e1 e2
      clear h c0 c7 c8 f7 he hne
      go_enter Tryd.func35, Tryd.ntmps35
      go_wp2_with (go_at_call 32; refine KF.out.mono ?_; rintro _ w1 ⟨rfl, rfl⟩)
      all_goals go_ret2
      all_goals exact ⟨none, 0, rfl, Bts.nil _ _, NilOk.nil, HD.out, G0.out⟩
    | true =>
      by_cases hr : d.room - used < (bs.length : Int)
      · obtain ⟨e1, e2⟩ := wr_no (bs := bs) (wrE_153 he hr) (by decide) (by decide)
        rw [e1, e2, wrE_153 he hr]
        clear e1 e2
        clear h c7 c8 f7 he hne
        generalize d.room = room at *
        go_enter Tryd.func35, Tryd.ntmps35
        go_wp2_with (go_at_call 32; refine KF.out.mono ?_; rintro _ w1 ⟨rfl, rfl⟩)
        all_goals go_ret2
        all_goals exact ⟨none, 0, rfl, Bts.nil _ _, NilOk.nil, HD.out, G0.out⟩
      · by_cases ha : d.armed = true
        · obtain ⟨e1, e2⟩ := wr_cut (bs := bs) (wrE_152 (used := used) he hr ha)
          rw [e1, e2, wrE_152 he hr ha]
          clear e1 e2
          have H2 := hid (h.setE (d' := { d with armed := false }) 7 (.bool false) rfl rfl rfl rfl rfl).dk
          have G2 := hid (G0.out.set hB 7 (.bool false))
          have HB2 := hid (HB.out.setD hne 7 (.bool false))
          rw [ha] at c7
          have hk := cutN_le d.cut bs.length
          have hkd : cutN d.cut bs.length = (min (max d.cut 0) (bs.length : Int)).toNat := rfl
          generalize d.room = room at *
          generalize d.cut = cut at *
          generalize cutN cut bs.length = k at *
          have HNE := hid hne
          clear h he ha hne
          rcases Nat.lt_or_ge 0 bs.length with hpos | hz
          · obtain ⟨b, off, rfl⟩ : ∃ b off, A = some ⟨b, off, none⟩ := by
              rcases HB.out with rfl | ⟨b, off, h1, _⟩
              · simp at hpos
              · exact ⟨b, off, h1⟩
            have HK := hid hkd
            have HE := hid (show (bs.take k).length = k by rw [List.length_take]; omega)
            clear hkd
            by_cases hc0 : cut < 0
            · obtain rfl : k = 0 := by rw [HK.out]; omega
              go_enter Tryd.func35, Tryd.ntmps35
              go_wp2_with (go_at_call 32; refine KF.out.mono ?_; rintro _ w1 ⟨rfl, rfl⟩)
              all_goals go_ret2
              all_goals exact ⟨_, cap, by rw [HE.out]; first | rfl | simp, HB2.out.take _, HN.out.take _, H2.out, G2.out⟩
            · obtain ⟨c, rfl⟩ := Int.eq_ofNat_of_zero_le (show 0 ≤ cut by omega)
              by_cases hc1 : c ≤ bs.length
              · obtain rfl : k = c := by rw [HK.out]; omega
                go_enter Tryd.func35, Tryd.ntmps35
                go_wp2_with (go_at_call 32; refine KF.out.mono ?_; rintro _ w1 ⟨rfl, rfl⟩)
                all_goals go_ret2
                all_goals exact ⟨_, cap, by rw [HE.out]; first | rfl | simp, HB2.out.take _, HN.out.take _, H2.out, G2.out⟩
              · obtain rfl : k = bs.length := by rw [HK.out]; omega
                have hc2 : (bs.length : Int) < (c : Int) := by omega
                go_enter Tryd.func35, Tryd.ntmps35
                go_wp2_with (go_at_call 32; refine KF.out.mono ?_; rintro _ w1 ⟨rfl, rfl⟩)
                all_goals go_ret2
                all_goals exact ⟨_, cap, by rw [HE.out]; first | rfl | simp, HB2.out.take _, HN.out.take _, H2.out, G2.out⟩
          · obtain rfl : bs = [] := List.eq_nil_of_length_eq_zero (by omega)
            obtain rfl : k = 0 := by simp at hk; exact hk
            have HE := hid (show (([] : List UInt8).take 0).length = 0 by rfl)
            clear hkd
            by_cases hc0 : cut < 0
            · cases A with
              | none =>
                obtain ⟨rfl, _⟩ := HN.out rfl
                go_enter Tryd.func35, Tryd.ntmps35
                go_wp2_with (go_at_call 32; refine KF.out.mono ?_; rintro _ w1 ⟨rfl, rfl⟩)
                all_goals go_ret2
                all_goals exact ⟨_, _, by first | rfl | (simp; done) | (simp; omega), .inl rfl, HN.out, H2.out, G2.out⟩
              | some a =>
                go_enter Tryd.func35, Tryd.ntmps35
                go_wp2_with (go_at_call 32; refine KF.out.mono ?_; rintro _ w1 ⟨rfl, rfl⟩)
                all_goals go_ret2
                all_goals exact ⟨_, _, by first | rfl | (simp; done) | (simp; omega), .inl rfl, HN.out, H2.out, G2.out⟩
            · cases A with
              | none =>
                obtain ⟨rfl, _⟩ := HN.out rfl
                go_enter Tryd.func35, Tryd.ntmps35
                go_wp2_with (go_at_call 32; refine KF.out.mono ?_; rintro _ w1 ⟨rfl, rfl⟩)
                all_goals go_ret2
                all_goals exact ⟨_, _, by first | rfl | (simp; done) | (simp; omega), .inl rfl, HN.out, H2.out, G2.out⟩
              | some a =>
                go_enter Tryd.func35, Tryd.ntmps35
                go_wp2_with (go_at_call 32; refine KF.out.mono ?_; rintro _ w1 ⟨rfl, rfl⟩)
                all_goals go_ret2
                all_goals exact ⟨_, _, by first | rfl | (simp; done) | (simp; omega), .inl rfl, HN.out, H2.out, G2.out⟩
        · have ha' : d.armed = false := by simpa using ha
          obtain ⟨e1, e2⟩ := wr_ok (bs := bs) (wrE_0 (used := used) he hr ha')
          rw [e1, e2, wrE_0 he hr ha']
          clear e1 e2
          rw [ha'] at c7
          clear h c8 f7 he ha ha' hne
          generalize d.room = room at *
          go_enter Tryd.func35, Tryd.ntmps35
          go_wp2_with (go_at_call 32; refine KF.out.mono ?_; rintro _ w1 ⟨rfl, rfl⟩)
          all_goals go_ret2
          all_goals exact ⟨A, cap, rfl, HB.out, HN.out, HD.out, G0.out⟩
  · rw [if_neg he] at KF
    obtain ⟨e1, e2⟩ := wr_no (bs := bs) (wrE_150 (used := used) (atEnd := atEnd) (n := bs.length) he) (by decide) (by decide)
    rw [e1, e2, wrE_150 he]
    clear e1 e2
    clear h c0 c7 c8 f7 hne
    go_enter Tryd.func35, Tryd.ntmps35
    go_wp2_with (go_at_call 32; refine KF.out.mono ?_; rintro _ w1 ⟨rfl, rfl⟩)
    all_goals go_ret2
    all_goals exact ⟨none, 0, rfl, Bts.nil _ _, NilOk.nil, HD.out, G0.out⟩
end Go.Proofs.YtbpgeghenninnaaDoor
