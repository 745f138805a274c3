/- The disk's Append, Swap at any disk. Condition: the disk stands in memory. -/
import Derived.Test.YtbpgeghenninnaaDoorWrite
import Derived.ArgAppend
import Derived.Deep.DeepAppendRoom
import Derived.Laws.AppendOwnNone
namespace Go.Proofs.YtbpgeghenninnaaDoor
open Go Go.RowKit
/-- Bytes appended to bytes of the call's own: the array stays, or is new. -/
theorem wpList_append_bytes {w : World} {ops : Array Oper} {rest : List Oper} {o : Oper} {a : Act} {Q : Exit → Act → World → Prop} (hgd : o.guard = none) (s x : Operand)
    (ho : o.op = .call { callee := .builtin .append, args := #[s, x], argTypes := #[32, 32] }) (base : Nat) (v : Value) (bs : List UInt8) (hs : a.eval s = v) (hown : Own w base v bs)
    (A : Option Addr) (cap : Nat) (xs : List UInt8) (hx : a.eval x = .slice A xs.length cap) (hb : Bts w A xs) (hn : NilOk A cap xs) (hlen : bs.length + xs.length ≤ 140737488355328) (hbase : base ≤ w.heap.size)
    (h : ∀ v' w', Own w' base v' (bs ++ xs) → w.grownBy w' v.ownBlock → (v'.ownBlock = v.ownBlock ∨ ∀ k, v'.ownBlock = some k → w.heap.size ≤ k) → wpList Tryd.prog ops Q rest (a.put o.dst v') w') : wpList Tryd.prog ops Q (o :: rest) a w := by
  obtain ⟨i0, hi, hz0, hz1, hz2⟩ := info_parts Tryd.info5
  cases A with
  | none =>
    obtain ⟨rfl, rfl⟩ := hn rfl
    refine wpList_append_own_none hgd s x 32 ho base 5 i0 1 Tryd.underlying32 hi v bs.length (bs.map bv) hs hown hx ?_
    exact h v w (by simpa using hown) ⟨rfl, rfl, rfl, Nat.le_refl _, fun _ _ _ => rfl⟩ (.inl rfl)
  | some ad =>
    have hnews : ∀ (j : Nat) u, (xs.map bv)[j]? = some u → w.cell? (ad.add j) = some u := by
      intro j u hj
      rcases hb with rfl | ⟨b, off, e, _, hc⟩
      · simp at hj
      · cases e
        rw [List.getElem?_map] at hj
        obtain ⟨y, hy, rfl⟩ := Option.map_eq_some_iff.1 hj
        rw [add_off]
        exact hc j y hy
    have h1 : ∀ u ∈ xs.map bv, u.oneCell' = true := by
      intro u hu
      obtain ⟨y, _, rfl⟩ := List.mem_map.1 hu
      rfl
    by_cases hroom : ∃ g n cap', v = .slice (some ⟨g, 0, none⟩) n cap' ∧ bs.length + xs.length ≤ cap'
    · obtain ⟨g, n, cap', rfl, hr⟩ := hroom
      obtain ⟨_, _, e, _⟩ := hown.is
      obtain ⟨_, rfl, rfl⟩ := Value.slice.inj e
      refine wpList_append_own_spare w hgd s x 32 ho base 5 i0 1 Tryd.underlying32 hi hz1 g bs.length _ (bs.map bv) hs hown ad xs.length cap (xs.map bv) hx (by simp) hnews h1 hr ?_
      intro w' ho' hg
      exact h _ w' (by simpa [Own] using ho') hg (.inl rfl)
    · by_cases hz : v = .slice none 0 0 ∧ xs = []
      · obtain ⟨rfl, rfl⟩ := hz
        refine wpList_append_own w hgd s x 32 ho base 5 i0 (.int .u8 0) 1 1 Tryd.underlying32 hi hz0 hz1 hz2 rfl (by decide) _ _ _ hs hown ad 0 cap [] hx rfl (fun j u hj => by simp at hj) (fun u hu => by simp at hu) (by unfold maxLen; simp at hlen ⊢; omega) (by simp at hlen ⊢; omega) hbase ?_
        intro v' w' ho' hg hv
        obtain rfl := hv.2 ⟨rfl, rfl⟩
        exact h _ w' (by simpa [Own] using ho') hg (.inl rfl)
      · have hown' := hown
        obtain ⟨A0, cap0, rfl, hb0, hcap0, _⟩ := hown.is
        have hnone : A0 = none → bs.length = 0 ∧ cap0 = 0 := by
          rintro rfl
          obtain ⟨_, ⟨e, h0⟩ | ⟨g, cap', cur, e, _⟩⟩ := hown'
          · obtain ⟨_, _, rfl⟩ := Value.slice.inj e
            exact ⟨h0, rfl⟩
          · cases e
        have hfull : cap0 < bs.length + xs.length := by
          cases A0 with
          | none =>
            obtain ⟨h0, rfl⟩ := hnone rfl
            rcases Nat.eq_zero_or_pos xs.length with h2 | h2
            · refine (hz ⟨?_, List.eq_nil_of_length_eq_zero h2⟩).elim
              rw [h0]
            · omega
          | some ad0 =>
            refine Nat.lt_of_not_le fun hle => hroom ?_
            obtain ⟨_, ⟨e, h0⟩ | ⟨g, cap', cur, e, _⟩⟩ := hown'
            · cases e
            · obtain ⟨e1, _, _⟩ := Value.slice.inj e
              cases e1
              exact ⟨g, _, _, rfl, hle⟩
        refine wpList_append_grows w hgd s x 32 ho 5 i0 (.int .u8 0) 1 1 Tryd.underlying32 hi hz0 hz1 hz2 rfl (by decide) A0 bs.length cap0 (bs.map bv) hs hnone (by simp) ?_ ad xs.length cap (xs.map bv) hx (by simp) hnews h1 hfull (by unfold maxLen; omega) (by omega) ?_
        · intro b hb j u hj
          subst hb
          rcases hb0 with rfl | ⟨b', off, e, _, hc⟩
          · simp at hj
          · cases e
            rw [List.getElem?_map] at hj
            obtain ⟨y, hy, rfl⟩ := Option.map_eq_some_iff.1 hj
            rw [add_off]
            exact hc j y hy
        · intro v' w' ho' hg
          have hO : Own w' w.heap.size v' (bs ++ xs) := by simpa [Own] using ho'
          exact h v' w' (hO.mono hbase) ⟨hg.os, hg.tape, hg.output, hg.size, fun k hk _ => hg.block k hk (by simp)⟩ (.inr (own_base ho'))
/-- What Append leaves of the disk. -/
def apD (d : Dsk) (ep at_ : Int) (bs : List UInt8) : Dsk := { wrD d ep d.log.length (at_ == (d.log.length : Int)) bs.length with log := d.log ++ wrB d ep d.log.length (at_ == (d.log.length : Int)) bs }
def apE (d : Dsk) (ep at_ : Int) (bs : List UInt8) : Int := wrE d ep d.log.length (at_ == (d.log.length : Int)) bs.length
def apN (d : Dsk) (ep at_ : Int) (bs : List UInt8) : Int := if apE d ep at_ bs = 0 then (d.log.length : Int) + bs.length else 0
theorem writing_any (db : Nat) (ep : Int) (w : World) : Calls Tryd.prog 31 #[.pointer (some ⟨db, 0, none⟩), .int .i64 ep] w fun e w' => e = .returned (.func (Fn.func 35) #[] #[.pointer (some ⟨w.heap.size, 0, none⟩), .pointer (some ⟨w.heap.size + 1, 0, none⟩)]) ∧
    w' = (w.alloc (.cells #[.pointer (some ⟨db, 0, none⟩)] 24)).alloc (.cells #[.int .i64 ep] 3) := by
  go_enter Tryd.func31, Tryd.ntmps31
  go_wp2_with fail
  all_goals go_returns
  all_goals exact ⟨rfl, rfl⟩
theorem heapA {w : World} {o c : Obj} {k : Nat} (h : w.heap[k]? = some c) : (w.alloc o).heap[k]? = some c := (Below.heap_alloc _ _ _ (lt_of h)).trans h
/-- The closure behind writing, at the world that writing leaves. -/
theorem clos_at (B db : Nat) (d : Dsk) (ep used : Int) (atEnd : Bool) (A : Option Addr) (cap : Nat) (bs : List UInt8) (w : World) (h : DK w B db d) (hB : B ≤ db)
    (hb : Bts w A bs) (hcap : bs.length ≤ cap) (hn : NilOk A cap bs) (hne : bs = [] ∨ ∀ a, A = some a → a.block ≠ db) (hlen : bs.length ≤ 1099511627776) (hu0 : 0 ≤ used) (hu1 : used ≤ 1048576) :
    Calls Tryd.prog 35 #[.int .i64 used, .bool atEnd, .slice A bs.length cap, .pointer (some ⟨w.heap.size, 0, none⟩), .pointer (some ⟨w.heap.size + 1, 0, none⟩)] ((w.alloc (.cells #[.pointer (some ⟨db, 0, none⟩)] 24)).alloc (.cells #[.int .i64 ep] 3)) fun e w' => ∃ A' cap', e = .returned (.tuple #[.slice A' (wrB d ep used atEnd bs).length cap', .int .i64 (wrE d ep used atEnd bs.length)]) ∧ Bts w' A' (wrB d ep used atEnd bs) ∧
      NilOk A' cap' (wrB d ep used atEnd bs) ∧ DK w' B db (wrD d ep used atEnd bs.length) ∧ Fr B db w w' := by
  have hbel : Below w.heap.size w ((w.alloc (.cells #[.pointer (some ⟨db, 0, none⟩)] 24)).alloc (.cells #[.int .i64 ep] 3)) := by go_grown
  have hlt := h.lt
  refine (clos_any B db w.heap.size (w.heap.size + 1) d ep used atEnd A cap bs _ (h.keep hbel) hB (heapA (heap_new w _)) (by simpa using heap_new (w.alloc (.cells #[.pointer (some ⟨db, 0, none⟩)] 24)) (.cells #[.int .i64 ep] 3)) (hb.keep hbel) hcap hn hne hlen hu0 hu1).mono ?_
  rintro e w' ⟨A', cap', h1, h2, h3, h4, h5⟩
  exact ⟨A', cap', h1, h2, h3, h4, (Fr.of hbel (by omega)).trans h5⟩
theorem apE_cases (d : Dsk) (ep used : Int) (atEnd : Bool) (n : Nat) : wrE d ep used atEnd n = 0 ∨ wrE d ep used atEnd n = 152 ∨ (wrE d ep used atEnd n ≠ 0 ∧ wrE d ep used atEnd n ≠ 152) := by omega
theorem wrB_len {d : Dsk} {ep used : Int} {atEnd : Bool} {bs : List UInt8} (_ : 0 ≤ used) : wrB d ep used atEnd bs = [] ∨ used + (wrB d ep used atEnd bs).length ≤ d.room := by
  by_cases h : d.room - used < (bs.length : Int)
  · by_cases h1 : ep = d.e
    · cases atEnd with
      | false => exact .inl (wr_no (wrE_151 h1) (by decide) (by decide)).1
      | true => exact .inl (wr_no (wrE_153 h1 h) (by decide) (by decide)).1
    · exact .inl (wr_no (wrE_150 h1) (by decide) (by decide)).1
  · right
    have : (wrB d ep used atEnd bs).length ≤ bs.length := by
      unfold wrB
      split
      · exact Nat.le_refl _
      · split
        · rw [List.length_take]; omega
        · simp
    omega
theorem wrD_same (d : Dsk) (ep used : Int) (atEnd : Bool) (n : Nat) : (wrD d ep used atEnd n).log = d.log ∧ (wrD d ep used atEnd n).snap = d.snap ∧ (wrD d ep used atEnd n).stg = d.stg ∧ (wrD d ep used atEnd n).room = d.room ∧ (wrD d ep used atEnd n).e = d.e := by
  unfold wrD
  split <;> exact ⟨rfl, rfl, rfl, rfl, rfl⟩
theorem ap_no {d : Dsk} {ep at_ : Int} {bs : List UInt8} (h0 : apE d ep at_ bs ≠ 0) (h1 : apE d ep at_ bs ≠ 152) : apD d ep at_ bs = d := by
  unfold apD
  obtain ⟨e1, e2⟩ := wr_no (bs := bs) (d := d) (ep := ep) (used := d.log.length) (atEnd := at_ == (d.log.length : Int)) rfl h0 h1
  rw [e1, e2]
  simp
theorem ap_noW {d : Dsk} {ep at_ : Int} {bs : List UInt8} (h0 : apE d ep at_ bs ≠ 0) (h1 : apE d ep at_ bs ≠ 152) : wrD d ep d.log.length (at_ == (d.log.length : Int)) bs.length = apD d ep at_ bs := by
  rw [ap_no h0 h1]
  exact (wr_no (bs := bs) (d := d) (ep := ep) (used := d.log.length) (atEnd := at_ == (d.log.length : Int)) rfl h0 h1).2
theorem DV.at4 {w w' : World} {B db : Nat} {d : Dsk} {lv sv tv : Value} (h : DV w B db d lv sv tv) (hg : w.grownBy w' lv.ownBlock) : w'.cell? ⟨db, 4, none⟩ = some lv ∧ w'.frozen? ⟨db, 4, none⟩ = false := by
  have hdb : lv.ownBlock ≠ some db := by
    intro e
    obtain ⟨cs, hc⟩ := h.l.lt db e
    rw [h.h] at hc
    cases hc
  have hh : w'.heap[db]? = some (.cells (d.cells lv sv tv) 57 (0, 0)) := by rw [hg.block db (lt_of h.h) (fun e => hdb e.symm), h.h]
  exact ⟨by rw [cell_of hh]; rfl, free_of hh 4⟩
/-- A row of the log's is put in place of the log. -/
theorem dk_log {w w' : World} {B db : Nat} {d : Dsk} {lv sv tv lv' : Value} {xs : List UInt8} (h : DV w B db d lv sv tv) (ho : Own w' B lv' (d.log ++ xs)) (hg : w.grownBy w' lv.ownBlock) (ha : lv'.ownBlock = lv.ownBlock ∨ ∀ k, lv'.ownBlock = some k → w.heap.size ≤ k) (hl : (d.log ++ xs).length ≤ 1048576) :
    DV (w'.setCell ⟨db, 4, none⟩ lv') B db { d with log := d.log ++ xs } lv' sv tv := by
  have hdb : lv.ownBlock ≠ some db := by
    intro e
    obtain ⟨cs, hc⟩ := h.l.lt db e
    rw [h.h] at hc
    cases hc
  have keepO : ∀ {v : Value} {x : List UInt8}, Own w B v x → (∀ k, lv.ownBlock = some k → v.ownBlock ≠ some k) → Own w' B v x := by
    intro v x hv hap
    have hv' := hv
    obtain ⟨hl0, h0 | ⟨g, cap, cur, rfl, hB, hh, r⟩⟩ := hv
    · exact ⟨hl0, .inl h0⟩
    · refine ⟨hl0, .inr ⟨g, cap, cur, rfl, hB, ?_, r⟩⟩
      rw [hg.block g (lt_of hh) (fun e => hap g e.symm (by simp [Value.ownBlock])), hh]
  have hs := keepO h.s (fun k hk => (h.a k hk).1)
  have ht := keepO h.t (fun k hk => (h.a k hk).2)
  have hh : w'.heap[db]? = some (.cells (d.cells lv sv tv) 57 (0, 0)) := by rw [hg.block db (lt_of h.h) (fun e => hdb e.symm), h.h]
  have ha' : ∀ k, lv'.ownBlock = some k → sv.ownBlock ≠ some k ∧ tv.ownBlock ≠ some k := by
    intro k hk
    rcases ha with e | hnew
    · exact h.a k (by rw [← e]; exact hk)
    · have := hnew k hk
      refine ⟨fun e => ?_, fun e => ?_⟩
      · obtain ⟨cs, hc⟩ := h.s.lt k e
        have := lt_of hc
        omega
      · obtain ⟨cs, hc⟩ := h.t.lt k e
        have := lt_of hc
        omega
  refine ⟨?_, ho.setD hh 4 lv', hs.setD hh 4 lv', ht.setD hh 4 lv', ha', ⟨h.g.r0, h.g.r1, hl, h.g.s, h.g.t⟩⟩
  have := heap_setCell_same w' db 4 _ 57 lv' hh
  simpa [Dsk.cells] using this
set_option maxHeartbeats 1000000 in
theorem append_any (B db : Nat) (d : Dsk) (ep at_ : Int) (A : Option Addr) (cap : Nat) (bs : List UInt8) (w : World) (h : DK w B db d) (hB : B ≤ db) (hb : Bts w A bs) (hcap : bs.length ≤ cap) (hn : NilOk A cap bs) (hne : bs = [] ∨ ∀ a, A = some a → a.block ≠ db) (hlen : bs.length ≤ 1099511627776) :
    Calls Tryd.prog 16 #[.pointer (some ⟨db, 0, none⟩), .int .i64 ep, .int .i64 at_, .slice A bs.length cap] w fun e w' => e = .returned (.tuple #[.int .i64 (apN d ep at_ bs), .int .i64 (apE d ep at_ bs)]) ∧ DK w' B db (apD d ep at_ bs) ∧ Fr B db w w' := by
  obtain ⟨lv, sv, tv, h⟩ := h
  have K := hid (bytes_any B db d lv sv tv w h)
  have HD := hid h.dk
  obtain ⟨lA, lc, rfl⟩ := h.l.slice
  obtain ⟨sA, sc, rfl⟩ := h.s.slice
  obtain ⟨tA, tc, rfl⟩ := h.t.slice
  have hgl := h.g.l
  have hlt := lt_of h.h
  simp only [Dsk.cells] at K
  have hF := @fieldLog
  have HG := hid h.g
  have HB := hid hb
  have HN := hid hn
  have HNE := hid hne
  have hgl' : (d.log.length : Int) ≤ 1048576 := by omega
  have KC := hid (fun w1 (hg : Below w.heap.size w w1) => clos_at B db d ep d.log.length (at_ == (d.log.length : Int)) A cap bs w1 (HD.out.keep hg) hB (hb.keep hg) hcap hn hne hlen (by omega) hgl')
  have hlenN : apE d ep at_ bs = 0 → wrB d ep d.log.length (at_ == (d.log.length : Int)) bs = bs := fun h0 => (wr_ok h0).1
  have HLN := hid hlenN
  have HLE := hid (wrB_len (d := d) (ep := ep) (used := d.log.length) (atEnd := at_ == (d.log.length : Int)) (bs := bs) (by omega))
  have hr1 := h.g.r1
  have HNO := hid (ap_noW (d := d) (ep := ep) (at_ := at_) (bs := bs))
  have HWD := hid (wrD_same d ep d.log.length (at_ == (d.log.length : Int)) bs.length)
  have hEd : apE d ep at_ bs = wrE d ep d.log.length (at_ == (d.log.length : Int)) bs.length := rfl
  have hNd : apN d ep at_ bs = if apE d ep at_ bs = 0 then (d.log.length : Int) + bs.length else 0 := rfl
  have hDd : apD d ep at_ bs = { wrD d ep d.log.length (at_ == (d.log.length : Int)) bs.length with log := d.log ++ wrB d ep d.log.length (at_ == (d.log.length : Int)) bs } := rfl
  rw [← hEd] at KC
  obtain ⟨er, her⟩ : ∃ er, er = apE d ep at_ bs := ⟨_, rfl⟩
  obtain ⟨nn, hnn⟩ : ∃ nn, nn = apN d ep at_ bs := ⟨_, rfl⟩
  obtain ⟨d2, hd2⟩ : ∃ d2, d2 = apD d ep at_ bs := ⟨_, rfl⟩
  rw [← her] at KC hNd HLN HNO ⊢
  rw [← hnn] at hNd ⊢
  rw [← hd2] at hDd HNO ⊢
  obtain ⟨dw, hdw⟩ : ∃ dw, dw = wrD d ep d.log.length (at_ == (d.log.length : Int)) bs.length := ⟨_, rfl⟩
  obtain ⟨xs, hxs⟩ : ∃ xs, xs = wrB d ep d.log.length (at_ == (d.log.length : Int)) bs := ⟨_, rfl⟩
  rw [← hdw] at KC HWD hDd HNO
  rw [← hxs] at KC HLE hDd HLN
  have HDD := hid hDd
  clear hEd her hnn hd2 hdw hxs hDd h hb hn hne hlenN
  by_cases h0 : er = 0
  · subst h0
    rw [if_pos rfl] at hNd
    subst hNd
    have HX := hid (HLN.out rfl)
    clear HLN
    go_enter Tryd.func16, Tryd.ntmps16
    go_wp2_with fail
    refine K.out.mono ?_
    rintro _ w1 ⟨rfl, hb⟩
    have g := hid hb
    clear hb
    go_wp2_with fail
    refine (writing_any db ep _).mono ?_
    rintro _ w2 ⟨rfl, rfl⟩
    go_wp2_with fail
    refine (KC.out _ g.out).mono ?_
    rintro _ w3 ⟨A', cap', rfl, hb3, hn3, hd3, hf3⟩
    have HF3 := hid (Fr.trans (Fr.of g.out (by omega)) hf3)
    obtain ⟨lv3, sv3, tv3, hv3⟩ := hd3
    have HV3 := hid hv3
    have HO3 := hid (show Own w3 B lv3 d.log from by have := hv3.l; rw [HWD.out.1] at this; exact this)
    have HB3 := hid hb3
    have HN3 := hid hn3
    obtain ⟨_, _, _, _, c4, _⟩ := hv3.cells
    have hlt3 := lt_of hv3.h
    have hxl : d.log.length + xs.length ≤ 1048576 := by
      rcases HLE.out with h | h
      · rw [h]; simp; omega
      · omega
    obtain ⟨l3A, l3c, rfl⟩ := hv3.l.slice
    clear hv3 hb3 hn3 hf3
    go_wp2_with (at_builtin; refine wpList_append_bytes rfl (.tmp 39) (.tmp 40) rfl B _ _ rfl HO3.out _ _ _ rfl HB3.out HN3.out (by omega) (by omega) ?_)
    intro v' w4 ho4 hg4 ha4
    obtain ⟨A4, cap4, rfl⟩ := ho4.slice
    obtain ⟨k4, f4⟩ := HV3.out.at4 hg4
    have h4 := (dk_log HV3.out (by rw [HWD.out.1]; exact ho4) hg4 ha4 (by rw [HWD.out.1]; simp; omega)).dk
    rw [HWD.out.1, ← HDD.out, List.length_append] at h4
    have H4 := hid h4
    have G4 := hid ((Fr.trans HF3.out (Fr.grown (Fr.of (Below.refl _ _) (by omega)) HO3.out hg4 (by omega))).set hB 4 (.slice A4 (d.log.length + xs.length) cap4))
    clear ho4 hg4 ha4 c4 h4
    go_wp2_with fail
    all_goals go_ret2
    all_goals exact ⟨by rw [HX.out]; rfl, H4.out, G4.out⟩
  · rw [if_neg h0] at hNd
    subst hNd
    by_cases h152 : er = 152
    · subst h152
      clear h0
      go_enter Tryd.func16, Tryd.ntmps16
      go_wp2_with fail
      refine K.out.mono ?_
      rintro _ w1 ⟨rfl, hb⟩
      have g := hid hb
      clear hb
      go_wp2_with fail
      refine (writing_any db ep _).mono ?_
      rintro _ w2 ⟨rfl, rfl⟩
      go_wp2_with fail
      refine (KC.out _ g.out).mono ?_
      rintro _ w3 ⟨A', cap', rfl, hb3, hn3, hd3, hf3⟩
      have HF3 := hid (Fr.trans (Fr.of g.out (by omega)) hf3)
      obtain ⟨lv3, sv3, tv3, hv3⟩ := hd3
      have HV3 := hid hv3
      have HO3 := hid (show Own w3 B lv3 d.log from by have := hv3.l; rw [HWD.out.1] at this; exact this)
      have HB3 := hid hb3
      have HN3 := hid hn3
      obtain ⟨_, _, _, _, c4, _⟩ := hv3.cells
      have hlt3 := lt_of hv3.h
      have hxl : d.log.length + xs.length ≤ 1048576 := by
        rcases HLE.out with h | h
        · rw [h]; simp; omega
        · omega
      obtain ⟨l3A, l3c, rfl⟩ := hv3.l.slice
      clear hv3 hb3 hn3 hf3
      go_wp2_with (at_builtin; refine wpList_append_bytes rfl (.tmp 39) (.tmp 40) rfl B _ _ rfl HO3.out _ _ _ rfl HB3.out HN3.out (by omega) (by omega) ?_)
      intro v' w4 ho4 hg4 ha4
      obtain ⟨A4, cap4, rfl⟩ := ho4.slice
      obtain ⟨k4, f4⟩ := HV3.out.at4 hg4
      have h4 := (dk_log HV3.out (by rw [HWD.out.1]; exact ho4) hg4 ha4 (by rw [HWD.out.1]; simp; omega)).dk
      rw [HWD.out.1, ← HDD.out, List.length_append] at h4
      have H4 := hid h4
      have G4 := hid ((Fr.trans HF3.out (Fr.grown (Fr.of (Below.refl _ _) (by omega)) HO3.out hg4 (by omega))).set hB 4 (.slice A4 (d.log.length + xs.length) cap4))
      clear ho4 hg4 ha4 c4 h4
      go_wp2_with fail
      all_goals go_ret2
      all_goals exact ⟨rfl, H4.out, G4.out⟩
    · have hw := HNO.out h0 h152
      have he0 : (er == 0) = false := by simpa using h0
      have he1 : (er != 0) = true := by simpa using h0
      have he2 : (er == 152) = false := by simpa using h152
      rw [hw] at KC
      clear h0 h152 hw
      go_enter Tryd.func16, Tryd.ntmps16
      go_wp2_with fail
      refine K.out.mono ?_
      rintro _ w1 ⟨rfl, hb⟩
      have g := hid hb
      clear hb
      go_wp2_with fail
      refine (writing_any db ep _).mono ?_
      rintro _ w2 ⟨rfl, rfl⟩
      go_wp2_with fail
      refine (KC.out _ g.out).mono ?_
      rintro _ w3 ⟨A', cap', rfl, hb3, hn3, hd3, hf3⟩
      have HF3 := hid (Fr.trans (Fr.of g.out (by omega)) hf3)
      have HD3 := hid hd3
      clear hf3 hd3 hb3 hn3
      go_wp2_with fail
      all_goals go_ret2
      all_goals exact ⟨rfl, HD3.out, HF3.out⟩
def swE (d : Dsk) (a b : Int × Int × Int) : Int := if b.1 < a.1 ∨ 1099511627776 < b.1 then 1 else if (d.e, d.o, d.u) = a then 0 else 150
def swD (d : Dsk) (a b : Int × Int × Int) : Dsk := if swE d a b = 0 then { d with e := b.1, o := b.2.1, u := b.2.2 } else d
def cl (a : Int × Int × Int) : Value := .agg #[.int .i64 a.1, .int .i64 a.2.1, .int .i64 a.2.2]
theorem quiet_below {B : Nat} {a w : World} (h : Below B a w) (n : Nat) : Below B a (w.drewN n) := ⟨h.os, h.tape, h.output, h.size, h.block⟩
theorem swap_any (B db : Nat) (d : Dsk) (a b : Int × Int × Int) (w : World) (h : DK w B db d) (hB : B ≤ db) :
    Calls Tryd.prog 21 #[.pointer (some ⟨db, 0, none⟩), cl a, cl b] w fun e w' => e = .returned (.int .i64 (swE d a b)) ∧ DK w' B db (swD d a b) ∧ Fr B db w w' := by
  obtain ⟨lv, sv, tv, h⟩ := h
  obtain ⟨c0, c1, c2, c3, _⟩ := h.cells
  have hlt := lt_of h.h
  have f1 := free_of h.h 1
  have f2 := free_of h.h 2
  have f3 := free_of h.h 3
  have HV := hid h
  have HD := hid h.dk
  obtain ⟨e1, w1, u1⟩ := a
  obtain ⟨e2, w2, u2⟩ := b
  have hE : swE d (e1, w1, u1) (e2, w2, u2) = if e2 < e1 ∨ 1099511627776 < e2 then 1 else if (d.e, d.o, d.u) = (e1, w1, u1) then 0 else 150 := rfl
  have hD : swD d (e1, w1, u1) (e2, w2, u2) = if swE d (e1, w1, u1) (e2, w2, u2) = 0 then { d with e := e2, o := w2, u := u2 } else d := rfl
  simp only [cl]
  by_cases hbad : e2 < e1 ∨ 1099511627776 < e2
  · rw [if_pos hbad] at hE
    rw [hE, if_neg (by decide)] at hD
    rw [hE, hD]
    have G := hid (fun w' (hg : Below w.heap.size w w') => (⟨HD.out.keep hg, Fr.of hg (by omega)⟩ : DK w' B db d ∧ Fr B db w w'))
    clear hE hD h c0 c1 c2 c3 f1 f2 f3
    by_cases h1 : e2 < e1
    · clear hbad
      go_enter Tryd.func21, Tryd.ntmps21
      go_wp2_with fail
      all_goals go_returns
      all_goals exact ⟨rfl, G.out _ (by go_grown)⟩
    · have h2 : 1099511627776 < e2 := by omega
      clear hbad
      go_enter Tryd.func21, Tryd.ntmps21
      go_wp2_with fail
      all_goals go_returns
      all_goals exact ⟨rfl, G.out _ (by go_grown)⟩
  · rw [if_neg hbad] at hE
    have h1 : ¬ e2 < e1 := fun h => hbad (.inl h)
    have h2 : ¬ 1099511627776 < e2 := fun h => hbad (.inr h)
    clear hbad
    by_cases he : (d.e, d.o, d.u) = (e1, w1, u1)
    · rw [if_pos he] at hE
      rw [hE, if_pos rfl] at hD
      rw [hE, hD]
      obtain ⟨q1, q23⟩ := Prod.mk.inj he
      obtain ⟨q2, q3⟩ := Prod.mk.inj q23
      clear q23
      have H2 := hid (fun w' (hg : Below w.heap.size w w') => (((((HV.out.keep hg).setE (d' := { d with e := e2 }) 1 (.int .i64 e2) rfl rfl rfl rfl rfl).setE (d' := { d with e := e2, o := w2 }) 2 (.int .i64 w2) rfl rfl rfl rfl rfl).setE (d' := { d with e := e2, o := w2, u := u2 }) 3 (.int .i64 u2) rfl rfl rfl rfl rfl).dk))
      have G2 := hid (fun w' (hg : Below w.heap.size w w') => ((((Fr.of hg (by omega) : Fr B db w w').set hB 1 (.int .i64 e2)).set hB 2 (.int .i64 w2)).set hB 3 (.int .i64 u2)))
      generalize d.e = e0 at *
      generalize d.o = w0 at *
      generalize d.u = u0 at *
      subst q1 q2 q3
      clear hE hD h he HV
      go_enter Tryd.func21, Tryd.ntmps21
      go_wp2_with fail
      go_quiet (fail)
      go_wp2_with fail
      all_goals go_returns
      all_goals exact ⟨rfl, H2.out _ (quiet_below (by go_grown) nq), G2.out _ (quiet_below (by go_grown) nq)⟩
    · rw [if_neg he] at hE
      rw [hE, if_neg (by decide)] at hD
      rw [hE, hD]
      have G := hid (fun w' (hg : Below w.heap.size w w') => (⟨HD.out.keep hg, Fr.of hg (by omega)⟩ : DK w' B db d ∧ Fr B db w w'))
      generalize d.e = e0 at *
      generalize d.o = w0 at *
      generalize d.u = u0 at *
      clear hE hD h HV f1 f2 f3
      by_cases k1 : e0 = e1
      · by_cases k2 : w0 = w1
        · have k3 : (u0 == u1) = false := by
            simp only [k1, k2, Prod.mk.injEq, true_and] at he
            simpa using he
          subst k1 k2
          clear he
          go_enter Tryd.func21, Tryd.ntmps21
          go_wp2_with fail
          go_quiet (fail)
          go_wp2_with fail
          all_goals go_returns
          all_goals exact ⟨rfl, G.out _ (quiet_below (by go_grown) nq)⟩
        · have k3 : (w0 == w1) = false := by simpa using k2
          subst k1
          clear he k2
          go_enter Tryd.func21, Tryd.ntmps21
          go_wp2_with fail
          go_quiet (fail)
          go_wp2_with fail
          all_goals go_returns
          all_goals exact ⟨rfl, G.out _ (quiet_below (by go_grown) nq)⟩
      · have k3 : (e0 == e1) = false := by simpa using k1
        clear he k1
        go_enter Tryd.func21, Tryd.ntmps21
        go_wp2_with fail
        go_quiet (fail)
        go_wp2_with fail
        all_goals go_returns
        all_goals exact ⟨rfl, G.out _ (quiet_below (by go_grown) nq)⟩
end Go.Proofs.YtbpgeghenninnaaDoor
