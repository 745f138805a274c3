/- The disk's Chop, Stage, Commit. Condition: the disk stands in memory; at Commit the table of half bytes, too. -/
import Derived.Test.YtbpgeghenninnaaDoorAppend
import Derived.Test.YtbpgeghenninnaaDoorSum
import Derived.Deep.RegionHeld3
import Derived.StillTailTactics
namespace Go.Proofs.YtbpgeghenninnaaDoor
open Go Go.RowKit
def chE (d : Dsk) (ep to : Int) : Int := if ep ≠ d.e then 150 else if to < 0 ∨ (d.log.length : Int) < to then 151 else 0
def chD (d : Dsk) (ep to : Int) : Dsk := if chE d ep to = 0 then { d with log := d.log.take to.toNat } else d
theorem take_bts {w : World} {A : Option Addr} {bs : List UInt8} (h : Bts w A bs) (k : Nat) (hk : k ≤ bs.length) : Bts w A (bs.take k) ∧ (bs.take k).length = k := ⟨h.take k, by rw [List.length_take]; omega⟩
/-- A new row is put in place of the log. -/
theorem dk_newlog {w w' : World} {B db : Nat} {d : Dsk} {lv sv tv lv' : Value} {xs : List UInt8} (h : DV w B db d lv sv tv) (hb : Below w.heap.size w w') (ho : Own w' w.heap.size lv' xs) (hB : B ≤ w.heap.size) (hl : xs.length ≤ 1048576) :
    DV (w'.setCell ⟨db, 4, none⟩ lv') B db { d with log := xs } lv' sv tv := by
  refine (h.keep hb).set 4 lv' lv' sv tv rfl (ho.mono hB) (h.s.keep hb) (h.t.keep hb) ?_ ⟨h.g.r0, h.g.r1, hl, h.g.s, h.g.t⟩
  intro k hk
  have hn := own_base ho k hk
  refine ⟨fun e => ?_, fun e => ?_⟩
  · obtain ⟨cs, hc⟩ := h.s.lt k e
    have := lt_of hc
    omega
  · obtain ⟨cs, hc⟩ := h.t.lt k e
    have := lt_of hc
    omega
/-- A new row is put in place of what is staged. -/
theorem dk_newstg {w w' : World} {B db : Nat} {d : Dsk} {lv sv tv tv' : Value} {xs : List UInt8} (h : DV w B db d lv sv tv) (hb : Below w.heap.size w w') (ho : Own w' w.heap.size tv' xs) (hB : B ≤ w.heap.size) (hl : xs.length ≤ 1048576) :
    DV (w'.setCell ⟨db, 6, none⟩ tv') B db { d with stg := xs } lv sv tv' := by
  refine (h.keep hb).set 6 tv' lv sv tv' rfl (h.l.keep hb) (h.s.keep hb) (ho.mono hB) ?_ ⟨h.g.r0, h.g.r1, h.g.l, h.g.s, hl⟩
  intro k hk
  refine ⟨(h.a k hk).1, fun e => ?_⟩
  have hn := own_base ho k e
  obtain ⟨cs, hc⟩ := h.l.lt k hk
  have := lt_of hc
  omega
set_option maxHeartbeats 1000000 in
theorem chop_any (B db : Nat) (d : Dsk) (ep to : Int) (w : World) (h : DK w B db d) (hB : B ≤ db) :
    Calls Tryd.prog 17 #[.pointer (some ⟨db, 0, none⟩), .int .i64 ep, .int .i64 to] w fun e w' => e = .returned (.int .i64 (chE d ep to)) ∧ DK w' B db (chD d ep to) ∧ Fr B db w w' := by
  have HD := hid h
  have KF := hid (fenced_any B db d ep w h)
  obtain ⟨lv, sv, tv, h⟩ := h
  obtain ⟨lA, lc, rfl⟩ := h.l.slice
  have HV := hid h
  obtain ⟨c0, c1, c2, c3, c4, _⟩ := h.cells
  have f4 := free_of h.h 4
  have hlt := lt_of h.h
  have hgl := h.g.l
  have hgl' : (d.log.length : Int) ≤ 1048576 := by omega
  have hE : chE d ep to = if ep ≠ d.e then 150 else if to < 0 ∨ (d.log.length : Int) < to then 151 else 0 := rfl
  have hD : chD d ep to = if chE d ep to = 0 then { d with log := d.log.take to.toNat } else d := rfl
  have G0 := hid (Fr.of (Below.refl _ w) (by omega) : Fr B db w w)
  by_cases he : ep = d.e
  · rw [if_neg (by simp [he])] at hE
    rw [if_pos he] at KF
    by_cases hbad : to < 0 ∨ (d.log.length : Int) < to
    · rw [if_pos hbad] at hE
      rw [hE, if_neg (by decide)] at hD
      rw [hE, hD]
      clear hE hD he h HV c0 c1 c2 c3 f4
      by_cases h0 : to < 0
      · clear hbad
        go_enter Tryd.func17, Tryd.ntmps17
        go_wp2_with (go_at_call 32; refine KF.out.mono ?_; rintro _ w1 ⟨rfl, rfl⟩)
        all_goals go_returns
        all_goals exact ⟨rfl, HD.out, G0.out⟩
      · have h1 : (d.log.length : Int) < to := by omega
        clear hbad
        go_enter Tryd.func17, Tryd.ntmps17
        go_wp2_with (go_at_call 32; refine KF.out.mono ?_; rintro _ w1 ⟨rfl, rfl⟩)
        all_goals go_returns
        all_goals exact ⟨rfl, HD.out, G0.out⟩
    · rw [if_neg hbad] at hE
      rw [hE, if_pos rfl] at hD
      rw [hE, hD]
      obtain ⟨k, rfl⟩ := Int.eq_ofNat_of_zero_le (show 0 ≤ to by omega)
      have hk : k ≤ d.log.length := by omega
      have hk1 : ¬ (d.log.length : Int) < (k : Int) := by omega
      rw [show ((k : Nat) : Int).toNat = k from rfl]
      obtain ⟨b1, b2⟩ := take_bts h.l.bts k hk
      obtain ⟨xs, hxs⟩ : ∃ xs, xs = d.log.take k := ⟨_, rfl⟩
      rw [← hxs] at b1 b2 ⊢
      have KR := hid (fresh_any lA lc xs w b1 (by omega))
      have hcap : d.log.length ≤ lc := by
        obtain ⟨_, _, e, _, h2, _⟩ := h.l.is
        cases e
        exact h2
      subst b2
      clear hE hD he h c0 c1 c2 c3 hbad b1 hxs
      go_enter Tryd.func17, Tryd.ntmps17
      go_wp2_with (go_at_call 32; refine KF.out.mono ?_; rintro _ w1 ⟨rfl, rfl⟩)
      refine KR.out.mono ?_
      rintro _ w1 ⟨v, rfl, ho, hb⟩
      obtain ⟨vA, vc, rfl⟩ := ho.slice
      have H1 := hid (dk_newlog HV.out hb ho (by omega) (by omega)).dk
      have G1 := hid ((Fr.of hb (by omega) : Fr B db w w1).set hB 4 (.slice vA xs.length vc))
      have hv1 := HV.out.keep hb
      obtain ⟨_, _, _, _, k4, _⟩ := hv1.cells
      have g4 := free_of hv1.h 4
      clear ho hb hv1
      go_wp2_with fail
      all_goals go_returns
      all_goals exact ⟨rfl, H1.out, G1.out⟩
  · rw [if_pos he] at hE
    rw [hE, if_neg (by decide)] at hD
    rw [if_neg he] at KF
    rw [hE, hD]
    clear hE hD he h HV c0 c1 c2 c3 f4
    go_enter Tryd.func17, Tryd.ntmps17
    go_wp2_with (go_at_call 32; refine KF.out.mono ?_; rintro _ w1 ⟨rfl, rfl⟩)
    all_goals go_returns
    all_goals exact ⟨rfl, HD.out, G0.out⟩
def stE (d : Dsk) (ep : Int) (bs : List UInt8) : Int := wrE d ep 0 true bs.length
def stD (d : Dsk) (ep : Int) (bs : List UInt8) : Dsk := if stE d ep bs = 0 ∨ stE d ep bs = 152 then { wrD d ep 0 true bs.length with stg := wrB d ep 0 true bs } else d
set_option maxHeartbeats 1000000 in
theorem stage_any (B db : Nat) (d : Dsk) (ep : Int) (A : Option Addr) (cap : Nat) (bs : List UInt8) (w : World) (h : DK w B db d) (hB : B ≤ db) (hb : Bts w A bs) (hcap : bs.length ≤ cap) (hn : NilOk A cap bs) (hne : bs = [] ∨ ∀ a, A = some a → a.block ≠ db) (hlen : bs.length ≤ 1099511627776) :
    Calls Tryd.prog 18 #[.pointer (some ⟨db, 0, none⟩), .int .i64 ep, .slice A bs.length cap] w fun e w' => e = .returned (.int .i64 (stE d ep bs)) ∧ DK w' B db (stD d ep bs) ∧ Fr B db w w' := by
  have hlt := h.lt
  have hgood := h.good
  have hr1 := hgood.r1
  have KC := hid (clos_at B db d ep 0 true A cap bs w h hB hb hcap hn hne hlen (by decide) (by decide))
  have HLE := hid (wrB_len (d := d) (ep := ep) (used := 0) (atEnd := true) (bs := bs) (by decide))
  have hE : stE d ep bs = wrE d ep 0 true bs.length := rfl
  have hD : stD d ep bs = if stE d ep bs = 0 ∨ stE d ep bs = 152 then { wrD d ep 0 true bs.length with stg := wrB d ep 0 true bs } else d := rfl
  have hNo : stE d ep bs ≠ 0 → stE d ep bs ≠ 152 → wrD d ep 0 true bs.length = d := fun h0 h1 => (wr_no (bs := bs) rfl h0 h1).2
  have HNO := hid hNo
  rw [← hE] at KC
  obtain ⟨er, her⟩ : ∃ er, er = stE d ep bs := ⟨_, rfl⟩
  rw [← her] at KC hD HNO ⊢
  obtain ⟨dw, hdw⟩ : ∃ dw, dw = wrD d ep 0 true bs.length := ⟨_, rfl⟩
  obtain ⟨xs, hxs⟩ : ∃ xs, xs = wrB d ep 0 true bs := ⟨_, rfl⟩
  rw [← hdw] at KC HNO hD
  rw [← hxs] at KC HLE hD
  clear hE hNo her hdw hxs h hgood
  have hxl : xs.length ≤ 1048576 := by
    rcases HLE.out with h | h
    · rw [h]; simp
    · omega
  by_cases hyes : er = 0 ∨ er = 152
  · rw [if_pos hyes] at hD
    rw [hD]
    clear hD
    rcases hyes with rfl | rfl
    all_goals
      go_enter Tryd.func18, Tryd.ntmps18
      go_wp2_with fail
      refine (writing_any db ep _).mono ?_
      rintro _ w2 ⟨rfl, rfl⟩
      go_wp2_with fail
      refine KC.out.mono ?_
      rintro _ w3 ⟨A', cap', rfl, hb3, hn3, hd3, hf3⟩
      have KR := hid (fresh_any A' cap' xs w3 hb3 (by omega))
      have L3 := hd3.lt
      have HD3 := hid hd3
      have HF3 := hid hf3
      clear hb3 hn3 hd3 hf3
      go_wp2_with fail
      refine KR.out.mono ?_
      rintro _ w4 ⟨v, rfl, ho, hb⟩
      obtain ⟨vA, vc, rfl⟩ := ho.slice
      obtain ⟨lv, sv, tv, hv⟩ := HD3.out
      have H4 := hid (dk_newstg hv hb ho (by omega) (by omega)).dk
      have hv4 := hv.keep hb
      obtain ⟨tA, tc, rfl⟩ := hv.t.slice
      obtain ⟨_, _, _, _, _, _, k6, _⟩ := hv4.cells
      have g6 := free_of hv4.h 6
      have G4 := hid ((HF3.out.trans (Fr.of hb (by omega))).set hB 6 (.slice vA xs.length vc))
      clear ho hb hv hv4
      go_wp2_with fail
      all_goals go_returns
      all_goals exact ⟨rfl, H4.out, G4.out⟩
  · rw [if_neg hyes] at hD
    rw [hD]
    have h0 : (er == 0) = false := by simp; omega
    have h1 : (er == 152) = false := by simp; omega
    rw [HNO.out (fun h => hyes (.inl h)) (fun h => hyes (.inr h))] at KC
    clear hD hyes
    go_enter Tryd.func18, Tryd.ntmps18
    go_wp2_with fail
    refine (writing_any db ep _).mono ?_
    rintro _ w2 ⟨rfl, rfl⟩
    go_wp2_with fail
    refine KC.out.mono ?_
    rintro _ w3 ⟨A', cap', rfl, hb3, hn3, hd3, hf3⟩
    have HD3 := hid hd3
    have HF3 := hid hf3
    clear hb3 hn3 hd3 hf3
    go_wp2_with fail
    all_goals go_returns
    all_goals exact ⟨rfl, HD3.out, HF3.out⟩
def coE (d : Dsk) (ep sum from_ : Int) : Int := if ep ≠ d.e then 150 else if (crc d.stg : Int) ≠ sum then 20 else if from_ < 0 ∨ (d.log.length : Int) < from_ then 151 else 0
def coD (d : Dsk) (ep sum from_ : Int) : Dsk := if coE d ep sum from_ = 0 then { d with snap := d.stg, stg := [], log := d.log.drop from_.toNat } else d
theorem Bts.drop {w : World} {b off : Nat} {bs : List UInt8} (h : Bts w (some ⟨b, off, none⟩) bs) (k : Nat) : Bts w (some ⟨b, off + k, none⟩) (bs.drop k) := by
  rcases h with rfl | ⟨b', off', e, hlt, hc⟩
  · exact .inl (by simp)
  · cases e
    refine .inr ⟨b, off + k, rfl, hlt, fun j x hx => ?_⟩
    rw [List.getElem?_drop] at hx
    have := hc _ _ hx
    rw [← Nat.add_assoc] at this
    exact this
/-- What was staged is the snapshot, nothing is staged, the log is a new row. -/
theorem dk_commit {w w' : World} {B db : Nat} {d : Dsk} {lv sv tv lv' : Value} {xs : List UInt8} (h : DV w B db d lv sv tv) (hb : Below w.heap.size w w') (ho : Own w' w.heap.size lv' xs) (hB : B ≤ w.heap.size) (hl : xs.length ≤ 1048576) :
    DV (((w'.setCell ⟨db, 5, none⟩ tv).setCell ⟨db, 6, none⟩ (.slice none 0 0)).setCell ⟨db, 4, none⟩ lv') B db { d with snap := d.stg, stg := [], log := xs } lv' tv (.slice none 0 0) := by
  have h0 := h.keep hb
  have h1 := h0.set (d' := { d with snap := d.stg }) 5 tv lv tv tv rfl h0.l h0.t h0.t (fun k hk => ⟨(h0.a k hk).2, (h0.a k hk).2⟩) ⟨h.g.r0, h.g.r1, h.g.l, h.g.t, h.g.t⟩
  have h2 := h1.set (d' := { d with snap := d.stg, stg := [] }) 6 (.slice none 0 0) lv tv (.slice none 0 0) rfl h1.l h1.s (own_nil _ _) (fun k hk => ⟨(h1.a k hk).1, fun e => by cases e⟩) ⟨h.g.r0, h.g.r1, h.g.l, h.g.t, by simp⟩
  refine h2.set (d' := { d with snap := d.stg, stg := [], log := xs }) 4 lv' lv' tv (.slice none 0 0) rfl (((ho.mono hB).setD h0.h 5 tv).setD h1.h 6 _) h2.s h2.t ?_ ⟨h.g.r0, h.g.r1, hl, h.g.t, by simp⟩
  intro k hk
  refine ⟨fun e => ?_, fun e => by cases e⟩
  have hn := own_base ho k hk
  obtain ⟨cs, hc⟩ := h.t.lt k e
  have := lt_of hc
  omega
set_option maxHeartbeats 4000000 in
theorem commit_any (B db : Nat) (d : Dsk) (ep sum from_ : Int) (w : World) (h : DK w B db d) (hB : B ≤ db) (hT : Tab w) :
    Calls Tryd.prog 19 #[.pointer (some ⟨db, 0, none⟩), .int .i64 ep, .int .u32 sum, .int .i64 from_] w fun e w' => e = .returned (.int .i64 (coE d ep sum from_)) ∧ DK w' B db (coD d ep sum from_) ∧ Fr B db w w' := by
  have HD := hid h
  have KF := hid (fenced_any B db d ep w h)
  obtain ⟨lv, sv, tv, h⟩ := h
  obtain ⟨lA, lc, rfl⟩ := h.l.slice
  obtain ⟨sA, sc, rfl⟩ := h.s.slice
  obtain ⟨tA, tc, rfl⟩ := h.t.slice
  have HV := hid h
  have KS := hid (sum_any tA tc d.stg w h.t.bts hT (by have := h.g.t; omega))
  obtain ⟨c0, c1, c2, c3, c4, c5, c6, _⟩ := h.cells
  have f4 := free_of h.h 4
  have f5 := free_of h.h 5
  have f6 := free_of h.h 6
  have hlt := lt_of h.h
  have hgl := h.g.l
  have hgl' : (d.log.length : Int) ≤ 1048576 := by omega
  have hE : coE d ep sum from_ = if ep ≠ d.e then 150 else if (crc d.stg : Int) ≠ sum then 20 else if from_ < 0 ∨ (d.log.length : Int) < from_ then 151 else 0 := rfl
  have hD : coD d ep sum from_ = if coE d ep sum from_ = 0 then { d with snap := d.stg, stg := [], log := d.log.drop from_.toNat } else d := rfl
  have G0 := hid (Fr.of (Below.refl _ w) (by omega) : Fr B db w w)
  generalize crc d.stg = cs at *
  by_cases he : ep = d.e
  · rw [if_neg (by simp [he])] at hE
    rw [if_pos he] at KF
    by_cases hs : (cs : Int) = sum
    · rw [if_neg (by simp [hs])] at hE
      subst hs
      by_cases hbad : from_ < 0 ∨ (d.log.length : Int) < from_
      · rw [if_pos hbad] at hE
        rw [hE, if_neg (by decide)] at hD
        rw [hE, hD]
        clear hE hD he h HV c0 c1 c2 c3 c5 f4 f5 f6
        by_cases h0 : from_ < 0
        · clear hbad
          go_enter Tryd.func19, Tryd.ntmps19
          go_wp2_with (first | (go_at_call 32; refine KF.out.mono ?_; rintro _ w1 ⟨rfl, rfl⟩) | (go_at_call 33; refine KS.out.mono ?_; rintro _ w1 ⟨rfl, rfl⟩))
          all_goals go_returns
          all_goals exact ⟨rfl, HD.out, G0.out⟩
        · have h1 : (d.log.length : Int) < from_ := by omega
          clear hbad
          go_enter Tryd.func19, Tryd.ntmps19
          go_wp2_with (first | (go_at_call 32; refine KF.out.mono ?_; rintro _ w1 ⟨rfl, rfl⟩) | (go_at_call 33; refine KS.out.mono ?_; rintro _ w1 ⟨rfl, rfl⟩))
          all_goals go_returns
          all_goals exact ⟨rfl, HD.out, G0.out⟩
      · rw [if_neg hbad] at hE
        rw [hE, if_pos rfl] at hD
        rw [hE, hD]
        obtain ⟨k, rfl⟩ := Int.eq_ofNat_of_zero_le (show 0 ≤ from_ by omega)
        have hk : k ≤ d.log.length := by omega
        have hk1 : ¬ (d.log.length : Int) < (k : Int) := by omega
        rw [show ((k : Nat) : Int).toNat = k from rfl]
        have H0 := hid (show Below w.heap.size w (World.drew w) from (Below.refl _ _).drew)
        have HX := hid (fun w' (hg : Below w.heap.size w w') => (show w'.cell? ⟨db, 4, none⟩ = some (.slice lA d.log.length lc) ∧ w'.cell? ⟨db, 6, none⟩ = some (.slice tA d.stg.length tc) from ⟨(HV.out.keep hg).cells.2.2.2.2.1, (HV.out.keep hg).cells.2.2.2.2.2.2.1⟩))
        have hcap : d.log.length ≤ lc := by
          obtain ⟨_, _, e, _, h2, _⟩ := h.l.is
          cases e
          exact h2
        obtain ⟨xs, hxs⟩ : ∃ xs, xs = d.log.drop k := ⟨_, rfl⟩
        rw [← hxs]
        cases lA with
        | none =>
          obtain ⟨h0, rfl⟩ : d.log.length = 0 ∧ lc = 0 := by
            obtain ⟨_, ⟨e, h0⟩ | ⟨g, cap', cur, e, _⟩⟩ := h.l
            · obtain ⟨_, _, rfl⟩ := Value.slice.inj e
              exact ⟨h0, rfl⟩
            · cases e
          obtain rfl : k = 0 := by omega
          obtain rfl : xs = [] := by rw [hxs]; simpa using h0
          have HN := hid h0
          have KR := hid (fun w' (hg : Below w.heap.size w w') => fresh_any none 0 [] w' (.inl rfl) (by decide))
          rw [List.length_nil] at KR
          rw [h0] at HX c4 hk1 hk hgl hgl'
          clear h0
          clear hE hD he h c0 c1 c2 c3 hbad hxs hcap
          go_enter Tryd.func19, Tryd.ntmps19
          go_wp2_with (first | (go_at_call 32; refine KF.out.mono ?_; rintro _ w1 ⟨rfl, rfl⟩) | (go_at_call 33; refine KS.out.mono ?_; rintro _ w1 ⟨rfl, rfl⟩))
          obtain ⟨k4, k6⟩ := HX.out _ H0.out
          go_region_with (go_at_call 30; with_reducible refine (KR.out _ H0.out).mono ?_; rintro _ w7 ⟨v, rfl, ho, hb⟩; obtain ⟨vA, vc, rfl⟩ := ho.slice; have H7 := hid (below_step H0.out H0.out.size hb); have O7 := hid (ho.mono H0.out.size); have hv7 := HV.out.keep H7.out; obtain ⟨_, _, _, _, k4, k5, k6, _⟩ := hv7.cells; have g4 := free_of hv7.h 4; have g5 := free_of hv7.h 5; have g6 := free_of hv7.h 6; clear ho hb hv7)
          all_goals go_wp2_with fail
          all_goals go_returns
          all_goals exact ⟨rfl, (dk_commit HV.out H7.out O7.out (by omega) (by decide)).dk, (((Fr.of H7.out (by omega) : Fr B db w w7).set hB 5 _).set hB 6 _).set hB 4 _⟩
        | some a =>
          obtain ⟨g, rfl⟩ : ∃ g, a = ⟨g, 0, none⟩ := by
            obtain ⟨_, ⟨e, _⟩ | ⟨g, cap', cur, e, _⟩⟩ := h.l
            · cases e
            · cases e
              exact ⟨g, rfl⟩
          have hxl : xs.length = d.log.length - k := by rw [hxs, List.length_drop]
          by_cases hck : lc = k
          · subst hck
            obtain rfl : xs = [] := List.eq_nil_of_length_eq_zero (by omega)
            have hlk : d.log.length - lc = 0 := by omega
            have hxl2 := hid hxl
            have KR := hid (fun w' (hg : Below w.heap.size w w') => fresh_any (some ⟨g, 0, none⟩) 0 [] w' (.inl rfl) (by decide))
            rw [List.length_nil] at KR
            clear hxl
            clear hE hD he h c0 c1 c2 c3 hbad hxs hcap
            go_enter Tryd.func19, Tryd.ntmps19
            go_wp2_with (first | (go_at_call 32; refine KF.out.mono ?_; rintro _ w1 ⟨rfl, rfl⟩) | (go_at_call 33; refine KS.out.mono ?_; rintro _ w1 ⟨rfl, rfl⟩))
            obtain ⟨k4, k6⟩ := HX.out _ H0.out
            go_region_with (go_at_call 30; with_reducible refine (KR.out _ H0.out).mono ?_; rintro _ w7 ⟨v, rfl, ho, hb⟩; obtain ⟨vA, vc, rfl⟩ := ho.slice; have H7 := hid (below_step H0.out H0.out.size hb); have O7 := hid (ho.mono H0.out.size); have hv7 := HV.out.keep H7.out; obtain ⟨_, _, _, _, k4, k5, k6, _⟩ := hv7.cells; have g4 := free_of hv7.h 4; have g5 := free_of hv7.h 5; have g6 := free_of hv7.h 6; clear ho hb hv7)
            all_goals go_wp2_with fail
            all_goals go_returns
            all_goals exact ⟨rfl, (dk_commit HV.out H7.out O7.out (by omega) (by decide)).dk, (((Fr.of H7.out (by omega) : Fr B db w w7).set hB 5 _).set hB 6 _).set hB 4 _⟩
          · have KR := hid (fun w' (hg : Below w.heap.size w w') => fresh_any (some ⟨g, k, none⟩) (lc - k) xs w' (by rw [hxs]; simpa using (h.l.bts.keep hg).drop k) (by omega))
            rw [hxl] at KR
            have hck' : (lc == k) = false := by simpa using hck
            have HXL := hid hxl
            clear hxl
            clear hE hD he h c0 c1 c2 c3 hbad hxs hcap
            go_enter Tryd.func19, Tryd.ntmps19
            go_wp2_with (first | (go_at_call 32; refine KF.out.mono ?_; rintro _ w1 ⟨rfl, rfl⟩) | (go_at_call 33; refine KS.out.mono ?_; rintro _ w1 ⟨rfl, rfl⟩))
            obtain ⟨k4, k6⟩ := HX.out _ H0.out
            go_region_with (go_at_call 30; with_reducible refine (KR.out _ H0.out).mono ?_; rintro _ w7 ⟨v, rfl, ho, hb⟩; obtain ⟨vA, vc, rfl⟩ := ho.slice; have H7 := hid (below_step H0.out H0.out.size hb); have O7 := hid (ho.mono H0.out.size); have hv7 := HV.out.keep H7.out; obtain ⟨_, _, _, _, k4, k5, k6, _⟩ := hv7.cells; have g4 := free_of hv7.h 4; have g5 := free_of hv7.h 5; have g6 := free_of hv7.h 6; clear ho hb hv7)
            all_goals go_wp2_with fail
            all_goals go_returns
            all_goals exact ⟨rfl, (dk_commit HV.out H7.out O7.out (by omega) (by have := HXL.out; omega)).dk, (((Fr.of H7.out (by omega) : Fr B db w w7).set hB 5 _).set hB 6 _).set hB 4 _⟩
    · rw [if_pos hs] at hE
      rw [hE, if_neg (by decide)] at hD
      rw [hE, hD]
      have hs' : ((cs : Int) != sum) = true := by simpa using hs
      clear hE hD he h HV c0 c1 c2 c3 c5 f4 f5 f6 hs
      go_enter Tryd.func19, Tryd.ntmps19
      go_wp2_with (first | (go_at_call 32; refine KF.out.mono ?_; rintro _ w1 ⟨rfl, rfl⟩) | (go_at_call 33; refine KS.out.mono ?_; rintro _ w1 ⟨rfl, rfl⟩))
      all_goals go_returns
      all_goals exact ⟨rfl, HD.out, G0.out⟩
  · rw [if_pos he] at hE
    rw [hE, if_neg (by decide)] at hD
    rw [if_neg he] at KF
    rw [hE, hD]
    clear hE hD he h HV c0 c1 c2 c3 f4 f5 f6
    go_enter Tryd.func19, Tryd.ntmps19
    go_wp2_with (go_at_call 32; refine KF.out.mono ?_; rintro _ w1 ⟨rfl, rfl⟩)
    all_goals go_returns
    all_goals exact ⟨rfl, HD.out, G0.out⟩
end Go.Proofs.YtbpgeghenninnaaDoor
