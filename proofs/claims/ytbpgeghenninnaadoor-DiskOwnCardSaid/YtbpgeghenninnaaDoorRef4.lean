/- The document's disk, by values: Chop, Stage. Condition: the bytes stand in memory. -/
import Derived.Test.YtbpgeghenninnaaDoorRef3
namespace Go.Proofs.YtbpgeghenninnaaDoor
open Go Go.RowKit
theorem str_take (l : List UInt8) (k : Nat) : (str l).extract 0 k = str (l.take k) := by
  apply ByteArray.ext
  simp only [ByteArray.data_extract, str]
  apply Array.ext'
  simp
theorem str_drop (l : List UInt8) (k : Nat) : (str l).extract k (str l).size = str (l.drop k) := by
  apply ByteArray.ext
  rw [str_size]
  simp only [ByteArray.data_extract, str]
  apply Array.ext'
  simp
  rw [List.take_of_length_le (by simp)]
set_option maxHeartbeats 2000000 in
theorem rchop_any (d : Dsk) (ep to : Int) (w : World) (hl : d.log.length ≤ 1048576) :
    Calls Tryd.prog 26 #[.agg (rv d), .int .i64 ep, .int .i64 to] w fun e w' => e = .returned (.tuple #[.agg (rv (chD d ep to)), .int .i64 (chE d ep to)]) ∧ Below w.heap.size w w' := by
  have hE : chE d ep to = if ep ≠ d.e then 150 else if to < 0 ∨ (d.log.length : Int) < to then 151 else 0 := rfl
  have hD : chD d ep to = if chE d ep to = 0 then { d with log := d.log.take to.toNat } else d := rfl
  have hls : (str d.log).size = d.log.length := str_size _
  have hll : (str d.log).size ≤ 1048576 := by omega
  by_cases he : ep = d.e
  · rw [if_neg (by simp [he])] at hE
    by_cases hbad : to < 0 ∨ (d.log.length : Int) < to
    · rw [if_pos hbad] at hE
      rw [hE, if_neg (by decide)] at hD
      rw [hE, hD]
      simp only [rv]
      rw [← hls] at hbad
      subst he
      clear hE hD hls hl
      generalize d.e = de at *
      generalize d.o = do_ at *
      generalize d.u = du at *
      generalize d.cut = dc at *
      generalize d.armed = da at *
      generalize d.room = room at *
      generalize str d.log = sl at *
      generalize str d.snap = ss at *
      generalize str d.stg = st at *
      by_cases h0 : to < 0
      · clear hbad
        go_enter Tryd.func26, Tryd.ntmps26
        go_wp2_with fail
        all_goals go_returns
        all_goals exact ⟨rfl, by go_grown⟩
      · have h1 : (sl.size : Int) < to := by omega
        clear hbad
        go_enter Tryd.func26, Tryd.ntmps26
        go_wp2_with fail
        all_goals go_returns
        all_goals exact ⟨rfl, by go_grown⟩
    · rw [if_neg hbad] at hE
      rw [hE, if_pos rfl] at hD
      rw [hE, hD]
      obtain ⟨k, rfl⟩ := Int.eq_ofNat_of_zero_le (show 0 ≤ to by omega)
      have hk1 : ¬ ((str d.log).size : Int) < (k : Int) := by rw [hls]; omega
      have hk2 : k ≤ (str d.log).size := by omega
      have hex : (str d.log).extract 0 k = str (d.log.take k) := str_take _ _
      rw [show ((k : Nat) : Int).toNat = k from rfl]
      subst he
      clear hE hD hbad hls hl
      simp only [rv]
      generalize str (d.log.take k) = sy at *
      generalize d.e = de at *
      generalize d.o = do_ at *
      generalize d.u = du at *
      generalize d.cut = dc at *
      generalize d.armed = da at *
      generalize d.room = room at *
      generalize str d.log = sl at *
      generalize str d.snap = ss at *
      generalize str d.stg = st at *
      go_enter Tryd.func26, Tryd.ntmps26
      go_wp2_with fail
      all_goals go_returns
      all_goals exact ⟨rfl, by go_grown⟩
  · rw [if_pos he] at hE
    rw [hE, if_neg (by decide)] at hD
    rw [hE, hD]
    have he' : (ep != d.e) = true := by simpa using he
    clear hE hD he hls hl
    simp only [rv]
    generalize d.e = de at *
    generalize d.o = do_ at *
    generalize d.u = du at *
    generalize d.cut = dc at *
    generalize d.armed = da at *
    generalize d.room = room at *
    generalize str d.log = sl at *
    generalize str d.snap = ss at *
    generalize str d.stg = st at *
    go_enter Tryd.func26, Tryd.ntmps26
    go_wp2_with fail
    all_goals go_returns
    all_goals exact ⟨rfl, by go_grown⟩
theorem st_three (d : Dsk) (x : List UInt8) (ep : Int) (he : ep = d.e) : (d.room < (x.length : Int) ∧ stE d ep x = 153 ∧ stD d ep x = d) ∨
    (¬ d.room < (x.length : Int) ∧ stE d ep x = rdE d ∧ stD d ep x = { rdD d with stg := rdB d x }) := by
  by_cases h1 : d.room < (x.length : Int)
  · have h : stE d ep x = 153 := wrE_153 he (by omega)
    exact .inl ⟨h1, h, by unfold stD; rw [h]; rfl⟩
  · refine .inr ⟨h1, ?_⟩
    by_cases h3 : d.armed = true
    · have h := wrE_152 (used := 0) he (show ¬ d.room - 0 < (x.length : Int) by omega) h3
      obtain ⟨k1, k2⟩ := wr_cut (bs := x) h
      have hs : stE d ep x = 152 := h
      exact ⟨by rw [hs]; unfold rdE; rw [if_pos h3], by unfold stD; rw [hs, if_pos (.inr rfl), k1, k2]; unfold rdD rdB; rw [if_pos h3, if_pos h3]⟩
    · have h := wrE_0 (used := 0) he (show ¬ d.room - 0 < (x.length : Int) by omega) (by simpa using h3)
      obtain ⟨k1, k2⟩ := wr_ok (bs := x) h
      have hs : stE d ep x = 0 := h
      exact ⟨by rw [hs]; unfold rdE; rw [if_neg h3], by unfold stD; rw [hs, if_pos (.inl rfl), k1, k2]; unfold rdD rdB; rw [if_neg h3, if_neg h3]⟩
set_option maxHeartbeats 2000000 in
theorem rstage_any (d : Dsk) (ep : Int) (A : Option Addr) (cap : Nat) (bs : List UInt8) (w : World) (hb : Bts w A bs) (hcap : bs.length ≤ cap) (hn : NilOk A cap bs) (hlen : bs.length ≤ 1048576) :
    Calls Tryd.prog 27 #[.agg (rv d), .int .i64 ep, .slice A bs.length cap] w fun e w' => e = .returned (.tuple #[.agg (rv (stD d ep bs)), .int .i64 (stE d ep bs)]) ∧ Below w.heap.size w w' := by
  have hl63 : (bs.length : Int) ≤ 1048576 := by omega
  have KD := hid (fun (w' : World) (hg : Below w.heap.size w w') => rdone_any d A cap bs w' (hb.keep hg) hcap hn (by omega))
  clear hb hn
  by_cases he : ep = d.e
  · rcases st_three d bs ep he with ⟨h4, q1, q2⟩ | ⟨h4, q1, q2⟩
    · rw [q1, q2]
      clear q1 q2 KD
      subst he
      simp only [rv]
      generalize d.e = de at *
      generalize d.o = do_ at *
      generalize d.u = du at *
      generalize d.cut = dc at *
      generalize d.armed = da at *
      generalize d.room = room at *
      generalize str d.log = sl at *
      generalize str d.snap = ss at *
      generalize str d.stg = st at *
      go_enter Tryd.func27, Tryd.ntmps27
      go_wp2_with fail
      all_goals go_returns
      all_goals exact ⟨rfl, by go_grown⟩
    · rw [q1, q2]
      clear q1 q2
      subst he
      obtain ⟨dr, hdr⟩ : ∃ dr, dr = rdD d := ⟨_, rfl⟩
      rw [← hdr] at KD ⊢
      clear hdr
      simp only [rv] at KD ⊢
      generalize rdE d = er at *
      generalize d.e = de at *
      generalize d.o = do_ at *
      generalize d.u = du at *
      generalize d.cut = dc at *
      generalize str (rdB d bs) = sx at *
      generalize d.armed = da at *
      generalize d.room = room at *
      generalize str d.log = sl at *
      generalize str d.snap = ss at *
      generalize str d.stg = st at *
      generalize dr.e = xe at *
      generalize dr.o = xo at *
      generalize dr.u = xu at *
      generalize dr.cut = xc at *
      generalize dr.armed = xa at *
      generalize dr.room = xr at *
      generalize str dr.log = xl at *
      generalize str dr.snap = xs at *
      generalize str dr.stg = xt at *
      go_enter Tryd.func27, Tryd.ntmps27
      go_wp2_with fail
      refine (KD.out _ (by go_grown)).mono ?_
      rintro _ w3 ⟨rfl, hb3⟩
      have G3 := hid (show Below w.heap.size w w3 from below_step (by go_grown) (by go_size) hb3)
      have K1 := hid (show w3.heap[w.heap.size + 1]? = some (.cells #[.int .i64 0, .int .i64 0, .int .i64 0, .int .i64 0, .string ⟨#[]⟩, .string ⟨#[]⟩, .string ⟨#[]⟩, .bool false, .int .i64 0] 29 (0, 0)) from keep0 hb3 heapN2)
      have hlt1 := lt_of K1.out
      clear hb3 KD
      go_wp2_with (refine wpList_store_row rfl 29 _ _ rfl (w.heap.size + 1) #[.int .i64 xr, .int .i64 xe, .int .i64 xo, .int .i64 xu, .string xl, .string xs, .string sx, .bool xa, .int .i64 xc] rfl rfl 29 _ (heapA K1.out) (by kernel_rfl) rfl (by kernel_rfl) ?_)
      exact bodyPost_ret (v := .tuple #[.agg #[.int .i64 xr, .int .i64 xe, .int .i64 xo, .int .i64 xu, .string xl, .string xs, .string sx, .bool xa, .int .i64 xc], .int .i64 er]) (results_row_tmp Tryd.results27 _ _ (w.heap.size + 1) 29 _ (0, 0) _ _ rfl rfl (setRow_heap _ _ _ _ _ _ (heapA K1.out)) Tryd.underlying29 rfl (by kernel_rfl)) rfl ⟨rfl, below_setRow (G3.out.alloc G3.out.size _) (by omega) _⟩
  · have h : stE d ep bs = 150 := wrE_150 he
    have hd : stD d ep bs = d := by unfold stD; rw [h]; rfl
    rw [h, hd]
    have he' : (ep != d.e) = true := by simpa using he
    clear he h hd KD
    simp only [rv]
    generalize d.e = de at *
    generalize d.o = do_ at *
    generalize d.u = du at *
    generalize d.cut = dc at *
    generalize d.armed = da at *
    generalize d.room = room at *
    generalize str d.log = sl at *
    generalize str d.snap = ss at *
    generalize str d.stg = st at *
    go_enter Tryd.func27, Tryd.ntmps27
    go_wp2_with fail
    all_goals go_returns
    all_goals exact ⟨rfl, by go_grown⟩
end Go.Proofs.YtbpgeghenninnaaDoor
