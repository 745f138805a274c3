/- The document's disk, by values: Append. Condition: the bytes stand in memory. -/
import Derived.Test.YtbpgeghenninnaaDoorRef2
namespace Go.Proofs.YtbpgeghenninnaaDoor
open Go Go.RowKit
theorem ap_150 {d : Dsk} {ep at_ : Int} {bs : List UInt8} (h : ep ≠ d.e) : apE d ep at_ bs = 150 ∧ apN d ep at_ bs = 0 ∧ apD d ep at_ bs = d := by
  have h1 : apE d ep at_ bs = 150 := wrE_150 h
  exact ⟨h1, by unfold apN; rw [h1]; rfl, ap_no (by rw [h1]; decide) (by rw [h1]; decide)⟩
theorem ap_151 {d : Dsk} {ep at_ : Int} {bs : List UInt8} (h : ep = d.e) (h2 : at_ ≠ d.log.length) : apE d ep at_ bs = 151 ∧ apN d ep at_ bs = 0 ∧ apD d ep at_ bs = d := by
  have hb : (at_ == (d.log.length : Int)) = false := by simpa using h2
  have h1 : apE d ep at_ bs = 151 := by unfold apE; rw [hb]; exact wrE_151 h
  exact ⟨h1, by unfold apN; rw [h1]; rfl, ap_no (by rw [h1]; decide) (by rw [h1]; decide)⟩
theorem ap_three (d : Dsk) (x : List UInt8) (ep at_ : Int) (he : ep = d.e) (ha : at_ = d.log.length) : (d.room - d.log.length < (x.length : Int) ∧ apE d ep at_ x = 153 ∧ apN d ep at_ x = 0 ∧ apD d ep at_ x = d) ∨
    (¬ d.room - d.log.length < (x.length : Int) ∧ d.armed = true ∧ apE d ep at_ x = 152 ∧ apN d ep at_ x = 0 ∧ apD d ep at_ x = { d with armed := false, log := d.log ++ x.take (cutN d.cut x.length) }) ∨
    (¬ d.room - d.log.length < (x.length : Int) ∧ d.armed = false ∧ apE d ep at_ x = 0 ∧ apN d ep at_ x = (d.log.length : Int) + x.length ∧ apD d ep at_ x = { d with log := d.log ++ x }) := by
  have hb : (at_ == (d.log.length : Int)) = true := by simpa using ha
  have e0 : apE d ep at_ x = wrE d ep d.log.length true x.length := by unfold apE; rw [hb]
  have eD : apD d ep at_ x = { wrD d ep d.log.length true x.length with log := d.log ++ wrB d ep d.log.length true x } := by unfold apD; rw [hb]
  by_cases h1 : d.room - d.log.length < (x.length : Int)
  · have h := wrE_153 (used := (d.log.length : Int)) he h1
    have h2 : apE d ep at_ x = 153 := by rw [e0, h]
    exact .inl ⟨h1, h2, by unfold apN; rw [h2]; rfl, ap_no (by rw [h2]; decide) (by rw [h2]; decide)⟩
  · by_cases h3 : d.armed = true
    · have h := wrE_152 (used := (d.log.length : Int)) he h1 h3
      obtain ⟨k1, k2⟩ := wr_cut (bs := x) h
      exact .inr (.inl ⟨h1, h3, by rw [e0, h], by unfold apN; rw [e0, h]; rfl, by rw [eD, k1, k2]⟩)
    · have h := wrE_0 (used := (d.log.length : Int)) he h1 (by simpa using h3)
      obtain ⟨k1, k2⟩ := wr_ok (bs := x) h
      exact .inr (.inr ⟨h1, by simpa using h3, by rw [e0, h], by unfold apN; rw [e0, h]; rfl, by rw [eD, k1, k2]⟩)
set_option maxHeartbeats 4000000 in
theorem rappend_any (d : Dsk) (ep at_ : Int) (A : Option Addr) (cap : Nat) (bs : List UInt8) (w : World) (hb : Bts w A bs) (hcap : bs.length ≤ cap) (hn : NilOk A cap bs) (hlen : bs.length ≤ 1048576) (hl : d.log.length ≤ 1048576) (hr1 : d.room ≤ 1048576) :
    Calls Tryd.prog 25 #[.agg (rv d), .int .i64 ep, .int .i64 at_, .slice A bs.length cap] w fun e w' => e = .returned (.tuple #[.agg (rv (apD d ep at_ bs)), .int .i64 (apN d ep at_ bs), .int .i64 (apE d ep at_ bs)]) ∧ Below w.heap.size w w' := by
  have hl63 : (bs.length : Int) ≤ 1048576 := by omega
  have hls : (str d.log).size = d.log.length := str_size _
  have hll : (d.log.length : Int) ≤ 1048576 := by omega
  have KD := hid (fun (w' : World) (hg : Below w.heap.size w w') => rdone_any d A cap bs w' (hb.keep hg) hcap hn (by omega))
  have h3 := ap_three d bs ep at_
  have h150 := ap_150 (d := d) (ep := ep) (at_ := at_) (bs := bs)
  have h151 := ap_151 (d := d) (ep := ep) (at_ := at_) (bs := bs)
  clear hb hn
  by_cases he : ep = d.e
  · by_cases ha : at_ = (d.log.length : Int)
    · rcases h3 he ha with ⟨h4, q1, q2, q3⟩ | ⟨h4, h5, q1, q2, q3⟩ | ⟨h4, h5, q1, q2, q3⟩
      · rw [q1, q2, q3]
        clear h3 h150 h151 q1 q2 q3 KD
        simp only [rv]
        subst ha he
        generalize d.e = de at *
        generalize d.o = do_ at *
        generalize d.u = du at *
        generalize d.cut = dc at *
        generalize d.armed = da at *
        generalize d.room = room at *
        rw [← hls] at hll h4 ⊢
        clear hls hl
        generalize str d.log = sl at *
        generalize str d.snap = ss at *
        generalize str d.stg = st at *
        have hsl : sl.size ≤ 1048576 := by omega
        have h6 : ¬ (sl.size : Int) + (bs.length : Int) ≤ room := by omega
        go_enter Tryd.func25, Tryd.ntmps25
        go_wp2_with fail
        all_goals go_returns
        all_goals exact ⟨rfl, by go_grown⟩
      · rw [q1, q2, q3]
        clear h3 h150 h151 q1 q2 q3
        subst ha he
        have hD : rdD d = { d with armed := false } := by unfold rdD; rw [h5]; rfl
        have hB : rdB d bs = bs.take (cutN d.cut bs.length) := by unfold rdB; rw [h5]; rfl
        have hE : rdE d = 152 := by unfold rdE; rw [h5]; rfl
        rw [hD, hB, hE] at KD
        obtain ⟨xs, hxs⟩ : ∃ xs, xs = bs.take (cutN d.cut bs.length) := ⟨_, rfl⟩
        rw [← hxs] at KD ⊢
        have hadd : str d.log ++ str xs = str (d.log ++ xs) := str_add _ _
        have hxl : xs.length ≤ bs.length := by rw [hxs]; simp [List.length_take]; omega
        have hxz : (str xs).size = xs.length := str_size _
        have hyz : (str (d.log ++ xs)).size = d.log.length + xs.length := by rw [str_size, List.length_append]
        have hxe : True := trivial
        clear hD hB hE hxs
        simp only [rv] at KD ⊢
        generalize d.e = de at *
        generalize d.o = do_ at *
        generalize d.u = du at *
        generalize d.cut = dc at *
        generalize d.armed = da at *
        subst h5
        generalize d.room = room at *
        rw [← hls] at hll h4 hyz ⊢
        clear hl
        generalize str (d.log ++ xs) = sy at *
        generalize str xs = sx at *
        generalize str d.log = sl at *
        generalize str d.snap = ss at *
        generalize str d.stg = st at *
        have hsl : sl.size ≤ 1048576 := by omega
        have hxx : sx.size ≤ 1048576 := by omega
        have h6 : ¬ room < (sl.size : Int) + (bs.length : Int) := by omega
        clear hls hyz hxz hxe hxl
        go_enter Tryd.func25, Tryd.ntmps25
        go_wp2_with fail
        refine (KD.out _ (by go_grown)).mono ?_
        rintro _ w3 ⟨rfl, hb3⟩
        have G3 := hid (show Below w.heap.size w w3 from below_step (by go_grown) (by go_size) hb3)
        obtain ⟨k0, k1⟩ : w3.heap[w.heap.size]? = some (.cells #[.int .i64 room, .int .i64 de, .int .i64 do_, .int .i64 du, .string sl, .string ss, .string st, .bool true, .int .i64 dc] 29 (0, 0)) ∧ w3.heap[w.heap.size + 1]? = some (.cells #[.int .i64 0, .int .i64 0, .int .i64 0, .int .i64 0, .string ⟨#[]⟩, .string ⟨#[]⟩, .string ⟨#[]⟩, .bool false, .int .i64 0] 29 (0, 0)) := ⟨keep0 hb3 (heapA (heap_new _ _)), keep0 hb3 heapN2⟩
        have K1 := hid k1
        have hlt1 := lt_of k1
        clear hb3 KD k0 k1
        go_wp2_with (refine wpList_store_row rfl 29 _ _ rfl (w.heap.size + 1) #[.int .i64 room, .int .i64 de, .int .i64 do_, .int .i64 du, .string sy, .string ss, .string st, .bool false, .int .i64 dc] rfl rfl 29 _ (heapA K1.out) (by kernel_rfl) rfl (by kernel_rfl) ?_)
        exact bodyPost_ret (v := .tuple #[.agg #[.int .i64 room, .int .i64 de, .int .i64 do_, .int .i64 du, .string sy, .string ss, .string st, .bool false, .int .i64 dc], .int .i64 0, .int .i64 152]) (results_row_two Tryd.results25 _ _ (w.heap.size + 1) 29 _ (0, 0) _ _ _ rfl rfl rfl (setRow_heap _ _ _ _ _ _ (heapA K1.out)) Tryd.underlying29 rfl (by kernel_rfl)) rfl ⟨rfl, below_setRow (G3.out.alloc G3.out.size _) (by omega) _⟩
      · rw [q1, q2, q3]
        clear h3 h150 h151 q1 q2 q3
        subst ha he
        have hD : rdD d = d := by unfold rdD; rw [h5]; rfl
        have hB : rdB d bs = bs := by unfold rdB; rw [h5]; rfl
        have hE : rdE d = 0 := by unfold rdE; rw [h5]; rfl
        rw [hD, hB, hE] at KD
        have hadd : str d.log ++ str bs = str (d.log ++ bs) := str_add _ _
        have hxz : (str bs).size = bs.length := str_size _
        have hyz : (str (d.log ++ bs)).size = d.log.length + bs.length := by rw [str_size, List.length_append]
        clear hD hB hE
        simp only [rv] at KD ⊢
        generalize d.e = de at *
        generalize d.o = do_ at *
        generalize d.u = du at *
        generalize d.cut = dc at *
        generalize d.armed = da at *
        subst h5
        generalize d.room = room at *
        rw [← hls] at hll h4 hyz ⊢
        clear hl
        generalize str (d.log ++ bs) = sy at *
        generalize str bs = sx at *
        generalize str d.log = sl at *
        generalize str d.snap = ss at *
        generalize str d.stg = st at *
        have hsl : sl.size ≤ 1048576 := by omega
        have hxx : sx.size ≤ 1048576 := by omega
        have h6 : ¬ room < (sl.size : Int) + (bs.length : Int) := by omega
        have hyz' : (sy.size : Int) = (sl.size : Int) + (bs.length : Int) := by rw [hyz]; simp
        rw [← hyz']
        have hsyb : sy.size ≤ 2097152 := by omega
        have HYZ := hid hyz'
        clear hls hyz hxz hyz'
        go_enter Tryd.func25, Tryd.ntmps25
        go_wp2_with fail
        refine (KD.out _ (by go_grown)).mono ?_
        rintro _ w3 ⟨rfl, hb3⟩
        have G3 := hid (show Below w.heap.size w w3 from below_step (by go_grown) (by go_size) hb3)
        obtain ⟨k0, k1⟩ : w3.heap[w.heap.size]? = some (.cells #[.int .i64 room, .int .i64 de, .int .i64 do_, .int .i64 du, .string sl, .string ss, .string st, .bool false, .int .i64 dc] 29 (0, 0)) ∧ w3.heap[w.heap.size + 1]? = some (.cells #[.int .i64 0, .int .i64 0, .int .i64 0, .int .i64 0, .string ⟨#[]⟩, .string ⟨#[]⟩, .string ⟨#[]⟩, .bool false, .int .i64 0] 29 (0, 0)) := ⟨keep0 hb3 (heapA (heap_new _ _)), keep0 hb3 heapN2⟩
        have K1 := hid k1
        have hlt1 := lt_of k1
        clear hb3 KD k0 k1
        obtain ⟨wz, hwz⟩ : ∃ wz, wz = w3.alloc (.cells #[.int .i64 room, .int .i64 de, .int .i64 do_, .int .i64 du, .string sy, .string ss, .string st, .bool false, .int .i64 dc] 29) := ⟨_, rfl⟩
        go_wp2_with fail
        rw [← hwz]
        have Z1 := hid (show wz.heap[w.heap.size + 1]? = some (.cells #[.int .i64 0, .int .i64 0, .int .i64 0, .int .i64 0, .string ⟨#[]⟩, .string ⟨#[]⟩, .string ⟨#[]⟩, .bool false, .int .i64 0] 29 (0, 0)) from by rw [hwz]; exact heapA K1.out)
        have Z3 := hid (show wz.heap[w3.heap.size]? = some (.cells #[.int .i64 room, .int .i64 de, .int .i64 do_, .int .i64 du, .string sy, .string ss, .string st, .bool false, .int .i64 dc] 29 (0, 0)) from by rw [hwz]; first | done | exact heap_new _ _)
        have GZ := hid (show Below w.heap.size w wz from by rw [hwz]; exact G3.out.alloc G3.out.size _)
        obtain ⟨⟨z0, z1, z2, z3, z4, z5, z6, z7, z8⟩, q0, q1, q2, q3, q4, q5, q6, q7, q8⟩ := nine Z1.out
        obtain ⟨⟨y0, y1, y2, y3, y4, y5, y6, y7, y8⟩, _⟩ := nine Z3.out
        clear hwz
        obtain ⟨wx, hwx⟩ : ∃ wx, wx = (((((((((wz.setCell ⟨w.heap.size + 1, 0, none⟩ (.int .i64 room)).setCell ⟨w.heap.size + 1, 1, none⟩ (.int .i64 de)).setCell ⟨w.heap.size + 1, 2, none⟩ (.int .i64 do_)).setCell ⟨w.heap.size + 1, 3, none⟩ (.int .i64 du)).setCell ⟨w.heap.size + 1, 4, none⟩ (.string sy)).setCell ⟨w.heap.size + 1, 5, none⟩ (.string ss)).setCell ⟨w.heap.size + 1, 6, none⟩ (.string st)).setCell ⟨w.heap.size + 1, 7, none⟩ (.bool false)).setCell ⟨w.heap.size + 1, 8, none⟩ (.int .i64 dc)) := ⟨_, rfl⟩
        have N1 := hid (nine_set (.int .i64 room) (.int .i64 de) (.int .i64 do_) (.int .i64 du) (.string sy) (.string ss) (.string st) (.bool false) (.int .i64 dc) Z1.out)
        have N2 := hid (nine_below (.int .i64 room) (.int .i64 de) (.int .i64 do_) (.int .i64 du) (.string sy) (.string ss) (.string st) (.bool false) (.int .i64 dc) GZ.out (show w.heap.size ≤ w.heap.size + 1 by omega))
        rw [← hwx] at N1 N2
        have N3 := hid (show (World.drew wx).heap[w.heap.size + 1]? = _ from N1.out)
        have HWX := hid hwx
        clear hwx N1
        go_region
        go_wp2_with fail
        rw [← HWX.out]
        exact bodyPost_ret (v := .tuple #[.agg #[.int .i64 room, .int .i64 de, .int .i64 do_, .int .i64 du, .string sy, .string ss, .string st, .bool false, .int .i64 dc], .int .i64 sy.size, .int .i64 0]) (results_row_two Tryd.results25 _ _ (w.heap.size + 1) 29 _ (0, 0) _ _ _ rfl rfl rfl N3.out Tryd.underlying29 rfl (by kernel_rfl)) rfl ⟨rfl, N2.out.drew⟩
    · obtain ⟨q1, q2, q3⟩ := h151 he ha
      rw [q1, q2, q3]
      clear h3 h150 h151 q1 q2 q3 KD
      simp only [rv]
      have ha' : (at_ != (d.log.length : Int)) = true := by simpa using ha
      subst he
      clear ha
      generalize d.e = de at *
      generalize d.o = do_ at *
      generalize d.u = du at *
      generalize d.cut = dc at *
      generalize d.armed = da at *
      generalize d.room = room at *
      rw [← hls] at hll ha'
      clear hls hl
      generalize str d.log = sl at *
      generalize str d.snap = ss at *
      generalize str d.stg = st at *
      go_enter Tryd.func25, Tryd.ntmps25
      go_wp2_with fail
      all_goals go_returns
      all_goals exact ⟨rfl, by go_grown⟩
  · obtain ⟨q1, q2, q3⟩ := h150 he
    rw [q1, q2, q3]
    clear h3 h150 h151 q1 q2 q3 KD
    simp only [rv]
    have he' : (ep != d.e) = true := by simpa using he
    clear he
    generalize d.e = de at *
    generalize d.o = do_ at *
    generalize d.u = du at *
    generalize d.cut = dc at *
    generalize d.armed = da at *
    generalize d.room = room at *
    clear hls hll hl
    generalize str d.log = sl at *
    generalize str d.snap = ss at *
    generalize str d.stg = st at *
    go_enter Tryd.func25, Tryd.ntmps25
    go_wp2_with fail
    all_goals go_returns
    all_goals exact ⟨rfl, by go_grown⟩
end Go.Proofs.YtbpgeghenninnaaDoor
