/- The law's act over both disks: they answer the same, and are the same behind it. Conditions: the disk and the table of half bytes stand in memory. -/
import Derived.Test.YtbpgeghenninnaaDoorRef5
import Derived.Test.YtbpgeghenninnaaDoorOpen
import Derived.Deep.Cut
namespace Go.Proofs.YtbpgeghenninnaaDoor
open Go Go.RowKit
theorem Tab.below {w w' : World} {B : Nat} (h : Tab w) (hb : Below B w w') (hB : 0 < B) : Tab w' := by
  obtain ⟨T, fr, h⟩ := h
  exact ⟨T, fr, by rw [hb.block 0 hB, h]⟩
theorem DK.row {w : World} {B db r : Nat} {d : Dsk} {c : Array Value} {T : TypeId} {fr : Nat × Nat} (h : DK w B db d) (hr : w.heap[r]? = some (.cells c T fr)) (hT : T ≠ 5) (hdb : r ≠ db) (cs : Array Value) : DK (w.setRow r cs) B db d := by
  have keepO : ∀ {v : Value} {x : List UInt8}, Own w B v x → Own (w.setRow r cs) B v x := by
    intro v x hv
    obtain ⟨hl0, h0 | ⟨g, cap, cur, rfl, hB, hh, q⟩⟩ := hv
    · exact ⟨hl0, .inl h0⟩
    · refine ⟨hl0, .inr ⟨g, cap, cur, rfl, hB, ?_, q⟩⟩
      rw [setRow_other w r g cs (fun e => ?_), hh]
      subst e
      rw [hh] at hr
      cases hr
      exact hT rfl
  obtain ⟨lv, sv, tv, h⟩ := h
  exact ⟨lv, sv, tv, ⟨by rw [setRow_other w r db cs (by omega), h.h], keepO h.l, keepO h.s, keepO h.t, h.a, h.g⟩⟩
theorem Fr.row {B db r : Nat} {w w1 : World} (h : Fr B db w w1) (hB : B ≤ r) (hr : w.heap.size ≤ r) (cs : Array Value) : Fr B db w (w1.setRow r cs) :=
  ⟨below_setRow h.1 hB cs, fun k o hk hn ho => by rw [setRow_other w1 r k cs (by have := lt_of hk; omega)]; exact h.2 k o hk hn ho⟩
theorem twelve {w : World} {B : Nat} {a0 a1 a2 a3 a4 a5 a6 a7 a8 a9 a10 a11 : Value} {T : TypeId} (h : w.heap[B]? = some (.cells #[a0, a1, a2, a3, a4, a5, a6, a7, a8, a9, a10, a11] T (0, 0))) :
    w.cell? ⟨B, 0, none⟩ = some a0 ∧ w.cell? ⟨B, 1, none⟩ = some a1 ∧ w.cell? ⟨B, 2, none⟩ = some a2 ∧ w.cell? ⟨B, 3, none⟩ = some a3 ∧ w.cell? ⟨B, 4, none⟩ = some a4 ∧ w.cell? ⟨B, 5, none⟩ = some a5 ∧ w.cell? ⟨B, 6, none⟩ = some a6 ∧ w.cell? ⟨B, 7, none⟩ = some a7 ∧ w.cell? ⟨B, 8, none⟩ = some a8 ∧ w.cell? ⟨B, 9, none⟩ = some a9 ∧ w.cell? ⟨B, 10, none⟩ = some a10 ∧ w.cell? ⟨B, 11, none⟩ = some a11 := by
  refine ⟨?_, ?_, ?_, ?_, ?_, ?_, ?_, ?_, ?_, ?_, ?_, ?_⟩ <;> (rw [cell_of h]; rfl)
theorem heapN3 {w : World} {o1 o2 o3 : Obj} : (((w.alloc o1).alloc o2).alloc o3).heap[w.heap.size + 2]? = some o3 := by
  have := heap_new ((w.alloc o1).alloc o2) o3
  simpa using this
set_option maxRecDepth 10000 in
set_option maxHeartbeats 8000000 in
theorem done_any (B db : Nat) (d : Dsk) (a : ActS) (w : World) (hd0 : DK w B db d) (hB : B ≤ db) (h0B : 0 < B) (hT : Tab w) (hS : ∀ w', Below B w w' → Sl w' a.bA a.bc a.bs) (hNE : a.bs = [] ∨ ∀ x, a.bA = some x → x.block ≠ db) (hlen : a.bs.length ≤ 2000) :
    Calls Tryd.prog 11 #[.pointer (some ⟨db, 0, none⟩), .agg (rv d), .agg a.cells.toArray] w fun e w' => ∃ d2, e = .returned (.tuple #[.agg (rv d2), .bool true]) ∧ DK w' B db d2 ∧ Fr B db w w' := by
  obtain ⟨kind, near, ep, at_, bA, bc, bs, sum, ⟨o0, o1, o2⟩, ⟨n0, n1, n2⟩⟩ := a
  simp only [ActS.cells] at *
  have HS := hid hS
  have HNE := hid hNE
  have HT := hid hT
  have HD := hid hd0
  have hgood := hd0.good
  have hgl := hgood.l
  have hgt := hgood.t
  have hr1 := hgood.r1
  have hlt := hd0.lt
  have hls : (str d.log).size = d.log.length := str_size _
  clear hS hNE hT hd0 hgood
  cases near with
  | false =>
    simp only [rv]
    obtain ⟨w4, hw4⟩ : ∃ w4, w4 = ((w.alloc (.cells #[.int .i64 d.room, .int .i64 d.e, .int .i64 d.o, .int .i64 d.u, .string (str d.log), .string (str d.snap), .string (str d.stg), .bool d.armed, .int .i64 d.cut] 29)).alloc (.cells #[.int .i64 kind, .bool false, .int .i64 ep, .int .i64 at_, .slice bA bs.length bc, .int .u32 sum, .int .i64 o0, .int .i64 o1, .int .i64 o2, .int .i64 n0, .int .i64 n1, .int .i64 n2] 35)).alloc (.cells #[.int .i64 0, .int .i64 0, .int .i64 0, .int .i64 0, .string ⟨#[]⟩, .string ⟨#[]⟩, .string ⟨#[]⟩, .bool false, .int .i64 0] 29) := ⟨_, rfl⟩
    have hb4 : Below w.heap.size w w4 := by rw [hw4]; go_grown
    have K0 := hid (show w4.heap[w.heap.size]? = some (.cells #[.int .i64 d.room, .int .i64 d.e, .int .i64 d.o, .int .i64 d.u, .string (str d.log), .string (str d.snap), .string (str d.stg), .bool d.armed, .int .i64 d.cut] 29 (0, 0)) from by rw [hw4]; exact heapA (heapA (heap_new _ _)))
    have K1 := hid (show w4.heap[w.heap.size + 1]? = some (.cells #[.int .i64 kind, .bool false, .int .i64 ep, .int .i64 at_, .slice bA bs.length bc, .int .u32 sum, .int .i64 o0, .int .i64 o1, .int .i64 o2, .int .i64 n0, .int .i64 n1, .int .i64 n2] 35 (0, 0)) from by rw [hw4]; exact heapA heapN2)
    have K2 := hid (show w4.heap[w.heap.size + 2]? = some (.cells #[.int .i64 0, .int .i64 0, .int .i64 0, .int .i64 0, .string ⟨#[]⟩, .string ⟨#[]⟩, .string ⟨#[]⟩, .bool false, .int .i64 0] 29 (0, 0)) from by rw [hw4]; exact heapN3)
    have HD4 := hid (HD.out.keep hb4)
    have HF4 := hid (Fr.of hb4 (by omega) : Fr B db w w4)
    have HW4 := hid hw4
    have mk0 : w4.cell? ⟨w.heap.size + 1, 0, none⟩ = some (.int .i64 kind) := by rw [cell_of K1.out]; rfl
    clear hw4 hb4 hls
    go_enter Tryd.func11, Tryd.ntmps11
    go_upto_region 6 with (fail)
    rw [← HW4.out]
    by_cases h0 : bits .and .i64 kind 7 = 0
    · have hq0 : (bits .and .i64 kind 7 == 0) = true := by simpa using h0
      clear h0
      obtain ⟨m0, m1, m2, m3, m4, m5, m6, m7, m8, m9, m10, m11⟩ := twelve K1.out
      have KA := hid (swap_any B db d (o0, o1, o2) (n0, n1, n2) w4 HD4.out hB)
      have KR := hid (fun (w5 : World) (h5 : Below B w w5) => rswap_any d (o0, o1, o2) (n0, n1, n2) w5)
      obtain ⟨d2, hd2⟩ : ∃ d2, d2 = swD d (o0, o1, o2) (n0, n1, n2) := ⟨_, rfl⟩
      rw [← hd2] at KA KR
      simp only [rv] at KA KR
      simp only [cl] at KA KR
      clear hd2
      go_wp2_with fail
      with_reducible refine KA.out.mono ?_
      rintro _ w5 ⟨rfl, hd, hf⟩
      have HD5 := hid hd
      have HF5 := hid (HF4.out.trans hf)
      have J0 := hid (hf.2 _ _ K0.out (by omega) (fun cs e => by cases e))
      have J1 := hid (hf.2 _ _ K1.out (by omega) (fun cs e => by cases e))
      have J2 := hid (hf.2 _ _ K2.out (by omega) (fun cs e => by cases e))
      have JL := lt_of J2.out
      clear hd hf m0 m1 m2 m3 m4 m5 m6 m7 m8 m9 m10 m11 KA
      obtain ⟨⟨z0, z1, z2, z3, z4, z5, z6, z7, z8⟩, _⟩ := nine J0.out
      obtain ⟨m0, m1, m2, m3, m4, m5, m6, m7, m8, m9, m10, m11⟩ := twelve J1.out
      go_wp2_with fail
      have H51 := HF5.out.1
      with_reducible refine (KR.out _ H51).mono ?_
      clear H51
      rintro _ w6 ⟨rfl, hb⟩
      have HD6 := hid (HD5.out.keep hb)
      have HF6 := hid (HF5.out.trans (Fr.of hb (by omega)))
      have L2 := hid (keep0 hb J2.out)
      have JL6 := lt_of L2.out
      clear hb m0 m1 m2 m3 m4 m5 m6 m7 m8 m9 m10 m11 z0 z1 z2 z3 z4 z5 z6 z7 z8 KR
      have HD7 := hid (HD6.out.keep (show Below w6.heap.size w6 (w6.alloc (.cells #[.int .i64 d2.room, .int .i64 d2.e, .int .i64 d2.o, .int .i64 d2.u, .string (str d2.log), .string (str d2.snap), .string (str d2.stg), .bool d2.armed, .int .i64 d2.cut] 29)) from by go_grown))
      have HF7 := hid (HF6.out.trans (Fr.of (show Below w6.heap.size w6 (w6.alloc (.cells #[.int .i64 d2.room, .int .i64 d2.e, .int .i64 d2.o, .int .i64 d2.u, .string (str d2.log), .string (str d2.snap), .string (str d2.stg), .bool d2.armed, .int .i64 d2.cut] 29)) from by go_grown) (by omega)))
      go_wp2_with (refine wpList_store_row rfl 29 _ _ rfl (w.heap.size + 2) #[.int .i64 d2.room, .int .i64 d2.e, .int .i64 d2.o, .int .i64 d2.u, .string (str d2.log), .string (str d2.snap), .string (str d2.stg), .bool d2.armed, .int .i64 d2.cut] rfl rfl 29 _ (heapA L2.out) (by kernel_rfl) rfl (by kernel_rfl) ?_)
      exact bodyPost_ret (v := .tuple #[.agg #[.int .i64 d2.room, .int .i64 d2.e, .int .i64 d2.o, .int .i64 d2.u, .string (str d2.log), .string (str d2.snap), .string (str d2.stg), .bool d2.armed, .int .i64 d2.cut], .bool true]) (results_row_tmp Tryd.results11 _ _ (w.heap.size + 2) 29 _ (0, 0) _ _ rfl (by first | rfl | simp) (setRow_heap _ _ _ _ _ _ (heapA L2.out)) Tryd.underlying29 rfl (by kernel_rfl)) rfl ⟨d2, rfl, HD7.out.row (heapA L2.out) (by decide) (by omega) _, HF7.out.row (by omega) (by omega) _⟩
    · have hq0 : (bits .and .i64 kind 7 == 0) = false := by simpa using h0
      clear h0
      by_cases h1 : bits .and .i64 kind 7 = 1
      · have hq1 : (bits .and .i64 kind 7 == 1) = true := by simpa using h1
        clear h1
        obtain ⟨m0, m1, m2, m3, m4, m5, m6, m7, m8, m9, m10, m11⟩ := twelve K1.out
        have KA := hid (swap_any B db d (o0, o1, o2) (n0, n1, n2) w4 HD4.out hB)
        have KR := hid (fun (w5 : World) (h5 : Below B w w5) => rswap_any d (o0, o1, o2) (n0, n1, n2) w5)
        obtain ⟨d2, hd2⟩ : ∃ d2, d2 = swD d (o0, o1, o2) (n0, n1, n2) := ⟨_, rfl⟩
        rw [← hd2] at KA KR
        simp only [rv] at KA KR
        simp only [cl] at KA KR
        clear hd2
        go_wp2_with fail
        with_reducible refine KA.out.mono ?_
        rintro _ w5 ⟨rfl, hd, hf⟩
        have HD5 := hid hd
        have HF5 := hid (HF4.out.trans hf)
        have J0 := hid (hf.2 _ _ K0.out (by omega) (fun cs e => by cases e))
        have J1 := hid (hf.2 _ _ K1.out (by omega) (fun cs e => by cases e))
        have J2 := hid (hf.2 _ _ K2.out (by omega) (fun cs e => by cases e))
        have JL := lt_of J2.out
        clear hd hf m0 m1 m2 m3 m4 m5 m6 m7 m8 m9 m10 m11 KA
        obtain ⟨⟨z0, z1, z2, z3, z4, z5, z6, z7, z8⟩, _⟩ := nine J0.out
        obtain ⟨m0, m1, m2, m3, m4, m5, m6, m7, m8, m9, m10, m11⟩ := twelve J1.out
        go_wp2_with fail
        have H51 := HF5.out.1
        with_reducible refine (KR.out _ H51).mono ?_
        clear H51
        rintro _ w6 ⟨rfl, hb⟩
        have HD6 := hid (HD5.out.keep hb)
        have HF6 := hid (HF5.out.trans (Fr.of hb (by omega)))
        have L2 := hid (keep0 hb J2.out)
        have JL6 := lt_of L2.out
        clear hb m0 m1 m2 m3 m4 m5 m6 m7 m8 m9 m10 m11 z0 z1 z2 z3 z4 z5 z6 z7 z8 KR
        have HD7 := hid (HD6.out.keep (show Below w6.heap.size w6 (w6.alloc (.cells #[.int .i64 d2.room, .int .i64 d2.e, .int .i64 d2.o, .int .i64 d2.u, .string (str d2.log), .string (str d2.snap), .string (str d2.stg), .bool d2.armed, .int .i64 d2.cut] 29)) from by go_grown))
        have HF7 := hid (HF6.out.trans (Fr.of (show Below w6.heap.size w6 (w6.alloc (.cells #[.int .i64 d2.room, .int .i64 d2.e, .int .i64 d2.o, .int .i64 d2.u, .string (str d2.log), .string (str d2.snap), .string (str d2.stg), .bool d2.armed, .int .i64 d2.cut] 29)) from by go_grown) (by omega)))
        go_wp2_with (refine wpList_store_row rfl 29 _ _ rfl (w.heap.size + 2) #[.int .i64 d2.room, .int .i64 d2.e, .int .i64 d2.o, .int .i64 d2.u, .string (str d2.log), .string (str d2.snap), .string (str d2.stg), .bool d2.armed, .int .i64 d2.cut] rfl rfl 29 _ (heapA L2.out) (by kernel_rfl) rfl (by kernel_rfl) ?_)
        exact bodyPost_ret (v := .tuple #[.agg #[.int .i64 d2.room, .int .i64 d2.e, .int .i64 d2.o, .int .i64 d2.u, .string (str d2.log), .string (str d2.snap), .string (str d2.stg), .bool d2.armed, .int .i64 d2.cut], .bool true]) (results_row_tmp Tryd.results11 _ _ (w.heap.size + 2) 29 _ (0, 0) _ _ rfl (by first | rfl | simp) (setRow_heap _ _ _ _ _ _ (heapA L2.out)) Tryd.underlying29 rfl (by kernel_rfl)) rfl ⟨d2, rfl, HD7.out.row (heapA L2.out) (by decide) (by omega) _, HF7.out.row (by omega) (by omega) _⟩
      · have hq1 : (bits .and .i64 kind 7 == 1) = false := by simpa using h1
        clear h1
        by_cases h2 : bits .and .i64 kind 7 = 2
        · have hq2 : (bits .and .i64 kind 7 == 2) = true := by simpa using h2
          clear h2
          obtain ⟨m0, m1, m2, m3, m4, m5, m6, m7, m8, m9, m10, m11⟩ := twelve K1.out
          have KA := hid (append_any B db d ep at_ bA bc bs w4 HD4.out hB (HS.out w4 HF4.out.1).1 (HS.out w4 HF4.out.1).2.1 (HS.out w4 HF4.out.1).2.2.2 HNE.out (by omega))
          have KR := hid (fun (w5 : World) (h5 : Below B w w5) => rappend_any d ep at_ bA bc bs w5 (HS.out w5 h5).1 (HS.out w5 h5).2.1 (HS.out w5 h5).2.2.2 (by omega) hgl hr1)
          obtain ⟨d2, hd2⟩ : ∃ d2, d2 = apD d ep at_ bs := ⟨_, rfl⟩
          rw [← hd2] at KA KR
          simp only [rv] at KA KR
          clear hd2
          go_wp2_with fail
          with_reducible refine KA.out.mono ?_
          rintro _ w5 ⟨rfl, hd, hf⟩
          have HD5 := hid hd
          have HF5 := hid (HF4.out.trans hf)
          have J0 := hid (hf.2 _ _ K0.out (by omega) (fun cs e => by cases e))
          have J1 := hid (hf.2 _ _ K1.out (by omega) (fun cs e => by cases e))
          have J2 := hid (hf.2 _ _ K2.out (by omega) (fun cs e => by cases e))
          have JL := lt_of J2.out
          clear hd hf m0 m1 m2 m3 m4 m5 m6 m7 m8 m9 m10 m11 KA
          obtain ⟨⟨z0, z1, z2, z3, z4, z5, z6, z7, z8⟩, _⟩ := nine J0.out
          obtain ⟨m0, m1, m2, m3, m4, m5, m6, m7, m8, m9, m10, m11⟩ := twelve J1.out
          go_wp2_with fail
          have H51 := HF5.out.1
          with_reducible refine (KR.out _ H51).mono ?_
          clear H51
          rintro _ w6 ⟨rfl, hb⟩
          have HD6 := hid (HD5.out.keep hb)
          have HF6 := hid (HF5.out.trans (Fr.of hb (by omega)))
          have L2 := hid (keep0 hb J2.out)
          have JL6 := lt_of L2.out
          clear hb m0 m1 m2 m3 m4 m5 m6 m7 m8 m9 m10 m11 z0 z1 z2 z3 z4 z5 z6 z7 z8 KR
          have HD7 := hid (HD6.out.keep (show Below w6.heap.size w6 (w6.alloc (.cells #[.int .i64 d2.room, .int .i64 d2.e, .int .i64 d2.o, .int .i64 d2.u, .string (str d2.log), .string (str d2.snap), .string (str d2.stg), .bool d2.armed, .int .i64 d2.cut] 29)) from by go_grown))
          have HF7 := hid (HF6.out.trans (Fr.of (show Below w6.heap.size w6 (w6.alloc (.cells #[.int .i64 d2.room, .int .i64 d2.e, .int .i64 d2.o, .int .i64 d2.u, .string (str d2.log), .string (str d2.snap), .string (str d2.stg), .bool d2.armed, .int .i64 d2.cut] 29)) from by go_grown) (by omega)))
          go_wp2_with (refine wpList_store_row rfl 29 _ _ rfl (w.heap.size + 2) #[.int .i64 d2.room, .int .i64 d2.e, .int .i64 d2.o, .int .i64 d2.u, .string (str d2.log), .string (str d2.snap), .string (str d2.stg), .bool d2.armed, .int .i64 d2.cut] rfl rfl 29 _ (heapA L2.out) (by kernel_rfl) rfl (by kernel_rfl) ?_)
          exact bodyPost_ret (v := .tuple #[.agg #[.int .i64 d2.room, .int .i64 d2.e, .int .i64 d2.o, .int .i64 d2.u, .string (str d2.log), .string (str d2.snap), .string (str d2.stg), .bool d2.armed, .int .i64 d2.cut], .bool true]) (results_row_tmp Tryd.results11 _ _ (w.heap.size + 2) 29 _ (0, 0) _ _ rfl (by first | rfl | simp) (setRow_heap _ _ _ _ _ _ (heapA L2.out)) Tryd.underlying29 rfl (by kernel_rfl)) rfl ⟨d2, rfl, HD7.out.row (heapA L2.out) (by decide) (by omega) _, HF7.out.row (by omega) (by omega) _⟩
        · have hq2 : (bits .and .i64 kind 7 == 2) = false := by simpa using h2
          clear h2
          by_cases h3 : bits .and .i64 kind 7 = 3
          · have hq3 : (bits .and .i64 kind 7 == 3) = true := by simpa using h3
            clear h3
            obtain ⟨m0, m1, m2, m3, m4, m5, m6, m7, m8, m9, m10, m11⟩ := twelve K1.out
            have KA := hid (append_any B db d ep at_ bA bc bs w4 HD4.out hB (HS.out w4 HF4.out.1).1 (HS.out w4 HF4.out.1).2.1 (HS.out w4 HF4.out.1).2.2.2 HNE.out (by omega))
            have KR := hid (fun (w5 : World) (h5 : Below B w w5) => rappend_any d ep at_ bA bc bs w5 (HS.out w5 h5).1 (HS.out w5 h5).2.1 (HS.out w5 h5).2.2.2 (by omega) hgl hr1)
            obtain ⟨d2, hd2⟩ : ∃ d2, d2 = apD d ep at_ bs := ⟨_, rfl⟩
            rw [← hd2] at KA KR
            simp only [rv] at KA KR
            clear hd2
            go_wp2_with fail
            with_reducible refine KA.out.mono ?_
            rintro _ w5 ⟨rfl, hd, hf⟩
            have HD5 := hid hd
            have HF5 := hid (HF4.out.trans hf)
            have J0 := hid (hf.2 _ _ K0.out (by omega) (fun cs e => by cases e))
            have J1 := hid (hf.2 _ _ K1.out (by omega) (fun cs e => by cases e))
            have J2 := hid (hf.2 _ _ K2.out (by omega) (fun cs e => by cases e))
            have JL := lt_of J2.out
            clear hd hf m0 m1 m2 m3 m4 m5 m6 m7 m8 m9 m10 m11 KA
            obtain ⟨⟨z0, z1, z2, z3, z4, z5, z6, z7, z8⟩, _⟩ := nine J0.out
            obtain ⟨m0, m1, m2, m3, m4, m5, m6, m7, m8, m9, m10, m11⟩ := twelve J1.out
            go_wp2_with fail
            have H51 := HF5.out.1
            with_reducible refine (KR.out _ H51).mono ?_
            clear H51
            rintro _ w6 ⟨rfl, hb⟩
            have HD6 := hid (HD5.out.keep hb)
            have HF6 := hid (HF5.out.trans (Fr.of hb (by omega)))
            have L2 := hid (keep0 hb J2.out)
            have JL6 := lt_of L2.out
            clear hb m0 m1 m2 m3 m4 m5 m6 m7 m8 m9 m10 m11 z0 z1 z2 z3 z4 z5 z6 z7 z8 KR
            have HD7 := hid (HD6.out.keep (show Below w6.heap.size w6 (w6.alloc (.cells #[.int .i64 d2.room, .int .i64 d2.e, .int .i64 d2.o, .int .i64 d2.u, .string (str d2.log), .string (str d2.snap), .string (str d2.stg), .bool d2.armed, .int .i64 d2.cut] 29)) from by go_grown))
            have HF7 := hid (HF6.out.trans (Fr.of (show Below w6.heap.size w6 (w6.alloc (.cells #[.int .i64 d2.room, .int .i64 d2.e, .int .i64 d2.o, .int .i64 d2.u, .string (str d2.log), .string (str d2.snap), .string (str d2.stg), .bool d2.armed, .int .i64 d2.cut] 29)) from by go_grown) (by omega)))
            go_wp2_with (refine wpList_store_row rfl 29 _ _ rfl (w.heap.size + 2) #[.int .i64 d2.room, .int .i64 d2.e, .int .i64 d2.o, .int .i64 d2.u, .string (str d2.log), .string (str d2.snap), .string (str d2.stg), .bool d2.armed, .int .i64 d2.cut] rfl rfl 29 _ (heapA L2.out) (by kernel_rfl) rfl (by kernel_rfl) ?_)
            exact bodyPost_ret (v := .tuple #[.agg #[.int .i64 d2.room, .int .i64 d2.e, .int .i64 d2.o, .int .i64 d2.u, .string (str d2.log), .string (str d2.snap), .string (str d2.stg), .bool d2.armed, .int .i64 d2.cut], .bool true]) (results_row_tmp Tryd.results11 _ _ (w.heap.size + 2) 29 _ (0, 0) _ _ rfl (by first | rfl | simp) (setRow_heap _ _ _ _ _ _ (heapA L2.out)) Tryd.underlying29 rfl (by kernel_rfl)) rfl ⟨d2, rfl, HD7.out.row (heapA L2.out) (by decide) (by omega) _, HF7.out.row (by omega) (by omega) _⟩
          · have hq3 : (bits .and .i64 kind 7 == 3) = false := by simpa using h3
            clear h3
            by_cases h4 : bits .and .i64 kind 7 = 4
            · have hq4 : (bits .and .i64 kind 7 == 4) = true := by simpa using h4
              clear h4
              obtain ⟨m0, m1, m2, m3, m4, m5, m6, m7, m8, m9, m10, m11⟩ := twelve K1.out
              have KA := hid (chop_any B db d ep at_ w4 HD4.out hB)
              have KR := hid (fun (w5 : World) (h5 : Below B w w5) => rchop_any d ep at_ w5 hgl)
              obtain ⟨d2, hd2⟩ : ∃ d2, d2 = chD d ep at_ := ⟨_, rfl⟩
              rw [← hd2] at KA KR
              simp only [rv] at KA KR
              clear hd2
              go_wp2_with fail
              with_reducible refine KA.out.mono ?_
              rintro _ w5 ⟨rfl, hd, hf⟩
              have HD5 := hid hd
              have HF5 := hid (HF4.out.trans hf)
              have J0 := hid (hf.2 _ _ K0.out (by omega) (fun cs e => by cases e))
              have J1 := hid (hf.2 _ _ K1.out (by omega) (fun cs e => by cases e))
              have J2 := hid (hf.2 _ _ K2.out (by omega) (fun cs e => by cases e))
              have JL := lt_of J2.out
              clear hd hf m0 m1 m2 m3 m4 m5 m6 m7 m8 m9 m10 m11 KA
              obtain ⟨⟨z0, z1, z2, z3, z4, z5, z6, z7, z8⟩, _⟩ := nine J0.out
              obtain ⟨m0, m1, m2, m3, m4, m5, m6, m7, m8, m9, m10, m11⟩ := twelve J1.out
              go_wp2_with fail
              have H51 := HF5.out.1
              with_reducible refine (KR.out _ H51).mono ?_
              clear H51
              rintro _ w6 ⟨rfl, hb⟩
              have HD6 := hid (HD5.out.keep hb)
              have HF6 := hid (HF5.out.trans (Fr.of hb (by omega)))
              have L2 := hid (keep0 hb J2.out)
              have JL6 := lt_of L2.out
              clear hb m0 m1 m2 m3 m4 m5 m6 m7 m8 m9 m10 m11 z0 z1 z2 z3 z4 z5 z6 z7 z8 KR
              have HD7 := hid (HD6.out.keep (show Below w6.heap.size w6 (w6.alloc (.cells #[.int .i64 d2.room, .int .i64 d2.e, .int .i64 d2.o, .int .i64 d2.u, .string (str d2.log), .string (str d2.snap), .string (str d2.stg), .bool d2.armed, .int .i64 d2.cut] 29)) from by go_grown))
              have HF7 := hid (HF6.out.trans (Fr.of (show Below w6.heap.size w6 (w6.alloc (.cells #[.int .i64 d2.room, .int .i64 d2.e, .int .i64 d2.o, .int .i64 d2.u, .string (str d2.log), .string (str d2.snap), .string (str d2.stg), .bool d2.armed, .int .i64 d2.cut] 29)) from by go_grown) (by omega)))
              go_wp2_with (refine wpList_store_row rfl 29 _ _ rfl (w.heap.size + 2) #[.int .i64 d2.room, .int .i64 d2.e, .int .i64 d2.o, .int .i64 d2.u, .string (str d2.log), .string (str d2.snap), .string (str d2.stg), .bool d2.armed, .int .i64 d2.cut] rfl rfl 29 _ (heapA L2.out) (by kernel_rfl) rfl (by kernel_rfl) ?_)
              exact bodyPost_ret (v := .tuple #[.agg #[.int .i64 d2.room, .int .i64 d2.e, .int .i64 d2.o, .int .i64 d2.u, .string (str d2.log), .string (str d2.snap), .string (str d2.stg), .bool d2.armed, .int .i64 d2.cut], .bool true]) (results_row_tmp Tryd.results11 _ _ (w.heap.size + 2) 29 _ (0, 0) _ _ rfl (by first | rfl | simp) (setRow_heap _ _ _ _ _ _ (heapA L2.out)) Tryd.underlying29 rfl (by kernel_rfl)) rfl ⟨d2, rfl, HD7.out.row (heapA L2.out) (by decide) (by omega) _, HF7.out.row (by omega) (by omega) _⟩
            · have hq4 : (bits .and .i64 kind 7 == 4) = false := by simpa using h4
              clear h4
              by_cases h5 : bits .and .i64 kind 7 = 5
              · have hq5 : (bits .and .i64 kind 7 == 5) = true := by simpa using h5
                clear h5
                obtain ⟨m0, m1, m2, m3, m4, m5, m6, m7, m8, m9, m10, m11⟩ := twelve K1.out
                have KA := hid (stage_any B db d ep bA bc bs w4 HD4.out hB (HS.out w4 HF4.out.1).1 (HS.out w4 HF4.out.1).2.1 (HS.out w4 HF4.out.1).2.2.2 HNE.out (by omega))
                have KR := hid (fun (w5 : World) (h5 : Below B w w5) => rstage_any d ep bA bc bs w5 (HS.out w5 h5).1 (HS.out w5 h5).2.1 (HS.out w5 h5).2.2.2 (by omega))
                obtain ⟨d2, hd2⟩ : ∃ d2, d2 = stD d ep bs := ⟨_, rfl⟩
                rw [← hd2] at KA KR
                simp only [rv] at KA KR
                clear hd2
                go_wp2_with fail
                with_reducible refine KA.out.mono ?_
                rintro _ w5 ⟨rfl, hd, hf⟩
                have HD5 := hid hd
                have HF5 := hid (HF4.out.trans hf)
                have J0 := hid (hf.2 _ _ K0.out (by omega) (fun cs e => by cases e))
                have J1 := hid (hf.2 _ _ K1.out (by omega) (fun cs e => by cases e))
                have J2 := hid (hf.2 _ _ K2.out (by omega) (fun cs e => by cases e))
                have JL := lt_of J2.out
                clear hd hf m0 m1 m2 m3 m4 m5 m6 m7 m8 m9 m10 m11 KA
                obtain ⟨⟨z0, z1, z2, z3, z4, z5, z6, z7, z8⟩, _⟩ := nine J0.out
                obtain ⟨m0, m1, m2, m3, m4, m5, m6, m7, m8, m9, m10, m11⟩ := twelve J1.out
                go_wp2_with fail
                have H51 := HF5.out.1
                with_reducible refine (KR.out _ H51).mono ?_
                clear H51
                rintro _ w6 ⟨rfl, hb⟩
                have HD6 := hid (HD5.out.keep hb)
                have HF6 := hid (HF5.out.trans (Fr.of hb (by omega)))
                have L2 := hid (keep0 hb J2.out)
                have JL6 := lt_of L2.out
                clear hb m0 m1 m2 m3 m4 m5 m6 m7 m8 m9 m10 m11 z0 z1 z2 z3 z4 z5 z6 z7 z8 KR
                have HD7 := hid (HD6.out.keep (show Below w6.heap.size w6 (w6.alloc (.cells #[.int .i64 d2.room, .int .i64 d2.e, .int .i64 d2.o, .int .i64 d2.u, .string (str d2.log), .string (str d2.snap), .string (str d2.stg), .bool d2.armed, .int .i64 d2.cut] 29)) from by go_grown))
                have HF7 := hid (HF6.out.trans (Fr.of (show Below w6.heap.size w6 (w6.alloc (.cells #[.int .i64 d2.room, .int .i64 d2.e, .int .i64 d2.o, .int .i64 d2.u, .string (str d2.log), .string (str d2.snap), .string (str d2.stg), .bool d2.armed, .int .i64 d2.cut] 29)) from by go_grown) (by omega)))
                go_wp2_with (refine wpList_store_row rfl 29 _ _ rfl (w.heap.size + 2) #[.int .i64 d2.room, .int .i64 d2.e, .int .i64 d2.o, .int .i64 d2.u, .string (str d2.log), .string (str d2.snap), .string (str d2.stg), .bool d2.armed, .int .i64 d2.cut] rfl rfl 29 _ (heapA L2.out) (by kernel_rfl) rfl (by kernel_rfl) ?_)
                exact bodyPost_ret (v := .tuple #[.agg #[.int .i64 d2.room, .int .i64 d2.e, .int .i64 d2.o, .int .i64 d2.u, .string (str d2.log), .string (str d2.snap), .string (str d2.stg), .bool d2.armed, .int .i64 d2.cut], .bool true]) (results_row_tmp Tryd.results11 _ _ (w.heap.size + 2) 29 _ (0, 0) _ _ rfl (by first | rfl | simp) (setRow_heap _ _ _ _ _ _ (heapA L2.out)) Tryd.underlying29 rfl (by kernel_rfl)) rfl ⟨d2, rfl, HD7.out.row (heapA L2.out) (by decide) (by omega) _, HF7.out.row (by omega) (by omega) _⟩
              · have hq5 : (bits .and .i64 kind 7 == 5) = false := by simpa using h5
                clear h5
                by_cases h6 : bits .and .i64 kind 7 = 6
                · have hq6 : (bits .and .i64 kind 7 == 6) = true := by simpa using h6
                  clear h6
                  obtain ⟨m0, m1, m2, m3, m4, m5, m6, m7, m8, m9, m10, m11⟩ := twelve K1.out
                  have KA := hid (commit_any B db d ep sum at_ w4 HD4.out hB (HT.out.below HF4.out.1 h0B))
                  have KR := hid (fun (w5 : World) (h5 : Below B w w5) => rcommit_any d ep sum at_ w5 hgl hgt)
                  obtain ⟨d2, hd2⟩ : ∃ d2, d2 = coD d ep sum at_ := ⟨_, rfl⟩
                  rw [← hd2] at KA KR
                  simp only [rv] at KA KR
                  clear hd2
                  go_wp2_with fail
                  with_reducible refine KA.out.mono ?_
                  rintro _ w5 ⟨rfl, hd, hf⟩
                  have HD5 := hid hd
                  have HF5 := hid (HF4.out.trans hf)
                  have J0 := hid (hf.2 _ _ K0.out (by omega) (fun cs e => by cases e))
                  have J1 := hid (hf.2 _ _ K1.out (by omega) (fun cs e => by cases e))
                  have J2 := hid (hf.2 _ _ K2.out (by omega) (fun cs e => by cases e))
                  have JL := lt_of J2.out
                  clear hd hf m0 m1 m2 m3 m4 m5 m6 m7 m8 m9 m10 m11 KA
                  obtain ⟨⟨z0, z1, z2, z3, z4, z5, z6, z7, z8⟩, _⟩ := nine J0.out
                  obtain ⟨m0, m1, m2, m3, m4, m5, m6, m7, m8, m9, m10, m11⟩ := twelve J1.out
                  go_wp2_with fail
                  have H51 := HF5.out.1
                  with_reducible refine (KR.out _ H51).mono ?_
                  clear H51
                  rintro _ w6 ⟨rfl, hb⟩
                  have HD6 := hid (HD5.out.keep hb)
                  have HF6 := hid (HF5.out.trans (Fr.of hb (by omega)))
                  have L2 := hid (keep0 hb J2.out)
                  have JL6 := lt_of L2.out
                  clear hb m0 m1 m2 m3 m4 m5 m6 m7 m8 m9 m10 m11 z0 z1 z2 z3 z4 z5 z6 z7 z8 KR
                  have HD7 := hid (HD6.out.keep (show Below w6.heap.size w6 (w6.alloc (.cells #[.int .i64 d2.room, .int .i64 d2.e, .int .i64 d2.o, .int .i64 d2.u, .string (str d2.log), .string (str d2.snap), .string (str d2.stg), .bool d2.armed, .int .i64 d2.cut] 29)) from by go_grown))
                  have HF7 := hid (HF6.out.trans (Fr.of (show Below w6.heap.size w6 (w6.alloc (.cells #[.int .i64 d2.room, .int .i64 d2.e, .int .i64 d2.o, .int .i64 d2.u, .string (str d2.log), .string (str d2.snap), .string (str d2.stg), .bool d2.armed, .int .i64 d2.cut] 29)) from by go_grown) (by omega)))
                  go_wp2_with (refine wpList_store_row rfl 29 _ _ rfl (w.heap.size + 2) #[.int .i64 d2.room, .int .i64 d2.e, .int .i64 d2.o, .int .i64 d2.u, .string (str d2.log), .string (str d2.snap), .string (str d2.stg), .bool d2.armed, .int .i64 d2.cut] rfl rfl 29 _ (heapA L2.out) (by kernel_rfl) rfl (by kernel_rfl) ?_)
                  exact bodyPost_ret (v := .tuple #[.agg #[.int .i64 d2.room, .int .i64 d2.e, .int .i64 d2.o, .int .i64 d2.u, .string (str d2.log), .string (str d2.snap), .string (str d2.stg), .bool d2.armed, .int .i64 d2.cut], .bool true]) (results_row_tmp Tryd.results11 _ _ (w.heap.size + 2) 29 _ (0, 0) _ _ rfl (by first | rfl | simp) (setRow_heap _ _ _ _ _ _ (heapA L2.out)) Tryd.underlying29 rfl (by kernel_rfl)) rfl ⟨d2, rfl, HD7.out.row (heapA L2.out) (by decide) (by omega) _, HF7.out.row (by omega) (by omega) _⟩
                · have hq6 : (bits .and .i64 kind 7 == 6) = false := by simpa using h6
                  clear h6
                  obtain ⟨m0, m1, m2, m3, m4, m5, m6, m7, m8, m9, m10, m11⟩ := twelve K1.out
                  have KA := hid (cut_any B db d at_ w4 HD4.out hB)
                  have KR := hid (fun (w5 : World) (h5 : Below B w w5) => rcut_any d at_ w5)
                  obtain ⟨d2, hd2⟩ : ∃ d2, d2 = ({ d with armed := true, cut := at_ } : Dsk) := ⟨_, rfl⟩
                  rw [← hd2] at KA KR
                  simp only [rv] at KA KR
                  clear hd2
                  go_wp2_with fail
                  with_reducible refine KA.out.mono ?_
                  rintro _ w5 ⟨rfl, hd, hf⟩
                  have HD5 := hid hd
                  have HF5 := hid (HF4.out.trans hf)
                  have J0 := hid (hf.2 _ _ K0.out (by omega) (fun cs e => by cases e))
                  have J1 := hid (hf.2 _ _ K1.out (by omega) (fun cs e => by cases e))
                  have J2 := hid (hf.2 _ _ K2.out (by omega) (fun cs e => by cases e))
                  have JL := lt_of J2.out
                  clear hd hf m0 m1 m2 m3 m4 m5 m6 m7 m8 m9 m10 m11 KA
                  obtain ⟨⟨z0, z1, z2, z3, z4, z5, z6, z7, z8⟩, _⟩ := nine J0.out
                  obtain ⟨m0, m1, m2, m3, m4, m5, m6, m7, m8, m9, m10, m11⟩ := twelve J1.out
                  go_wp2_with fail
                  have H51 := HF5.out.1
                  with_reducible refine (KR.out _ H51).mono ?_
                  clear H51
                  rintro _ w6 ⟨rfl, hb⟩
                  have HD6 := hid (HD5.out.keep hb)
                  have HF6 := hid (HF5.out.trans (Fr.of hb (by omega)))
                  have L2 := hid (keep0 hb J2.out)
                  have JL6 := lt_of L2.out
                  clear hb m0 m1 m2 m3 m4 m5 m6 m7 m8 m9 m10 m11 z0 z1 z2 z3 z4 z5 z6 z7 z8 KR
                  go_wp2_with (refine wpList_store_row rfl 29 _ _ rfl (w.heap.size + 2) #[.int .i64 d2.room, .int .i64 d2.e, .int .i64 d2.o, .int .i64 d2.u, .string (str d2.log), .string (str d2.snap), .string (str d2.stg), .bool d2.armed, .int .i64 d2.cut] rfl rfl 29 _ L2.out (by kernel_rfl) rfl (by kernel_rfl) ?_)
                  exact bodyPost_ret (v := .tuple #[.agg #[.int .i64 d2.room, .int .i64 d2.e, .int .i64 d2.o, .int .i64 d2.u, .string (str d2.log), .string (str d2.snap), .string (str d2.stg), .bool d2.armed, .int .i64 d2.cut], .bool true]) (results_row_tmp Tryd.results11 _ _ (w.heap.size + 2) 29 _ (0, 0) _ _ rfl (by first | rfl | simp) (setRow_heap _ _ _ _ _ _ L2.out) Tryd.underlying29 rfl (by kernel_rfl)) rfl ⟨d2, rfl, HD6.out.row L2.out (by decide) (by omega) _, HF6.out.row (by omega) (by omega) _⟩
  | true =>
    simp only [rv]
    obtain ⟨w3, cap, hcv, hcb, hcB, hcz⟩ := conv_bytes d.stg (((w.alloc (.cells #[.int .i64 d.room, .int .i64 d.e, .int .i64 d.o, .int .i64 d.u, .string (str d.log), .string (str d.snap), .string (str d.stg), .bool d.armed, .int .i64 d.cut] 29)).alloc (.cells #[.int .i64 kind, .bool true, .int .i64 d.e, .int .i64 d.log.length, .slice bA bs.length bc, .int .u32 sum, .int .i64 d.e, .int .i64 d.o, .int .i64 d.u, .int .i64 n0, .int .i64 n1, .int .i64 n2] 35)).alloc (.cells #[.int .i64 0, .int .i64 0, .int .i64 0, .int .i64 0, .string ⟨#[]⟩, .string ⟨#[]⟩, .string ⟨#[]⟩, .bool false, .int .i64 0] 29))
    have KS := hid (refsum_any (some ⟨w.heap.size + 2 + 1, 0, none⟩) cap d.stg w3 (by simpa using hcB) (by omega))
    have hb3 : Below w.heap.size w w3 := below_step (by go_grown) (by go_size) hcb
    have E1 := hid (show w3.heap[w.heap.size + 1]? = some (.cells #[.int .i64 kind, .bool true, .int .i64 d.e, .int .i64 d.log.length, .slice bA bs.length bc, .int .u32 sum, .int .i64 d.e, .int .i64 d.o, .int .i64 d.u, .int .i64 n0, .int .i64 n1, .int .i64 n2] 35 (0, 0)) from keep0 hcb (heapA heapN2))
    have e5 : w3.cell? ⟨w.heap.size + 1, 5, none⟩ = some (.int .u32 sum) := by rw [cell_of E1.out]; rfl
    have f5 : w3.frozen? ⟨w.heap.size + 1, 5, none⟩ = false := free_of E1.out 5
    obtain ⟨w4, hw4⟩ : ∃ w4, w4 = w3.setCell ⟨w.heap.size + 1, 5, none⟩ (.int .u32 (crc d.stg : Nat)) := ⟨_, rfl⟩
    have hb4 : Below w.heap.size w w4 := by rw [hw4]; exact hb3.setCell (p := ⟨w.heap.size + 1, 5, none⟩) (by simp) _
    have K0 := hid (show w4.heap[w.heap.size]? = some (.cells #[.int .i64 d.room, .int .i64 d.e, .int .i64 d.o, .int .i64 d.u, .string (str d.log), .string (str d.snap), .string (str d.stg), .bool d.armed, .int .i64 d.cut] 29 (0, 0)) from by rw [hw4, heap_setCell_other _ _ _ _ (by simp only; omega)]; exact keep0 hcb (heapA (heapA (heap_new _ _))))
    have K1 := hid (show w4.heap[w.heap.size + 1]? = some (.cells #[.int .i64 kind, .bool true, .int .i64 d.e, .int .i64 d.log.length, .slice bA bs.length bc, .int .u32 (crc d.stg : Nat), .int .i64 d.e, .int .i64 d.o, .int .i64 d.u, .int .i64 n0, .int .i64 n1, .int .i64 n2] 35 (0, 0)) from by rw [hw4]; simpa using heap_setCell_same w3 (w.heap.size + 1) 5 _ 35 (.int .u32 (crc d.stg : Nat)) E1.out)
    have K2 := hid (show w4.heap[w.heap.size + 2]? = some (.cells #[.int .i64 0, .int .i64 0, .int .i64 0, .int .i64 0, .string ⟨#[]⟩, .string ⟨#[]⟩, .string ⟨#[]⟩, .bool false, .int .i64 0] 29 (0, 0)) from by rw [hw4, heap_setCell_other _ _ _ _ (by simp only; omega)]; exact keep0 hcb heapN3)
    have HD4 := hid (HD.out.keep hb4)
    have HF4 := hid (Fr.of hb4 (by omega) : Fr B db w w4)
    have HW4 := hid hw4
    have mk0 : w4.cell? ⟨w.heap.size + 1, 0, none⟩ = some (.int .i64 kind) := by rw [cell_of K1.out]; rfl
    clear hw4 hb4 hcb hcB hcz hb3
    go_enter Tryd.func11, Tryd.ntmps11
    go_upto_region 6 with (go_at_call 20; with_reducible refine KS.out.mono ?_; rintro _ w2 ⟨rfl, rfl⟩)
    rw [← HW4.out]
    clear hcv e5 f5 KS E1
    generalize crc d.stg = cs at *
    clear hls
    by_cases h0 : bits .and .i64 kind 7 = 0
    · have hq0 : (bits .and .i64 kind 7 == 0) = true := by simpa using h0
      clear h0
      obtain ⟨m0, m1, m2, m3, m4, m5, m6, m7, m8, m9, m10, m11⟩ := twelve K1.out
      have KA := hid (swap_any B db d (d.e, d.o, d.u) (n0, n1, n2) w4 HD4.out hB)
      have KR := hid (fun (w5 : World) (h5 : Below B w w5) => rswap_any d (d.e, d.o, d.u) (n0, n1, n2) w5)
      obtain ⟨d2, hd2⟩ : ∃ d2, d2 = swD d (d.e, d.o, d.u) (n0, n1, n2) := ⟨_, rfl⟩
      rw [← hd2] at KA KR
      simp only [rv] at KA KR
      simp only [cl] at KA KR
      clear hd2
      go_wp2_with fail
      with_reducible refine KA.out.mono ?_
      rintro _ w5 ⟨rfl, hd, hf⟩
      have HD5 := hid hd
      have HF5 := hid (HF4.out.trans hf)
      have J0 := hid (hf.2 _ _ K0.out (by omega) (fun cs e => by cases e))
      have J1 := hid (hf.2 _ _ K1.out (by omega) (fun cs e => by cases e))
      have J2 := hid (hf.2 _ _ K2.out (by omega) (fun cs e => by cases e))
      have JL := lt_of J2.out
      clear hd hf m0 m1 m2 m3 m4 m5 m6 m7 m8 m9 m10 m11 KA
      obtain ⟨⟨z0, z1, z2, z3, z4, z5, z6, z7, z8⟩, _⟩ := nine J0.out
      obtain ⟨m0, m1, m2, m3, m4, m5, m6, m7, m8, m9, m10, m11⟩ := twelve J1.out
      go_wp2_with fail
      have H51 := HF5.out.1
      with_reducible refine (KR.out _ H51).mono ?_
      clear H51
      rintro _ w6 ⟨rfl, hb⟩
      have HD6 := hid (HD5.out.keep hb)
      have HF6 := hid (HF5.out.trans (Fr.of hb (by omega)))
      have L2 := hid (keep0 hb J2.out)
      have JL6 := lt_of L2.out
      clear hb m0 m1 m2 m3 m4 m5 m6 m7 m8 m9 m10 m11 z0 z1 z2 z3 z4 z5 z6 z7 z8 KR
      have HD7 := hid (HD6.out.keep (show Below w6.heap.size w6 (w6.alloc (.cells #[.int .i64 d2.room, .int .i64 d2.e, .int .i64 d2.o, .int .i64 d2.u, .string (str d2.log), .string (str d2.snap), .string (str d2.stg), .bool d2.armed, .int .i64 d2.cut] 29)) from by go_grown))
      have HF7 := hid (HF6.out.trans (Fr.of (show Below w6.heap.size w6 (w6.alloc (.cells #[.int .i64 d2.room, .int .i64 d2.e, .int .i64 d2.o, .int .i64 d2.u, .string (str d2.log), .string (str d2.snap), .string (str d2.stg), .bool d2.armed, .int .i64 d2.cut] 29)) from by go_grown) (by omega)))
      go_wp2_with (refine wpList_store_row rfl 29 _ _ rfl (w.heap.size + 2) #[.int .i64 d2.room, .int .i64 d2.e, .int .i64 d2.o, .int .i64 d2.u, .string (str d2.log), .string (str d2.snap), .string (str d2.stg), .bool d2.armed, .int .i64 d2.cut] rfl rfl 29 _ (heapA L2.out) (by kernel_rfl) rfl (by kernel_rfl) ?_)
      exact bodyPost_ret (v := .tuple #[.agg #[.int .i64 d2.room, .int .i64 d2.e, .int .i64 d2.o, .int .i64 d2.u, .string (str d2.log), .string (str d2.snap), .string (str d2.stg), .bool d2.armed, .int .i64 d2.cut], .bool true]) (results_row_tmp Tryd.results11 _ _ (w.heap.size + 2) 29 _ (0, 0) _ _ rfl (by first | rfl | simp) (setRow_heap _ _ _ _ _ _ (heapA L2.out)) Tryd.underlying29 rfl (by kernel_rfl)) rfl ⟨d2, rfl, HD7.out.row (heapA L2.out) (by decide) (by omega) _, HF7.out.row (by omega) (by omega) _⟩
    · have hq0 : (bits .and .i64 kind 7 == 0) = false := by simpa using h0
      clear h0
      by_cases h1 : bits .and .i64 kind 7 = 1
      · have hq1 : (bits .and .i64 kind 7 == 1) = true := by simpa using h1
        clear h1
        obtain ⟨m0, m1, m2, m3, m4, m5, m6, m7, m8, m9, m10, m11⟩ := twelve K1.out
        have KA := hid (swap_any B db d (d.e, d.o, d.u) (n0, n1, n2) w4 HD4.out hB)
        have KR := hid (fun (w5 : World) (h5 : Below B w w5) => rswap_any d (d.e, d.o, d.u) (n0, n1, n2) w5)
        obtain ⟨d2, hd2⟩ : ∃ d2, d2 = swD d (d.e, d.o, d.u) (n0, n1, n2) := ⟨_, rfl⟩
        rw [← hd2] at KA KR
        simp only [rv] at KA KR
        simp only [cl] at KA KR
        clear hd2
        go_wp2_with fail
        with_reducible refine KA.out.mono ?_
        rintro _ w5 ⟨rfl, hd, hf⟩
        have HD5 := hid hd
        have HF5 := hid (HF4.out.trans hf)
        have J0 := hid (hf.2 _ _ K0.out (by omega) (fun cs e => by cases e))
        have J1 := hid (hf.2 _ _ K1.out (by omega) (fun cs e => by cases e))
        have J2 := hid (hf.2 _ _ K2.out (by omega) (fun cs e => by cases e))
        have JL := lt_of J2.out
        clear hd hf m0 m1 m2 m3 m4 m5 m6 m7 m8 m9 m10 m11 KA
        obtain ⟨⟨z0, z1, z2, z3, z4, z5, z6, z7, z8⟩, _⟩ := nine J0.out
        obtain ⟨m0, m1, m2, m3, m4, m5, m6, m7, m8, m9, m10, m11⟩ := twelve J1.out
        go_wp2_with fail
        have H51 := HF5.out.1
        with_reducible refine (KR.out _ H51).mono ?_
        clear H51
        rintro _ w6 ⟨rfl, hb⟩
        have HD6 := hid (HD5.out.keep hb)
        have HF6 := hid (HF5.out.trans (Fr.of hb (by omega)))
        have L2 := hid (keep0 hb J2.out)
        have JL6 := lt_of L2.out
        clear hb m0 m1 m2 m3 m4 m5 m6 m7 m8 m9 m10 m11 z0 z1 z2 z3 z4 z5 z6 z7 z8 KR
        have HD7 := hid (HD6.out.keep (show Below w6.heap.size w6 (w6.alloc (.cells #[.int .i64 d2.room, .int .i64 d2.e, .int .i64 d2.o, .int .i64 d2.u, .string (str d2.log), .string (str d2.snap), .string (str d2.stg), .bool d2.armed, .int .i64 d2.cut] 29)) from by go_grown))
        have HF7 := hid (HF6.out.trans (Fr.of (show Below w6.heap.size w6 (w6.alloc (.cells #[.int .i64 d2.room, .int .i64 d2.e, .int .i64 d2.o, .int .i64 d2.u, .string (str d2.log), .string (str d2.snap), .string (str d2.stg), .bool d2.armed, .int .i64 d2.cut] 29)) from by go_grown) (by omega)))
        go_wp2_with (refine wpList_store_row rfl 29 _ _ rfl (w.heap.size + 2) #[.int .i64 d2.room, .int .i64 d2.e, .int .i64 d2.o, .int .i64 d2.u, .string (str d2.log), .string (str d2.snap), .string (str d2.stg), .bool d2.armed, .int .i64 d2.cut] rfl rfl 29 _ (heapA L2.out) (by kernel_rfl) rfl (by kernel_rfl) ?_)
        exact bodyPost_ret (v := .tuple #[.agg #[.int .i64 d2.room, .int .i64 d2.e, .int .i64 d2.o, .int .i64 d2.u, .string (str d2.log), .string (str d2.snap), .string (str d2.stg), .bool d2.armed, .int .i64 d2.cut], .bool true]) (results_row_tmp Tryd.results11 _ _ (w.heap.size + 2) 29 _ (0, 0) _ _ rfl (by first | rfl | simp) (setRow_heap _ _ _ _ _ _ (heapA L2.out)) Tryd.underlying29 rfl (by kernel_rfl)) rfl ⟨d2, rfl, HD7.out.row (heapA L2.out) (by decide) (by omega) _, HF7.out.row (by omega) (by omega) _⟩
      · have hq1 : (bits .and .i64 kind 7 == 1) = false := by simpa using h1
        clear h1
        by_cases h2 : bits .and .i64 kind 7 = 2
        · have hq2 : (bits .and .i64 kind 7 == 2) = true := by simpa using h2
          clear h2
          obtain ⟨m0, m1, m2, m3, m4, m5, m6, m7, m8, m9, m10, m11⟩ := twelve K1.out
          have KA := hid (append_any B db d d.e d.log.length bA bc bs w4 HD4.out hB (HS.out w4 HF4.out.1).1 (HS.out w4 HF4.out.1).2.1 (HS.out w4 HF4.out.1).2.2.2 HNE.out (by omega))
          have KR := hid (fun (w5 : World) (h5 : Below B w w5) => rappend_any d d.e d.log.length bA bc bs w5 (HS.out w5 h5).1 (HS.out w5 h5).2.1 (HS.out w5 h5).2.2.2 (by omega) hgl hr1)
          obtain ⟨d2, hd2⟩ : ∃ d2, d2 = apD d d.e d.log.length bs := ⟨_, rfl⟩
          rw [← hd2] at KA KR
          simp only [rv] at KA KR
          clear hd2
          go_wp2_with fail
          with_reducible refine KA.out.mono ?_
          rintro _ w5 ⟨rfl, hd, hf⟩
          have HD5 := hid hd
          have HF5 := hid (HF4.out.trans hf)
          have J0 := hid (hf.2 _ _ K0.out (by omega) (fun cs e => by cases e))
          have J1 := hid (hf.2 _ _ K1.out (by omega) (fun cs e => by cases e))
          have J2 := hid (hf.2 _ _ K2.out (by omega) (fun cs e => by cases e))
          have JL := lt_of J2.out
          clear hd hf m0 m1 m2 m3 m4 m5 m6 m7 m8 m9 m10 m11 KA
          obtain ⟨⟨z0, z1, z2, z3, z4, z5, z6, z7, z8⟩, _⟩ := nine J0.out
          obtain ⟨m0, m1, m2, m3, m4, m5, m6, m7, m8, m9, m10, m11⟩ := twelve J1.out
          go_wp2_with fail
          have H51 := HF5.out.1
          with_reducible refine (KR.out _ H51).mono ?_
          clear H51
          rintro _ w6 ⟨rfl, hb⟩
          have HD6 := hid (HD5.out.keep hb)
          have HF6 := hid (HF5.out.trans (Fr.of hb (by omega)))
          have L2 := hid (keep0 hb J2.out)
          have JL6 := lt_of L2.out
          clear hb m0 m1 m2 m3 m4 m5 m6 m7 m8 m9 m10 m11 z0 z1 z2 z3 z4 z5 z6 z7 z8 KR
          have HD7 := hid (HD6.out.keep (show Below w6.heap.size w6 (w6.alloc (.cells #[.int .i64 d2.room, .int .i64 d2.e, .int .i64 d2.o, .int .i64 d2.u, .string (str d2.log), .string (str d2.snap), .string (str d2.stg), .bool d2.armed, .int .i64 d2.cut] 29)) from by go_grown))
          have HF7 := hid (HF6.out.trans (Fr.of (show Below w6.heap.size w6 (w6.alloc (.cells #[.int .i64 d2.room, .int .i64 d2.e, .int .i64 d2.o, .int .i64 d2.u, .string (str d2.log), .string (str d2.snap), .string (str d2.stg), .bool d2.armed, .int .i64 d2.cut] 29)) from by go_grown) (by omega)))
          go_wp2_with (refine wpList_store_row rfl 29 _ _ rfl (w.heap.size + 2) #[.int .i64 d2.room, .int .i64 d2.e, .int .i64 d2.o, .int .i64 d2.u, .string (str d2.log), .string (str d2.snap), .string (str d2.stg), .bool d2.armed, .int .i64 d2.cut] rfl rfl 29 _ (heapA L2.out) (by kernel_rfl) rfl (by kernel_rfl) ?_)
          exact bodyPost_ret (v := .tuple #[.agg #[.int .i64 d2.room, .int .i64 d2.e, .int .i64 d2.o, .int .i64 d2.u, .string (str d2.log), .string (str d2.snap), .string (str d2.stg), .bool d2.armed, .int .i64 d2.cut], .bool true]) (results_row_tmp Tryd.results11 _ _ (w.heap.size + 2) 29 _ (0, 0) _ _ rfl (by first | rfl | simp) (setRow_heap _ _ _ _ _ _ (heapA L2.out)) Tryd.underlying29 rfl (by kernel_rfl)) rfl ⟨d2, rfl, HD7.out.row (heapA L2.out) (by decide) (by omega) _, HF7.out.row (by omega) (by omega) _⟩
        · have hq2 : (bits .and .i64 kind 7 == 2) = false := by simpa using h2
          clear h2
          by_cases h3 : bits .and .i64 kind 7 = 3
          · have hq3 : (bits .and .i64 kind 7 == 3) = true := by simpa using h3
            clear h3
            obtain ⟨m0, m1, m2, m3, m4, m5, m6, m7, m8, m9, m10, m11⟩ := twelve K1.out
            have KA := hid (append_any B db d d.e d.log.length bA bc bs w4 HD4.out hB (HS.out w4 HF4.out.1).1 (HS.out w4 HF4.out.1).2.1 (HS.out w4 HF4.out.1).2.2.2 HNE.out (by omega))
            have KR := hid (fun (w5 : World) (h5 : Below B w w5) => rappend_any d d.e d.log.length bA bc bs w5 (HS.out w5 h5).1 (HS.out w5 h5).2.1 (HS.out w5 h5).2.2.2 (by omega) hgl hr1)
            obtain ⟨d2, hd2⟩ : ∃ d2, d2 = apD d d.e d.log.length bs := ⟨_, rfl⟩
            rw [← hd2] at KA KR
            simp only [rv] at KA KR
            clear hd2
            go_wp2_with fail
            with_reducible refine KA.out.mono ?_
            rintro _ w5 ⟨rfl, hd, hf⟩
            have HD5 := hid hd
            have HF5 := hid (HF4.out.trans hf)
            have J0 := hid (hf.2 _ _ K0.out (by omega) (fun cs e => by cases e))
            have J1 := hid (hf.2 _ _ K1.out (by omega) (fun cs e => by cases e))
            have J2 := hid (hf.2 _ _ K2.out (by omega) (fun cs e => by cases e))
            have JL := lt_of J2.out
            clear hd hf m0 m1 m2 m3 m4 m5 m6 m7 m8 m9 m10 m11 KA
            obtain ⟨⟨z0, z1, z2, z3, z4, z5, z6, z7, z8⟩, _⟩ := nine J0.out
            obtain ⟨m0, m1, m2, m3, m4, m5, m6, m7, m8, m9, m10, m11⟩ := twelve J1.out
            go_wp2_with fail
            have H51 := HF5.out.1
            with_reducible refine (KR.out _ H51).mono ?_
            clear H51
            rintro _ w6 ⟨rfl, hb⟩
            have HD6 := hid (HD5.out.keep hb)
            have HF6 := hid (HF5.out.trans (Fr.of hb (by omega)))
            have L2 := hid (keep0 hb J2.out)
            have JL6 := lt_of L2.out
            clear hb m0 m1 m2 m3 m4 m5 m6 m7 m8 m9 m10 m11 z0 z1 z2 z3 z4 z5 z6 z7 z8 KR
            have HD7 := hid (HD6.out.keep (show Below w6.heap.size w6 (w6.alloc (.cells #[.int .i64 d2.room, .int .i64 d2.e, .int .i64 d2.o, .int .i64 d2.u, .string (str d2.log), .string (str d2.snap), .string (str d2.stg), .bool d2.armed, .int .i64 d2.cut] 29)) from by go_grown))
            have HF7 := hid (HF6.out.trans (Fr.of (show Below w6.heap.size w6 (w6.alloc (.cells #[.int .i64 d2.room, .int .i64 d2.e, .int .i64 d2.o, .int .i64 d2.u, .string (str d2.log), .string (str d2.snap), .string (str d2.stg), .bool d2.armed, .int .i64 d2.cut] 29)) from by go_grown) (by omega)))
            go_wp2_with (refine wpList_store_row rfl 29 _ _ rfl (w.heap.size + 2) #[.int .i64 d2.room, .int .i64 d2.e, .int .i64 d2.o, .int .i64 d2.u, .string (str d2.log), .string (str d2.snap), .string (str d2.stg), .bool d2.armed, .int .i64 d2.cut] rfl rfl 29 _ (heapA L2.out) (by kernel_rfl) rfl (by kernel_rfl) ?_)
            exact bodyPost_ret (v := .tuple #[.agg #[.int .i64 d2.room, .int .i64 d2.e, .int .i64 d2.o, .int .i64 d2.u, .string (str d2.log), .string (str d2.snap), .string (str d2.stg), .bool d2.armed, .int .i64 d2.cut], .bool true]) (results_row_tmp Tryd.results11 _ _ (w.heap.size + 2) 29 _ (0, 0) _ _ rfl (by first | rfl | simp) (setRow_heap _ _ _ _ _ _ (heapA L2.out)) Tryd.underlying29 rfl (by kernel_rfl)) rfl ⟨d2, rfl, HD7.out.row (heapA L2.out) (by decide) (by omega) _, HF7.out.row (by omega) (by omega) _⟩
          · have hq3 : (bits .and .i64 kind 7 == 3) = false := by simpa using h3
            clear h3
            by_cases h4 : bits .and .i64 kind 7 = 4
            · have hq4 : (bits .and .i64 kind 7 == 4) = true := by simpa using h4
              clear h4
              obtain ⟨m0, m1, m2, m3, m4, m5, m6, m7, m8, m9, m10, m11⟩ := twelve K1.out
              have KA := hid (chop_any B db d d.e d.log.length w4 HD4.out hB)
              have KR := hid (fun (w5 : World) (h5 : Below B w w5) => rchop_any d d.e d.log.length w5 hgl)
              obtain ⟨d2, hd2⟩ : ∃ d2, d2 = chD d d.e d.log.length := ⟨_, rfl⟩
              rw [← hd2] at KA KR
              simp only [rv] at KA KR
              clear hd2
              go_wp2_with fail
              with_reducible refine KA.out.mono ?_
              rintro _ w5 ⟨rfl, hd, hf⟩
              have HD5 := hid hd
              have HF5 := hid (HF4.out.trans hf)
              have J0 := hid (hf.2 _ _ K0.out (by omega) (fun cs e => by cases e))
              have J1 := hid (hf.2 _ _ K1.out (by omega) (fun cs e => by cases e))
              have J2 := hid (hf.2 _ _ K2.out (by omega) (fun cs e => by cases e))
              have JL := lt_of J2.out
              clear hd hf m0 m1 m2 m3 m4 m5 m6 m7 m8 m9 m10 m11 KA
              obtain ⟨⟨z0, z1, z2, z3, z4, z5, z6, z7, z8⟩, _⟩ := nine J0.out
              obtain ⟨m0, m1, m2, m3, m4, m5, m6, m7, m8, m9, m10, m11⟩ := twelve J1.out
              go_wp2_with fail
              have H51 := HF5.out.1
              with_reducible refine (KR.out _ H51).mono ?_
              clear H51
              rintro _ w6 ⟨rfl, hb⟩
              have HD6 := hid (HD5.out.keep hb)
              have HF6 := hid (HF5.out.trans (Fr.of hb (by omega)))
              have L2 := hid (keep0 hb J2.out)
              have JL6 := lt_of L2.out
              clear hb m0 m1 m2 m3 m4 m5 m6 m7 m8 m9 m10 m11 z0 z1 z2 z3 z4 z5 z6 z7 z8 KR
              have HD7 := hid (HD6.out.keep (show Below w6.heap.size w6 (w6.alloc (.cells #[.int .i64 d2.room, .int .i64 d2.e, .int .i64 d2.o, .int .i64 d2.u, .string (str d2.log), .string (str d2.snap), .string (str d2.stg), .bool d2.armed, .int .i64 d2.cut] 29)) from by go_grown))
              have HF7 := hid (HF6.out.trans (Fr.of (show Below w6.heap.size w6 (w6.alloc (.cells #[.int .i64 d2.room, .int .i64 d2.e, .int .i64 d2.o, .int .i64 d2.u, .string (str d2.log), .string (str d2.snap), .string (str d2.stg), .bool d2.armed, .int .i64 d2.cut] 29)) from by go_grown) (by omega)))
              go_wp2_with (refine wpList_store_row rfl 29 _ _ rfl (w.heap.size + 2) #[.int .i64 d2.room, .int .i64 d2.e, .int .i64 d2.o, .int .i64 d2.u, .string (str d2.log), .string (str d2.snap), .string (str d2.stg), .bool d2.armed, .int .i64 d2.cut] rfl rfl 29 _ (heapA L2.out) (by kernel_rfl) rfl (by kernel_rfl) ?_)
              exact bodyPost_ret (v := .tuple #[.agg #[.int .i64 d2.room, .int .i64 d2.e, .int .i64 d2.o, .int .i64 d2.u, .string (str d2.log), .string (str d2.snap), .string (str d2.stg), .bool d2.armed, .int .i64 d2.cut], .bool true]) (results_row_tmp Tryd.results11 _ _ (w.heap.size + 2) 29 _ (0, 0) _ _ rfl (by first | rfl | simp) (setRow_heap _ _ _ _ _ _ (heapA L2.out)) Tryd.underlying29 rfl (by kernel_rfl)) rfl ⟨d2, rfl, HD7.out.row (heapA L2.out) (by decide) (by omega) _, HF7.out.row (by omega) (by omega) _⟩
            · have hq4 : (bits .and .i64 kind 7 == 4) = false := by simpa using h4
              clear h4
              by_cases h5 : bits .and .i64 kind 7 = 5
              · have hq5 : (bits .and .i64 kind 7 == 5) = true := by simpa using h5
                clear h5
                obtain ⟨m0, m1, m2, m3, m4, m5, m6, m7, m8, m9, m10, m11⟩ := twelve K1.out
                have KA := hid (stage_any B db d d.e bA bc bs w4 HD4.out hB (HS.out w4 HF4.out.1).1 (HS.out w4 HF4.out.1).2.1 (HS.out w4 HF4.out.1).2.2.2 HNE.out (by omega))
                have KR := hid (fun (w5 : World) (h5 : Below B w w5) => rstage_any d d.e bA bc bs w5 (HS.out w5 h5).1 (HS.out w5 h5).2.1 (HS.out w5 h5).2.2.2 (by omega))
                obtain ⟨d2, hd2⟩ : ∃ d2, d2 = stD d d.e bs := ⟨_, rfl⟩
                rw [← hd2] at KA KR
                simp only [rv] at KA KR
                clear hd2
                go_wp2_with fail
                with_reducible refine KA.out.mono ?_
                rintro _ w5 ⟨rfl, hd, hf⟩
                have HD5 := hid hd
                have HF5 := hid (HF4.out.trans hf)
                have J0 := hid (hf.2 _ _ K0.out (by omega) (fun cs e => by cases e))
                have J1 := hid (hf.2 _ _ K1.out (by omega) (fun cs e => by cases e))
                have J2 := hid (hf.2 _ _ K2.out (by omega) (fun cs e => by cases e))
                have JL := lt_of J2.out
                clear hd hf m0 m1 m2 m3 m4 m5 m6 m7 m8 m9 m10 m11 KA
                obtain ⟨⟨z0, z1, z2, z3, z4, z5, z6, z7, z8⟩, _⟩ := nine J0.out
                obtain ⟨m0, m1, m2, m3, m4, m5, m6, m7, m8, m9, m10, m11⟩ := twelve J1.out
                go_wp2_with fail
                have H51 := HF5.out.1
                with_reducible refine (KR.out _ H51).mono ?_
                clear H51
                rintro _ w6 ⟨rfl, hb⟩
                have HD6 := hid (HD5.out.keep hb)
                have HF6 := hid (HF5.out.trans (Fr.of hb (by omega)))
                have L2 := hid (keep0 hb J2.out)
                have JL6 := lt_of L2.out
                clear hb m0 m1 m2 m3 m4 m5 m6 m7 m8 m9 m10 m11 z0 z1 z2 z3 z4 z5 z6 z7 z8 KR
                have HD7 := hid (HD6.out.keep (show Below w6.heap.size w6 (w6.alloc (.cells #[.int .i64 d2.room, .int .i64 d2.e, .int .i64 d2.o, .int .i64 d2.u, .string (str d2.log), .string (str d2.snap), .string (str d2.stg), .bool d2.armed, .int .i64 d2.cut] 29)) from by go_grown))
                have HF7 := hid (HF6.out.trans (Fr.of (show Below w6.heap.size w6 (w6.alloc (.cells #[.int .i64 d2.room, .int .i64 d2.e, .int .i64 d2.o, .int .i64 d2.u, .string (str d2.log), .string (str d2.snap), .string (str d2.stg), .bool d2.armed, .int .i64 d2.cut] 29)) from by go_grown) (by omega)))
                go_wp2_with (refine wpList_store_row rfl 29 _ _ rfl (w.heap.size + 2) #[.int .i64 d2.room, .int .i64 d2.e, .int .i64 d2.o, .int .i64 d2.u, .string (str d2.log), .string (str d2.snap), .string (str d2.stg), .bool d2.armed, .int .i64 d2.cut] rfl rfl 29 _ (heapA L2.out) (by kernel_rfl) rfl (by kernel_rfl) ?_)
                exact bodyPost_ret (v := .tuple #[.agg #[.int .i64 d2.room, .int .i64 d2.e, .int .i64 d2.o, .int .i64 d2.u, .string (str d2.log), .string (str d2.snap), .string (str d2.stg), .bool d2.armed, .int .i64 d2.cut], .bool true]) (results_row_tmp Tryd.results11 _ _ (w.heap.size + 2) 29 _ (0, 0) _ _ rfl (by first | rfl | simp) (setRow_heap _ _ _ _ _ _ (heapA L2.out)) Tryd.underlying29 rfl (by kernel_rfl)) rfl ⟨d2, rfl, HD7.out.row (heapA L2.out) (by decide) (by omega) _, HF7.out.row (by omega) (by omega) _⟩
              · have hq5 : (bits .and .i64 kind 7 == 5) = false := by simpa using h5
                clear h5
                by_cases h6 : bits .and .i64 kind 7 = 6
                · have hq6 : (bits .and .i64 kind 7 == 6) = true := by simpa using h6
                  clear h6
                  obtain ⟨m0, m1, m2, m3, m4, m5, m6, m7, m8, m9, m10, m11⟩ := twelve K1.out
                  have KA := hid (commit_any B db d d.e cs d.log.length w4 HD4.out hB (HT.out.below HF4.out.1 h0B))
                  have KR := hid (fun (w5 : World) (h5 : Below B w w5) => rcommit_any d d.e cs d.log.length w5 hgl hgt)
                  obtain ⟨d2, hd2⟩ : ∃ d2, d2 = coD d d.e cs d.log.length := ⟨_, rfl⟩
                  rw [← hd2] at KA KR
                  simp only [rv] at KA KR
                  clear hd2
                  go_wp2_with fail
                  with_reducible refine KA.out.mono ?_
                  rintro _ w5 ⟨rfl, hd, hf⟩
                  have HD5 := hid hd
                  have HF5 := hid (HF4.out.trans hf)
                  have J0 := hid (hf.2 _ _ K0.out (by omega) (fun cs e => by cases e))
                  have J1 := hid (hf.2 _ _ K1.out (by omega) (fun cs e => by cases e))
                  have J2 := hid (hf.2 _ _ K2.out (by omega) (fun cs e => by cases e))
                  have JL := lt_of J2.out
                  clear hd hf m0 m1 m2 m3 m4 m5 m6 m7 m8 m9 m10 m11 KA
                  obtain ⟨⟨z0, z1, z2, z3, z4, z5, z6, z7, z8⟩, _⟩ := nine J0.out
                  obtain ⟨m0, m1, m2, m3, m4, m5, m6, m7, m8, m9, m10, m11⟩ := twelve J1.out
                  go_wp2_with fail
                  have H51 := HF5.out.1
                  with_reducible refine (KR.out _ H51).mono ?_
                  clear H51
                  rintro _ w6 ⟨rfl, hb⟩
                  have HD6 := hid (HD5.out.keep hb)
                  have HF6 := hid (HF5.out.trans (Fr.of hb (by omega)))
                  have L2 := hid (keep0 hb J2.out)
                  have JL6 := lt_of L2.out
                  clear hb m0 m1 m2 m3 m4 m5 m6 m7 m8 m9 m10 m11 z0 z1 z2 z3 z4 z5 z6 z7 z8 KR
                  have HD7 := hid (HD6.out.keep (show Below w6.heap.size w6 (w6.alloc (.cells #[.int .i64 d2.room, .int .i64 d2.e, .int .i64 d2.o, .int .i64 d2.u, .string (str d2.log), .string (str d2.snap), .string (str d2.stg), .bool d2.armed, .int .i64 d2.cut] 29)) from by go_grown))
                  have HF7 := hid (HF6.out.trans (Fr.of (show Below w6.heap.size w6 (w6.alloc (.cells #[.int .i64 d2.room, .int .i64 d2.e, .int .i64 d2.o, .int .i64 d2.u, .string (str d2.log), .string (str d2.snap), .string (str d2.stg), .bool d2.armed, .int .i64 d2.cut] 29)) from by go_grown) (by omega)))
                  go_wp2_with (refine wpList_store_row rfl 29 _ _ rfl (w.heap.size + 2) #[.int .i64 d2.room, .int .i64 d2.e, .int .i64 d2.o, .int .i64 d2.u, .string (str d2.log), .string (str d2.snap), .string (str d2.stg), .bool d2.armed, .int .i64 d2.cut] rfl rfl 29 _ (heapA L2.out) (by kernel_rfl) rfl (by kernel_rfl) ?_)
                  exact bodyPost_ret (v := .tuple #[.agg #[.int .i64 d2.room, .int .i64 d2.e, .int .i64 d2.o, .int .i64 d2.u, .string (str d2.log), .string (str d2.snap), .string (str d2.stg), .bool d2.armed, .int .i64 d2.cut], .bool true]) (results_row_tmp Tryd.results11 _ _ (w.heap.size + 2) 29 _ (0, 0) _ _ rfl (by first | rfl | simp) (setRow_heap _ _ _ _ _ _ (heapA L2.out)) Tryd.underlying29 rfl (by kernel_rfl)) rfl ⟨d2, rfl, HD7.out.row (heapA L2.out) (by decide) (by omega) _, HF7.out.row (by omega) (by omega) _⟩
                · have hq6 : (bits .and .i64 kind 7 == 6) = false := by simpa using h6
                  clear h6
                  obtain ⟨m0, m1, m2, m3, m4, m5, m6, m7, m8, m9, m10, m11⟩ := twelve K1.out
                  have KA := hid (cut_any B db d d.log.length w4 HD4.out hB)
                  have KR := hid (fun (w5 : World) (h5 : Below B w w5) => rcut_any d d.log.length w5)
                  obtain ⟨d2, hd2⟩ : ∃ d2, d2 = ({ d with armed := true, cut := d.log.length } : Dsk) := ⟨_, rfl⟩
                  rw [← hd2] at KA KR
                  simp only [rv] at KA KR
                  clear hd2
                  go_wp2_with fail
                  with_reducible refine KA.out.mono ?_
                  rintro _ w5 ⟨rfl, hd, hf⟩
                  have HD5 := hid hd
                  have HF5 := hid (HF4.out.trans hf)
                  have J0 := hid (hf.2 _ _ K0.out (by omega) (fun cs e => by cases e))
                  have J1 := hid (hf.2 _ _ K1.out (by omega) (fun cs e => by cases e))
                  have J2 := hid (hf.2 _ _ K2.out (by omega) (fun cs e => by cases e))
                  have JL := lt_of J2.out
                  clear hd hf m0 m1 m2 m3 m4 m5 m6 m7 m8 m9 m10 m11 KA
                  obtain ⟨⟨z0, z1, z2, z3, z4, z5, z6, z7, z8⟩, _⟩ := nine J0.out
                  obtain ⟨m0, m1, m2, m3, m4, m5, m6, m7, m8, m9, m10, m11⟩ := twelve J1.out
                  go_wp2_with fail
                  have H51 := HF5.out.1
                  with_reducible refine (KR.out _ H51).mono ?_
                  clear H51
                  rintro _ w6 ⟨rfl, hb⟩
                  have HD6 := hid (HD5.out.keep hb)
                  have HF6 := hid (HF5.out.trans (Fr.of hb (by omega)))
                  have L2 := hid (keep0 hb J2.out)
                  have JL6 := lt_of L2.out
                  clear hb m0 m1 m2 m3 m4 m5 m6 m7 m8 m9 m10 m11 z0 z1 z2 z3 z4 z5 z6 z7 z8 KR
                  go_wp2_with (refine wpList_store_row rfl 29 _ _ rfl (w.heap.size + 2) #[.int .i64 d2.room, .int .i64 d2.e, .int .i64 d2.o, .int .i64 d2.u, .string (str d2.log), .string (str d2.snap), .string (str d2.stg), .bool d2.armed, .int .i64 d2.cut] rfl rfl 29 _ L2.out (by kernel_rfl) rfl (by kernel_rfl) ?_)
                  exact bodyPost_ret (v := .tuple #[.agg #[.int .i64 d2.room, .int .i64 d2.e, .int .i64 d2.o, .int .i64 d2.u, .string (str d2.log), .string (str d2.snap), .string (str d2.stg), .bool d2.armed, .int .i64 d2.cut], .bool true]) (results_row_tmp Tryd.results11 _ _ (w.heap.size + 2) 29 _ (0, 0) _ _ rfl (by first | rfl | simp) (setRow_heap _ _ _ _ _ _ L2.out) Tryd.underlying29 rfl (by kernel_rfl)) rfl ⟨d2, rfl, HD6.out.row L2.out (by decide) (by omega) _, HF6.out.row (by omega) (by omega) _⟩
end Go.Proofs.YtbpgeghenninnaaDoor
