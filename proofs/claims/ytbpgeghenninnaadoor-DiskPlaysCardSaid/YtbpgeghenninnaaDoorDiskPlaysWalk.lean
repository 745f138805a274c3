/- The Go function DiskPlays, called with any arguments, returns true and leaves all that was there. Condition: the table of half bytes is as the program's text lays it. -/
import Derived.Test.YtbpgeghenninnaaDoorOpen2
namespace Go.Proofs.YtbpgeghenninnaaDoor
open Go Go.ChangeShapes Go.WideShapes Go.RowKit
set_option maxRecDepth 10000 in
set_option maxHeartbeats 8000000 in
theorem diskPlays_walk {H : Type} {enc : TypeId × Value → H} (W : World) (base : Nat) (args : Array Value) (ds : List (DataW H))
    (hval : ∀ (j : Nat) t v, Tryd.f3.params[j]? = some t → args[j]? = some v → Value.okWide Tryd.prog W .any base t v)
    (hA : ∃ p, DataW.TrodAll enc Tryd.prog W 0 (fun _ => true) true Tryd.f3.params.toList args.toList ds p) 
    (_ : (DataW.weightsEach Tryd.prog (Tryd.f3.params.toList ++ (OpenSpec.ofChange Rows.diskPlaysSpec).bare.plain.varTypes Tryd.prog) (ds ++ [])).all (· ≤ reachBytes) = true)
    (hL : laidMetH Tryd.prog Rows.diskPlaysRow.laid W) (_ : W.ShapedOpen Tryd.prog) :
    Calls Tryd.prog 3 args W fun e W' => e = .returned (.bool true) ∧ Below W.heap.size W W' := by
  obtain ⟨p, hA⟩ := hA
  rw [Tryd.params3] at hA hval
  obtain ⟨v0, v1, d0, d1, p0, p1, hargs, rfl, rfl, h0, h1⟩ := trodAll_two hA
  subst hargs
  obtain ⟨room, rfl, _, _, wr⟩ := open_int Tryd.underlying3 (hval 0 3 v0 rfl rfl) h0
  obtain ⟨A, cap, xs, rfl, hacts, hl63⟩ := acts_is (hval 1 22 v1 rfl rfl) h1
  clear h0 h1 hval hA wr
  have hT := tab_of hL
  have HT := hid hT
  have h0W : 0 < W.heap.size := lt_of hT.choose_spec.choose_spec
  have HA := hid hacts
  have hl1 : (xs.length : Int) ≤ 9223372036854775807 := by omega
  clear hacts hT hL
  go_enter Tryd.func3, Tryd.ntmps3
  go_wp2_with fail
  refine (awake_any _).mono ?_
  rintro _ w1 ⟨rfl, hb⟩
  have G0 := hid (show Below W.heap.size W w1 from hb)
  have hsW := G0.out.size
  clear hb
  go_wp2_with fail
  refine (new_any room _).mono ?_
  rintro _ w2 ⟨rfl, hd, hb⟩
  have D1 := hid hd
  have G1 := hid hb
  clear hd hb
  go_wp2_with fail
  refine (rnew_any room _).mono ?_
  rintro _ w3 ⟨rfl, hb⟩
  have D2 := hid (D1.out.keep hb)
  have G2 := hid (below_step G1.out G1.out.size hb)
  have L2 := D2.out.lt
  clear hb D1 G1
  obtain ⟨d0, hd0⟩ : ∃ d0, d0 = Dsk.new room := ⟨_, rfl⟩
  rw [← hd0] at D2 ⊢
  clear hd0
  simp only [rv]
  obtain ⟨w4, hw4⟩ : ∃ w4, w4 = w3.alloc (.cells #[.int .i64 d0.room, .int .i64 d0.e, .int .i64 d0.o, .int .i64 d0.u, .string (str d0.log), .string (str d0.snap), .string (str d0.stg), .bool d0.armed, .int .i64 d0.cut] 29) := ⟨_, rfl⟩
  have hb4 : Below w3.heap.size w3 w4 := by rw [hw4]; go_grown
  have D3 := hid (D2.out.keep hb4)
  have G3 := hid (below_step G2.out G2.out.size hb4)
  have K3 := hid (show w4.heap[w3.heap.size]? = some (.cells #[.int .i64 d0.room, .int .i64 d0.e, .int .i64 d0.o, .int .i64 d0.u, .string (str d0.log), .string (str d0.snap), .string (str d0.stg), .bool d0.armed, .int .i64 d0.cut] 29 (0, 0)) from by rw [hw4]; exact heap_new _ _)
  have HW4 := hid hw4
  have h61 : w3.heap.size ≠ w1.heap.size := by omega
  clear hb4 hw4 D2 G2
  go_upto_region 6 with (fail)
  rw [← HW4.out]
  have E0 := hid (show w4.drew.heap[w3.heap.size]? = _ from K3.out)
  have HE := hid (fun (w' : World) (h : w'.heap[w3.heap.size]? = some (.cells #[.int .i64 d0.room, .int .i64 d0.e, .int .i64 d0.o, .int .i64 d0.u, .string (str d0.log), .string (str d0.snap), .string (str d0.stg), .bool d0.armed, .int .i64 d0.cut] 29 (0, 0))) => (by rw [cell_of h]; rfl : w'.cell? ⟨w3.heap.size, 0, none⟩ = some (.int .i64 d0.room)))
  have D3d := hid (D3.out.keep (Below.drew (Below.refl _ w4)))
  go_region_held3 (fun w' => w'.cell? ⟨w3.heap.size, 0, none⟩ = some (.int .i64 d0.room)) (first | with_reducible exact HE.out _ E0.out | with_reducible exact HE.out _ E5.out | go_keep)
    ((go_at_call 10; (with_reducible refine (room_any _ _ _ _ D3d.out).mono ?_); rintro _ w5 ⟨rfl, hb⟩; have D5 := hid (D3d.out.keep hb); have G5 := hid (below_step G3.out.drew G3.out.drew.size hb); have E5 := hid (keep0 hb E0.out); clear hb))
  all_goals
    clear HE E0 D3 G3 K3 D3d HW4
    go_wp2_with fail
    go_loopw [8] (fun i wr => ∃ (k : Nat) (d : Dsk), k ≤ xs.length ∧ k ≤ 40 ∧ i = .int .i64 k ∧ DK wr w1.heap.size w1.heap.size d ∧ wr.heap[w3.heap.size]? = some (.cells (rv d) 29 (0, 0)) ∧ Below w1.heap.size w1 wr) (fun i _ => 40 - (intOf i).toNat)
    case atStart => exact ⟨0, d0, Nat.zero_le _, by decide, rfl, D5.out, E5.out, G5.out⟩
    case round =>
      obtain ⟨k, d, hk, hk40, rfl, hd, hk6, hg⟩ := hrel
      have DD := hid hd
      have KK := hid hk6
      have GG := hid hg
      clear hd hk6 hg D5 E5 G5
      by_cases hlt : k < xs.length
      · by_cases h40 : k < 40
        · have hlt' : (k : Int) < 40 := by omega
          obtain ⟨b, off, rfl, hbl, hok, hcells⟩ := HA.out.at k hlt
          have HC := hid (fun (w' : World) (hg : Below W.heap.size W w') => (fun i hi => (hg.cell (p := ⟨b, off + k * 12 + i, none⟩) hbl).trans (hcells i hi) : ActAt w' b (off + k * 12) xs[k]))
          have HOK := hid hok
          clear hcells hok
          generalize xs[k] = a at *
          have GW := hid (G0.out.trans (GG.out.mono hsW))
          obtain ⟨y0, y1, y2, y3, y4, y5, y6, y7, y8, y9, y10, y11⟩ := ActAt.all (HC.out _ GW.out)
          have hbw := Nat.lt_of_lt_of_le hbl GW.out.size
          by_cases h2 : a.bs.length ≤ 2000
          · have h2' : ¬ (2000 : Int) < (a.bs.length : Int) := by omega
            have KD := hid (fun (w' : World) (hd : DK w' w1.heap.size w1.heap.size d) (hg : Below w1.heap.size w1 w') => done_any w1.heap.size w1.heap.size d a w' hd (Nat.le_refl _) (by omega) (HT.out.below (G0.out.trans (hg.mono hsW)) h0W) (act_ready HOK.out (G0.out.trans (hg.mono hsW)) hsW (Nat.le_refl _)).1 (act_ready HOK.out (G0.out.trans (hg.mono hsW)) hsW (Nat.le_refl _)).2 h2)
            simp only [rv] at KD
            simp only [ActS.cells] at KD
            have HX := hid (fun (w' : World) (h6 : w'.heap[w3.heap.size]? = some (.cells #[.int .i64 d.room, .int .i64 d.e, .int .i64 d.o, .int .i64 d.u, .string (str d.log), .string (str d.snap), .string (str d.stg), .bool d.armed, .int .i64 d.cut] 29 (0, 0))) (hg : Below w1.heap.size w1 w') => (⟨(nine h6).1, ActAt.all (HC.out w' (G0.out.trans (hg.mono hsW)))⟩ : (w'.cell? ⟨w3.heap.size, 0, none⟩ = some (.int .i64 d.room) ∧ w'.cell? ⟨w3.heap.size, 1, none⟩ = some (.int .i64 d.e) ∧ w'.cell? ⟨w3.heap.size, 2, none⟩ = some (.int .i64 d.o) ∧ w'.cell? ⟨w3.heap.size, 3, none⟩ = some (.int .i64 d.u) ∧ w'.cell? ⟨w3.heap.size, 4, none⟩ = some (.string (str d.log)) ∧ w'.cell? ⟨w3.heap.size, 5, none⟩ = some (.string (str d.snap)) ∧ w'.cell? ⟨w3.heap.size, 6, none⟩ = some (.string (str d.stg)) ∧ w'.cell? ⟨w3.heap.size, 7, none⟩ = some (.bool d.armed) ∧ w'.cell? ⟨w3.heap.size, 8, none⟩ = some (.int .i64 d.cut)) ∧ (w'.cell? ⟨b, off + k * 12, none⟩ = some (.int .i64 a.kind) ∧ w'.cell? ⟨b, off + k * 12 + 1, none⟩ = some (.bool a.near) ∧ w'.cell? ⟨b, off + k * 12 + 2, none⟩ = some (.int .i64 a.ep) ∧ w'.cell? ⟨b, off + k * 12 + 3, none⟩ = some (.int .i64 a.at_) ∧ w'.cell? ⟨b, off + k * 12 + 4, none⟩ = some (.slice a.bA a.bs.length a.bc) ∧ w'.cell? ⟨b, off + k * 12 + 5, none⟩ = some (.int .u32 a.sum) ∧ w'.cell? ⟨b, off + k * 12 + 6, none⟩ = some (.int .i64 a.old.1) ∧ w'.cell? ⟨b, off + k * 12 + 7, none⟩ = some (.int .i64 a.old.2.1) ∧ w'.cell? ⟨b, off + k * 12 + 8, none⟩ = some (.int .i64 a.old.2.2) ∧ w'.cell? ⟨b, off + k * 12 + 9, none⟩ = some (.int .i64 a.c.1) ∧ w'.cell? ⟨b, off + k * 12 + 10, none⟩ = some (.int .i64 a.c.2.1) ∧ w'.cell? ⟨b, off + k * 12 + 11, none⟩ = some (.int .i64 a.c.2.2))))
            have M0 := hid (show wr.drew.heap[w3.heap.size]? = some (.cells #[.int .i64 d.room, .int .i64 d.e, .int .i64 d.o, .int .i64 d.u, .string (str d.log), .string (str d.snap), .string (str d.stg), .bool d.armed, .int .i64 d.cut] 29 (0, 0)) from KK.out)
            have MG0 := hid (GG.out.drew)
            have MD0 := hid (DD.out.keep (Below.refl _ wr).drew)
            have Ma := hid (show (World.drew (wr.alloc (.cells #[.int .i64 0, .int .i64 0, .int .i64 0, .int .i64 0, .string ⟨#[]⟩, .string ⟨#[]⟩, .string ⟨#[]⟩, .bool false, .int .i64 0] 29))).heap[w3.heap.size]? = some (.cells #[.int .i64 d.room, .int .i64 d.e, .int .i64 d.o, .int .i64 d.u, .string (str d.log), .string (str d.snap), .string (str d.stg), .bool d.armed, .int .i64 d.cut] 29 (0, 0)) from heapA KK.out)
            have MGa := hid ((GG.out.alloc GG.out.size (.cells #[.int .i64 0, .int .i64 0, .int .i64 0, .int .i64 0, .string ⟨#[]⟩, .string ⟨#[]⟩, .string ⟨#[]⟩, .bool false, .int .i64 0] 29)).drew)
            have MDa := hid (DD.out.keep (show Below wr.heap.size wr (World.drew (wr.alloc (.cells #[.int .i64 0, .int .i64 0, .int .i64 0, .int .i64 0, .string ⟨#[]⟩, .string ⟨#[]⟩, .string ⟨#[]⟩, .bool false, .int .i64 0] 29))) from by go_grown))
            have Za := hid (show (World.drew (wr.alloc (.cells #[.int .i64 0, .int .i64 0, .int .i64 0, .int .i64 0, .string ⟨#[]⟩, .string ⟨#[]⟩, .string ⟨#[]⟩, .bool false, .int .i64 0] 29))).heap[wr.heap.size]? = some (.cells #[.int .i64 0, .int .i64 0, .int .i64 0, .int .i64 0, .string ⟨#[]⟩, .string ⟨#[]⟩, .string ⟨#[]⟩, .bool false, .int .i64 0] 29) from heap_new wr _)
            have hdb : w1.heap.size < wr.heap.size := DD.out.lt
            have h6r : w3.heap.size < wr.heap.size := lt_of KK.out
            have h6n : w3.heap.size ≠ w1.heap.size := by omega
            clear y0 y1 y2 y3 y5 y6 y7 y8 y9 y10 y11
            go_upto_region 13 with (fail)
            clear y4
            go_cut [9, 10] (fun v v2 wx => ∃ g d2, v = .pointer (some ⟨g, 0, none⟩) ∧ v2 = .bool true ∧ Left w1 w1.heap.size w3.heap.size g d d2 wx)
            case first =>
              go_region_held3 (fun w' => (w'.cell? ⟨w3.heap.size, 0, none⟩ = some (.int .i64 d.room) ∧ w'.cell? ⟨w3.heap.size, 1, none⟩ = some (.int .i64 d.e) ∧ w'.cell? ⟨w3.heap.size, 2, none⟩ = some (.int .i64 d.o) ∧ w'.cell? ⟨w3.heap.size, 3, none⟩ = some (.int .i64 d.u) ∧ w'.cell? ⟨w3.heap.size, 4, none⟩ = some (.string (str d.log)) ∧ w'.cell? ⟨w3.heap.size, 5, none⟩ = some (.string (str d.snap)) ∧ w'.cell? ⟨w3.heap.size, 6, none⟩ = some (.string (str d.stg)) ∧ w'.cell? ⟨w3.heap.size, 7, none⟩ = some (.bool d.armed) ∧ w'.cell? ⟨w3.heap.size, 8, none⟩ = some (.int .i64 d.cut)) ∧ (w'.cell? ⟨b, off + k * 12, none⟩ = some (.int .i64 a.kind) ∧ w'.cell? ⟨b, off + k * 12 + 1, none⟩ = some (.bool a.near) ∧ w'.cell? ⟨b, off + k * 12 + 2, none⟩ = some (.int .i64 a.ep) ∧ w'.cell? ⟨b, off + k * 12 + 3, none⟩ = some (.int .i64 a.at_) ∧ w'.cell? ⟨b, off + k * 12 + 4, none⟩ = some (.slice a.bA a.bs.length a.bc) ∧ w'.cell? ⟨b, off + k * 12 + 5, none⟩ = some (.int .u32 a.sum) ∧ w'.cell? ⟨b, off + k * 12 + 6, none⟩ = some (.int .i64 a.old.1) ∧ w'.cell? ⟨b, off + k * 12 + 7, none⟩ = some (.int .i64 a.old.2.1) ∧ w'.cell? ⟨b, off + k * 12 + 8, none⟩ = some (.int .i64 a.old.2.2) ∧ w'.cell? ⟨b, off + k * 12 + 9, none⟩ = some (.int .i64 a.c.1) ∧ w'.cell? ⟨b, off + k * 12 + 10, none⟩ = some (.int .i64 a.c.2.1) ∧ w'.cell? ⟨b, off + k * 12 + 11, none⟩ = some (.int .i64 a.c.2.2))) (first | with_reducible exact HX.out _ M0.out MG0.out | with_reducible exact HX.out _ Ma.out MGa.out | with_reducible exact HX.out _ M7.out MG7.out | exact HX.out _ NX.out NG.out | with_reducible exact HX.out _ (heapA M7.out) (MG7.out.alloc MG7.out.size _) | go_keep)
                (first | (go_at_call 11; first
                  | ((with_reducible refine (KD.out _ MD0.out MG0.out).mono ?_); rintro _ w7 ⟨d7, rfl, hd, hf⟩; have D7 := hid hd; have M7 := hid (hf.2 _ _ M0.out h6n (fun cs e => by cases e)); have MG7 := hid (MG0.out.trans hf.1); clear hd hf)
                  | ((with_reducible refine (KD.out _ MDa.out MGa.out).mono ?_); rintro _ w7 ⟨d7, rfl, hd, hf⟩; have D7 := hid hd; have M7 := hid (hf.2 _ _ Ma.out h6n (fun cs e => by cases e)); have MG7 := hid (MGa.out.trans hf.1); have Z7 := hid (hf.2 _ _ Za.out (by omega) (fun cs e => by cases e)); have NL := hid (left_soon (W0 := w1) D7.out M7.out MG7.out hdb h6r Z7.out); have NX := hid (NL.out.2.2.1 : _ = some (Obj.cells #[.int .i64 d.room, .int .i64 d.e, .int .i64 d.o, .int .i64 d.u, .string (str d.log), .string (str d.snap), .string (str d.stg), .bool d.armed, .int .i64 d.cut] 29 (0, 0))); have NG := hid NL.out.2.2.2.1; obtain ⟨⟨z0, z1, z2, z3, z4, z5, z6, z7, z8⟩, q0, q1, q2, q3, q4, q5, q6, q7, q8⟩ := nine Z7.out; clear hd hf)))
              all_goals go_wp2_with fail
              all_goals go_meet
              all_goals (first | exact ⟨_, d7, rfl, rfl, NL.out⟩ | exact ⟨_, d7, rfl, rfl, left_late D7.out M7.out MG7.out MG7.out.size⟩)
            case rest =>
              obtain ⟨g, d2, rfl, rfl, hL⟩ := hcut
              have hL1 := hid (hL.1 : _ = some (Obj.cells #[.int .i64 d2.room, .int .i64 d2.e, .int .i64 d2.o, .int .i64 d2.u, .string (str d2.log), .string (str d2.snap), .string (str d2.stg), .bool d2.armed, .int .i64 d2.cut] 29 (0, 0)))
              have hL3 := hid hL.2.2.1
              obtain ⟨w9, hw9⟩ : ∃ w9, w9 = wc.setRow w3.heap.size #[.int .i64 d2.room, .int .i64 d2.e, .int .i64 d2.o, .int .i64 d2.u, .string (str d2.log), .string (str d2.snap), .string (str d2.stg), .bool d2.armed, .int .i64 d2.cut] := ⟨_, rfl⟩
              have D9 := hid (show DK w9 w1.heap.size w1.heap.size d2 from by rw [hw9]; exact hL.2.1.row hL.2.2.1 (by decide) h6n _)
              have K9 := hid (show w9.heap[w3.heap.size]? = some (.cells #[.int .i64 d2.room, .int .i64 d2.e, .int .i64 d2.o, .int .i64 d2.u, .string (str d2.log), .string (str d2.snap), .string (str d2.stg), .bool d2.armed, .int .i64 d2.cut] 29 (0, 0)) from by rw [hw9]; exact setRow_heap _ _ _ _ _ _ hL.2.2.1)
              have G9 := hid (show Below w1.heap.size w1 w9 from by rw [hw9]; exact below_setRow hL.2.2.2.1 (by omega) _)
              obtain ⟨⟨x0, x1, x2, x3, x4, x5, x6, x7, x8⟩, _⟩ := nine hL1.out
              have HW9 := hid hw9
              clear hL hL1 hw9
              go_upto_region 15 with (refine wpList_store_row rfl 29 _ _ rfl w3.heap.size #[.int .i64 d2.room, .int .i64 d2.e, .int .i64 d2.o, .int .i64 d2.u, .string (str d2.log), .string (str d2.snap), .string (str d2.stg), .bool d2.armed, .int .i64 d2.cut] rfl rfl 29 _ hL3.out (by kernel_rfl) rfl (by kernel_rfl) ?_)
              rw [← HW9.out]
              clear x0 x1 x2 x3 x4 x5 x6 x7 x8 HW9 hL3
              have HY := hid (fun (w' : World) (h : w'.heap[w3.heap.size]? = some (.cells #[.int .i64 d2.room, .int .i64 d2.e, .int .i64 d2.o, .int .i64 d2.u, .string (str d2.log), .string (str d2.snap), .string (str d2.stg), .bool d2.armed, .int .i64 d2.cut] 29 (0, 0))) => (⟨(nine h).1.2.1, (nine h).1.2.2.1, (nine h).1.2.2.2.1, (nine h).1.2.2.2.2.1, (nine h).1.2.2.2.2.2.1⟩ : w'.cell? ⟨w3.heap.size, 1, none⟩ = some (.int .i64 d2.e) ∧ w'.cell? ⟨w3.heap.size, 2, none⟩ = some (.int .i64 d2.o) ∧ w'.cell? ⟨w3.heap.size, 3, none⟩ = some (.int .i64 d2.u) ∧ w'.cell? ⟨w3.heap.size, 4, none⟩ = some (.string (str d2.log)) ∧ w'.cell? ⟨w3.heap.size, 5, none⟩ = some (.string (str d2.snap))))
              have Y9 := hid (show w9.drew.heap[w3.heap.size]? = _ from K9.out)
              have D9d := hid (D9.out.keep (Below.drew (Below.refl _ w9)))
              have G9d := hid (G9.out.drew)
              clear D9 K9 G9
              go_region_held (fun w' => w'.cell? ⟨w3.heap.size, 1, none⟩ = some (.int .i64 d2.e) ∧ w'.cell? ⟨w3.heap.size, 2, none⟩ = some (.int .i64 d2.o) ∧ w'.cell? ⟨w3.heap.size, 3, none⟩ = some (.int .i64 d2.u) ∧ w'.cell? ⟨w3.heap.size, 4, none⟩ = some (.string (str d2.log)) ∧ w'.cell? ⟨w3.heap.size, 5, none⟩ = some (.string (str d2.snap))) (first | with_reducible exact HY.out _ Y9.out | with_reducible exact HY.out _ Y13.out | with_reducible exact HY.out _ Y12.out | with_reducible exact HY.out _ Y11.out | go_keep)
                ((first
                  | (go_at_call 12; (with_reducible refine (log_any _ _ _ _ D9d.out).mono ?_); rintro _ w11 ⟨v, rfl, ho, hb⟩; obtain ⟨L1, k1, rfl⟩ := ho.slice; have hs11 : (convert 32 9 (.slice L1 d2.log.length k1)).run Tryd.prog w11 = .ok (.string (str d2.log)) w11 := str_of k1 ho.bts; have D11 := hid (D9d.out.keep hb); have G11 := hid (below_step G9d.out G9d.out.size hb); have Y11 := hid (keep0 hb Y9.out); clear ho hb)
                  | (go_at_call 13; (with_reducible refine (snap_any _ _ _ _ D11.out).mono ?_); rintro _ w12 ⟨v, rfl, ho, hb⟩; obtain ⟨L2, k2, rfl⟩ := ho.slice; have hs12 : (convert 32 9 (.slice L2 d2.snap.length k2)).run Tryd.prog w12 = .ok (.string (str d2.snap)) w12 := str_of k2 ho.bts; have D12 := hid (D11.out.keep hb); have G12 := hid (below_step G11.out G11.out.size hb); have Y12 := hid (keep0 hb Y11.out); clear ho hb)
                  | (go_at_call 14; (with_reducible refine (claim_any _ _ _ _ D12.out).mono ?_); rintro _ w13 ⟨rfl, hb⟩; have D13 := hid (D12.out.keep hb); have G13 := hid (below_step G12.out G12.out.size hb); have Y13 := hid (keep0 hb Y12.out); clear hb)))
              all_goals go_wp2_with fail
              all_goals go_roundw
              all_goals (first | exact ⟨⟨k + 1, d2, by omega, by omega, by go_num, D13.out, Y13.out, G13.out⟩, by simp [intOf]; omega⟩ | skip)
              case rel => exact ⟨k + 1, d2, by omega, by omega, by go_num, D13.out, Y13.out, G13.out⟩
              case measure => simp [intOf]; omega
          · have h2' : (2000 : Int) < (a.bs.length : Int) := by omega
            go_wp2_with fail
            all_goals go_returns
            all_goals exact ⟨rfl, GW.out⟩
        · obtain rfl : k = 40 := by omega
          go_wp2_with fail
          all_goals go_returns
          all_goals exact ⟨rfl, G0.out.trans (GG.out.mono hsW)⟩
      · obtain rfl : k = xs.length := by omega
        go_wp2_with fail
        all_goals go_returns
        all_goals exact ⟨rfl, G0.out.trans (GG.out.mono hsW)⟩
end Go.Proofs.YtbpgeghenninnaaDoor
