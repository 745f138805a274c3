/- The Go function LeaseAlone, called with any arguments, returns true and leaves all that was there. Condition: none. -/
import Derived.Test.YthbbempmppnpkaaAlone
import Derived.Test.YthbbempmppnpkaaRows
import Derived.Deep.RegionHeld3
namespace Go.Proofs.Ythbbempmppnpkaa
open Go Go.ChangeShapes Go.WideShapes Go.RowKit
set_option maxRecDepth 10000 in
set_option maxHeartbeats 6000000 in
theorem leaseAlone_walk {H : Type} {enc : TypeId × Value → H} (W : World) (base : Nat) (args : Array Value) (ds : List (DataW H))
    (hval : ∀ (j : Nat) t v, Try.f5.params[j]? = some t → args[j]? = some v → Value.okWide Try.prog W .any base t v)
    (hA : ∃ p, DataW.TrodAll enc Try.prog W 0 (fun _ => true) true Try.f5.params.toList args.toList ds p) 
    (_ : (DataW.weightsEach Try.prog (Try.f5.params.toList ++ (OpenSpec.ofChange Rows.leaseAloneSpec).bare.plain.varTypes Try.prog) (ds ++ [])).all (· ≤ reachBytes) = true)
    (_ : laidMetH Try.prog Rows.leaseAloneRow.laid W) (_ : W.ShapedOpen Try.prog) :
    Calls Try.prog 5 args W fun e W' => e = .returned (.bool true) ∧ Below W.heap.size W W' := by
  obtain ⟨p, hA⟩ := hA
  rw [Try.params5] at hA hval
  obtain ⟨v0, d0, hargs, rfl, h0⟩ := trodAll_one hA
  subst hargs
  obtain ⟨A, cap, gs, rfl, hgs, hl63⟩ := steps_is (hval 0 38 v0 rfl rfl) h0
  clear h0 hval hA
  have GS := hid hgs
  have hl1 : (gs.length : Int) ≤ 9223372036854775807 := by omega
  clear hgs
  go_enter Try.func5, Try.ntmps5
  go_wp2_with fail
  refine (awake_any _).mono ?_
  rintro _ w1 ⟨rfl, hbb⟩
  have g1 := hid (show Below W.heap.size W w1 from by first | exact hbb | exact below_step (by go_grown) (by simp) hbb)
  clear hbb
  go_wp2_with fail
  refine (new_any _).mono ?_
  rintro _ w2 ⟨rfl, hd, hb⟩
  have D2 := hid hd
  have g2 := hid (below_step g1.out g1.out.size hb)
  clear hd hb
  go_wp2_with fail
  go_loopw [5, 7, 8, 9] (fun nv ev hv i wr => (∃ j : Nat, j ≤ gs.length ∧ j ≤ 60 ∧ i = .int .i64 j ∧ ∃ (n : Int) (D : Clm) (C : Nat → Clm) (h : Int), nv = .int .i64 n ∧ ev = .int .i64 D.e ∧ hv = .int .i64 h ∧ Alone (2 * j) n D C h ∧ DK wr w1.heap.size D ∧ C4 wr w2.heap.size C) ∧ Below W.heap.size W wr) (fun _ _ _ i _ => 60 - (intOf i).toNat)
  case atStart => exact ⟨⟨0, Nat.zero_le _, Nat.zero_le _, rfl, 0, ⟨0, 0, 0⟩, fun _ => ⟨0, 0, 0⟩, -1, rfl, rfl, rfl, Alone.start, D2.out.keep (by go_grown), heap_new w2 _⟩, g2.out.alloc g2.out.size _⟩
  case round =>
    obtain ⟨⟨j, hj, hj60, rfl, n, D, C, h, rfl, rfl, rfl, hal, hdk, hc4⟩, hbw⟩ := hrel
    have AH := hid hal
    have DH := hid hdk
    have CH := hid hc4
    have GH := hid hbw
    clear hal hdk hc4 hbw
    by_cases hlt : j < gs.length ∧ j < 60
    · obtain ⟨hjl, hj6⟩ := hlt
      have hjl' : (j : Int) < (gs.length : Int) := by omega
      have hj6' : (j : Int) < 60 := by omega
      rcases GS.out with rfl | ⟨b, off, rfl, hb, hc⟩
      · simp at hjl
      · obtain ⟨q1, q2, q3⟩ := hc j gs[j] (List.getElem?_eq_getElem hjl)
        have q1 := (GH.out.cell (p := ⟨b, off + j * 3, none⟩) hb).trans q1
        have q2 := (GH.out.cell (p := ⟨b, off + j * 3 + 1, none⟩) hb).trans q2
        have q3 := (GH.out.cell (p := ⟨b, off + j * 3 + 2, none⟩) hb).trans q3
        generalize gs[j] = g at *
        obtain ⟨a, r, c⟩ := g
        simp only at q1 q2 q3
        clear hc
        obtain ⟨k, hk, hke⟩ := i64_and3 a
        obtain ⟨tk, ht0, ht1, hte⟩ := i64_and31 c
        have hk' : (k : Int) < 4 := by omega
        have AW := hid (AH.out.wait ht0 ht1)
        obtain ⟨htk, hn2, hDe⟩ := AW.out.tick (by omega)
        obtain ⟨hn20, hn21⟩ := hn2
        obtain ⟨hDe0, hDe1⟩ := hDe
        have hn := (AH.out.tick (by omega)).2.1
        obtain ⟨n2, hn2e⟩ : ∃ n2, n2 = n + tk := ⟨_, rfl⟩
        rw [← hn2e] at AW htk hn20 hn21
        cases r with
        | true =>
          by_cases hl : leadsB (C k) n2 = true
          · obtain ⟨rfl, rfl, l3⟩ := AW.out.lead k hk hl
            have AA := hid ((AW.out.renew k hk hl).more (show 2 * j + 1 ≤ 2 * (j + 1) by omega))
            have hu := AW.out.until k hk
            have KT := hid (fun w h => renew_ok w1.heap.size (C k) n2 w htk hl h (by omega))
            have KL := hid (fun w => leads_any (C k) n2 w)
            rw [hl] at KL
            have hx : ¬ nextU (C k).u n2 < (C k).u := by unfold nextU; split <;> omega
            have CS := hid (fun (w : World) (h : C4 w w2.heap.size C) => c4_set h k hk ⟨(C k).e, (C k).w, nextU (C k).u n2⟩)
            have D3 := hid (DH.out.keep (show Below wr.heap.size wr (wr.alloc (.cells #[.int .i64 a, .bool true, .int .i64 c] 41)) from by go_grown))
            have C3 := hid (CH.out.keep (show Below wr.heap.size wr (wr.alloc (.cells #[.int .i64 a, .bool true, .int .i64 c] 41)) from by go_grown))
            have G3 := hid (GH.out.alloc GH.out.size (.cells #[.int .i64 a, .bool true, .int .i64 c] 41))
            have hcd : w2.heap.size ≠ w1.heap.size := by have := lt_of D2.out; omega
            obtain ⟨y0, y1, y2⟩ := c4_at C3.out k hk
            have HA := hid (fun (w : World) (h : C4 w w2.heap.size C) => c4_at h k hk)
            simp only [Clm.cells] at KT KL CS
            generalize nextU (C k).u n2 = u2 at *
            generalize (C k).e = ce at *
            generalize (C k).w = cw at *
            generalize (C k).u = cu at *
            clear hl hu l3
            go_wp2_with fail
            rw [← hn2e]
            clear hn2e hke hte ht0 ht1
            with_reducible refine (KT.out _ D3.out).mono ?_
            rintro _ w5 ⟨rfl, hd, hg⟩
            have DD5 := hid (DK.keep hd (show Below w5.heap.size w5 (w5.alloc (.cells #[.int .i64 ce, .int .i64 cw, .int .i64 u2] 23)) from by go_grown))
            have CC5 := hid ((C3.out.keepG hg hcd).keep (show Below w5.heap.size w5 (w5.alloc (.cells #[.int .i64 ce, .int .i64 cw, .int .i64 u2] 23)) from by go_grown))
            have E5 := hid (heap_new w5 (.cells #[.int .i64 ce, .int .i64 cw, .int .i64 u2] 23))
            have G5 := hid ((Below.grown G3.out hg G3.out.size (fun q hq => by cases hq; exact g1.out.size)).alloc (by have := G3.out.size; have := hg.size; omega) (.cells #[.int .i64 ce, .int .i64 cw, .int .i64 u2] 23))
            clear hd hg y0 y1 y2
            obtain ⟨wz, hwz⟩ : ∃ wz, wz = w5.alloc (.cells #[.int .i64 ce, .int .i64 cw, .int .i64 u2] 23) := ⟨_, rfl⟩
            go_wp2_with fail
            rw [← hwz] at DD5 CC5 E5 G5 ⊢
            clear hwz
            have hd1 : decide (u2 < cu) = false := decide_eq_false (by omega)
            have hd2 : (ce != ce) = false := by simp
            have hd3 : ((k : Int) != (k : Int)) = false := by simp
            clear hx
            have H0 := hid (show Below wz.heap.size wz (World.drew wz) from (Below.refl _ _).drew)
            have HX : Hid (∀ w', Below wz.heap.size wz w' → (w'.cell? ⟨w5.heap.size, 0, none⟩ = some (.int .i64 ce) ∧ w'.cell? ⟨w5.heap.size, 1, none⟩ = some (.int .i64 cw) ∧ w'.cell? ⟨w5.heap.size, 2, none⟩ = some (.int .i64 u2)) ∧ w'.cell? ⟨w2.heap.size, k * 3, none⟩ = some (.int .i64 ce) ∧ w'.cell? ⟨w2.heap.size, k * 3 + 1, none⟩ = some (.int .i64 cw) ∧ w'.cell? ⟨w2.heap.size, k * 3 + 2, none⟩ = some (.int .i64 cu)) := hid fun w' h => ⟨three_at E5.out h, HA.out w' (CC5.out.keep h)⟩
            go_region_held3 (fun w' => (w'.cell? ⟨w5.heap.size, 0, none⟩ = some (.int .i64 ce) ∧ w'.cell? ⟨w5.heap.size, 1, none⟩ = some (.int .i64 cw) ∧ w'.cell? ⟨w5.heap.size, 2, none⟩ = some (.int .i64 u2)) ∧ w'.cell? ⟨w2.heap.size, k * 3, none⟩ = some (.int .i64 ce) ∧ w'.cell? ⟨w2.heap.size, k * 3 + 1, none⟩ = some (.int .i64 cw) ∧ w'.cell? ⟨w2.heap.size, k * 3 + 2, none⟩ = some (.int .i64 cu)) (first | exact HX.out _ H0.out | exact HX.out _ H7.out | go_keep)
              ((go_at_call 14; refine (KL.out _).mono ?_; rintro _ w7 ⟨rfl, hb⟩; have H7 := hid (below_step H0.out H0.out.size hb); clear hb))
            all_goals
              clear hd1 hd2 hd3
              have C7 := hid (CC5.out.keep H7.out)
              have D7 := hid (DD5.out.keep H7.out)
              have G7 := hid (below_step G5.out G5.out.size H7.out)
              obtain ⟨⟨z0, z1, z2⟩, x0, x1, x2⟩ := HX.out _ H7.out
              obtain ⟨f0, f1, f2⟩ : w7.frozen? ⟨w2.heap.size, k * 3, none⟩ = false ∧ w7.frozen? ⟨w2.heap.size, k * 3 + 1, none⟩ = false ∧ w7.frozen? ⟨w2.heap.size, k * 3 + 2, none⟩ = false := ⟨c4_free C7.out _, c4_free C7.out _, c4_free C7.out _⟩
              go_wp2_with fail
              have CC := hid (CS.out _ C7.out)
              have DD := hid (D7.out.keepG (set3_grown w7 w2.heap.size (k * 3) (.int .i64 ce) (.int .i64 cw) (.int .i64 u2)) (by omega))
              have GG := hid (Below.grown G7.out (set3_grown w7 w2.heap.size (k * 3) (.int .i64 ce) (.int .i64 cw) (.int .i64 u2)) G7.out.size (fun q hq => by cases hq; exact g2.out.size))
              clear z0 z1 z2 x0 x1 x2 f0 f1 f2
              go_loopw [17, 18] (fun many i wx => (∃ m : Nat, m ≤ 4 ∧ i = .int .i64 m ∧ ∃ q : Int, many = .int .i64 q ∧ (q = 0 ∨ (q = 1 ∧ (k : Int) < m))) ∧ DK wx w1.heap.size ⟨ce, cw, u2⟩ ∧ C4 wx w2.heap.size (updC C k ⟨ce, cw, u2⟩) ∧ Below W.heap.size W wx) (fun _ i _ => 4 - (intOf i).toNat)
              case atStart => exact ⟨⟨0, by decide, rfl, 0, rfl, .inl rfl⟩, DD.out, CC.out, GG.out⟩
              case round =>
                obtain ⟨⟨m, hm, rfl, q, rfl, hq⟩, hdx, hcx, hgx⟩ := hrel
                have DX := hid hdx
                have CX := hid hcx
                have GX := hid hgx
                clear hdx hcx hgx
                by_cases hm4 : m < 4
                · have hm4' : (m : Int) < 4 := by omega
                  obtain ⟨x0, x1, x2⟩ := c4_at CX.out m hm4
                  have KL := hid (fun w => leads_any ((updC C k ⟨ce, cw, u2⟩) m) n2 w)
                  have HL := hid (AA.out.lead m hm4)
                  simp only [Clm.cells] at KL
                  generalize leadsB ((updC C k ⟨ce, cw, u2⟩) m) n2 = lb at *
                  generalize ((updC C k ⟨ce, cw, u2⟩) m).e = ce at *
                  generalize ((updC C k ⟨ce, cw, u2⟩) m).w = cw at *
                  generalize ((updC C k ⟨ce, cw, u2⟩) m).u = cu at *
                  cases lb with
                  | true =>
                    have hh := hid (HL.out rfl).1
                    obtain rfl : q = 0 := by have := hh.out; omega
                    go_wp2_with fail
                    refine (KL.out _).mono ?_
                    rintro _ wl ⟨rfl, hb⟩
                    have D9 := hid (DX.out.keep hb)
                    have C9 := hid (CX.out.keep hb)
                    have G9 := hid (below_step GX.out GX.out.size hb)
                    clear hb
                    go_wp2_with fail
                    go_roundw
                    case rel => exact ⟨⟨m + 1, by omega, by go_num, 1, by go_num, .inr ⟨rfl, by have := hh.out; omega⟩⟩, D9.out, C9.out, G9.out⟩
                    case measure => simp [intOf]; omega
                  | false =>
                    go_wp2_with fail
                    refine (KL.out _).mono ?_
                    rintro _ wl ⟨rfl, hb⟩
                    have D9 := hid (DX.out.keep hb)
                    have C9 := hid (CX.out.keep hb)
                    have G9 := hid (below_step GX.out GX.out.size hb)
                    clear hb
                    go_wp2_with fail
                    go_roundw
                    case rel => exact ⟨⟨m + 1, by omega, by go_num, q, rfl, by omega⟩, D9.out, C9.out, G9.out⟩
                    case measure => simp [intOf]; omega
                · obtain rfl : m = 4 := by omega
                  have hq1 : ¬ 1 < q := by omega
                  go_wp2_with fail
                  go_roundw
                  case rel => exact ⟨⟨j + 1, by omega, by omega, by go_num, _, _, _, _, rfl, rfl, rfl, AA.out, DX.out, CX.out⟩, GX.out⟩
                  case measure => simp [intOf]; omega
          · have hl' : leadsB (C k) n2 = false := by simpa using hl
            have KT := hid (fun w => renew_lapse w1.heap.size (C k) n2 w htk hl')
            have AA := hid (AW.out.more (show 2 * j + 1 ≤ 2 * (j + 1) by omega))
            have D3 := hid (DH.out.keep (show Below wr.heap.size wr (wr.alloc (.cells #[.int .i64 a, .bool true, .int .i64 c] 41)) from by go_grown))
            have C3 := hid (CH.out.keep (show Below wr.heap.size wr (wr.alloc (.cells #[.int .i64 a, .bool true, .int .i64 c] 41)) from by go_grown))
            have G3 := hid (GH.out.alloc GH.out.size (.cells #[.int .i64 a, .bool true, .int .i64 c] 41))
            have hcd : w2.heap.size ≠ w1.heap.size := by have := lt_of D2.out; omega
            obtain ⟨y0, y1, y2⟩ := c4_at C3.out k hk
            simp only [Clm.cells] at KT
            generalize hg0 : (C k).e = ce at *
            generalize hg1 : (C k).w = cw at *
            generalize hg2 : (C k).u = cu at *
            clear hl hl' hg0 hg1 hg2
            go_wp2_with fail
            rw [← hn2e]
            clear hn2e hke hte ht0 ht1
            with_reducible refine (KT.out _).mono ?_
            rintro _ w5 ⟨rfl, hb⟩
            have DD := hid ((D3.out.keep hb).keep (show Below w5.heap.size w5 (w5.alloc (.cells #[.int .i64 0, .int .i64 0, .int .i64 0] 23)) from by go_grown))
            have CC := hid ((C3.out.keep hb).keep (show Below w5.heap.size w5 (w5.alloc (.cells #[.int .i64 0, .int .i64 0, .int .i64 0] 23)) from by go_grown))
            have GG := hid ((below_step G3.out G3.out.size hb).alloc (by have := G3.out.size; have := hb.size; omega) (.cells #[.int .i64 0, .int .i64 0, .int .i64 0] 23))
            clear hb y0 y1 y2
            go_wp2_with fail
            go_loopw [17, 18] (fun many i wx => (∃ m : Nat, m ≤ 4 ∧ i = .int .i64 m ∧ ∃ q : Int, many = .int .i64 q ∧ (q = 0 ∨ (q = 1 ∧ h < m))) ∧ DK wx w1.heap.size D ∧ C4 wx w2.heap.size C ∧ Below W.heap.size W wx) (fun _ i _ => 4 - (intOf i).toNat)
            case atStart => exact ⟨⟨0, by decide, rfl, 0, rfl, .inl rfl⟩, DD.out, CC.out, GG.out⟩
            case round =>
              obtain ⟨⟨m, hm, rfl, q, rfl, hq⟩, hdx, hcx, hgx⟩ := hrel
              have DX := hid hdx
              have CX := hid hcx
              have GX := hid hgx
              clear hdx hcx hgx
              by_cases hm4 : m < 4
              · have hm4' : (m : Int) < 4 := by omega
                obtain ⟨x0, x1, x2⟩ := c4_at CX.out m hm4
                have KL := hid (fun w => leads_any (C m) n2 w)
                have HL := hid (AA.out.lead m hm4)
                simp only [Clm.cells] at KL
                generalize leadsB (C m) n2 = lb at *
                generalize (C m).e = ce at *
                generalize (C m).w = cw at *
                generalize (C m).u = cu at *
                cases lb with
                | true =>
                  have hh := hid (HL.out rfl).1
                  obtain rfl : q = 0 := by have := hh.out; omega
                  go_wp2_with fail
                  refine (KL.out _).mono ?_
                  rintro _ wl ⟨rfl, hb⟩
                  have D9 := hid (DX.out.keep hb)
                  have C9 := hid (CX.out.keep hb)
                  have G9 := hid (below_step GX.out GX.out.size hb)
                  clear hb
                  go_wp2_with fail
                  go_roundw
                  case rel => exact ⟨⟨m + 1, by omega, by go_num, 1, by go_num, .inr ⟨rfl, by have := hh.out; omega⟩⟩, D9.out, C9.out, G9.out⟩
                  case measure => simp [intOf]; omega
                | false =>
                  go_wp2_with fail
                  refine (KL.out _).mono ?_
                  rintro _ wl ⟨rfl, hb⟩
                  have D9 := hid (DX.out.keep hb)
                  have C9 := hid (CX.out.keep hb)
                  have G9 := hid (below_step GX.out GX.out.size hb)
                  clear hb
                  go_wp2_with fail
                  go_roundw
                  case rel => exact ⟨⟨m + 1, by omega, by go_num, q, rfl, by omega⟩, D9.out, C9.out, G9.out⟩
                  case measure => simp [intOf]; omega
              · obtain rfl : m = 4 := by omega
                have hq1 : ¬ 1 < q := by omega
                go_wp2_with fail
                go_roundw
                case rel => exact ⟨⟨j + 1, by omega, by omega, by go_num, _, _, _, _, rfl, rfl, rfl, AA.out, DX.out, CX.out⟩, GX.out⟩
                case measure => simp [intOf]; omega
        | false =>
          by_cases hf : freeB D k n2 = true
          · have hD3 : ¬ 1099511627776 ≤ D.e := by omega
            have hh : heldF D k n2 = 0 := by unfold heldF; rw [if_pos hf, if_neg hD3]
            have KT := hid (fun w h => take_ok w1.heap.size D k n2 w h (AW.out.ok (by omega)) (by omega) htk hh hD3)
            have AA := hid ((AW.out.taken k hk hf).more (show 2 * j + 1 + 1 ≤ 2 * (j + 1) by omega))
            have HW := hid (fun (m : Nat) (hm : m < 4) => AW.out.until m hm)
            have HT := hid (fun (m : Nat) (hm : m < 4) (hne : m ≠ k) => AW.out.take k hf m hm hne)
            have CS := hid (fun (w : World) (h : C4 w w2.heap.size C) => c4_set h k hk ⟨D.e + 1, k, n2 + 40⟩)
            have D3 := hid (DH.out.keep (show Below wr.heap.size wr (wr.alloc (.cells #[.int .i64 a, .bool false, .int .i64 c] 41)) from by go_grown))
            have C3 := hid (CH.out.keep (show Below wr.heap.size wr (wr.alloc (.cells #[.int .i64 a, .bool false, .int .i64 c] 41)) from by go_grown))
            have G3 := hid (GH.out.alloc GH.out.size (.cells #[.int .i64 a, .bool false, .int .i64 c] 41))
            have hcd : w2.heap.size ≠ w1.heap.size := by have := lt_of D2.out; omega
            simp only [Clm.cells] at KT CS
            clear hf hh hD3
            go_wp2_with fail
            rw [← hn2e]
            clear hn2e hke hte ht0 ht1
            with_reducible refine (KT.out _ D3.out).mono ?_
            rintro _ w5 ⟨rfl, hd, hg⟩
            have CC5 := hid ((C3.out.keepG hg hcd).keep (show Below w5.heap.size w5 (w5.alloc (.cells #[.int .i64 (D.e + 1), .int .i64 k, .int .i64 (n2 + 40)] 23)) from by go_grown))
            have DD5 := hid (DK.keep hd (show Below w5.heap.size w5 (w5.alloc (.cells #[.int .i64 (D.e + 1), .int .i64 k, .int .i64 (n2 + 40)] 23)) from by go_grown))
            have E5 := hid (heap_new w5 (.cells #[.int .i64 (D.e + 1), .int .i64 k, .int .i64 (n2 + 40)] 23))
            have G5 := hid ((Below.grown G3.out hg G3.out.size (fun q hq => by cases hq; exact g1.out.size)).alloc (by have := G3.out.size; have := hg.size; omega) (.cells #[.int .i64 (D.e + 1), .int .i64 k, .int .i64 (n2 + 40)] 23))
            have HSZ := hid (show w2.heap.size < w5.heap.size from by have := lt_of C3.out; have := hg.size; omega)
            clear hd hg
            obtain ⟨wz, hwz⟩ : ∃ wz, wz = w5.alloc (.cells #[.int .i64 (D.e + 1), .int .i64 k, .int .i64 (n2 + 40)] 23) := ⟨_, rfl⟩
            have hsz := lt_of C3.out
            have hne5 : w2.heap.size < w5.heap.size := HSZ.out
            go_wp2_with fail
            rw [← hwz] at DD5 CC5 E5 G5 ⊢
            clear hwz hsz
            go_loop [16] (fun i => ∃ m : Nat, m ≤ 4 ∧ i = .int .i64 m) (fun i => 4 - (intOf i).toNat)
            case atStart => exact ⟨0, by decide, rfl⟩
            case round =>
              obtain ⟨m, hm, rfl⟩ := hrel
              by_cases hm4 : m < 4
              · have hm4' : (m : Int) < 4 := by omega
                by_cases hmk : m = k
                · subst hmk
                  go_wp2_with fail
                  go_round
                  case rel => exact ⟨m + 1, by omega, by go_num⟩
                  case measure => simp [intOf]; omega
                · have hmk' : ((m : Int) == (k : Int)) = false := by simp; omega
                  obtain ⟨x0, x1, x2⟩ := c4_at CC5.out m hm4
                  obtain ⟨hu0, hu1⟩ := HW.out m hm4
                  have hx := HT.out m hm4 hmk
                  generalize hge : (C m).e = ce at x0 hx
                  generalize hgw : (C m).w = cw at x1
                  generalize hgu : (C m).u = cu at x2 hu0 hu1 hx
                  clear hge hgw hgu
                  by_cases hce : 0 < ce
                  · have hcu : ¬ n2 < cu + 2 := by omega
                    clear hx
                    go_wp2_with fail
                    go_round
                    case rel => exact ⟨m + 1, by omega, by go_num⟩
                    case measure => simp [intOf]; omega
                  · clear hx
                    go_wp2_with fail
                    go_round
                    case rel => exact ⟨m + 1, by omega, by go_num⟩
                    case measure => simp [intOf]; omega
              · obtain rfl : m = 4 := by omega
                obtain ⟨z0, z1, z2⟩ := three E5.out
                obtain ⟨x0, x1, x2⟩ := c4_at CC5.out k hk
                obtain ⟨f0, f1, f2⟩ : wz.frozen? ⟨w2.heap.size, k * 3, none⟩ = false ∧ wz.frozen? ⟨w2.heap.size, k * 3 + 1, none⟩ = false ∧ wz.frozen? ⟨w2.heap.size, k * 3 + 2, none⟩ = false := ⟨c4_free CC5.out _, c4_free CC5.out _, c4_free CC5.out _⟩
                generalize (C k).e = ce at x0
                generalize (C k).w = cw at x1
                generalize (C k).u = cu at x2
                go_wp2_with fail
                have CC := hid (CS.out _ CC5.out)
                have DD := hid (DD5.out.keepG (set3_grown wz w2.heap.size (k * 3) (.int .i64 (D.e + 1)) (.int .i64 k) (.int .i64 (n2 + 40))) (by omega))
                have GG := hid (Below.grown G5.out (set3_grown wz w2.heap.size (k * 3) (.int .i64 (D.e + 1)) (.int .i64 k) (.int .i64 (n2 + 40))) G5.out.size (fun q hq => by cases hq; exact g2.out.size))
                clear z0 z1 z2 x0 x1 x2 f0 f1 f2
                go_loopw [17, 18] (fun many i wx => (∃ m : Nat, m ≤ 4 ∧ i = .int .i64 m ∧ ∃ q : Int, many = .int .i64 q ∧ (q = 0 ∨ (q = 1 ∧ (k : Int) < m))) ∧ DK wx w1.heap.size ⟨D.e + 1, k, n2 + 40⟩ ∧ C4 wx w2.heap.size (updC C k ⟨D.e + 1, k, n2 + 40⟩) ∧ Below W.heap.size W wx) (fun _ i _ => 4 - (intOf i).toNat)
                case atStart => exact ⟨⟨0, by decide, rfl, 0, rfl, .inl rfl⟩, DD.out, CC.out, GG.out⟩
                case round =>
                  obtain ⟨⟨m, hm, rfl, q, rfl, hq⟩, hdx, hcx, hgx⟩ := hrel
                  have DX := hid hdx
                  have CX := hid hcx
                  have GX := hid hgx
                  clear hdx hcx hgx
                  by_cases hm4 : m < 4
                  · have hm4' : (m : Int) < 4 := by omega
                    obtain ⟨x0, x1, x2⟩ := c4_at CX.out m hm4
                    have KL := hid (fun w => leads_any ((updC C k ⟨D.e + 1, k, n2 + 40⟩) m) n2 w)
                    have HL := hid (AA.out.lead m hm4)
                    simp only [Clm.cells] at KL
                    generalize leadsB ((updC C k ⟨D.e + 1, k, n2 + 40⟩) m) n2 = lb at *
                    generalize ((updC C k ⟨D.e + 1, k, n2 + 40⟩) m).e = ce at *
                    generalize ((updC C k ⟨D.e + 1, k, n2 + 40⟩) m).w = cw at *
                    generalize ((updC C k ⟨D.e + 1, k, n2 + 40⟩) m).u = cu at *
                    cases lb with
                    | true =>
                      have hh := hid (HL.out rfl).1
                      obtain rfl : q = 0 := by have := hh.out; omega
                      go_wp2_with fail
                      refine (KL.out _).mono ?_
                      rintro _ wl ⟨rfl, hb⟩
                      have D9 := hid (DX.out.keep hb)
                      have C9 := hid (CX.out.keep hb)
                      have G9 := hid (below_step GX.out GX.out.size hb)
                      clear hb
                      go_wp2_with fail
                      go_roundw
                      case rel => exact ⟨⟨m + 1, by omega, by go_num, 1, by go_num, .inr ⟨rfl, by have := hh.out; omega⟩⟩, D9.out, C9.out, G9.out⟩
                      case measure => simp [intOf]; omega
                    | false =>
                      go_wp2_with fail
                      refine (KL.out _).mono ?_
                      rintro _ wl ⟨rfl, hb⟩
                      have D9 := hid (DX.out.keep hb)
                      have C9 := hid (CX.out.keep hb)
                      have G9 := hid (below_step GX.out GX.out.size hb)
                      clear hb
                      go_wp2_with fail
                      go_roundw
                      case rel => exact ⟨⟨m + 1, by omega, by go_num, q, rfl, by omega⟩, D9.out, C9.out, G9.out⟩
                      case measure => simp [intOf]; omega
                  · obtain rfl : m = 4 := by omega
                    have hq1 : ¬ 1 < q := by omega
                    go_wp2_with fail
                    go_roundw
                    case rel => exact ⟨⟨j + 1, by omega, by omega, by go_num, _, _, _, _, rfl, rfl, rfl, AA.out, DX.out, CX.out⟩, GX.out⟩
                    case measure => simp [intOf]; omega
          · have hf' : freeB D k n2 = false := by simpa using hf
            obtain ⟨g, hg4, rfl, hgk, hgu⟩ := AW.out.held (by omega) k hf'
            have hgk' : ((g : Int) == (k : Int)) = false := by simp; omega
            have hg4' : (g : Int) < 4 := by omega
            have hh : heldF D k n2 = 170 := by unfold heldF; rw [hf']; rfl
            have KT := hid (fun w h => take_held w1.heap.size D k n2 w h (AW.out.ok (by omega)) (by omega) htk (by rw [hh]; decide))
            rw [hh] at KT
            simp only [Clm.cells] at KT
            have AA := hid (AW.out.more (show 2 * j + 1 ≤ 2 * (j + 1) by omega))
            have hu := AW.out.until g hg4
            have D3 := hid (DH.out.keep (show Below wr.heap.size wr (wr.alloc (.cells #[.int .i64 a, .bool false, .int .i64 c] 41)) from by go_grown))
            have C3 := hid (CH.out.keep (show Below wr.heap.size wr (wr.alloc (.cells #[.int .i64 a, .bool false, .int .i64 c] 41)) from by go_grown))
            have G3 := hid (GH.out.alloc GH.out.size (.cells #[.int .i64 a, .bool false, .int .i64 c] 41))
            have hcd : w2.heap.size ≠ w1.heap.size := by have := lt_of D2.out; omega
            have HA := hid (fun (w : World) (h : C4 w w2.heap.size C) => c4_at h g hg4)
            have HG := hid (show Hid (n2 < (C g).u + 2) from hid hgu)
            clear hf hf' hgu
            go_wp2_with fail
            rw [← hn2e]
            clear hn2e hke hte ht0 ht1
            with_reducible refine (KT.out _ D3.out).mono ?_
            rintro _ w5 ⟨rfl, hb⟩
            have DD := hid ((D3.out.keep hb).keep (show Below w5.heap.size w5 (w5.alloc (.cells #[.int .i64 0, .int .i64 0, .int .i64 0] 23)) from by go_grown))
            have CC := hid ((C3.out.keep hb).keep (show Below w5.heap.size w5 (w5.alloc (.cells #[.int .i64 0, .int .i64 0, .int .i64 0] 23)) from by go_grown))
            have GG := hid ((below_step G3.out G3.out.size hb).alloc (by have := G3.out.size; have := hb.size; omega) (.cells #[.int .i64 0, .int .i64 0, .int .i64 0] 23))
            obtain ⟨y0, y1, y2⟩ := HA.out _ CC.out
            have hgu := HG.out.out
            generalize (C g).e = ce at y0
            generalize (C g).w = cw at y1
            generalize hcu : (C g).u = cu at *
            clear hb hcu
            go_wp2_with fail
            go_loopw [17, 18] (fun many i wx => (∃ m : Nat, m ≤ 4 ∧ i = .int .i64 m ∧ ∃ q : Int, many = .int .i64 q ∧ (q = 0 ∨ (q = 1 ∧ (g : Int) < m))) ∧ DK wx w1.heap.size D ∧ C4 wx w2.heap.size C ∧ Below W.heap.size W wx) (fun _ i _ => 4 - (intOf i).toNat)
            case atStart => exact ⟨⟨0, by decide, rfl, 0, rfl, .inl rfl⟩, DD.out, CC.out, GG.out⟩
            case round =>
              obtain ⟨⟨m, hm, rfl, q, rfl, hq⟩, hdx, hcx, hgx⟩ := hrel
              have DX := hid hdx
              have CX := hid hcx
              have GX := hid hgx
              clear hdx hcx hgx
              by_cases hm4 : m < 4
              · have hm4' : (m : Int) < 4 := by omega
                obtain ⟨x0, x1, x2⟩ := c4_at CX.out m hm4
                have KL := hid (fun w => leads_any (C m) n2 w)
                have HL := hid (AA.out.lead m hm4)
                simp only [Clm.cells] at KL
                generalize leadsB (C m) n2 = lb at *
                generalize (C m).e = ce at *
                generalize (C m).w = cw at *
                generalize (C m).u = cu at *
                cases lb with
                | true =>
                  have hh := hid (HL.out rfl).1
                  obtain rfl : q = 0 := by have := hh.out; omega
                  go_wp2_with fail
                  refine (KL.out _).mono ?_
                  rintro _ wl ⟨rfl, hb⟩
                  have D9 := hid (DX.out.keep hb)
                  have C9 := hid (CX.out.keep hb)
                  have G9 := hid (below_step GX.out GX.out.size hb)
                  clear hb
                  go_wp2_with fail
                  go_roundw
                  case rel => exact ⟨⟨m + 1, by omega, by go_num, 1, by go_num, .inr ⟨rfl, by have := hh.out; omega⟩⟩, D9.out, C9.out, G9.out⟩
                  case measure => simp [intOf]; omega
                | false =>
                  go_wp2_with fail
                  refine (KL.out _).mono ?_
                  rintro _ wl ⟨rfl, hb⟩
                  have D9 := hid (DX.out.keep hb)
                  have C9 := hid (CX.out.keep hb)
                  have G9 := hid (below_step GX.out GX.out.size hb)
                  clear hb
                  go_wp2_with fail
                  go_roundw
                  case rel => exact ⟨⟨m + 1, by omega, by go_num, q, rfl, by omega⟩, D9.out, C9.out, G9.out⟩
                  case measure => simp [intOf]; omega
              · obtain rfl : m = 4 := by omega
                have hq1 : ¬ 1 < q := by omega
                go_wp2_with fail
                go_roundw
                case rel => exact ⟨⟨j + 1, by omega, by omega, by go_num, _, _, _, _, rfl, rfl, rfl, AA.out, DX.out, CX.out⟩, GX.out⟩
                case measure => simp [intOf]; omega
    · have hcase : ¬ j < gs.length ∨ (j < gs.length ∧ ¬ j < 60) := by omega
      rcases hcase with hjc | ⟨hjc, hjd⟩
      all_goals
        go_wp2_with fail
        all_goals go_returns
        all_goals exact ⟨by first | rfl | simp, GH.out⟩
end Go.Proofs.Ythbbempmppnpkaa
