/- The Go function CodeReads, called with any arguments, returns true and leaves all that was there. Condition: none. -/
import Derived.Test.YtanjgobcfgmpfaaTwo
import Derived.Test.YtanjgobcfgmpfaaRows
import Derived.Deep.RegionHeld3
namespace Go.Proofs.Ytanjgobcfgmpfaa
open Go Go.ChangeShapes Go.WideShapes Go.RowKit
set_option maxRecDepth 10000 in
set_option maxHeartbeats 8000000 in
theorem codeReads_walk {H : Type} {enc : TypeId × Value → H} (W : World) (base : Nat) (args : Array Value) (ds : List (DataW H))
    (hval : ∀ (j : Nat) t v, Try.f4.params[j]? = some t → args[j]? = some v → Value.okWide Try.prog W .any base t v)
    (hA : ∃ p, DataW.TrodAll enc Try.prog W 0 (fun _ => true) true Try.f4.params.toList args.toList ds p) 
    (_ : (DataW.weightsEach Try.prog (Try.f4.params.toList ++ (OpenSpec.ofChange Rows.codeReadsSpec).bare.plain.varTypes Try.prog) (ds ++ [])).all (· ≤ reachBytes) = true)
    (_ : laidMetH Try.prog Rows.codeReadsRow.laid W) (_ : W.ShapedOpen Try.prog) :
    Calls Try.prog 4 args W fun e W' => e = .returned (.bool true) ∧ Below W.heap.size W W' := by
  obtain ⟨p, hA⟩ := hA
  rw [Try.params4] at hA hval
  obtain ⟨v0, v1, d0, d1, p0, p1, hargs, rfl, rfl, h0, h1⟩ := trodAll_two hA
  subst hargs
  obtain ⟨A, cap, bs0, rfl, hb0, hcap, hl63⟩ := bytes_is (hval 0 22 v0 rfl rfl) h0
  obtain ⟨C, cap2, gs, rfl, hgs, hg63, hgb⟩ := pairs_is (hval 1 37 v1 rfl rfl) h1
  clear h0 h1 hval hA
  have GS := hid hgs
  have GB := hid hgb
  have hl1 : (gs.length : Int) ≤ 9223372036854775807 := by omega
  clear hgs hgb
  by_cases hs0 : bs0.length ≤ 10000
  · have hs' : ¬ (10000 : Int) < (bs0.length : Int) := by omega
    have KR := hid (fun w (hw : Below W.heap.size W w) => read_any A cap bs0 w (hb0.keep hw) (by omega))
    have HB0 := hid hb0
    have hlow := hid (show Low A bs0 W.heap.size from by
      rcases hb0 with h | ⟨b', o', rfl, h, _⟩
      · exact .inl h
      · exact .inr fun b o e => by cases e; exact h)
    clear hb0
    go_enter Try.func4, Try.ntmps4
    go_wp2_with fail
    refine (awake_any _).mono ?_
    rintro _ w1 ⟨rfl, hbb⟩
    have g1 := hid (show Below W.heap.size W w1 from hbb)
    clear hbb
    go_wp2_with fail
    refine (KR.out _ g1.out).mono ?_
    rintro _ w2 ⟨r1, rfl, hr1', hs, hb⟩
    have hr1 : W.heap.size ≤ r1 := Nat.le_trans g1.out.size hr1'
    have g2 := hid (below_step g1.out g1.out.size hb)
    have S2 := hid (hs.keep (show Below w2.heap.size w2 (w2.alloc (.cells #[.slice A bs0.length cap, .int .i64 0] 43)) from by go_grown))
    have g3 := hid (g2.out.alloc g2.out.size (.cells #[.slice A bs0.length cap, .int .i64 0] 43))
    have R2 := hid (show RR (w2.alloc (.cells #[.slice A bs0.length cap, .int .i64 0] 43)) W.heap.size w2.heap.size bs0 0 from ⟨A, cap, heap_new w2 _, hcap, HB0.out.keep g3.out, hlow.out, g2.out.size⟩)
    obtain ⟨r2, hr2e⟩ : ∃ r2, r2 = w2.heap.size := ⟨_, rfl⟩
    have hr2 : W.heap.size ≤ r2 := by rw [hr2e]; exact g2.out.size
    clear hs hb
    go_wp2_with fail
    rw [← hr2e] at R2 ⊢
    clear hr2e
    go_loopw [8] (fun i wr => (∃ j : Nat, j ≤ gs.length ∧ j ≤ 60 ∧ i = .int .i64 j) ∧ ∃ (bs : List UInt8) (e : Int), RS wr r1 bs e ∧ RR wr W.heap.size r2 bs e ∧ bs.length ≤ 10000 ∧ Below W.heap.size W wr) (fun i _ => 60 - (intOf i).toNat)
    case atStart => exact ⟨⟨0, Nat.zero_le _, Nat.zero_le _, rfl⟩, bs0, 0, S2.out, R2.out, hs0, g3.out⟩
    case round =>
      obtain ⟨⟨j, hj, hj60, rfl⟩, bs, e, hs, hr, hl, hbw⟩ := hrel
      have SH := hid hs
      have RH := hid hr
      have LH := hid hl
      have GH := hid hbw
      clear hs hr hl hbw S2 R2 g1 g2 g3
      by_cases hlt : j < gs.length ∧ j < 60
      · obtain ⟨hjl, hj6⟩ := hlt
        have hjl' : (j : Int) < (gs.length : Int) := by omega
        have hj6' : (j : Int) < 60 := by omega
        rcases GS.out with rfl | ⟨b, off, rfl, hb, hc⟩
        · simp at hjl
        · have HX0 := hid (show ∀ w', Below W.heap.size W w' → w'.cell? ⟨b, off + j * 2, none⟩ = some (.int .i64 (gs[j]).1) ∧ w'.cell? ⟨b, off + j * 2 + 1, none⟩ = some (.int .i64 (gs[j]).2) from fun w' h => by
            obtain ⟨q1, q2⟩ := hc j gs[j] (List.getElem?_eq_getElem hjl)
            exact ⟨(h.cell (p := ⟨b, off + j * 2, none⟩) hb).trans q1, (h.cell (p := ⟨b, off + j * 2 + 1, none⟩) hb).trans q2⟩)
          obtain ⟨_, hy⟩ := GB.out gs[j] (List.getElem_mem hjl)
          generalize gs[j] = g at *
          obtain ⟨x, y⟩ := g
          simp only at HX0 hy
          unfold i64 at hy
          have HX := hid (fun w' h => (HX0.out w' h).2)
          obtain ⟨x0, x1⟩ := HX0.out _ GH.out
          have SD := hid (show RS (World.drew wr) r1 bs e from SH.out)
          have RD := hid (show RR (World.drew wr) W.heap.size r2 bs e from RH.out)
          have GD := hid GH.out.drew
          clear hc hs' hs0
          obtain ⟨z, hz, hze⟩ := i64_and7 x
          have hz8 : z = 0 ∨ z = 1 ∨ z = 2 ∨ z = 3 ∨ z = 4 ∨ z = 5 ∨ z = 6 ∨ z = 7 := by omega
          clear hz
          rcases hz8 with rfl | rfl | rfl | rfl | rfl | rfl | rfl | rfl
          · have L3 := hid (Nat.le_trans (takeU_len bs e) LH.out)
            have K19 := hid (fun w h => ruint_any r1 bs e w h (by have := LH.out; omega))
            have K20 := hid (fun w h => refuint_any W.heap.size r2 bs e w h (by have := LH.out; omega))
            have K21 := hid (fun w h => rint_any r1 bs e w h (by have := LH.out; omega))
            have K22 := hid (fun w h => refint_any W.heap.size r2 bs e w h (by have := LH.out; omega))
            generalize takeU bs e = T at *
            obtain ⟨tn, tb, te⟩ := T
            simp only at L3 K19 K20 K21 K22
            generalize unfoldF tn = tz at *

            go_wp2_with fail
            refine (K19.out _ SH.out).mono ?_
            rintro _ w2 ⟨rfl, hs, hg⟩
            have S2 := hid hs
            have R2 := hid (two_code SH.out RH.out hr1 hg)
            have G2 := hid (Below.grown GH.out hg GH.out.size (fun q hq => by cases hq; exact hr1))
            clear hs hg
            go_wp2_with fail
            refine (K20.out _ R2.out).mono ?_
            rintro _ w3 ⟨rfl, hs, hg⟩
            have S3 := hid (two_ref S2.out R2.out hg)
            have R3 := hid hs
            have G3 := hid (Below.grown G2.out hg G2.out.size (fun q hq => by cases hq; exact hr2))
            clear hs hg
            go_wp2_with fail

            have KL := hid (fun w h => left_any r1 tb te w h)
            have KE := hid (fun w h => err_any r1 tb te w h)
            have SE := hid (show RS (World.drew w3) r1 tb te from S3.out)
            obtain ⟨A9, cap9, hR9, _, _, _, _⟩ := R3.out
            obtain ⟨y0, y1⟩ := two hR9
            have Y0 := hid y0
            have Y1 := hid y1
            have hd1 : ∀ x : Int, (x != x) = false := fun x => by simp
            clear hR9
            go_region_held3 (fun w' => w'.cell? ⟨r2, 0, none⟩ = some (.slice A9 tb.length cap9) ∧ w'.cell? ⟨r2, 1, none⟩ = some (.int .i64 te)) (first | exact ⟨Y0.out, Y1.out⟩ | go_keep)
              (first
                | (go_at_call 30; refine (KL.out (World.drew w3) SE.out).mono ?_; rintro _ w8 ⟨rfl, rfl⟩)
                | (go_at_call 31; refine (KE.out (World.drew w3) SE.out).mono ?_; rintro _ w8 ⟨rfl, rfl⟩))
            all_goals
              clear hd1
              go_wp2_with fail
              go_roundw
              case rel => exact ⟨⟨j + 1, by omega, by omega, by go_num⟩, _, _, S3.out, R3.out, L3.out, G3.out.drew⟩
              case measure => simp [intOf]; omega
          · have L3 := hid (Nat.le_trans (takeU_len bs e) LH.out)
            have K19 := hid (fun w h => ruint_any r1 bs e w h (by have := LH.out; omega))
            have K20 := hid (fun w h => refuint_any W.heap.size r2 bs e w h (by have := LH.out; omega))
            have K21 := hid (fun w h => rint_any r1 bs e w h (by have := LH.out; omega))
            have K22 := hid (fun w h => refint_any W.heap.size r2 bs e w h (by have := LH.out; omega))
            generalize takeU bs e = T at *
            obtain ⟨tn, tb, te⟩ := T
            simp only at L3 K19 K20 K21 K22
            generalize unfoldF tn = tz at *

            go_wp2_with fail
            refine (K19.out _ SH.out).mono ?_
            rintro _ w2 ⟨rfl, hs, hg⟩
            have S2 := hid hs
            have R2 := hid (two_code SH.out RH.out hr1 hg)
            have G2 := hid (Below.grown GH.out hg GH.out.size (fun q hq => by cases hq; exact hr1))
            clear hs hg
            go_wp2_with fail
            refine (K20.out _ R2.out).mono ?_
            rintro _ w3 ⟨rfl, hs, hg⟩
            have S3 := hid (two_ref S2.out R2.out hg)
            have R3 := hid hs
            have G3 := hid (Below.grown G2.out hg G2.out.size (fun q hq => by cases hq; exact hr2))
            clear hs hg
            go_wp2_with fail

            have KL := hid (fun w h => left_any r1 tb te w h)
            have KE := hid (fun w h => err_any r1 tb te w h)
            have SE := hid (show RS (World.drew w3) r1 tb te from S3.out)
            obtain ⟨A9, cap9, hR9, _, _, _, _⟩ := R3.out
            obtain ⟨y0, y1⟩ := two hR9
            have Y0 := hid y0
            have Y1 := hid y1
            have hd1 : ∀ x : Int, (x != x) = false := fun x => by simp
            clear hR9
            go_region_held3 (fun w' => w'.cell? ⟨r2, 0, none⟩ = some (.slice A9 tb.length cap9) ∧ w'.cell? ⟨r2, 1, none⟩ = some (.int .i64 te)) (first | exact ⟨Y0.out, Y1.out⟩ | go_keep)
              (first
                | (go_at_call 30; refine (KL.out (World.drew w3) SE.out).mono ?_; rintro _ w8 ⟨rfl, rfl⟩)
                | (go_at_call 31; refine (KE.out (World.drew w3) SE.out).mono ?_; rintro _ w8 ⟨rfl, rfl⟩))
            all_goals
              clear hd1
              go_wp2_with fail
              go_roundw
              case rel => exact ⟨⟨j + 1, by omega, by omega, by go_num⟩, _, _, S3.out, R3.out, L3.out, G3.out.drew⟩
              case measure => simp [intOf]; omega
          · have L3 := hid (Nat.le_trans (takeU_len bs e) LH.out)
            have K19 := hid (fun w h => ruint_any r1 bs e w h (by have := LH.out; omega))
            have K20 := hid (fun w h => refuint_any W.heap.size r2 bs e w h (by have := LH.out; omega))
            have K21 := hid (fun w h => rint_any r1 bs e w h (by have := LH.out; omega))
            have K22 := hid (fun w h => refint_any W.heap.size r2 bs e w h (by have := LH.out; omega))
            generalize takeU bs e = T at *
            obtain ⟨tn, tb, te⟩ := T
            simp only at L3 K19 K20 K21 K22
            generalize unfoldF tn = tz at *

            go_wp2_with fail
            refine (K21.out _ SH.out).mono ?_
            rintro _ w2 ⟨rfl, hs, hg⟩
            have S2 := hid hs
            have R2 := hid (two_code SH.out RH.out hr1 hg)
            have G2 := hid (Below.grown GH.out hg GH.out.size (fun q hq => by cases hq; exact hr1))
            clear hs hg
            go_wp2_with fail
            refine (K22.out _ R2.out).mono ?_
            rintro _ w3 ⟨rfl, hs, hg⟩
            have S3 := hid (two_ref S2.out R2.out hg)
            have R3 := hid hs
            have G3 := hid (Below.grown G2.out hg G2.out.size (fun q hq => by cases hq; exact hr2))
            clear hs hg
            go_wp2_with fail

            have KL := hid (fun w h => left_any r1 tb te w h)
            have KE := hid (fun w h => err_any r1 tb te w h)
            have SE := hid (show RS (World.drew w3) r1 tb te from S3.out)
            obtain ⟨A9, cap9, hR9, _, _, _, _⟩ := R3.out
            obtain ⟨y0, y1⟩ := two hR9
            have Y0 := hid y0
            have Y1 := hid y1
            have hd1 : ∀ x : Int, (x != x) = false := fun x => by simp
            clear hR9
            go_region_held3 (fun w' => w'.cell? ⟨r2, 0, none⟩ = some (.slice A9 tb.length cap9) ∧ w'.cell? ⟨r2, 1, none⟩ = some (.int .i64 te)) (first | exact ⟨Y0.out, Y1.out⟩ | go_keep)
              (first
                | (go_at_call 30; refine (KL.out (World.drew w3) SE.out).mono ?_; rintro _ w8 ⟨rfl, rfl⟩)
                | (go_at_call 31; refine (KE.out (World.drew w3) SE.out).mono ?_; rintro _ w8 ⟨rfl, rfl⟩))
            all_goals
              clear hd1
              go_wp2_with fail
              go_roundw
              case rel => exact ⟨⟨j + 1, by omega, by omega, by go_num⟩, _, _, S3.out, R3.out, L3.out, G3.out.drew⟩
              case measure => simp [intOf]; omega
          · have L3 := hid (Nat.le_trans (takeU_len bs e) LH.out)
            have K19 := hid (fun w h => ruint_any r1 bs e w h (by have := LH.out; omega))
            have K20 := hid (fun w h => refuint_any W.heap.size r2 bs e w h (by have := LH.out; omega))
            have K21 := hid (fun w h => rint_any r1 bs e w h (by have := LH.out; omega))
            have K22 := hid (fun w h => refint_any W.heap.size r2 bs e w h (by have := LH.out; omega))
            generalize takeU bs e = T at *
            obtain ⟨tn, tb, te⟩ := T
            simp only at L3 K19 K20 K21 K22
            generalize unfoldF tn = tz at *

            go_wp2_with fail
            refine (K21.out _ SH.out).mono ?_
            rintro _ w2 ⟨rfl, hs, hg⟩
            have S2 := hid hs
            have R2 := hid (two_code SH.out RH.out hr1 hg)
            have G2 := hid (Below.grown GH.out hg GH.out.size (fun q hq => by cases hq; exact hr1))
            clear hs hg
            go_wp2_with fail
            refine (K22.out _ R2.out).mono ?_
            rintro _ w3 ⟨rfl, hs, hg⟩
            have S3 := hid (two_ref S2.out R2.out hg)
            have R3 := hid hs
            have G3 := hid (Below.grown G2.out hg G2.out.size (fun q hq => by cases hq; exact hr2))
            clear hs hg
            go_wp2_with fail

            have KL := hid (fun w h => left_any r1 tb te w h)
            have KE := hid (fun w h => err_any r1 tb te w h)
            have SE := hid (show RS (World.drew w3) r1 tb te from S3.out)
            obtain ⟨A9, cap9, hR9, _, _, _, _⟩ := R3.out
            obtain ⟨y0, y1⟩ := two hR9
            have Y0 := hid y0
            have Y1 := hid y1
            have hd1 : ∀ x : Int, (x != x) = false := fun x => by simp
            clear hR9
            go_region_held3 (fun w' => w'.cell? ⟨r2, 0, none⟩ = some (.slice A9 tb.length cap9) ∧ w'.cell? ⟨r2, 1, none⟩ = some (.int .i64 te)) (first | exact ⟨Y0.out, Y1.out⟩ | go_keep)
              (first
                | (go_at_call 30; refine (KL.out (World.drew w3) SE.out).mono ?_; rintro _ w8 ⟨rfl, rfl⟩)
                | (go_at_call 31; refine (KE.out (World.drew w3) SE.out).mono ?_; rintro _ w8 ⟨rfl, rfl⟩))
            all_goals
              clear hd1
              go_wp2_with fail
              go_roundw
              case rel => exact ⟨⟨j + 1, by omega, by omega, by go_num⟩, _, _, S3.out, R3.out, L3.out, G3.out.drew⟩
              case measure => simp [intOf]; omega
          · have L3 := hid (Nat.le_trans (takeT_len (mostF y) bs e) LH.out)
            have K23 := hid (fun w h => rtext_any r1 bs e y w h (by have := LH.out; omega) hy)
            have K24 := hid (fun w h => reftext_any W.heap.size r2 bs e y w h (by have := LH.out; omega) hy)
            generalize takeT (mostF y) bs e = T at *
            obtain ⟨tn, tb, te⟩ := T
            simp only at L3 K23 K24
            generalize (⟨tn.toArray⟩ : ByteArray) = ts at *
            clear hy
            go_wp2_with fail
            go_region_held3 (fun w' => w'.cell? ⟨b, off + j * 2 + 1, none⟩ = some (.int .i64 y)) (first | exact HX.out _ GD.out | exact HX.out _ G2.out | exact HX.out _ G3.out | go_keep)
              (first
                | (go_at_call 23; refine (K23.out (World.drew wr) SD.out).mono ?_; rintro _ w2 ⟨rfl, hs, hg⟩; have S2 := hid hs; have R2 := hid (two_code SD.out RD.out hr1 hg); have G2 := hid (Below.grown GD.out hg GD.out.size (fun q hq => by cases hq; exact hr1)); clear hs hg)
                | (go_at_call 24; refine (K24.out w2 R2.out).mono ?_; rintro _ w3 ⟨rfl, hs, hg⟩; have S3 := hid (two_ref S2.out R2.out hg); have R3 := hid hs; have G3 := hid (Below.grown G2.out hg G2.out.size (fun q hq => by cases hq; exact hr2)); clear hs hg))
            all_goals
              go_wp2_with fail
              have KL := hid (fun w h => left_any r1 tb te w h)
              have KE := hid (fun w h => err_any r1 tb te w h)
              have SE := hid (show RS (World.drew w3) r1 tb te from S3.out)
              obtain ⟨A9, cap9, hR9, _, _, _, _⟩ := R3.out
              obtain ⟨y0, y1⟩ := two hR9
              have Y0 := hid y0
              have Y1 := hid y1
              have hd1 : ∀ x : Int, (x != x) = false := fun x => by simp
              clear hR9
              go_region_held3 (fun w' => w'.cell? ⟨r2, 0, none⟩ = some (.slice A9 tb.length cap9) ∧ w'.cell? ⟨r2, 1, none⟩ = some (.int .i64 te)) (first | exact ⟨Y0.out, Y1.out⟩ | go_keep)
                (first
                  | (go_at_call 30; refine (KL.out (World.drew w3) SE.out).mono ?_; rintro _ w8 ⟨rfl, rfl⟩)
                  | (go_at_call 31; refine (KE.out (World.drew w3) SE.out).mono ?_; rintro _ w8 ⟨rfl, rfl⟩))
              all_goals
                clear hd1
                go_wp2_with fail
                go_roundw
                case rel => exact ⟨⟨j + 1, by omega, by omega, by go_num⟩, _, _, S3.out, R3.out, L3.out, G3.out.drew⟩
                case measure => simp [intOf]; omega
          · have L3 := hid (Nat.le_trans (takeI_len (mostF y) bs e) LH.out)
            have M3 := hid (Nat.le_trans (takeI_many (mostF y) bs e) LH.out)
            have K26 := hid (fun w h => rints_any r1 bs e y w h (by have := LH.out; omega) hy)
            have K27 := hid (fun w h => refints_any W.heap.size r2 bs e y w h (by have := LH.out; omega) hy)
            generalize takeI (mostF y) bs e = T at *
            obtain ⟨tn, tb, te⟩ := T
            simp only at L3 M3 K26 K27
            clear hy
            go_wp2_with fail
            go_region_held3 (fun w' => w'.cell? ⟨b, off + j * 2 + 1, none⟩ = some (.int .i64 y)) (first | exact HX.out _ GD.out | exact HX.out _ G2.out | exact HX.out _ G4.out | exact HX.out _ G3.out | go_keep)
              (first
                | (go_at_call 26; refine (K26.out (World.drew wr) SD.out).mono ?_; rintro _ w2 ⟨v2, rfl, ho, hs, hg⟩; have O2 := hid ho; obtain ⟨A2, e2, rfl, _⟩ := ho.is; clear ho; have S2 := hid hs; have R2 := hid (two_code SD.out RD.out hr1 hg); have G2 := hid (Below.grown GD.out hg GD.out.size (fun q hq => by cases hq; exact hr1)); clear hs hg)
                | (go_at_call 27; refine (K27.out w2 R2.out).mono ?_; rintro _ w4 ⟨v4, rfl, ho, hs, hg⟩; have O4 := hid ho; obtain ⟨A4, e4, rfl, _⟩ := ho.is; have I2 := hid (OwnI.grownLow O2.out (RR.lt RD.out) hg).its; clear ho; have S4 := hid (two_ref S2.out R2.out hg); have R4 := hid hs; have G4 := hid (Below.grown G2.out hg G2.out.size (fun q hq => by cases hq; exact hr2)); clear hs hg)
                | (go_at_call 25; refine (same_any A2 A4 e2 e4 tn w4 I2.out O4.out.its (by have := M3.out; omega)).mono ?_; rintro _ w3 ⟨rfl, hbb⟩; have S3 := hid (S4.out.keep hbb); have R3 := hid (R4.out.keep hbb); have G3 := hid (below_step G4.out G4.out.size hbb); clear hbb))
            all_goals
              go_wp2_with fail
              have KL := hid (fun w h => left_any r1 tb te w h)
              have KE := hid (fun w h => err_any r1 tb te w h)
              have SE := hid (show RS (World.drew w3) r1 tb te from S3.out)
              obtain ⟨A9, cap9, hR9, _, _, _, _⟩ := R3.out
              obtain ⟨y0, y1⟩ := two hR9
              have Y0 := hid y0
              have Y1 := hid y1
              have hd1 : ∀ x : Int, (x != x) = false := fun x => by simp
              clear hR9
              go_region_held3 (fun w' => w'.cell? ⟨r2, 0, none⟩ = some (.slice A9 tb.length cap9) ∧ w'.cell? ⟨r2, 1, none⟩ = some (.int .i64 te)) (first | exact ⟨Y0.out, Y1.out⟩ | go_keep)
                (first
                  | (go_at_call 30; refine (KL.out (World.drew w3) SE.out).mono ?_; rintro _ w8 ⟨rfl, rfl⟩)
                  | (go_at_call 31; refine (KE.out (World.drew w3) SE.out).mono ?_; rintro _ w8 ⟨rfl, rfl⟩))
              all_goals
                clear hd1
                go_wp2_with fail
                go_roundw
                case rel => exact ⟨⟨j + 1, by omega, by omega, by go_num⟩, _, _, S3.out, R3.out, L3.out, G3.out.drew⟩
                case measure => simp [intOf]; omega
          · have K28 := hid (fun c w h => fail_any r1 bs e c w h)
            have K29 := hid (fun c w h => rfail_any W.heap.size r2 bs e c w h)
            go_wp2_with fail
            refine (K28.out _ _ SH.out).mono ?_
            rintro _ w2 ⟨rfl, hs, hg⟩
            have S2 := hid hs
            have R2 := hid (two_code SH.out RH.out hr1 hg)
            have G2 := hid (Below.grown GH.out hg GH.out.size (fun q hq => by cases hq; exact hr1))
            clear hs hg
            go_wp2_with fail
            refine (K29.out _ _ R2.out).mono ?_
            rintro _ w3 ⟨rfl, hs, hg⟩
            have S3 := hid (two_ref S2.out R2.out hg)
            have R3 := hid hs
            have G3 := hid (Below.grown G2.out hg G2.out.size (fun q hq => by cases hq; exact hr2))
            clear hs hg
            obtain ⟨tb, te, S3, R3, L3⟩ : ∃ tb te, Hid (RS w3 r1 tb te) ∧ Hid (RR w3 W.heap.size r2 tb te) ∧ Hid (tb.length ≤ 10000) := ⟨_, _, S3, R3, hid (Nat.le_trans (failB_len bs e _) LH.out)⟩
            go_wp2_with fail

            have KL := hid (fun w h => left_any r1 tb te w h)
            have KE := hid (fun w h => err_any r1 tb te w h)
            have SE := hid (show RS (World.drew w3) r1 tb te from S3.out)
            obtain ⟨A9, cap9, hR9, _, _, _, _⟩ := R3.out
            obtain ⟨y0, y1⟩ := two hR9
            have Y0 := hid y0
            have Y1 := hid y1
            have hd1 : ∀ x : Int, (x != x) = false := fun x => by simp
            clear hR9
            go_region_held3 (fun w' => w'.cell? ⟨r2, 0, none⟩ = some (.slice A9 tb.length cap9) ∧ w'.cell? ⟨r2, 1, none⟩ = some (.int .i64 te)) (first | exact ⟨Y0.out, Y1.out⟩ | go_keep)
              (first
                | (go_at_call 30; refine (KL.out (World.drew w3) SE.out).mono ?_; rintro _ w8 ⟨rfl, rfl⟩)
                | (go_at_call 31; refine (KE.out (World.drew w3) SE.out).mono ?_; rintro _ w8 ⟨rfl, rfl⟩))
            all_goals
              clear hd1
              go_wp2_with fail
              go_roundw
              case rel => exact ⟨⟨j + 1, by omega, by omega, by go_num⟩, _, _, S3.out, R3.out, L3.out, G3.out.drew⟩
              case measure => simp [intOf]; omega
          · obtain ⟨tb, te, htb, hte⟩ : ∃ tb te, tb = bs ∧ te = e := ⟨_, _, rfl, rfl⟩
            rw [← htb, ← hte] at SH RH
            rw [← htb] at LH
            clear htb hte
            have S3 := SH
            have R3 := RH
            have G3 := GH
            have L3 := LH
            go_wp2_with fail

            have KL := hid (fun w h => left_any r1 tb te w h)
            have KE := hid (fun w h => err_any r1 tb te w h)
            have SE := hid (show RS (World.drew wr) r1 tb te from S3.out)
            obtain ⟨A9, cap9, hR9, _, _, _, _⟩ := R3.out
            obtain ⟨y0, y1⟩ := two hR9
            have Y0 := hid y0
            have Y1 := hid y1
            have hd1 : ∀ x : Int, (x != x) = false := fun x => by simp
            clear hR9
            go_region_held3 (fun w' => w'.cell? ⟨r2, 0, none⟩ = some (.slice A9 tb.length cap9) ∧ w'.cell? ⟨r2, 1, none⟩ = some (.int .i64 te)) (first | exact ⟨Y0.out, Y1.out⟩ | go_keep)
              (first
                | (go_at_call 30; refine (KL.out (World.drew wr) SE.out).mono ?_; rintro _ w8 ⟨rfl, rfl⟩)
                | (go_at_call 31; refine (KE.out (World.drew wr) SE.out).mono ?_; rintro _ w8 ⟨rfl, rfl⟩))
            all_goals
              clear hd1
              go_wp2_with fail
              go_roundw
              case rel => exact ⟨⟨j + 1, by omega, by omega, by go_num⟩, _, _, S3.out, R3.out, L3.out, G3.out.drew⟩
              case measure => simp [intOf]; omega
      · have hcase : ¬ j < gs.length ∨ (j < gs.length ∧ ¬ j < 60) := by omega
        have K32 := hid (fun w h => rend_any r1 bs e w h)
        have K33 := hid (fun w h => refend_any W.heap.size r2 bs e w h (by have := LH.out; omega))
        have SD := hid (show RS (World.drew wr) r1 bs e from SH.out)
        have RD := hid (show RR (World.drew wr) W.heap.size r2 bs e from RH.out)
        have GD := hid GH.out.drew
        by_cases hun : e = 0 ∧ bs ≠ []
        · have he1 : endF bs e = 11 := by unfold endF; rw [if_pos hun]
          rw [he1, if_pos hun.1] at K32 K33
          clear he1 hun
          rcases hcase with hjc | ⟨hjc, hjd⟩
          all_goals
            go_wp2_with fail
            go_region_with (first
              | (go_at_call 32; refine (K32.out (World.drew wr) SD.out).mono ?_; rintro _ w2 ⟨rfl, hs, hg⟩; have S2 := hid hs; have R2 := hid (two_code SD.out RD.out hr1 hg); have G2 := hid (Below.grown GD.out hg GD.out.size (fun q hq => by cases hq; exact hr1)); clear hs hg)
              | (go_at_call 33; refine (K33.out w2 R2.out).mono ?_; rintro _ w3 ⟨rfl, hs, hg⟩; have S3 := hid (two_ref S2.out R2.out hg); have R3 := hid hs; have G3 := hid (Below.grown G2.out hg G2.out.size (fun q hq => by cases hq; exact hr2)); clear hs hg; obtain ⟨A9, cap9, hR9, _, _, _, _⟩ := R3.out; obtain ⟨y0, y1⟩ := two hR9; clear hR9)
              | (go_at_call 31; refine (err_any r1 _ _ w3 S3.out).mono ?_; rintro _ w8 ⟨rfl, rfl⟩))
            all_goals
              go_wp2_with fail
              all_goals go_returns
              all_goals exact ⟨by first | rfl | simp, G3.out⟩
        · have he1 : endF bs e = e := by unfold endF; rw [if_neg hun]
          have hb1 : (if e = 0 then ([] : List UInt8) else bs) = bs := by
            by_cases h0 : e = 0
            · rw [if_pos h0]
              by_cases hb : bs = []
              · exact hb.symm
              · exact absurd ⟨h0, hb⟩ hun
            · rw [if_neg h0]
          rw [he1, hb1] at K32 K33
          have HC := hid (fun w (h : RR w W.heap.size r2 bs e) => (show w.cell? ⟨r2, 1, none⟩ = some (.int .i64 e) from by
            obtain ⟨A9, cap9, hR9, _, _, _, _⟩ := h
            exact (two hR9).2))
          clear he1 hb1 hun
          rcases hcase with hjc | ⟨hjc, hjd⟩
          all_goals
            go_wp2_with fail
            go_region_held3 (fun w' => w'.cell? ⟨r2, 1, none⟩ = some (.int .i64 e)) (first | exact HC.out _ RD.out | exact HC.out _ R3.out | exact HC.out _ R2.out | go_keep)
              (first
                | (go_at_call 32; refine (K32.out (World.drew wr) SD.out).mono ?_; rintro _ w2 ⟨rfl, hs, hg⟩; have S2 := hid hs; have R2 := hid (two_code SD.out RD.out hr1 hg); have G2 := hid (Below.grown GD.out hg GD.out.size (fun q hq => by cases hq; exact hr1)); clear hs hg)
                | (go_at_call 33; refine (K33.out w2 R2.out).mono ?_; rintro _ w3 ⟨rfl, hs, hg⟩; have S3 := hid (two_ref S2.out R2.out hg); have R3 := hid hs; have G3 := hid (Below.grown G2.out hg G2.out.size (fun q hq => by cases hq; exact hr2)); clear hs hg)
                | (go_at_call 31; refine (err_any r1 _ _ w3 S3.out).mono ?_; rintro _ w8 ⟨rfl, rfl⟩))
            all_goals
              go_wp2_with fail
              all_goals go_returns
              all_goals exact ⟨by first | rfl | simp, G3.out⟩
  · have hs' : (10000 : Int) < (bs0.length : Int) := by omega
    go_enter Try.func4, Try.ntmps4
    go_wp2_with fail
    refine (awake_any _).mono ?_
    rintro _ w1 ⟨rfl, hbb⟩
    have g1 := hid (show Below W.heap.size W w1 from hbb)
    clear hbb
    go_wp2_with fail
    all_goals go_returns
    all_goals exact ⟨by first | rfl | simp, g1.out⟩
end Go.Proofs.Ytanjgobcfgmpfaa
