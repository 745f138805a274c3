/- The Go function DiskOwn, called with any arguments, returns true and leaves all that was there. Condition: the table of half bytes is as the program's text lays it. -/
import Derived.Test.YtbpgeghenninnaaDoorOpen2
import Derived.Test.YtbpgeghenninnaaDoorNil
import Derived.Laws.BitsAll
namespace Go.Proofs.YtbpgeghenninnaaDoor
open Go Go.ChangeShapes Go.WideShapes Go.RowKit
theorem Own.nilok {w : World} {B : Nat} {A : Option Addr} {n cap : Nat} {bs : List UInt8} (h : Own w B (.slice A n cap) bs) : NilOk A cap bs := by
  rintro rfl
  obtain ⟨_, ⟨e, h0⟩ | ⟨g, cap', cur, e, _⟩⟩ := h
  · obtain ⟨_, _, rfl⟩ := Value.slice.inj e
    exact ⟨rfl, List.eq_nil_of_length_eq_zero h0⟩
  · cases e
theorem own_empty (w : World) : Own (w.alloc (.cells #[] 5)) w.heap.size (.slice (some ⟨w.heap.size, 0, none⟩) 0 0) [] :=
  ⟨by simp, .inr ⟨w.heap.size, 0, #[], rfl, Nat.le_refl _, heap_new w _, Nat.le_refl _, by simp [maxLen], by simp, by simp⟩⟩
theorem own_set {w : World} {B : Nat} {u : Value} {x : List UInt8} (g k : Nat) (y : UInt8) (h : Own w B u x) : ∃ x', x'.length = x.length ∧ Own (w.setCell ⟨g, k, none⟩ (bv y)) B u x' := by
  obtain ⟨hl, ⟨rfl, h0⟩ | ⟨g', cap, cur, rfl, hb, hh, hn, hcap, hcur, htake⟩⟩ := h
  · exact ⟨x, rfl, hl, .inl ⟨rfl, h0⟩⟩
  · by_cases hg : g' = g
    · subst hg
      refine ⟨x.set k y, by simp, by simp, .inr ⟨g', cap, cur.setIfInBounds k (bv y), by simp, hb, heap_setCell_same w g' k _ 5 (bv y) hh, by simpa using hn, hcap, by simpa using hcur, ?_⟩⟩
      rw [List.length_set, Array.toList_setIfInBounds, List.take_set, htake, List.map_set]
    · exact ⟨x, rfl, hl, .inr ⟨g', cap, cur, rfl, hb, (heap_setCell_other _ _ _ _ hg).trans hh, hn, hcap, hcur, htake⟩⟩
theorem xor255 (n : Nat) (h : n < 256) : bits .xor .u8 (n : Int) 255 = ((UInt8.ofNat (n ^^^ 255)).toNat : Int) := by
  have hx : n ^^^ 255 < 2 ^ 8 := Nat.xor_lt_two_pow (by omega) (by omega)
  rw [ofNat_toNat_lt hx]
  exact u8_xor_nat n 255 h (by omega)
theorem own_at {w : World} {B m c : Nat} {A : Option Addr} {x : List UInt8} (h : Own w B (.slice A m c) x) (hl : x.length = m) (j : Nat) (hj : j < m) : ∃ g, A = some ⟨g, 0, none⟩ ∧ w.cell? ⟨g, j, none⟩ = some (bv (x[j]'(by omega))) ∧ w.frozen? ⟨g, j, none⟩ = false := by
  obtain ⟨_, ⟨he, h0⟩ | ⟨g, cap, cur, he, hb, hh, hn, hcap, hcur, htake⟩⟩ := h
  · omega
  · cases he
    refine ⟨g, rfl, ?_, free_of hh j⟩
    rw [cell_of hh, ← Array.getElem?_toList]
    have : (cur.toList.take (x.length * 1))[j]? = some (bv (x[j]'(by omega))) := by rw [htake, List.getElem?_map, List.getElem?_eq_getElem (by omega)]; rfl
    rw [List.getElem?_take, if_pos (by omega)] at this
    exact this
theorem DK.low {w : World} {B db g k : Nat} {d : Dsk} {v : Value} (h : DK w B db d) (hB : B ≤ db) (hg : g < B) : DK (w.setCell ⟨g, k, none⟩ v) B db d := by
  have keepO : ∀ {u : Value} {x : List UInt8}, Own w B u x → Own (w.setCell ⟨g, k, none⟩ v) B u x := by
    intro u x hv
    obtain ⟨hl0, h0 | ⟨g', cap, cur, rfl, hb, hh, q⟩⟩ := hv
    · exact ⟨hl0, .inl h0⟩
    · exact ⟨hl0, .inr ⟨g', cap, cur, rfl, hb, by rw [heap_setCell_other _ _ _ _ (by simp only; omega), hh], q⟩⟩
  obtain ⟨lv, sv, tv, h⟩ := h
  exact ⟨lv, sv, tv, ⟨by rw [heap_setCell_other _ _ _ _ (by simp only; omega), h.h], keepO h.l, keepO h.s, keepO h.t, h.a, h.g⟩⟩
theorem ow_app (b : List UInt8) (h : b.length ≤ 2000) : apE ⟨5000, 0, 0, 0, [], [], [], false, 0⟩ 0 0 b = 0 ∧ apN ⟨5000, 0, 0, 0, [], [], [], false, 0⟩ 0 0 b = b.length ∧ apD ⟨5000, 0, 0, 0, [], [], [], false, 0⟩ 0 0 b = ⟨5000, 0, 0, 0, b, [], [], false, 0⟩ := by
  rcases ap_three ⟨5000, 0, 0, 0, [], [], [], false, 0⟩ b 0 0 rfl rfl with ⟨h1, _⟩ | ⟨_, h1, _⟩ | ⟨_, _, h1, h2, h3⟩
  · simp at h1; omega
  · cases h1
  · exact ⟨h1, by rw [h2]; simp, by rw [h3]; rfl⟩
theorem Own.under {w w' : World} {B C : Nat} {v : Value} {bs : List UInt8} (h : Own w B v bs) (hg : Below C w w') (hC : ∀ k, v.ownBlock = some k → k < C) : Own w' B v bs := by
  obtain ⟨hl, h0 | ⟨g, cap, cur, rfl, hB, hh, r⟩⟩ := h
  · exact ⟨hl, .inl h0⟩
  · exact ⟨hl, .inr ⟨g, cap, cur, rfl, hB, by rw [hg.block g (hC g (by simp [Value.ownBlock])), hh], r⟩⟩
theorem Own.top {w : World} {B : Nat} {v : Value} {bs : List UInt8} (h : Own w B v bs) : ∀ k, v.ownBlock = some k → k < w.heap.size := by
  intro k hk
  obtain ⟨cs, hc⟩ := h.lt k hk
  exact lt_of hc
theorem ow_commit (b : List UInt8) (db : Nat) (w : World) (h : DK w db db ⟨5000, 0, 0, 0, b, [], b, false, 0⟩) (hT : Tab w) : Calls Tryd.prog 19 #[.pointer (some ⟨db, 0, none⟩), .int .i64 0, .int .u32 (crc b : Nat), .int .i64 0] w fun e w' => e = .returned (.int .i64 0) ∧ DK w' db db ⟨5000, 0, 0, 0, b, b, [], false, 0⟩ ∧ Fr db db w w' := by
  have h1 : coE ⟨5000, 0, 0, 0, b, [], b, false, 0⟩ 0 (crc b : Nat) 0 = 0 := by
    unfold coE
    rw [if_neg (by simp), if_neg (by simp), if_neg (by simp)]
  have h2 : coD ⟨5000, 0, 0, 0, b, [], b, false, 0⟩ 0 (crc b : Nat) 0 = ⟨5000, 0, 0, 0, b, b, [], false, 0⟩ := by
    unfold coD
    rw [if_pos h1]
    rfl
  have h3 := commit_any db db ⟨5000, 0, 0, 0, b, [], b, false, 0⟩ 0 (crc b : Nat) 0 w h (Nat.le_refl _) hT
  rw [h1, h2] at h3
  exact h3
theorem ow_stage (b : List UInt8) (h : b.length ≤ 2000) : stE ⟨5000, 0, 0, 0, b, [], [], false, 0⟩ 0 b = 0 ∧ stD ⟨5000, 0, 0, 0, b, [], [], false, 0⟩ 0 b = ⟨5000, 0, 0, 0, b, [], b, false, 0⟩ := by
  rcases st_three ⟨5000, 0, 0, 0, b, [], [], false, 0⟩ b 0 rfl with ⟨h1, _⟩ | ⟨_, h1, h2⟩
  · simp only at h1; omega
  · exact ⟨h1, by rw [h2]; rfl⟩
set_option maxRecDepth 10000 in
set_option maxHeartbeats 4000000 in
theorem diskOwn_walk {H : Type} {enc : TypeId × Value → H} (W : World) (base : Nat) (args : Array Value) (ds : List (DataW H))
    (hval : ∀ (j : Nat) t v, Tryd.f6.params[j]? = some t → args[j]? = some v → Value.okWide Tryd.prog W .any base t v)
    (hA : ∃ p, DataW.TrodAll enc Tryd.prog W 0 (fun _ => true) true Tryd.f6.params.toList args.toList ds p) 
    (_ : (DataW.weightsEach Tryd.prog (Tryd.f6.params.toList ++ (OpenSpec.ofChange Rows.diskOwnSpec).bare.plain.varTypes Tryd.prog) (ds ++ [])).all (· ≤ reachBytes) = true)
    (hL : laidMetH Tryd.prog Rows.diskOwnRow.laid W) (_ : W.ShapedOpen Tryd.prog) :
    Calls Tryd.prog 6 args W fun e W' => e = .returned (.bool true) ∧ Below W.heap.size W W' := by
  obtain ⟨p, hA⟩ := hA
  rw [Tryd.params6] at hA hval
  obtain ⟨v0, v1, d0, d1, p0, p1, hargs, rfl, rfl, h0, h1⟩ := trodAll_two hA
  subst hargs
  obtain ⟨BA, bc, b, rfl, hbb⟩ := bytes_is (hval 0 32 v0 rfl rfl) h0
  obtain ⟨a, rfl, hok⟩ := act_is (hval 1 35 v1 rfl rfl) h1
  clear h0 h1 hval hA
  have hT := tab_of hL
  have HT := hid hT
  have h0W : 0 < W.heap.size := lt_of hT.choose_spec.choose_spec
  have HSB := hid (fun (w : World) (hg : Below W.heap.size W w) => hbb.keep hg)
  have HB0 := hid hbb
  have hb63 := hbb.2.2.1
  have ha63 := hok.b.2.2.1
  clear hbb hok hT hL
  simp only [ActS.cells]
  go_enter Tryd.func6, Tryd.ntmps6
  go_wp2_with fail
  refine (awake_any _).mono ?_
  rintro _ w1 ⟨rfl, hb⟩
  have G1 := hid (show Below W.heap.size W w1 from below_step (by go_grown) (by simp) hb)
  have A1 := hid (show w1.heap[W.heap.size]? = some (.cells #[.int .i64 a.kind, .bool a.near, .int .i64 a.ep, .int .i64 a.at_, .slice a.bA a.bs.length a.bc, .int .u32 a.sum, .int .i64 a.old.1, .int .i64 a.old.2.1, .int .i64 a.old.2.2, .int .i64 a.c.1, .int .i64 a.c.2.1, .int .i64 a.c.2.2] 35 (0, 0)) from keep0 hb (heap_new _ _))
  clear hb
  obtain ⟨m0, m1, m2, m3, m4, m5, m6, m7, m8, m9, m10, m11⟩ := twelve A1.out
  by_cases hbig : 2000 < b.length
  · have hb1' : (2000 : Int) < (b.length : Int) := by omega
    go_wp2_with fail
    all_goals go_returns
    all_goals exact ⟨rfl, G1.out⟩
  · have hb1' : ¬ (2000 : Int) < (b.length : Int) := by omega
    by_cases ha2 : 2000 < a.bs.length
    · have ha2' : (2000 : Int) < (a.bs.length : Int) := by omega
      go_wp2_with fail
      all_goals go_returns
      all_goals exact ⟨rfl, G1.out⟩
    · have ha2' : ¬ (2000 : Int) < (a.bs.length : Int) := by omega
      go_wp2_with fail
      refine (cut_nil 1 _).mono ?_
      rintro _ wz ⟨rfl, rfl⟩
      go_wp2_with fail
      refine (append_nil a.ep a.at_ a.bA a.bs.length a.bc _).mono ?_
      rintro _ w2 ⟨rfl, hb⟩
      have A2 := hid (keep0 hb A1.out)
      have G2 := hid (below_step G1.out G1.out.size hb)
      clear hb m0 m1 m2 m3 m4 m5 m6 m7 m8 m9 m10 m11 A1 G1
      obtain ⟨m0, m1, m2, m3, m4, m5, m6, m7, m8, m9, m10, m11⟩ := twelve A2.out
      go_wp2_with fail
      refine (swap_nil (a.old.1, a.old.2.1, a.old.2.2) (a.c.1, a.c.2.1, a.c.2.2) _).mono ?_
      rintro _ w3 ⟨rfl, hb⟩
      have A3 := hid (keep0 hb A2.out)
      have G3 := hid (below_step G2.out G2.out.size hb)
      clear hb m0 m1 m2 m3 m4 m5 m6 m7 m8 m9 m10 m11 A2 G2
      obtain ⟨m0, m1, m2, m3, m4, m5, m6, m7, m8, m9, m10, m11⟩ := twelve A3.out
      go_wp2_with fail
      refine (chop_nil a.ep a.at_ _).mono ?_
      rintro _ wz ⟨rfl, rfl⟩
      go_wp2_with fail
      refine (stage_nil a.ep a.bA a.bs.length a.bc _).mono ?_
      rintro _ w4 ⟨rfl, hb⟩
      have A4 := hid (keep0 hb A3.out)
      have G4 := hid (below_step G3.out G3.out.size hb)
      clear hb m0 m1 m2 m3 m4 m5 m6 m7 m8 m9 m10 m11 A3 G3
      obtain ⟨m0, m1, m2, m3, m4, m5, m6, m7, m8, m9, m10, m11⟩ := twelve A4.out
      go_wp2_with fail
      refine (commit_nil a.ep a.sum a.at_ _).mono ?_
      rintro _ wz ⟨rfl, rfl⟩
      go_wp2_with fail
      refine (room_nil _).mono ?_
      rintro _ w5 ⟨rfl, hb⟩
      have A5 := hid (keep0 hb A4.out)
      have G5 := hid (below_step G4.out G4.out.size hb)
      clear hb m0 m1 m2 m3 m4 m5 m6 m7 m8 m9 m10 m11 A4 G4
      obtain ⟨m0, m1, m2, m3, m4, m5, m6, m7, m8, m9, m10, m11⟩ := twelve A5.out
      go_wp2_with fail
      refine (claim_nil _).mono ?_
      rintro _ w6 ⟨rfl, hb⟩
      have A6 := hid (keep0 hb A5.out)
      have G6 := hid (below_step G5.out G5.out.size hb)
      clear hb m0 m1 m2 m3 m4 m5 m6 m7 m8 m9 m10 m11 A5 G5
      obtain ⟨m0, m1, m2, m3, m4, m5, m6, m7, m8, m9, m10, m11⟩ := twelve A6.out
      go_wp2_with fail
      refine (log_nil _).mono ?_
      rintro _ w7 ⟨v, rfl, ho, hb⟩
      obtain ⟨L1, k1, rfl⟩ := ho.slice
      have G7 := hid (below_step G6.out G6.out.size hb)
      clear ho hb m0 m1 m2 m3 m4 m5 m6 m7 m8 m9 m10 m11 A6 G6
      go_wp2_with fail
      refine (snap_nil _).mono ?_
      rintro _ w8 ⟨v, rfl, ho, hb⟩
      obtain ⟨L2, k2, rfl⟩ := ho.slice
      have G8 := hid (below_step G7.out G7.out.size hb)
      clear ho hb G7
      obtain ⟨was, hwas⟩ : ∃ was, was = str b := ⟨_, rfl⟩
      have HWAS := hid hwas
      have hcv : (convert 32 9 (.slice BA b.length bc)).run Tryd.prog w8 = .ok (.string was) w8 := by rw [hwas]; exact str_of bc (HSB.out w8 G8.out).1
      clear hwas
      have GA := hid (G8.out.alloc G8.out.size (.cells #[] 5))
      have BA8 := hid (HSB.out _ GA.out)
      go_wp2_with (at_builtin; refine wpList_append_bytes rfl (.tmp 111) (.tmp 112) rfl w8.heap.size _ [] rfl (own_empty w8) _ _ _ rfl BA8.out.1 BA8.out.2.2.2 (by simp; omega) (by simp) ?_)
      intro v9 w9 ho9 hg9 _
      have ho9 : Own w9 w8.heap.size v9 b := ho9
      obtain ⟨A9, c9, rfl⟩ := ho9.slice
      have O9 := hid ho9
      have G9 := hid (show Below W.heap.size W w9 from Below.grown GA.out hg9 GA.out.size (fun k hk => by have := own_base (own_empty w8) k hk; have := G8.out.size; omega))
      have G8s := G8.out.size
      clear ho9 hg9 hcv BA8 GA G8
      go_wp2_with fail
      refine (new_any 5000 _).mono ?_
      rintro _ w10 ⟨rfl, hd, hb⟩
      have D10 := hid (show DK w10 w9.heap.size w9.heap.size ⟨5000, 0, 0, 0, [], [], [], false, 0⟩ from hd)
      have O10 := hid (O9.out.keep hb)
      have G10 := hid (below_step G9.out G9.out.size hb)
      have N9 := hid (O9.out.bts.ne (db := w9.heap.size) (Nat.le_refl _))
      have hWB := G9.out.size
      clear hd hb
      have KA := hid (append_any w9.heap.size w9.heap.size ⟨5000, 0, 0, 0, [], [], [], false, 0⟩ 0 0 A9 c9 b w10 D10.out (Nat.le_refl _) O10.out.bts (by obtain ⟨_, _, e, _, h, _⟩ := O10.out.is; cases e; exact h) O10.out.nilok N9.out (by omega))
      rw [(ow_app b (by omega)).1, (ow_app b (by omega)).2.1, (ow_app b (by omega)).2.2] at KA
      go_wp2_with fail
      refine KA.out.mono ?_
      rintro _ w11 ⟨rfl, hd, hf⟩
      have D11 := hid hd
      have O11 := hid (O10.out.under hf.1 (O9.out.top))
      have G11 := hid (G10.out.trans (hf.1.mono hWB))
      clear hd hf KA D10
      have KSt := hid (stage_any w9.heap.size w9.heap.size ⟨5000, 0, 0, 0, b, [], [], false, 0⟩ 0 A9 c9 b w11 D11.out (Nat.le_refl _) O11.out.bts (by obtain ⟨_, _, e, _, h, _⟩ := O11.out.is; cases e; exact h) O11.out.nilok N9.out (by omega))
      rw [(ow_stage b (by omega)).1, (ow_stage b (by omega)).2] at KSt
      go_wp2_with fail
      refine KSt.out.mono ?_
      rintro _ w12 ⟨rfl, hd, hf⟩
      have D12 := hid hd
      have O12 := hid (O11.out.under hf.1 (O9.out.top))
      have G12 := hid (G11.out.trans (hf.1.mono hWB))
      have hO9 := hid (O9.out.top)
      have hW8 := hid (own_base O9.out)
      have h8W : W.heap.size ≤ w8.heap.size := G8s
      clear hd hf KSt D11 O11 G11 O10 G10 N9
      go_wp2_with fail
      go_loopw [12] (fun i wr => ∃ (k : Nat) (zs : List UInt8), k ≤ b.length ∧ i = .int .i64 k ∧ zs.length = b.length ∧ Own wr w8.heap.size (.slice A9 b.length c9) zs ∧ DK wr w9.heap.size w9.heap.size ⟨5000, 0, 0, 0, b, [], b, false, 0⟩ ∧ Below W.heap.size W wr) (fun i _ => b.length - (intOf i).toNat)
      case atStart => exact ⟨0, b, Nat.zero_le _, rfl, rfl, O12.out, D12.out, G12.out⟩
      case round =>
        obtain ⟨k, zs, hk, rfl, hzl, ho, hd, hg⟩ := hrel
        have HD := hid hd
        have HG := hid hg
        have HO := hid ho
        clear hd hg
        by_cases hlt : k < b.length
        · have hlt' : (k : Int) < (b.length : Int) := by omega
          obtain ⟨g, rfl, k2, k3⟩ := own_at ho hzl k hlt
          have hgB : g < w9.heap.size := hO9.out g rfl
          have hgW : w8.heap.size ≤ g := hW8.out g rfl
          have hlt8 := (zs[k]'(by omega)).toNat_lt
          have k4 := xor255 _ hlt8
          unfold bv at k2
          generalize (zs[k]'(by omega)).toNat = n0 at *
          obtain ⟨y, hy⟩ : ∃ y, y = UInt8.ofNat (n0 ^^^ 255) := ⟨_, rfl⟩
          rw [← hy] at k4
          obtain ⟨z2, hz2, ho2⟩ := own_set g k y HO.out
          have HO2 := hid ho2
          have HD2 := hid (DK.low (k := k) (v := bv y) HD.out (Nat.le_refl _) hgB)
          have HG2 := hid (HG.out.setCell (p := ⟨g, k, none⟩) (show W.heap.size ≤ g by omega) (bv y))
          have HZ2 := hid (hz2.trans hzl)
          clear ho ho2 hz2 hzl hlt8 hy
          go_wp2_with fail
          go_roundw
          case rel => exact ⟨k + 1, z2, by omega, by go_num, HZ2.out, HO2.out, HD2.out, HG2.out⟩
          case measure => simp [intOf]; omega
        · obtain rfl : k = b.length := by omega
          clear ho
          obtain ⟨wo, rfl⟩ : ∃ wo : World, wo = wr := ⟨_, rfl⟩
          have HD1 := HD
          have HG1 := HG
          go_wp2_with fail
          refine (log_any _ _ _ _ HD1.out).mono ?_
          rintro _ w13 ⟨v, rfl, ho, hb⟩
          obtain ⟨AX, cX, rfl⟩ := ho.slice
          have O13 := hid ho
          have B13 := hid hb
          clear ho hb HD HG HO hO9 hW8
          go_wp2_with fail
          go_loopw [14] (fun i ws => ∃ (k : Nat) (zs : List UInt8), k ≤ b.length ∧ i = .int .i64 k ∧ zs.length = b.length ∧ Own ws wo.heap.size (.slice AX b.length cX) zs ∧ Below wo.heap.size wo ws) (fun i _ => b.length - (intOf i).toNat)
          case atStart => exact ⟨0, b, Nat.zero_le _, rfl, rfl, O13.out, B13.out⟩
          case round =>
            obtain ⟨k, zs, hk, rfl, hzl, ho, hg⟩ := hrel
            have HG := hid hg
            have HO := hid ho
            clear hg
            by_cases hlt : k < b.length
            · have hlt' : (k : Int) < (b.length : Int) := by omega
              have hob := hid (own_base ho)
              obtain ⟨g, rfl, k2, k3⟩ := own_at ho hzl k hlt
              have hgW : wo.heap.size ≤ g := hob.out g rfl
              have hlt8 := (zs[k]'(by omega)).toNat_lt
              have k4 := xor255 _ hlt8
              unfold bv at k2
              generalize (zs[k]'(by omega)).toNat = n0 at *
              obtain ⟨y, hy⟩ : ∃ y, y = UInt8.ofNat (n0 ^^^ 255) := ⟨_, rfl⟩
              rw [← hy] at k4
              obtain ⟨z2, hz2, ho2⟩ := own_set g k y HO.out
              have HO2 := hid ho2
              have HG2 := hid (HG.out.setCell (p := ⟨g, k, none⟩) hgW (bv y))
              have HZ2 := hid (hz2.trans hzl)
              clear ho ho2 hz2 hzl hlt8 hy
              go_wp2_with fail
              go_roundw
              case rel => exact ⟨k + 1, z2, by omega, by go_num, HZ2.out, HO2.out, HG2.out⟩
              case measure => simp [intOf]; omega
            · obtain rfl : k = b.length := by omega
              clear ho
              have D14 := hid (HD1.out.keep (show Below wo.heap.size wo wr from HG.out))
              have G14 := hid (HG1.out.trans (HG.out.mono HG1.out.size))
              go_wp2_with fail
              refine (log_any _ _ _ _ D14.out).mono ?_
              rintro _ w15 ⟨v, rfl, ho, hb⟩
              obtain ⟨L6, k6, rfl⟩ := ho.slice
              have hs15 : (convert 32 9 (.slice L6 b.length k6)).run Tryd.prog w15 = .ok (.string was) w15 := by rw [HWAS.out]; exact str_of k6 ho.bts
              have D15 := hid (D14.out.keep hb)
              have G15 := hid (below_step G14.out G14.out.size hb)
              clear ho hb
              have KS := hid (refsum_any BA bc b w15 (HSB.out w15 G15.out).1 (by omega))
              have KCo := hid (ow_commit b w9.heap.size w15 D15.out (HT.out.below G15.out h0W))
              go_wp2_with (go_at_call 20; (with_reducible refine KS.out.mono ?_); rintro _ wz ⟨rfl, rfl⟩)
              with_reducible refine KCo.out.mono ?_
              rintro _ wq ⟨rfl, hd, hf⟩
              have D16 := hid hd
              have G16 := hid (G15.out.trans (hf.1.mono hWB))
              clear hd hf hs15 KS KCo
              go_wp2_with fail
              refine (snap_any _ _ _ _ D16.out).mono ?_
              rintro _ w17 ⟨v, rfl, ho, hb⟩
              obtain ⟨AY, cY, rfl⟩ := ho.slice
              have O17 := hid ho
              have B17 := hid hb
              clear ho hb
              go_wp2_with fail
              go_loopw [16] (fun i ws => ∃ (k : Nat) (zs : List UInt8), k ≤ b.length ∧ i = .int .i64 k ∧ zs.length = b.length ∧ Own ws wq.heap.size (.slice AY b.length cY) zs ∧ Below wq.heap.size wq ws) (fun i _ => b.length - (intOf i).toNat)
              case atStart => exact ⟨0, b, Nat.zero_le _, rfl, rfl, O17.out, B17.out⟩
              case round =>
                obtain ⟨k, zs, hk, rfl, hzl, ho, hg⟩ := hrel
                have HG := hid hg
                have HO := hid ho
                clear hg
                by_cases hlt : k < b.length
                · have hlt' : (k : Int) < (b.length : Int) := by omega
                  have hob := hid (own_base ho)
                  obtain ⟨g, rfl, k2, k3⟩ := own_at ho hzl k hlt
                  have hgW : wq.heap.size ≤ g := hob.out g rfl
                  have hlt8 := (zs[k]'(by omega)).toNat_lt
                  have k4 := xor255 _ hlt8
                  unfold bv at k2
                  generalize (zs[k]'(by omega)).toNat = n0 at *
                  obtain ⟨y, hy⟩ : ∃ y, y = UInt8.ofNat (n0 ^^^ 255) := ⟨_, rfl⟩
                  rw [← hy] at k4
                  obtain ⟨z2, hz2, ho2⟩ := own_set g k y HO.out
                  have HO2 := hid ho2
                  have HG2 := hid (HG.out.setCell (p := ⟨g, k, none⟩) hgW (bv y))
                  have HZ2 := hid (hz2.trans hzl)
                  clear ho ho2 hz2 hzl hlt8 hy
                  go_wp2_with fail
                  go_roundw
                  case rel => exact ⟨k + 1, z2, by omega, by go_num, HZ2.out, HO2.out, HG2.out⟩
                  case measure => simp [intOf]; omega
                · obtain rfl : k = b.length := by omega
                  clear ho
                  have D17 := hid (D16.out.keep (show Below wq.heap.size wq wr from HG.out))
                  have G17 := hid (G16.out.trans (HG.out.mono G16.out.size))
                  go_wp2_with fail
                  refine (snap_any _ _ _ _ D17.out).mono ?_
                  rintro _ w18 ⟨v, rfl, ho, hb⟩
                  obtain ⟨L8, k8, rfl⟩ := ho.slice
                  have hs18 : (convert 32 9 (.slice L8 b.length k8)).run Tryd.prog w18 = .ok (.string was) w18 := by rw [HWAS.out]; exact str_of k8 ho.bts
                  have D18 := hid (D17.out.keep hb)
                  have G18 := hid (below_step G17.out G17.out.size hb)
                  clear ho hb
                  go_wp2_with fail
                  clear hs18
                  refine (log_any _ _ _ _ D18.out).mono ?_
                  rintro _ w19 ⟨v, rfl, ho, hb⟩
                  obtain ⟨L9, k9, rfl⟩ := ho.slice
                  have hs19 : (convert 32 9 (.slice L9 b.length k9)).run Tryd.prog w19 = .ok (.string was) w19 := by rw [HWAS.out]; exact str_of k9 ho.bts
                  have G19 := hid (below_step G18.out G18.out.size hb)
                  clear ho hb
                  go_wp2_with fail
                  all_goals go_returns
                  all_goals exact ⟨by first | rfl | simp, G19.out⟩
end Go.Proofs.YtbpgeghenninnaaDoor
