/- The Go function DiskKeeps, called with any arguments, returns true and leaves all that was there. Condition: none. -/
import Derived.Test.YtbpgeghenninnaaOpen
import Derived.Test.YtbpgeghenninnaaRows
import Derived.StillTailTactics
import Derived.Deep.RegionHeld3
import Derived.LoopTactic
namespace Go.Proofs.Ytbpgeghenninnaa
open Go Go.ChangeShapes Go.WideShapes Go.RowKit
theorem Rows1.at {w W : World} {A : Option Addr} {xs : List (List UInt8)} (h : Rows1 w W A xs) (k : Nat) (hk : k < xs.length) : ∃ b off, A = some ⟨b, off, none⟩ ∧ b < w.heap.size ∧ ∃ A' c', w.cell? ⟨b, off + k, none⟩ = some (.slice A' (xs[k]).length c') ∧ Sl W A' c' (xs[k]) := by
  rcases h with rfl | ⟨b, off, rfl, hlt, hc⟩
  · simp at hk
  · obtain ⟨cs, ⟨A', c', rfl, hok⟩, _, h⟩ := hc k _ (List.getElem?_eq_getElem hk)
    refine ⟨b, off, rfl, hlt, A', c', ?_, hok⟩
    simpa using h 0 (by decide)
def str (l : List UInt8) : ByteArray := ⟨l.toArray⟩
theorem str_size (l : List UInt8) : (str l).size = l.length := by simp [str, ByteArray.size]
theorem str_add (a b : List UInt8) : str a ++ str b = str (a ++ b) := by
  apply ByteArray.ext
  simp [str]
theorem ap_three (d : Dsk) (x : List UInt8) (ep at_ : Int) (he : ep = d.e) (ha : at_ = d.log.length) : (d.room - d.log.length < (x.length : Int) ∧ apE d ep at_ x = 153 ∧ apN d ep at_ x = 0 ∧ apD d ep at_ x = d) ∨
    (¬ d.room - d.log.length < (x.length : Int) ∧ d.armed = true ∧ apE d ep at_ x = 152 ∧ apN d ep at_ x = 0 ∧ apD d ep at_ x = { d with armed := false, log := d.log ++ x.take (cutN d.cut x.length) }) ∨
    (¬ d.room - d.log.length < (x.length : Int) ∧ apE d ep at_ x = 0 ∧ apN d ep at_ x = (d.log.length : Int) + x.length ∧ apD d ep at_ x = { d with log := d.log ++ x }) := by
  have hb : (at_ == (d.log.length : Int)) = true := by simpa using ha
  have e0 : apE d ep at_ x = wrE d ep d.log.length true x.length := by unfold apE; rw [hb]
  have eD : apD d ep at_ x = { wrD d ep d.log.length true x.length with log := d.log ++ wrB d ep d.log.length true x } := by unfold apD; rw [hb]
  by_cases h1 : d.room - d.log.length < (x.length : Int)
  · have h := wrE_153 (used := (d.log.length : Int)) he h1
    have h2 : apE d ep at_ x = 153 := by rw [e0, h]
    exact .inl ⟨h1, h2, by unfold apN; rw [h2]; rfl, ap_no (by rw [h2]; decide) (by rw [h2]; decide)⟩
  · by_cases h3 : d.armed = true
    · have h := wrE_152 (used := (d.log.length : Int)) he h1 h3
      obtain ⟨k1, k2⟩ := wr_cut (bs := x) h
      exact .inr (.inl ⟨h1, h3, by rw [e0, h], by unfold apN; rw [e0, h]; rfl, by rw [eD, k1, k2]⟩)
    · have h := wrE_0 (used := (d.log.length : Int)) he h1 (by simpa using h3)
      obtain ⟨k1, k2⟩ := wr_ok (bs := x) h
      exact .inr (.inr ⟨h1, by rw [e0, h], by unfold apN; rw [e0, h]; rfl, by rw [eD, k1, k2]⟩)
/-- What the rounds keep. -/
def KR (W0 : World) (B : Nat) (cut a15 : Int) (k : Nat) (s : ByteArray) (w : World) : Prop :=
  ∃ d : Dsk, DK w B B d ∧ d.e = 3 ∧ s = str d.log ∧ Below W0.heap.size W0 w ∧ (d.armed = true → a15 ≤ k ∧ d.cut = cut)
set_option maxRecDepth 10000 in
set_option maxHeartbeats 2000000 in
theorem diskKeeps_walk {H : Type} {enc : TypeId × Value → H} (W : World) (base : Nat) (args : Array Value) (ds : List (DataW H))
    (hval : ∀ (j : Nat) t v, Try.f4.params[j]? = some t → args[j]? = some v → Value.okWide Try.prog W .any base t v)
    (hA : ∃ p, DataW.TrodAll enc Try.prog W 0 (fun _ => true) true Try.f4.params.toList args.toList ds p) 
    (_ : (DataW.weightsEach Try.prog (Try.f4.params.toList ++ (OpenSpec.ofChange Rows.diskKeepsSpec).bare.plain.varTypes Try.prog) (ds ++ [])).all (· ≤ reachBytes) = true)
    (_ : laidMetH Try.prog Rows.diskKeepsRow.laid W) (_ : W.ShapedOpen Try.prog) :
    Calls Try.prog 4 args W fun e W' => e = .returned (.bool true) ∧ Below W.heap.size W W' := by
  obtain ⟨p, hA⟩ := hA
  rw [Try.params4] at hA hval
  obtain ⟨v0, v1, v2, d0, d1, d2, p0, p1, p2, hargs, rfl, rfl, h0, h1, h2⟩ := trodAll_three hA
  subst hargs
  obtain ⟨room, rfl, _, _, wr⟩ := open_int Try.underlying3 (hval 0 3 v0 rfl rfl) h0
  obtain ⟨A, cap, xs, rfl, hrows, hl63⟩ := rows_is (hval 1 36 v1 rfl rfl) h1
  obtain ⟨c0, c1, c2, y0, y1, y2, m, rfl, _, _, hy0, hy1, hy2⟩ := Go.Joins.open_agg3 Try.underlying38 (by kernel_rfl) (by kernel_rfl) (hval 2 38 v2 rfl rfl) h2
  obtain ⟨cut, e0, _, wc⟩ := DataW.trod_int Try.underlying3 hy0
  obtain ⟨at_, e1, _, wa⟩ := DataW.trod_int Try.underlying3 hy1
  obtain ⟨cuts, e2, _⟩ := DataW.trod_bool Try.underlying4 hy2
  simp at e0 e1 e2
  subst e0 e1 e2
  have wc' := wf_i64 wc
  clear h0 h1 h2 hval hA wr hy0 hy1 hy2 wc wa
  have HA := hid hrows
  have hl1 : (xs.length : Int) ≤ 9223372036854775807 := by omega
  clear hrows
  go_enter Try.func4, Try.ntmps4
  go_wp2_with fail
  refine (awake_any _).mono ?_
  rintro _ w1 ⟨rfl, hb⟩
  have G1 := hid (show Below W.heap.size W w1 from below_step (by go_grown) (by simp) hb)
  clear hb
  go_wp2_with fail
  refine (new_any room _).mono ?_
  rintro _ w2 ⟨rfl, hd, hb⟩
  have D2 := hid hd
  have G2 := hid (below_step G1.out G1.out.size hb)
  clear hd hb
  by_cases h20 : 20 < xs.length
  · have h20' : (20 : Int) < (xs.length : Int) := by omega
    go_wp2_with fail
    all_goals go_returns
    all_goals exact ⟨rfl, G2.out⟩
  · have h20' : ¬ (20 : Int) < (xs.length : Int) := by omega
    have KS := hid (swap_any w1.heap.size w1.heap.size (Dsk.new room) (0, 0, 0) (3, 0, 0) w2 D2.out (Nat.le_refl _))
    go_wp2_with fail
    refine KS.out.mono ?_
    rintro _ w3 ⟨rfl, hd, hf⟩
    have K3 := hid (show KR W w1.heap.size cut (bits .and .i64 at_ 15) 0 (str []) w3 from ⟨_, hd, rfl, rfl, G2.out.trans (hf.1.mono G1.out.size), fun h => by cases h⟩)
    have hs0 : str [] = ⟨#[]⟩ := rfl
    have S0 := hid hs0
    clear hd hf KS D2 hs0
    go_wp2_with fail
    go_loopw [11, 12] (fun all i wr => ∃ (k : Nat) (s : ByteArray), k ≤ xs.length ∧ i = .int .i64 k ∧ all = .string s ∧ KR W w1.heap.size cut (bits .and .i64 at_ 15) k s wr) (fun _ i _ => 60 - (intOf i).toNat)
    case atStart => exact ⟨0, str [], Nat.zero_le _, rfl, by rw [S0.out], K3.out⟩
    case round =>
      obtain ⟨k, s, hk, rfl, rfl, hkr⟩ := hrel
      have KK := hid hkr
      obtain ⟨d, hd, he3, hs, hg, harm⟩ := hkr
      have D0 := hid hd
      have G0 := hid hg
      have HS := hid hs
      have HE := hid he3
      have HM := hid harm
      have hgood := hd.good
      have hsz : s.size = d.log.length := by rw [hs, str_size]
      have hll := hgood.l
      have G1s := G1.out.size
      have hss : s.size ≤ 1048576 := by omega
      clear hd hg hs he3 harm hsz K3
      by_cases hlt : k < xs.length
      · obtain ⟨b, off, rfl, hbl, A', c', hcell, hsl⟩ := HA.out.at k hlt
        have HC := hid (fun (w : World) (hg : Below W.heap.size W w) => (hg.cell (p := ⟨b, off + k, none⟩) hbl).trans hcell)
        have HNE := hid (hsl.1.ne (db := w1.heap.size) G1s)
        have HSL := hid (fun (w : World) (hg : Below W.heap.size W w) => hsl.keep hg)
        clear hcell hsl
        generalize xs[k] = x at *
        obtain ⟨a15, ha15⟩ : ∃ a15, a15 = bits .and .i64 at_ 15 := ⟨_, rfl⟩
        have HA15 := hid ha15
        clear D0 HS HE HM hgood hll
        by_cases hx : 2000 < x.length
        · have hx' : (2000 : Int) < (x.length : Int) := by omega
          have hc := HC.out _ G0.out
          go_wp2_with fail
          all_goals go_returns
          all_goals exact ⟨rfl, G0.out⟩
        · have hx' : ¬ (2000 : Int) < (x.length : Int) := by omega
          by_cases hk15 : ((k : Int) == bits .and .i64 at_ 15) = true
          · have hc := HC.out _ G0.out
            have HK15 := hid (show bits .and .i64 at_ 15 ≤ (k : Int) by have : (k : Int) = bits .and .i64 at_ 15 := by simpa using hk15
                                                                        omega)
            obtain ⟨d, hd, he3, hs, hg, harm⟩ := KK.out
            have KC := hid (cut_any w1.heap.size w1.heap.size d cut wr hd (Nat.le_refl _))
            have K4a := hid (fun (w' : World) (h1 : DK w' w1.heap.size w1.heap.size { d with armed := true, cut := cut }) (h2 : Fr w1.heap.size w1.heap.size wr w') => (show KR W w1.heap.size cut (bits .and .i64 at_ 15) k s w' from ⟨_, h1, he3, hs, hg.trans (h2.1.mono G1s), fun _ => ⟨HK15.out, rfl⟩⟩))
            clear hd he3 hs hg harm
            go_wp2_with fail
            refine KC.out.mono ?_
            rintro _ w4 ⟨rfl, hd, hf⟩
            have K4 := hid (K4a.out _ hd hf)
            clear hd hf K4a KC hc
            obtain ⟨d, hd, he3, hs, hg, harm⟩ := K4.out
            have hsz : s.size = d.log.length := by rw [hs, str_size]
            have G4 := hid hg
            have hgood := hd.good
            have S4 := hid hs
            have M4 := hid harm
            have E4 := hid he3
            have h3 := ap_three d x 3 s.size he3.symm (by rw [hsz])
            have hx20 : x.length ≤ 2000 := by omega
            have hc4 := HC.out _ hg
            have hsl := HSL.out _ hg
            have KA := hid (append_any w1.heap.size w1.heap.size d 3 s.size A' c' x w4 hd (Nat.le_refl _) hsl.1 hsl.2.1 hsl.2.2.2 HNE.out (by omega))
            have hr1 := hgood.r1
            have hr0 := hgood.r0
            have hll := hgood.l
            rw [← hsz] at h3
            have HZ := hid hsz
            clear hsz
            clear hd he3 hs hg harm hsl hgood
            rcases h3 with ⟨h4, q1, q2, q3⟩ | ⟨h4, h5, q1, q2, q3⟩ | ⟨h4, q1, q2, q3⟩
            · rw [q1, q2, q3] at KA
              clear q1 q2 q3
              go_wp2_with fail
              with_reducible refine KA.out.mono ?_
              rintro _ w5 ⟨rfl, hd, hf⟩
              have D5 := hid hd
              have G5 := hid (G4.out.trans (hf.1.mono G1s))
              clear hd hf KA
              go_wp2_with fail
              refine (log_any _ _ _ _ D5.out).mono ?_
              rintro _ w6 ⟨v, rfl, ho, hb⟩
              have D6 := hid (D5.out.keep hb)
              have G6 := hid (below_step G5.out G5.out.size hb)
              obtain ⟨A6, c6, rfl⟩ := ho.slice
              have hc6 := HC.out _ G6.out
              have hstr : (convert 31 9 (.slice A6 d.log.length c6)).run Try.prog w6 = .ok (.string s) w6 := by rw [S4.out]; exact str_of c6 ho.bts
              have K6 := hid (fun (w' : World) (h : Below w6.heap.size w6 w') => (show KR W w1.heap.size cut (bits .and .i64 at_ 15) (k + 1) s w' from ⟨_, D6.out.keep h, E4.out, S4.out, below_step G6.out G6.out.size h, fun h => ⟨by have := (M4.out h).1; omega, (M4.out h).2⟩⟩))
              clear ho hb
              go_wp2_with fail
              have hd1 : decide ((s.size : Int) + (x.length : Int) ≤ d.room) = false := decide_eq_false (by omega)
              have hwr : IntKind.i64.wrap ((s.size : Int) + (x.length : Int)) = (s.size : Int) + (x.length : Int) := IntWalk.i64_in _ (by omega)
              have H0 := hid (show Below w6.heap.size w6 (World.drew w6) from (Below.refl _ _).drew)
              have HX : Hid (∀ w', Below w6.heap.size w6 w' → w'.cell? ⟨b, off + k, none⟩ = some (.slice A' x.length c')) := hid fun w' h => HC.out _ (below_step G6.out G6.out.size h)
              go_region_held3 (fun w' => w'.cell? ⟨b, off + k, none⟩ = some (.slice A' x.length c')) (first | exact HX.out _ H0.out | exact HX.out _ H7.out | go_keep)
                ((go_at_call 12; refine (room_any _ _ _ _ (D6.out.keep H0.out)).mono ?_; rintro _ w7 ⟨rfl, hb⟩; have H7 := hid (below_step H0.out H0.out.size hb); clear hb))
              have K7 := hid (K6.out _ H7.out)
              clear hd1 hwr
              go_wp2_with fail
              go_roundw
              case rel => exact ⟨k + 1, _, by omega, by go_num, rfl, K7.out⟩
              case measure => simp [intOf]; omega
            · rw [q1, q2, q3] at KA
              clear q1 q2 q3
              obtain ⟨y, hy⟩ : ∃ y, y = d.log ++ x.take (cutN d.cut x.length) := ⟨_, rfl⟩
              rw [← hy] at KA
              have HY := hid hy
              clear hy
              go_wp2_with fail
              with_reducible refine KA.out.mono ?_
              rintro _ w5 ⟨rfl, hd, hf⟩
              have D5 := hid hd
              have G5 := hid (G4.out.trans (hf.1.mono G1s))
              clear hd hf KA
              go_wp2_with fail
              refine (log_any _ _ _ _ D5.out).mono ?_
              rintro _ w6 ⟨v, rfl, ho, hb⟩
              have D6 := hid (D5.out.keep hb)
              have G6 := hid (below_step G5.out G5.out.size hb)
              obtain ⟨A6, c6, rfl⟩ := ho.slice
              have hc6 := HC.out _ G6.out
              obtain ⟨kc, hkc⟩ : ∃ kc, kc = cutN d.cut x.length := ⟨_, rfl⟩
              obtain ⟨sy, hsy⟩ : ∃ sy, sy = str y := ⟨_, rfl⟩
              obtain ⟨sx, hsx⟩ : ∃ sx, sx = str x := ⟨_, rfl⟩
              obtain ⟨sz, hsz2⟩ : ∃ sz, sz = str (d.log ++ x) := ⟨_, rfl⟩
              have hstr : (convert 31 9 (.slice A6 y.length c6)).run Try.prog w6 = .ok (.string sy) w6 := by rw [hsy]; exact str_of c6 ho.bts
              have hstx : (convert 31 9 (.slice A' x.length c')).run Try.prog w6 = .ok (.string sx) w6 := by rw [hsx]; exact str_of c' (HSL.out _ G6.out).1
              have hadd : s ++ sx = sz := by rw [S4.out, hsx, hsz2, str_add]
              have hkl := cutN_le d.cut x.length
              rw [← hkc] at hkl HY
              have hyl : y.length = d.log.length + kc := by rw [HY.out, List.length_append, List.length_take]; omega
              have hys : (sy.size : Int) = (s.size : Int) + (kc : Int) := by rw [hsy, str_size, HZ.out, hyl]; simp
              have hsxs : sx.size = x.length := by rw [hsx, str_size]
              have hszs : sz.size = s.size + x.length := by rw [hsz2, str_size, HZ.out]; simp
              have hcut : sz.extract 0 (s.size + kc) = sy := by
                apply ByteArray.ext
                rw [hsz2, hsy, HY.out, HZ.out]
                simp only [ByteArray.data_extract, str]
                apply Array.ext'
                simp [List.take_append]
                exact List.take_of_length_le (by omega)
              have K6 := hid (show KR W w1.heap.size cut (bits .and .i64 at_ 15) (k + 1) sy w6 from ⟨_, D6.out, E4.out, hsy, G6.out, fun h => by cases h⟩)
              have hm := M4.out h5
              have hkc' : (kc : Int) = min (max cut 0) (x.length : Int) := by rw [hkc, hm.2]; unfold cutN; omega
              have hm1 := hm.1
              have hm2 : decide ((k : Int) < bits .and .i64 at_ 15) = false := decide_eq_false (by omega)
              have hway : (cut < 0 ∧ kc = 0) ∨ (¬ cut < 0 ∧ cut = (kc : Int)) ∨ (¬ cut < 0 ∧ (x.length : Int) < cut ∧ kc = x.length) := by omega
              have HM1 := hid hm1
              clear ho hb hsy hsx hsz2 hyl hm h5 hkc hkc' hm1 HY
              rcases hway with ⟨h6, rfl⟩ | ⟨h6, rfl⟩ | ⟨h6, h7, rfl⟩
              · have hys' : (sy.size : Int) = (s.size : Int) := by simpa using hys
                clear hys
                simp only [Nat.add_zero] at hcut
                go_wp2_with fail
                go_roundw
                case rel => exact ⟨k + 1, _, by omega, by go_num, rfl, K6.out⟩
                case measure => simp [intOf]; omega
              · go_wp2_with fail
                go_roundw
                case rel => exact ⟨k + 1, _, by omega, by go_num, rfl, K6.out⟩
                case measure => simp [intOf]; omega
              · go_wp2_with fail
                go_roundw
                case rel => exact ⟨k + 1, _, by omega, by go_num, rfl, K6.out⟩
                case measure => simp [intOf]; omega
            · rw [q1, q2, q3] at KA
              clear q1 q2 q3
              obtain ⟨y, hy⟩ : ∃ y, y = d.log ++ x := ⟨_, rfl⟩
              rw [← hy] at KA
              have HY := hid hy
              clear hy
              go_wp2_with fail
              with_reducible refine KA.out.mono ?_
              rintro _ w5 ⟨rfl, hd, hf⟩
              have D5 := hid hd
              have G5 := hid (G4.out.trans (hf.1.mono G1s))
              clear hd hf KA
              go_wp2_with fail
              refine (log_any _ _ _ _ D5.out).mono ?_
              rintro _ w6 ⟨v, rfl, ho, hb⟩
              have D6 := hid (D5.out.keep hb)
              have G6 := hid (below_step G5.out G5.out.size hb)
              obtain ⟨A6, c6, rfl⟩ := ho.slice
              have hc6 := HC.out _ G6.out
              obtain ⟨sy, hsy⟩ : ∃ sy, sy = str y := ⟨_, rfl⟩
              obtain ⟨sx, hsx⟩ : ∃ sx, sx = str x := ⟨_, rfl⟩
              have hstr : (convert 31 9 (.slice A6 y.length c6)).run Try.prog w6 = .ok (.string sy) w6 := by rw [hsy]; exact str_of c6 ho.bts
              have hstx : (convert 31 9 (.slice A' x.length c')).run Try.prog w6 = .ok (.string sx) w6 := by rw [hsx]; exact str_of c' (HSL.out _ G6.out).1
              have hadd : s ++ sx = sy := by rw [S4.out, hsx, hsy, HY.out, str_add]
              have hsys : (sy.size : Int) = (s.size : Int) + (x.length : Int) := by rw [hsy, str_size, HZ.out, HY.out]; simp
              have hsxs : sx.size = x.length := by rw [hsx, str_size]
              have K6 := hid (show KR W w1.heap.size cut (bits .and .i64 at_ 15) (k + 1) sy w6 from ⟨_, D6.out, E4.out, hsy, G6.out, fun h => ⟨by have := (M4.out h).1; omega, (M4.out h).2⟩⟩)
              clear ho hb hsy hsx
              go_wp2_with fail
              go_roundw
              case rel => exact ⟨k + 1, _, by omega, by go_num, rfl, K6.out⟩
              case measure => simp [intOf]; omega
          · have hk15' : ((k : Int) == bits .and .i64 at_ 15) = false := by simpa using hk15
            clear hk15
            obtain ⟨w4, rfl⟩ : ∃ w4 : World, w4 = wr := ⟨_, rfl⟩
            have K4 := KK
            have hc := HC.out _ G0.out
            obtain ⟨d, hd, he3, hs, hg, harm⟩ := K4.out
            have hsz : s.size = d.log.length := by rw [hs, str_size]
            have G4 := hid hg
            have hgood := hd.good
            have S4 := hid hs
            have M4 := hid harm
            have E4 := hid he3
            have h3 := ap_three d x 3 s.size he3.symm (by rw [hsz])
            have hx20 : x.length ≤ 2000 := by omega
            have hc4 := HC.out _ hg
            have hsl := HSL.out _ hg
            have KA := hid (append_any w1.heap.size w1.heap.size d 3 s.size A' c' x w4 hd (Nat.le_refl _) hsl.1 hsl.2.1 hsl.2.2.2 HNE.out (by omega))
            have hr1 := hgood.r1
            have hr0 := hgood.r0
            have hll := hgood.l
            rw [← hsz] at h3
            have HZ := hid hsz
            clear hsz
            clear hd he3 hs hg harm hsl hgood
            rcases h3 with ⟨h4, q1, q2, q3⟩ | ⟨h4, h5, q1, q2, q3⟩ | ⟨h4, q1, q2, q3⟩
            · rw [q1, q2, q3] at KA
              clear q1 q2 q3
              go_wp2_with fail
              with_reducible refine KA.out.mono ?_
              rintro _ w5 ⟨rfl, hd, hf⟩
              have D5 := hid hd
              have G5 := hid (G4.out.trans (hf.1.mono G1s))
              clear hd hf KA
              go_wp2_with fail
              refine (log_any _ _ _ _ D5.out).mono ?_
              rintro _ w6 ⟨v, rfl, ho, hb⟩
              have D6 := hid (D5.out.keep hb)
              have G6 := hid (below_step G5.out G5.out.size hb)
              obtain ⟨A6, c6, rfl⟩ := ho.slice
              have hc6 := HC.out _ G6.out
              have hstr : (convert 31 9 (.slice A6 d.log.length c6)).run Try.prog w6 = .ok (.string s) w6 := by rw [S4.out]; exact str_of c6 ho.bts
              have K6 := hid (fun (w' : World) (h : Below w6.heap.size w6 w') => (show KR W w1.heap.size cut (bits .and .i64 at_ 15) (k + 1) s w' from ⟨_, D6.out.keep h, E4.out, S4.out, below_step G6.out G6.out.size h, fun h => ⟨by have := (M4.out h).1; omega, (M4.out h).2⟩⟩))
              clear ho hb
              go_wp2_with fail
              have hd1 : decide ((s.size : Int) + (x.length : Int) ≤ d.room) = false := decide_eq_false (by omega)
              have hwr : IntKind.i64.wrap ((s.size : Int) + (x.length : Int)) = (s.size : Int) + (x.length : Int) := IntWalk.i64_in _ (by omega)
              have H0 := hid (show Below w6.heap.size w6 (World.drew w6) from (Below.refl _ _).drew)
              have HX : Hid (∀ w', Below w6.heap.size w6 w' → w'.cell? ⟨b, off + k, none⟩ = some (.slice A' x.length c')) := hid fun w' h => HC.out _ (below_step G6.out G6.out.size h)
              go_region_held3 (fun w' => w'.cell? ⟨b, off + k, none⟩ = some (.slice A' x.length c')) (first | exact HX.out _ H0.out | exact HX.out _ H7.out | go_keep)
                ((go_at_call 12; refine (room_any _ _ _ _ (D6.out.keep H0.out)).mono ?_; rintro _ w7 ⟨rfl, hb⟩; have H7 := hid (below_step H0.out H0.out.size hb); clear hb))
              have K7 := hid (K6.out _ H7.out)
              clear hd1 hwr
              go_wp2_with fail
              go_roundw
              case rel => exact ⟨k + 1, _, by omega, by go_num, rfl, K7.out⟩
              case measure => simp [intOf]; omega
            · rw [q1, q2, q3] at KA
              clear q1 q2 q3
              obtain ⟨y, hy⟩ : ∃ y, y = d.log ++ x.take (cutN d.cut x.length) := ⟨_, rfl⟩
              rw [← hy] at KA
              have HY := hid hy
              clear hy
              go_wp2_with fail
              with_reducible refine KA.out.mono ?_
              rintro _ w5 ⟨rfl, hd, hf⟩
              have D5 := hid hd
              have G5 := hid (G4.out.trans (hf.1.mono G1s))
              clear hd hf KA
              go_wp2_with fail
              refine (log_any _ _ _ _ D5.out).mono ?_
              rintro _ w6 ⟨v, rfl, ho, hb⟩
              have D6 := hid (D5.out.keep hb)
              have G6 := hid (below_step G5.out G5.out.size hb)
              obtain ⟨A6, c6, rfl⟩ := ho.slice
              have hc6 := HC.out _ G6.out
              obtain ⟨kc, hkc⟩ : ∃ kc, kc = cutN d.cut x.length := ⟨_, rfl⟩
              obtain ⟨sy, hsy⟩ : ∃ sy, sy = str y := ⟨_, rfl⟩
              obtain ⟨sx, hsx⟩ : ∃ sx, sx = str x := ⟨_, rfl⟩
              obtain ⟨sz, hsz2⟩ : ∃ sz, sz = str (d.log ++ x) := ⟨_, rfl⟩
              have hstr : (convert 31 9 (.slice A6 y.length c6)).run Try.prog w6 = .ok (.string sy) w6 := by rw [hsy]; exact str_of c6 ho.bts
              have hstx : (convert 31 9 (.slice A' x.length c')).run Try.prog w6 = .ok (.string sx) w6 := by rw [hsx]; exact str_of c' (HSL.out _ G6.out).1
              have hadd : s ++ sx = sz := by rw [S4.out, hsx, hsz2, str_add]
              have hkl := cutN_le d.cut x.length
              rw [← hkc] at hkl HY
              have hyl : y.length = d.log.length + kc := by rw [HY.out, List.length_append, List.length_take]; omega
              have hys : (sy.size : Int) = (s.size : Int) + (kc : Int) := by rw [hsy, str_size, HZ.out, hyl]; simp
              have hsxs : sx.size = x.length := by rw [hsx, str_size]
              have hszs : sz.size = s.size + x.length := by rw [hsz2, str_size, HZ.out]; simp
              have hcut : sz.extract 0 (s.size + kc) = sy := by
                apply ByteArray.ext
                rw [hsz2, hsy, HY.out, HZ.out]
                simp only [ByteArray.data_extract, str]
                apply Array.ext'
                simp [List.take_append]
                exact List.take_of_length_le (by omega)
              have K6 := hid (show KR W w1.heap.size cut (bits .and .i64 at_ 15) (k + 1) sy w6 from ⟨_, D6.out, E4.out, hsy, G6.out, fun h => by cases h⟩)
              have hm := M4.out h5
              have hkc' : (kc : Int) = min (max cut 0) (x.length : Int) := by rw [hkc, hm.2]; unfold cutN; omega
              have hm1 := hm.1
              have hm2 : decide ((k : Int) < bits .and .i64 at_ 15) = false := decide_eq_false (by omega)
              have hway : (cut < 0 ∧ kc = 0) ∨ (¬ cut < 0 ∧ cut = (kc : Int)) ∨ (¬ cut < 0 ∧ (x.length : Int) < cut ∧ kc = x.length) := by omega
              have HM1 := hid hm1
              clear ho hb hsy hsx hsz2 hyl hm h5 hkc hkc' hm1 HY
              rcases hway with ⟨h6, rfl⟩ | ⟨h6, rfl⟩ | ⟨h6, h7, rfl⟩
              · have hys' : (sy.size : Int) = (s.size : Int) := by simpa using hys
                clear hys
                simp only [Nat.add_zero] at hcut
                go_wp2_with fail
                go_roundw
                case rel => exact ⟨k + 1, _, by omega, by go_num, rfl, K6.out⟩
                case measure => simp [intOf]; omega
              · go_wp2_with fail
                go_roundw
                case rel => exact ⟨k + 1, _, by omega, by go_num, rfl, K6.out⟩
                case measure => simp [intOf]; omega
              · go_wp2_with fail
                go_roundw
                case rel => exact ⟨k + 1, _, by omega, by go_num, rfl, K6.out⟩
                case measure => simp [intOf]; omega
            · rw [q1, q2, q3] at KA
              clear q1 q2 q3
              obtain ⟨y, hy⟩ : ∃ y, y = d.log ++ x := ⟨_, rfl⟩
              rw [← hy] at KA
              have HY := hid hy
              clear hy
              go_wp2_with fail
              with_reducible refine KA.out.mono ?_
              rintro _ w5 ⟨rfl, hd, hf⟩
              have D5 := hid hd
              have G5 := hid (G4.out.trans (hf.1.mono G1s))
              clear hd hf KA
              go_wp2_with fail
              refine (log_any _ _ _ _ D5.out).mono ?_
              rintro _ w6 ⟨v, rfl, ho, hb⟩
              have D6 := hid (D5.out.keep hb)
              have G6 := hid (below_step G5.out G5.out.size hb)
              obtain ⟨A6, c6, rfl⟩ := ho.slice
              have hc6 := HC.out _ G6.out
              obtain ⟨sy, hsy⟩ : ∃ sy, sy = str y := ⟨_, rfl⟩
              obtain ⟨sx, hsx⟩ : ∃ sx, sx = str x := ⟨_, rfl⟩
              have hstr : (convert 31 9 (.slice A6 y.length c6)).run Try.prog w6 = .ok (.string sy) w6 := by rw [hsy]; exact str_of c6 ho.bts
              have hstx : (convert 31 9 (.slice A' x.length c')).run Try.prog w6 = .ok (.string sx) w6 := by rw [hsx]; exact str_of c' (HSL.out _ G6.out).1
              have hadd : s ++ sx = sy := by rw [S4.out, hsx, hsy, HY.out, str_add]
              have hsys : (sy.size : Int) = (s.size : Int) + (x.length : Int) := by rw [hsy, str_size, HZ.out, HY.out]; simp
              have hsxs : sx.size = x.length := by rw [hsx, str_size]
              have K6 := hid (show KR W w1.heap.size cut (bits .and .i64 at_ 15) (k + 1) sy w6 from ⟨_, D6.out, E4.out, hsy, G6.out, fun h => ⟨by have := (M4.out h).1; omega, (M4.out h).2⟩⟩)
              clear ho hb hsy hsx
              go_wp2_with fail
              go_roundw
              case rel => exact ⟨k + 1, _, by omega, by go_num, rfl, K6.out⟩
              case measure => simp [intOf]; omega
      · obtain rfl : k = xs.length := by omega
        go_wp2_with fail
        refine (log_any _ _ _ _ D0.out).mono ?_
        rintro _ w4 ⟨v, rfl, ho, hb⟩
        obtain ⟨A4, c4, rfl⟩ := ho.slice
        have hstr : (convert 31 9 (.slice A4 d.log.length c4)).run Try.prog w4 = .ok (.string s) w4 := by rw [HS.out]; exact str_of c4 ho.bts
        have G4 := hid (below_step G0.out G0.out.size hb)
        clear ho hb
        go_wp2_with fail
        all_goals go_returns
        all_goals exact ⟨by first | rfl | simp, G4.out⟩
end Go.Proofs.Ytbpgeghenninnaa
