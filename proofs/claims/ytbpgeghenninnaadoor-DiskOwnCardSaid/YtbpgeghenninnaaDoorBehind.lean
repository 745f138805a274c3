/- The law's disk behind a script. Conditions: the acts and the table of half bytes stand in memory. -/
import Derived.Test.YtbpgeghenninnaaDoorDone
import Derived.StillTailTactics
import Derived.LoopTactic
import Derived.Deep.RegionHeld3
import Derived.Deep.DeepCutAuto
import Derived.Deep.CutRange
namespace Go.Proofs.YtbpgeghenninnaaDoor
open Go Go.RowKit
theorem Acts.at {w W : World} {A : Option Addr} {xs : List ActS} (h : Acts w W A xs) (k : Nat) (hk : k < xs.length) : ∃ b off, A = some ⟨b, off, none⟩ ∧ b < w.heap.size ∧ (xs[k]).Ok W ∧ ∀ i, i < 12 → w.cell? ⟨b, off + k * 12 + i, none⟩ = (xs[k]).cells[i]? := by
  rcases h with rfl | ⟨b, off, rfl, hlt, hc⟩
  · simp at hk
  · obtain ⟨cs, ⟨rfl, hok⟩, _, h⟩ := hc k _ (List.getElem?_eq_getElem hk)
    exact ⟨b, off, rfl, hlt, hok, h⟩
/-- An act's twelve cells. -/
def ActAt (w : World) (b off : Nat) (a : ActS) : Prop := ∀ i, i < 12 → w.cell? ⟨b, off + i, none⟩ = a.cells[i]?
theorem ActAt.all {w : World} {b off : Nat} {a : ActS} (h : ActAt w b off a) : w.cell? ⟨b, off, none⟩ = some (.int .i64 a.kind) ∧ w.cell? ⟨b, off + 1, none⟩ = some (.bool a.near) ∧ w.cell? ⟨b, off + 2, none⟩ = some (.int .i64 a.ep) ∧ w.cell? ⟨b, off + 3, none⟩ = some (.int .i64 a.at_) ∧
    w.cell? ⟨b, off + 4, none⟩ = some (.slice a.bA a.bs.length a.bc) ∧ w.cell? ⟨b, off + 5, none⟩ = some (.int .u32 a.sum) ∧ w.cell? ⟨b, off + 6, none⟩ = some (.int .i64 a.old.1) ∧ w.cell? ⟨b, off + 7, none⟩ = some (.int .i64 a.old.2.1) ∧ w.cell? ⟨b, off + 8, none⟩ = some (.int .i64 a.old.2.2) ∧
    w.cell? ⟨b, off + 9, none⟩ = some (.int .i64 a.c.1) ∧ w.cell? ⟨b, off + 10, none⟩ = some (.int .i64 a.c.2.1) ∧ w.cell? ⟨b, off + 11, none⟩ = some (.int .i64 a.c.2.2) :=
  ⟨h 0 (by decide), h 1 (by decide), h 2 (by decide), h 3 (by decide), h 4 (by decide), h 5 (by decide), h 6 (by decide), h 7 (by decide), h 8 (by decide), h 9 (by decide), h 10 (by decide), h 11 (by decide)⟩
theorem Bts.in {w W : World} {A : Option Addr} {cap : Nat} {bs : List UInt8} (h : Sl W A cap bs) (hg : Below W.heap.size W w) : Sl w A cap bs := h.keep hg
/-- The act of a row, ready for the law's act: its bytes stand in each world above the law's beginning. -/
theorem act_ready {W w : World} {B db : Nat} {a : ActS} (hok : a.Ok W) (hg : Below W.heap.size W w) (hB : W.heap.size ≤ B) (hdb : B ≤ db) : (∀ w', Below B w w' → Sl w' a.bA a.bc a.bs) ∧ (a.bs = [] ∨ ∀ x, a.bA = some x → x.block ≠ db) :=
  ⟨fun _ h => hok.b.keep (hg.trans (h.mono hB)), hok.b.1.ne (by omega)⟩
theorem DK.oth {w w' : World} {B db r : Nat} {d : Dsk} {c : Array Value} {T : TypeId} {fr : Nat × Nat} (h : DK w B db d) (hr : w.heap[r]? = some (.cells c T fr)) (hT : T ≠ 5) (hdb : r ≠ db) (ho : ∀ k, k ≠ r → w'.heap[k]? = w.heap[k]?) : DK w' B db d := by
  have keepO : ∀ {v : Value} {x : List UInt8}, Own w B v x → Own w' B v x := by
    intro v x hv
    obtain ⟨hl0, h0 | ⟨g, cap, cur, rfl, hB, hh, q⟩⟩ := hv
    · exact ⟨hl0, .inl h0⟩
    · refine ⟨hl0, .inr ⟨g, cap, cur, rfl, hB, ?_, q⟩⟩
      rw [ho g (fun e => ?_), hh]
      subst e
      rw [hh] at hr
      cases hr
      exact hT rfl
  obtain ⟨lv, sv, tv, h⟩ := h
  exact ⟨lv, sv, tv, ⟨by rw [ho db (fun e => hdb e.symm), h.h], keepO h.l, keepO h.s, keepO h.t, h.a, h.g⟩⟩
theorem nine_oth {w : World} {B k : Nat} (v0 v1 v2 v3 v4 v5 v6 v7 v8 : Value) (hk : k ≠ B) : (((((((((w.setCell ⟨B, 0, none⟩ v0).setCell ⟨B, 1, none⟩ v1).setCell ⟨B, 2, none⟩ v2).setCell ⟨B, 3, none⟩ v3).setCell ⟨B, 4, none⟩ v4).setCell ⟨B, 5, none⟩ v5).setCell ⟨B, 6, none⟩ v6).setCell ⟨B, 7, none⟩ v7).setCell ⟨B, 8, none⟩ v8).heap[k]? = w.heap[k]? := by
  simp only [heap_setCell_other _ ⟨B, _, none⟩ _ _ hk]
/-- What the law's act leaves: the document's disk at a block of the law's own, the disk, the rest as it was. -/
def Left (W0 : World) (B b6 g : Nat) (d d2 : Dsk) (wx : World) : Prop := wx.heap[g]? = some (.cells (rv d2) 29 (0, 0)) ∧ DK wx B B d2 ∧ wx.heap[b6]? = some (.cells (rv d) 29 (0, 0)) ∧ Below B W0 wx ∧ b6 < g
theorem left_late {W0 w7 : World} {B b6 : Nat} {d d2 : Dsk} (hd : DK w7 B B d2) (h6 : w7.heap[b6]? = some (.cells (rv d) 29 (0, 0))) (hg : Below B W0 w7) (hB : B ≤ w7.heap.size) : Left W0 B b6 w7.heap.size d d2 (w7.alloc (.cells (rv d2) 29)) :=
  ⟨heap_new _ _, hd.keep (by go_grown), heapA h6, hg.alloc hB _, lt_of h6⟩
theorem left_soon {W0 w7 : World} {B b6 g : Nat} {d d2 : Dsk} {a0 a1 a2 a3 a4 a5 a6 a7 a8 : Value} (hd : DK w7 B B d2) (h6 : w7.heap[b6]? = some (.cells (rv d) 29 (0, 0))) (hg : Below B W0 w7) (hB : B < g) (h6g : b6 < g) (hz : w7.heap[g]? = some (.cells #[a0, a1, a2, a3, a4, a5, a6, a7, a8] 29 (0, 0))) :
    Left W0 B b6 g d d2 (((((((((w7.setCell ⟨g, 0, none⟩ (.int .i64 d2.room)).setCell ⟨g, 1, none⟩ (.int .i64 d2.e)).setCell ⟨g, 2, none⟩ (.int .i64 d2.o)).setCell ⟨g, 3, none⟩ (.int .i64 d2.u)).setCell ⟨g, 4, none⟩ (.string (str d2.log))).setCell ⟨g, 5, none⟩ (.string (str d2.snap))).setCell ⟨g, 6, none⟩ (.string (str d2.stg))).setCell ⟨g, 7, none⟩ (.bool d2.armed)).setCell ⟨g, 8, none⟩ (.int .i64 d2.cut)) :=
  ⟨nine_set _ _ _ _ _ _ _ _ _ hz, hd.oth hz (by decide) (by omega) (fun k hk => nine_oth _ _ _ _ _ _ _ _ _ hk), by rw [nine_oth _ _ _ _ _ _ _ _ _ (by omega)]; exact h6, nine_below _ _ _ _ _ _ _ _ _ hg (by omega), h6g⟩
set_option maxRecDepth 10000 in
set_option maxHeartbeats 4000000 in
theorem behind_any (W : World) (room : Int) (A : Option Addr) (cap : Nat) (xs : List ActS) (w : World) (hA : Acts W W A xs) (hl : xs.length ≤ 9223372036854775807) (hg0 : Below W.heap.size W w) (hT : Tab W) :
    Calls Tryd.prog 15 #[.int .i64 room, .slice A xs.length cap] w fun e w' => ∃ d, e = .returned (.pointer (some ⟨w.heap.size, 0, none⟩)) ∧ DK w' w.heap.size w.heap.size d ∧ Below w.heap.size w w' := by
  have HA := hid hA
  have h0W : 0 < W.heap.size := lt_of hT.choose_spec.choose_spec
  have HT := hid hT
  have G0 := hid hg0
  have hsW := hg0.size
  have hl1 : (xs.length : Int) ≤ 9223372036854775807 := by omega
  clear hA hT hg0
  go_enter Tryd.func15, Tryd.ntmps15
  go_wp2_with fail
  refine (new_any room _).mono ?_
  rintro _ w1 ⟨rfl, hd, hb⟩
  have D1 := hid hd
  have G1 := hid hb
  clear hd hb
  go_wp2_with fail
  refine (rnew_any room _).mono ?_
  rintro _ w2 ⟨rfl, hb⟩
  have D2 := hid (D1.out.keep hb)
  have G2 := hid (below_step G1.out G1.out.size hb)
  have L2 := D2.out.lt
  clear hb D1
  obtain ⟨d0, hd0⟩ : ∃ d0, d0 = Dsk.new room := ⟨_, rfl⟩
  rw [← hd0] at D2 ⊢
  clear hd0
  simp only [rv]
  go_wp2_with fail
  have hb6 : Below w2.heap.size w2 (w2.alloc (.cells #[.int .i64 d0.room, .int .i64 d0.e, .int .i64 d0.o, .int .i64 d0.u, .string (str d0.log), .string (str d0.snap), .string (str d0.stg), .bool d0.armed, .int .i64 d0.cut] 29)) := by go_grown
  have D3 := hid (D2.out.keep hb6)
  have G3 := hid (below_step G2.out G2.out.size hb6)
  have K3 := hid (heap_new w2 (.cells #[.int .i64 d0.room, .int .i64 d0.e, .int .i64 d0.o, .int .i64 d0.u, .string (str d0.log), .string (str d0.snap), .string (str d0.stg), .bool d0.armed, .int .i64 d0.cut] 29))
  clear hb6 D2 G2
  go_loopw [7] (fun i wr => ∃ (k : Nat) (d : Dsk), k ≤ xs.length ∧ k ≤ 40 ∧ i = .int .i64 k ∧ DK wr w.heap.size w.heap.size d ∧ wr.heap[w2.heap.size]? = some (.cells (rv d) 29 (0, 0)) ∧ Below w.heap.size w wr) (fun i _ => 40 - (intOf i).toNat)
  case atStart => exact ⟨0, d0, Nat.zero_le _, by decide, rfl, D3.out, K3.out, G3.out⟩
  case round =>
    obtain ⟨k, d, hk, hk40, rfl, hd, hk6, hg⟩ := hrel
    have DD := hid hd
    have KK := hid hk6
    have GG := hid hg
    clear hd hk6 hg D3 K3 G3
    by_cases hlt : k < xs.length
    · by_cases h40 : k < 40
      · have hlt' : (k : Int) < 40 := by omega
        obtain ⟨b, off, rfl, hbl, hok, hcells⟩ := HA.out.at k hlt
        have HC := hid (fun (w' : World) (hg : Below W.heap.size W w') => (fun i hi => (hg.cell (p := ⟨b, off + k * 12 + i, none⟩) hbl).trans (hcells i hi) : ActAt w' b (off + k * 12) xs[k]))
        have HOK := hid hok
        clear hcells hok
        generalize xs[k] = a at *
        have GW := hid (G0.out.trans (GG.out.mono hsW))
        obtain ⟨y0, y1, y2, y3, y4, y5, y6, y7, y8, y9, y10, y11⟩ := ActAt.all (HC.out _ GW.out)
        have hbw := Nat.lt_of_lt_of_le hbl GW.out.size
        by_cases h2 : a.bs.length ≤ 2000
        · have h2' : (a.bs.length : Int) ≤ 2000 := by omega
          have KD := hid (fun (w' : World) (hd : DK w' w.heap.size w.heap.size d) (hg : Below w.heap.size w w') => done_any w.heap.size w.heap.size d a w' hd (Nat.le_refl _) (by omega) (HT.out.below (G0.out.trans (hg.mono hsW)) h0W) (act_ready HOK.out (G0.out.trans (hg.mono hsW)) hsW (Nat.le_refl _)).1 (act_ready HOK.out (G0.out.trans (hg.mono hsW)) hsW (Nat.le_refl _)).2 h2)
          simp only [rv] at KD
          simp only [ActS.cells] at KD
          have HX := hid (fun (w' : World) (h6 : w'.heap[w2.heap.size]? = some (.cells #[.int .i64 d.room, .int .i64 d.e, .int .i64 d.o, .int .i64 d.u, .string (str d.log), .string (str d.snap), .string (str d.stg), .bool d.armed, .int .i64 d.cut] 29 (0, 0))) (hg : Below w.heap.size w w') => (⟨(nine h6).1, ActAt.all (HC.out w' (G0.out.trans (hg.mono hsW)))⟩ : (w'.cell? ⟨w2.heap.size, 0, none⟩ = some (.int .i64 d.room) ∧ w'.cell? ⟨w2.heap.size, 1, none⟩ = some (.int .i64 d.e) ∧ w'.cell? ⟨w2.heap.size, 2, none⟩ = some (.int .i64 d.o) ∧ w'.cell? ⟨w2.heap.size, 3, none⟩ = some (.int .i64 d.u) ∧ w'.cell? ⟨w2.heap.size, 4, none⟩ = some (.string (str d.log)) ∧ w'.cell? ⟨w2.heap.size, 5, none⟩ = some (.string (str d.snap)) ∧ w'.cell? ⟨w2.heap.size, 6, none⟩ = some (.string (str d.stg)) ∧ w'.cell? ⟨w2.heap.size, 7, none⟩ = some (.bool d.armed) ∧ w'.cell? ⟨w2.heap.size, 8, none⟩ = some (.int .i64 d.cut)) ∧ (w'.cell? ⟨b, off + k * 12, none⟩ = some (.int .i64 a.kind) ∧ w'.cell? ⟨b, off + k * 12 + 1, none⟩ = some (.bool a.near) ∧ w'.cell? ⟨b, off + k * 12 + 2, none⟩ = some (.int .i64 a.ep) ∧ w'.cell? ⟨b, off + k * 12 + 3, none⟩ = some (.int .i64 a.at_) ∧ w'.cell? ⟨b, off + k * 12 + 4, none⟩ = some (.slice a.bA a.bs.length a.bc) ∧ w'.cell? ⟨b, off + k * 12 + 5, none⟩ = some (.int .u32 a.sum) ∧ w'.cell? ⟨b, off + k * 12 + 6, none⟩ = some (.int .i64 a.old.1) ∧ w'.cell? ⟨b, off + k * 12 + 7, none⟩ = some (.int .i64 a.old.2.1) ∧ w'.cell? ⟨b, off + k * 12 + 8, none⟩ = some (.int .i64 a.old.2.2) ∧ w'.cell? ⟨b, off + k * 12 + 9, none⟩ = some (.int .i64 a.c.1) ∧ w'.cell? ⟨b, off + k * 12 + 10, none⟩ = some (.int .i64 a.c.2.1) ∧ w'.cell? ⟨b, off + k * 12 + 11, none⟩ = some (.int .i64 a.c.2.2))))
          have M0 := hid (show wr.drew.heap[w2.heap.size]? = some (.cells #[.int .i64 d.room, .int .i64 d.e, .int .i64 d.o, .int .i64 d.u, .string (str d.log), .string (str d.snap), .string (str d.stg), .bool d.armed, .int .i64 d.cut] 29 (0, 0)) from KK.out)
          have MG0 := hid (GG.out.drew)
          have MD0 := hid (DD.out.keep (Below.refl _ wr).drew)
          have Ma := hid (show (World.drew (wr.alloc (.cells #[.int .i64 0, .int .i64 0, .int .i64 0, .int .i64 0, .string ⟨#[]⟩, .string ⟨#[]⟩, .string ⟨#[]⟩, .bool false, .int .i64 0] 29))).heap[w2.heap.size]? = some (.cells #[.int .i64 d.room, .int .i64 d.e, .int .i64 d.o, .int .i64 d.u, .string (str d.log), .string (str d.snap), .string (str d.stg), .bool d.armed, .int .i64 d.cut] 29 (0, 0)) from heapA KK.out)
          have MGa := hid ((GG.out.alloc GG.out.size (.cells #[.int .i64 0, .int .i64 0, .int .i64 0, .int .i64 0, .string ⟨#[]⟩, .string ⟨#[]⟩, .string ⟨#[]⟩, .bool false, .int .i64 0] 29)).drew)
          have MDa := hid (DD.out.keep (show Below wr.heap.size wr (World.drew (wr.alloc (.cells #[.int .i64 0, .int .i64 0, .int .i64 0, .int .i64 0, .string ⟨#[]⟩, .string ⟨#[]⟩, .string ⟨#[]⟩, .bool false, .int .i64 0] 29))) from by go_grown))
          have Za := hid (show (World.drew (wr.alloc (.cells #[.int .i64 0, .int .i64 0, .int .i64 0, .int .i64 0, .string ⟨#[]⟩, .string ⟨#[]⟩, .string ⟨#[]⟩, .bool false, .int .i64 0] 29))).heap[wr.heap.size]? = some (.cells #[.int .i64 0, .int .i64 0, .int .i64 0, .int .i64 0, .string ⟨#[]⟩, .string ⟨#[]⟩, .string ⟨#[]⟩, .bool false, .int .i64 0] 29) from heap_new wr _)
          have hdb : w.heap.size < wr.heap.size := DD.out.lt
          have h6r : w2.heap.size < wr.heap.size := lt_of KK.out
          have h6n : w2.heap.size ≠ w.heap.size := by omega
          clear y0 y1 y2 y3 y5 y6 y7 y8 y9 y10 y11
          go_upto_region 7 with (fail)
          clear y4
          go_cut [8] (fun v wx => ∃ g d2, v = .pointer (some ⟨g, 0, none⟩) ∧ Left w w.heap.size w2.heap.size g d d2 wx)
          case first =>
            go_region_held3 (fun w' => (w'.cell? ⟨w2.heap.size, 0, none⟩ = some (.int .i64 d.room) ∧ w'.cell? ⟨w2.heap.size, 1, none⟩ = some (.int .i64 d.e) ∧ w'.cell? ⟨w2.heap.size, 2, none⟩ = some (.int .i64 d.o) ∧ w'.cell? ⟨w2.heap.size, 3, none⟩ = some (.int .i64 d.u) ∧ w'.cell? ⟨w2.heap.size, 4, none⟩ = some (.string (str d.log)) ∧ w'.cell? ⟨w2.heap.size, 5, none⟩ = some (.string (str d.snap)) ∧ w'.cell? ⟨w2.heap.size, 6, none⟩ = some (.string (str d.stg)) ∧ w'.cell? ⟨w2.heap.size, 7, none⟩ = some (.bool d.armed) ∧ w'.cell? ⟨w2.heap.size, 8, none⟩ = some (.int .i64 d.cut)) ∧ (w'.cell? ⟨b, off + k * 12, none⟩ = some (.int .i64 a.kind) ∧ w'.cell? ⟨b, off + k * 12 + 1, none⟩ = some (.bool a.near) ∧ w'.cell? ⟨b, off + k * 12 + 2, none⟩ = some (.int .i64 a.ep) ∧ w'.cell? ⟨b, off + k * 12 + 3, none⟩ = some (.int .i64 a.at_) ∧ w'.cell? ⟨b, off + k * 12 + 4, none⟩ = some (.slice a.bA a.bs.length a.bc) ∧ w'.cell? ⟨b, off + k * 12 + 5, none⟩ = some (.int .u32 a.sum) ∧ w'.cell? ⟨b, off + k * 12 + 6, none⟩ = some (.int .i64 a.old.1) ∧ w'.cell? ⟨b, off + k * 12 + 7, none⟩ = some (.int .i64 a.old.2.1) ∧ w'.cell? ⟨b, off + k * 12 + 8, none⟩ = some (.int .i64 a.old.2.2) ∧ w'.cell? ⟨b, off + k * 12 + 9, none⟩ = some (.int .i64 a.c.1) ∧ w'.cell? ⟨b, off + k * 12 + 10, none⟩ = some (.int .i64 a.c.2.1) ∧ w'.cell? ⟨b, off + k * 12 + 11, none⟩ = some (.int .i64 a.c.2.2))) (first | with_reducible exact HX.out _ M0.out MG0.out | with_reducible exact HX.out _ Ma.out MGa.out | with_reducible exact HX.out _ M7.out MG7.out | exact HX.out _ NX.out NG.out | with_reducible exact HX.out _ (heapA M7.out) (MG7.out.alloc MG7.out.size _) | go_keep)
              (first | (go_at_call 11; first
                | ((with_reducible refine (KD.out _ MD0.out MG0.out).mono ?_); rintro _ w7 ⟨d7, rfl, hd, hf⟩; have D7 := hid hd; have M7 := hid (hf.2 _ _ M0.out h6n (fun cs e => by cases e)); have MG7 := hid (MG0.out.trans hf.1); clear hd hf)
                | ((with_reducible refine (KD.out _ MDa.out MGa.out).mono ?_); rintro _ w7 ⟨d7, rfl, hd, hf⟩; have D7 := hid hd; have M7 := hid (hf.2 _ _ Ma.out h6n (fun cs e => by cases e)); have MG7 := hid (MGa.out.trans hf.1); have Z7 := hid (hf.2 _ _ Za.out (by omega) (fun cs e => by cases e)); have NL := hid (left_soon (W0 := w) D7.out M7.out MG7.out hdb h6r Z7.out); have NX := hid (NL.out.2.2.1 : _ = some (Obj.cells #[.int .i64 d.room, .int .i64 d.e, .int .i64 d.o, .int .i64 d.u, .string (str d.log), .string (str d.snap), .string (str d.stg), .bool d.armed, .int .i64 d.cut] 29 (0, 0))); have NG := hid NL.out.2.2.2.1; obtain ⟨⟨z0, z1, z2, z3, z4, z5, z6, z7, z8⟩, q0, q1, q2, q3, q4, q5, q6, q7, q8⟩ := nine Z7.out; clear hd hf)))
            all_goals go_wp2_with fail
            all_goals go_meet
            all_goals (first | exact ⟨_, d7, rfl, NL.out⟩ | exact ⟨_, d7, rfl, left_late D7.out M7.out MG7.out MG7.out.size⟩)
          case rest =>
            obtain ⟨g, d2, rfl, hL⟩ := hcut
            have hL1 := hid (hL.1 : _ = some (Obj.cells #[.int .i64 d2.room, .int .i64 d2.e, .int .i64 d2.o, .int .i64 d2.u, .string (str d2.log), .string (str d2.snap), .string (str d2.stg), .bool d2.armed, .int .i64 d2.cut] 29 (0, 0)))
            have hL3 := hid hL.2.2.1
            have D9 := hid (hL.2.1.row hL.2.2.1 (by decide) h6n #[.int .i64 d2.room, .int .i64 d2.e, .int .i64 d2.o, .int .i64 d2.u, .string (str d2.log), .string (str d2.snap), .string (str d2.stg), .bool d2.armed, .int .i64 d2.cut])
            have K9 := hid (setRow_heap _ _ _ #[.int .i64 d2.room, .int .i64 d2.e, .int .i64 d2.o, .int .i64 d2.u, .string (str d2.log), .string (str d2.snap), .string (str d2.stg), .bool d2.armed, .int .i64 d2.cut] _ _ hL.2.2.1)
            have G9 := hid (below_setRow hL.2.2.2.1 (show w.heap.size ≤ w2.heap.size by omega) #[.int .i64 d2.room, .int .i64 d2.e, .int .i64 d2.o, .int .i64 d2.u, .string (str d2.log), .string (str d2.snap), .string (str d2.stg), .bool d2.armed, .int .i64 d2.cut])
            obtain ⟨⟨x0, x1, x2, x3, x4, x5, x6, x7, x8⟩, _⟩ := nine hL1.out
            clear hL hL1
            go_wp2_with (refine wpList_store_row rfl 29 _ _ rfl w2.heap.size #[.int .i64 d2.room, .int .i64 d2.e, .int .i64 d2.o, .int .i64 d2.u, .string (str d2.log), .string (str d2.snap), .string (str d2.stg), .bool d2.armed, .int .i64 d2.cut] rfl rfl 29 _ hL3.out (by kernel_rfl) rfl (by kernel_rfl) ?_)
            go_roundw
            case rel => exact ⟨k + 1, d2, by omega, by omega, by go_num, D9.out, K9.out, G9.out⟩
            case measure => simp [intOf]; omega
        · have h2' : ¬ (a.bs.length : Int) ≤ 2000 := by omega
          go_wp2_with fail
          go_roundw
          case rel => exact ⟨k + 1, d, by omega, by omega, by go_num, DD.out, KK.out, GG.out⟩
          case measure => simp [intOf]; omega
      · obtain rfl : k = 40 := by omega
        go_wp2_with fail
        all_goals go_returns
        all_goals exact ⟨d, rfl, DD.out, GG.out⟩
    · obtain rfl : k = xs.length := by omega
      go_wp2_with fail
      all_goals go_returns
      all_goals exact ⟨d, rfl, DD.out, GG.out⟩
end Go.Proofs.YtbpgeghenninnaaDoor
