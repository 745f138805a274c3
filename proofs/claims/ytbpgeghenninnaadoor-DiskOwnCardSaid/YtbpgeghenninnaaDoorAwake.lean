/- The statements' own example: true. Condition: none. -/
import Derived.Test.YtbpgeghenninnaaDoorAppend
import Derived.Lib.SlBytesConst
namespace Go.Proofs.YtbpgeghenninnaaDoor
open Go Go.RowKit
theorem new_bts {w : World} (vs : Array Value) (bs : List UInt8) (f : Nat × Nat) (h : vs.toList = bs.map bv) : Bts (w.alloc (.cells vs 5 f)) (some ⟨w.heap.size, 0, none⟩) bs := by
  refine .inr ⟨w.heap.size, 0, rfl, by simp, fun j x hx => ?_⟩
  rw [cell_of (heap_new w _), Nat.zero_add, ← Array.getElem?_toList, h, List.getElem?_map, hx]
  rfl
theorem aw_swap (B db : Nat) (w : World) (h : DK w B db (Dsk.new 9)) (hB : B ≤ db) : Calls Tryd.prog 21 #[.pointer (some ⟨db, 0, none⟩), .agg #[.int .i64 0, .int .i64 0, .int .i64 0], .agg #[.int .i64 1, .int .i64 7, .int .i64 40]] w fun e w' => e = .returned (.int .i64 0) ∧ DK w' B db ⟨9, 1, 7, 40, [], [], [], false, 0⟩ ∧ Fr B db w w' :=
  swap_any B db (Dsk.new 9) (0, 0, 0) (1, 7, 40) w h hB
theorem aw_app (B db : Nat) (d d' : Dsk) (ep at_ n e0 : Int) (bs : List UInt8) (k : Nat) (hk : bs.length = k) (hn : apN d ep at_ bs = n) (he : apE d ep at_ bs = e0) (hd : apD d ep at_ bs = d') (A : Addr) (cap : Nat) (w : World) (h : DK w B db d) (hB : B ≤ db) (hb : Bts w (some A) bs) (hcap : k ≤ cap) (hne : A.block ≠ db) (h9 : k < 100) :
    Calls Tryd.prog 16 #[.pointer (some ⟨db, 0, none⟩), .int .i64 ep, .int .i64 at_, .slice (some A) k cap] w fun e w' => e = .returned (.tuple #[.int .i64 n, .int .i64 e0]) ∧ DK w' B db d' ∧ Fr B db w w' := by
  subst hn he hd hk
  exact append_any B db d ep at_ (some A) cap bs w h hB hb hcap (fun e => by cases e) (.inr fun a e => by cases e; exact hne) (by omega)
set_option maxHeartbeats 1000000 in
theorem awake_any (w : World) : Calls Tryd.prog 7 #[] w fun e w' => e = .returned (.bool true) ∧ Below w.heap.size w w' := by
  have k22 := fun (w : World) (C : Array Value) (n c : Nat) => Lib.run_convert_bytes_const (P := Tryd.prog) w 32 5 C n c Tryd.underlying32 Tryd.underlying5
  have KA := hid (fun B db (w : World) => aw_app B db ⟨9, 1, 7, 40, [], [], [], false, 0⟩ ⟨9, 1, 7, 40, [97, 98, 99], [], [], false, 0⟩ 1 0 3 0 [97, 98, 99] 3 rfl (by decide) (by decide) (by rfl) ⟨w.heap.size, 0, none⟩ 3 (w.alloc (.cells #[.int .u8 97, .int .u8 98, .int .u8 99] 5 (3, 4))))
  have KB := hid (fun B db (w : World) => aw_app B db ⟨9, 1, 7, 40, [97, 98, 99], [], [], false, 0⟩ ⟨9, 1, 7, 40, [97, 98, 99], [], [], false, 0⟩ 0 3 0 150 [100] 1 rfl (by decide) (by decide) (by rfl) ⟨w.heap.size, 0, none⟩ 1 (w.alloc (.cells #[.int .u8 100] 5 (1, 2))))
  have KC := hid (fun B db (w : World) => aw_app B db ⟨9, 1, 7, 40, [97, 98, 99], [], [], true, 1⟩ ⟨9, 1, 7, 40, [97, 98, 99, 100], [], [], false, 1⟩ 1 3 0 152 [100, 101] 2 rfl (by decide) (by decide) (by rfl) ⟨w.heap.size, 0, none⟩ 2 (w.alloc (.cells #[.int .u8 100, .int .u8 101] 5 (2, 3))))
  go_enter Tryd.func7, Tryd.ntmps7
  go_wp2_with fail
  refine (new_any 9 _).mono ?_
  rintro _ w1 ⟨rfl, hd, hb⟩
  have D1 := hid hd
  have G1 := hid hb
  have L1 := hd.lt
  clear hd hb
  go_wp2_with fail
  refine (aw_swap _ _ _ D1.out (Nat.le_refl _)).mono ?_
  rintro _ w2 ⟨rfl, hd, hf⟩
  have D2 := hid hd
  have G2 := hid (G1.out.trans hf.1)
  have L2 := hd.lt
  clear hd hf
  go_wp2_with fail
  have D2a := hid (D2.out.keep (show Below w2.heap.size w2 (w2.alloc (.cells #[.int .u8 97, .int .u8 98, .int .u8 99] 5 (3, 4))) from by go_grown))
  refine (KA.out _ _ w2 D2a.out (Nat.le_refl _) (new_bts _ _ _ rfl) (by decide) (Nat.ne_of_gt (by omega)) (by decide)).mono ?_
  rintro _ w3 ⟨rfl, hd, hf⟩
  have D3 := hid hd
  have G3 := hid ((G2.out.alloc G2.out.size (.cells #[.int .u8 97, .int .u8 98, .int .u8 99] 5 (3, 4))).trans hf.1)
  have L3 := hd.lt
  clear hd hf D2 D2a G1
  go_wp2_with fail
  have D3a := hid (D3.out.keep (show Below w3.heap.size w3 (w3.alloc (.cells #[.int .u8 100] 5 (1, 2))) from by go_grown))
  refine (KB.out _ _ w3 D3a.out (Nat.le_refl _) (new_bts _ _ _ rfl) (by decide) (Nat.ne_of_gt (by omega)) (by decide)).mono ?_
  rintro _ w4 ⟨rfl, hd, hf⟩
  have D4 := hid hd
  have G4 := hid ((G3.out.alloc G3.out.size (.cells #[.int .u8 100] 5 (1, 2))).trans hf.1)
  have L4 := hd.lt
  clear hd hf D3 D3a G2
  go_wp2_with fail
  refine (cut_any _ _ _ 1 _ D4.out (Nat.le_refl _)).mono ?_
  rintro _ w5 ⟨rfl, hd, hf⟩
  have D5 := hid hd
  have G5 := hid (G4.out.trans hf.1)
  have L5 := hd.lt
  clear hd hf D4 G3
  go_wp2_with fail
  have D5a := hid (D5.out.keep (show Below w5.heap.size w5 (w5.alloc (.cells #[.int .u8 100, .int .u8 101] 5 (2, 3))) from by go_grown))
  refine (KC.out _ _ w5 D5a.out (Nat.le_refl _) (new_bts _ _ _ rfl) (by decide) (Nat.ne_of_gt (by omega)) (by decide)).mono ?_
  rintro _ w6 ⟨rfl, hd, hf⟩
  have D6 := hid hd
  have G6 := hid ((G5.out.alloc G5.out.size (.cells #[.int .u8 100, .int .u8 101] 5 (2, 3))).trans hf.1)
  have L6 := hd.lt
  clear hd hf D5 D5a G4
  go_wp2_with fail
  refine (log_any _ _ _ _ D6.out).mono ?_
  rintro _ w7 ⟨v, rfl, ho, hb⟩
  obtain ⟨A, cap, rfl⟩ := ho.slice
  have hs : (convert 32 9 (.slice A 4 cap)).run Tryd.prog w7 = .ok (.string ⟨#[97, 98, 99, 100]⟩) w7 := str_of cap ho.bts
  have D7 := hid (D6.out.keep hb)
  have G7 := hid (below_step G6.out G6.out.size hb)
  clear ho hb
  go_wp2_with fail
  clear hs
  refine (claim_any _ _ _ _ D7.out).mono ?_
  rintro _ w8 ⟨rfl, hb⟩
  have D8 := hid (D7.out.keep hb)
  have G8 := hid (below_step G7.out G7.out.size hb)
  clear hb D6 G5 D7
  have hF := fun (a0 a1 a2 : Value) (w : World) => (show (Instr.field 27 (.agg #[a0, a1, a2]) 1).run Tryd.prog w = .ok a1 w from by kernel_rfl)
  go_wp2_with fail
  refine (room_any _ _ _ _ D8.out).mono ?_
  rintro _ w9 ⟨rfl, hb⟩
  have G9 := hid (below_step G8.out G8.out.size hb)
  clear hb
  go_wp2_with fail
  all_goals go_returns
  all_goals exact ⟨by first | rfl | simp, G9.out⟩
end Go.Proofs.YtbpgeghenninnaaDoor
