/- The document's disk, by values: writings. Condition: the bytes stand in memory. -/
import Derived.Test.YtbpgeghenninnaaDoorRef
import Derived.RegionTactic
namespace Go.Proofs.YtbpgeghenninnaaDoor
open Go Go.RowKit
theorem results_row_two {P : Program} {fn : Func} {p u v : Tmp} {ty : TypeId} (h : fn.results = #[.cell p ty, .tmp u, .tmp v]) (tmps : Array Value) (w : World) (g : Nat) (t : TypeId) (cs : Array Value) (fr : Nat × Nat) (d : TypeDesc)
    (x y : Value) (hp : tmps.getD p undef = .pointer (some ⟨g, 0, none⟩)) (hu' : tmps.getD u undef = x) (hv : tmps.getD v undef = y) (hg : w.heap[g]? = some (.cells cs t fr))
    (hu : P.underlying ty = some d) (hd : (match d with | .struct _ | .array _ _ => true | _ => false) = true) (hi : (P.info? ty).map (·.size) = some cs.size) :
    (results fn tmps).run P w = .ok (.tuple #[.agg cs, x, y]) w := by
  subst hu' hv
  have hp' : tmps[p]?.getD undef = .pointer (some ⟨g, 0, none⟩) := by simpa using hp
  simp [results, h, hp', asAddr, run_loadVar_row w g t ty cs fr d hg hu hd hi]
theorem nine {w : World} {B : Nat} {a0 a1 a2 a3 a4 a5 a6 a7 a8 : Value} {T : TypeId} (h : w.heap[B]? = some (.cells #[a0, a1, a2, a3, a4, a5, a6, a7, a8] T (0, 0))) :
    (w.cell? ⟨B, 0, none⟩ = some a0 ∧ w.cell? ⟨B, 1, none⟩ = some a1 ∧ w.cell? ⟨B, 2, none⟩ = some a2 ∧ w.cell? ⟨B, 3, none⟩ = some a3 ∧ w.cell? ⟨B, 4, none⟩ = some a4 ∧ w.cell? ⟨B, 5, none⟩ = some a5 ∧ w.cell? ⟨B, 6, none⟩ = some a6 ∧ w.cell? ⟨B, 7, none⟩ = some a7 ∧ w.cell? ⟨B, 8, none⟩ = some a8) ∧
    (w.frozen? ⟨B, 0, none⟩ = false ∧ w.frozen? ⟨B, 1, none⟩ = false ∧ w.frozen? ⟨B, 2, none⟩ = false ∧ w.frozen? ⟨B, 3, none⟩ = false ∧ w.frozen? ⟨B, 4, none⟩ = false ∧ w.frozen? ⟨B, 5, none⟩ = false ∧ w.frozen? ⟨B, 6, none⟩ = false ∧ w.frozen? ⟨B, 7, none⟩ = false ∧ w.frozen? ⟨B, 8, none⟩ = false) := by
  refine ⟨⟨?_, ?_, ?_, ?_, ?_, ?_, ?_, ?_, ?_⟩, free_of h 0, free_of h 1, free_of h 2, free_of h 3, free_of h 4, free_of h 5, free_of h 6, free_of h 7, free_of h 8⟩ <;> (rw [cell_of h]; rfl)
theorem heapN2 {w : World} {o1 o2 : Obj} : ((w.alloc o1).alloc o2).heap[w.heap.size + 1]? = some o2 := by
  have := heap_new (w.alloc o1) o2
  simpa using this
theorem nine_set {w : World} {B : Nat} {T : TypeId} {a0 a1 a2 a3 a4 a5 a6 a7 a8 : Value} (v0 v1 v2 v3 v4 v5 v6 v7 v8 : Value) (h : w.heap[B]? = some (.cells #[a0, a1, a2, a3, a4, a5, a6, a7, a8] T (0, 0))) :
    (((((((((w.setCell ⟨B, 0, none⟩ v0).setCell ⟨B, 1, none⟩ v1).setCell ⟨B, 2, none⟩ v2).setCell ⟨B, 3, none⟩ v3).setCell ⟨B, 4, none⟩ v4).setCell ⟨B, 5, none⟩ v5).setCell ⟨B, 6, none⟩ v6).setCell ⟨B, 7, none⟩ v7).setCell ⟨B, 8, none⟩ v8).heap[B]? = some (.cells #[v0, v1, v2, v3, v4, v5, v6, v7, v8] T (0, 0)) := by
  have h0 := heap_setCell_same w B 0 _ T v0 h
  have h1 := heap_setCell_same _ B 1 _ T v1 h0
  have h2 := heap_setCell_same _ B 2 _ T v2 h1
  have h3 := heap_setCell_same _ B 3 _ T v3 h2
  have h4 := heap_setCell_same _ B 4 _ T v4 h3
  have h5 := heap_setCell_same _ B 5 _ T v5 h4
  have h6 := heap_setCell_same _ B 6 _ T v6 h5
  have h7 := heap_setCell_same _ B 7 _ T v7 h6
  have h8 := heap_setCell_same _ B 8 _ T v8 h7
  simpa using h8
theorem nine_below {B g : Nat} {a w : World} (v0 v1 v2 v3 v4 v5 v6 v7 v8 : Value) (h : Below B a w) (hg : B ≤ g) : Below B a (((((((((w.setCell ⟨g, 0, none⟩ v0).setCell ⟨g, 1, none⟩ v1).setCell ⟨g, 2, none⟩ v2).setCell ⟨g, 3, none⟩ v3).setCell ⟨g, 4, none⟩ v4).setCell ⟨g, 5, none⟩ v5).setCell ⟨g, 6, none⟩ v6).setCell ⟨g, 7, none⟩ v7).setCell ⟨g, 8, none⟩ v8) :=
  (((((((((h.setCell (p := ⟨g, 0, none⟩) hg _).setCell (p := ⟨g, 1, none⟩) hg _).setCell (p := ⟨g, 2, none⟩) hg _).setCell (p := ⟨g, 3, none⟩) hg _).setCell (p := ⟨g, 4, none⟩) hg _).setCell (p := ⟨g, 5, none⟩) hg _).setCell (p := ⟨g, 6, none⟩) hg _).setCell (p := ⟨g, 7, none⟩) hg _).setCell (p := ⟨g, 8, none⟩) hg _)
def rdD (d : Dsk) : Dsk := if d.armed = true then { d with armed := false } else d
def rdB (d : Dsk) (bs : List UInt8) : List UInt8 := if d.armed = true then bs.take (cutN d.cut bs.length) else bs
def rdE (d : Dsk) : Int := if d.armed = true then 152 else 0
set_option maxHeartbeats 2000000 in
theorem rdone_any (d : Dsk) (A : Option Addr) (cap : Nat) (bs : List UInt8) (w : World) (hb : Bts w A bs) (hcap : bs.length ≤ cap) (hn : NilOk A cap bs) (hlen : bs.length ≤ 1099511627776) :
    Calls Tryd.prog 34 #[.agg (rv d), .slice A bs.length cap] w fun e w' => e = .returned (.tuple #[.agg (rv (rdD d)), .string (str (rdB d bs)), .int .i64 (rdE d)]) ∧ Below w.heap.size w w' := by
  have HB := hid hb
  have HN := hid hn
  have hl63 : (bs.length : Int) ≤ 1099511627776 := by omega
  obtain ⟨room, e, o, u, log, snap, stg, armed, cut⟩ := d
  simp only [rdD, rdB, rdE, rv]
  clear hb hn
  cases armed with
  | false =>
    have hS := hid (fun (w' : World) (hg : Below w.heap.size w w') => (show (convert 32 9 (.slice A bs.length cap)).run Tryd.prog w' = .ok (.string (str bs)) w' from str_of cap (HB.out.keep hg)))
    simp only [Bool.false_eq_true, if_false]
    generalize str log = sl at *
    generalize str snap = ss at *
    generalize str stg = st at *
    generalize str bs = sb at *
    have hs1 := hS.out (World.drew ((w.alloc (.cells #[.int .i64 room, .int .i64 e, .int .i64 o, .int .i64 u, .string sl, .string ss, .string st, .bool false, .int .i64 cut] 29)).alloc (.cells #[.int .i64 0, .int .i64 0, .int .i64 0, .int .i64 0, .string ⟨#[]⟩, .string ⟨#[]⟩, .string ⟨#[]⟩, .bool false, .int .i64 0] 29))) (by go_grown)
    have hs2 := hS.out (World.drew ((w.alloc (.cells #[.int .i64 room, .int .i64 e, .int .i64 o, .int .i64 u, .string sl, .string ss, .string st, .bool false, .int .i64 cut] 29)).alloc (.cells #[.int .i64 room, .int .i64 e, .int .i64 o, .int .i64 u, .string sl, .string ss, .string st, .bool false, .int .i64 cut] 29))) (by go_grown)
    go_enter Tryd.func34, Tryd.ntmps34
    go_wp2_with fail
    go_region
    all_goals clear hs1 hs2
    all_goals go_wp2_with fail
    all_goals go_returns
    all_goals exact ⟨rfl, by go_grown⟩
  | true =>
    simp only [if_true]
    generalize str log = sl at *
    generalize str snap = ss at *
    generalize str stg = st at *
    have hk := cutN_le cut bs.length
    have hkd : cutN cut bs.length = (min (max cut 0) (bs.length : Int)).toNat := rfl
    have hS := hid (fun (w' : World) (hg : Below w.heap.size w w') => (show (convert 32 9 (.slice A (bs.take (cutN cut bs.length)).length cap)).run Tryd.prog w' = .ok (.string (str (bs.take (cutN cut bs.length)))) w' from str_of cap ((HB.out.keep hg).take _)))
    rw [show (bs.take (cutN cut bs.length)).length = cutN cut bs.length by rw [List.length_take]; omega] at hS
    generalize str (bs.take (cutN cut bs.length)) = sb at *
    generalize cutN cut bs.length = k at *
    have hway : (cut < 0 ∧ k = 0) ∨ (¬ cut < 0 ∧ cut = (k : Int)) ∨ (¬ cut < 0 ∧ (bs.length : Int) < cut ∧ k = bs.length) := by omega
    clear hkd
    cases A with
    | none =>
      obtain ⟨rfl, rfl⟩ := HN.out rfl
      have hk0 : k = 0 := by simpa using hk
      subst hk0
      simp only [List.length_nil] at hS ⊢
      have hS' := hid (fun (w' : World) (hg : Below w.heap.size w w') => (show (convert 32 9 (.slice none 0 0)).run Tryd.prog w' = .ok (.string sb) w' from hS.out w' hg))
      clear hS
      have hS := hS'
      rcases hway with ⟨h6, _⟩ | ⟨h6, h7⟩ | ⟨h6, h7, h8⟩
      · have hs1 := hS.out (World.drew ((w.alloc (.cells #[.int .i64 room, .int .i64 e, .int .i64 o, .int .i64 u, .string sl, .string ss, .string st, .bool false, .int .i64 cut] 29)).alloc (.cells #[.int .i64 0, .int .i64 0, .int .i64 0, .int .i64 0, .string ⟨#[]⟩, .string ⟨#[]⟩, .string ⟨#[]⟩, .bool false, .int .i64 0] 29))) (by go_grown)
        have hs2 := hS.out (World.drew ((w.alloc (.cells #[.int .i64 room, .int .i64 e, .int .i64 o, .int .i64 u, .string sl, .string ss, .string st, .bool false, .int .i64 cut] 29)).alloc (.cells #[.int .i64 room, .int .i64 e, .int .i64 o, .int .i64 u, .string sl, .string ss, .string st, .bool false, .int .i64 cut] 29))) (by go_grown)
        go_enter Tryd.func34, Tryd.ntmps34
        go_wp2_with fail
        go_region
        all_goals clear hs1 hs2
        all_goals go_wp2_with fail
        all_goals go_returns
        all_goals exact ⟨rfl, by go_grown⟩
      · obtain rfl : cut = 0 := by simpa using h7
        clear h6 h7
        have hs1 := hS.out (World.drew ((w.alloc (.cells #[.int .i64 room, .int .i64 e, .int .i64 o, .int .i64 u, .string sl, .string ss, .string st, .bool false, .int .i64 0] 29)).alloc (.cells #[.int .i64 0, .int .i64 0, .int .i64 0, .int .i64 0, .string ⟨#[]⟩, .string ⟨#[]⟩, .string ⟨#[]⟩, .bool false, .int .i64 0] 29))) (by go_grown)
        have hs2 := hS.out (World.drew ((w.alloc (.cells #[.int .i64 room, .int .i64 e, .int .i64 o, .int .i64 u, .string sl, .string ss, .string st, .bool false, .int .i64 0] 29)).alloc (.cells #[.int .i64 room, .int .i64 e, .int .i64 o, .int .i64 u, .string sl, .string ss, .string st, .bool false, .int .i64 0] 29))) (by go_grown)
        go_enter Tryd.func34, Tryd.ntmps34
        go_wp2_with fail
        go_region
        all_goals clear hs1 hs2
        all_goals go_wp2_with fail
        all_goals go_returns
        all_goals exact ⟨rfl, by go_grown⟩
      · have h7' : (0 : Int) < cut := by simpa using h7
        clear h7 h8
        have hs1 := hS.out (World.drew ((w.alloc (.cells #[.int .i64 room, .int .i64 e, .int .i64 o, .int .i64 u, .string sl, .string ss, .string st, .bool false, .int .i64 cut] 29)).alloc (.cells #[.int .i64 0, .int .i64 0, .int .i64 0, .int .i64 0, .string ⟨#[]⟩, .string ⟨#[]⟩, .string ⟨#[]⟩, .bool false, .int .i64 0] 29))) (by go_grown)
        have hs2 := hS.out (World.drew ((w.alloc (.cells #[.int .i64 room, .int .i64 e, .int .i64 o, .int .i64 u, .string sl, .string ss, .string st, .bool false, .int .i64 cut] 29)).alloc (.cells #[.int .i64 room, .int .i64 e, .int .i64 o, .int .i64 u, .string sl, .string ss, .string st, .bool false, .int .i64 cut] 29))) (by go_grown)
        go_enter Tryd.func34, Tryd.ntmps34
        go_wp2_with fail
        go_region
        all_goals clear hs1 hs2
        all_goals go_wp2_with fail
        all_goals go_returns
        all_goals exact ⟨rfl, by go_grown⟩
    | some a =>
      rcases hway with ⟨h6, rfl⟩ | ⟨h6, rfl⟩ | ⟨h6, h7, rfl⟩
      · have hs1 := hS.out (World.drew ((w.alloc (.cells #[.int .i64 room, .int .i64 e, .int .i64 o, .int .i64 u, .string sl, .string ss, .string st, .bool false, .int .i64 cut] 29)).alloc (.cells #[.int .i64 0, .int .i64 0, .int .i64 0, .int .i64 0, .string ⟨#[]⟩, .string ⟨#[]⟩, .string ⟨#[]⟩, .bool false, .int .i64 0] 29))) (by go_grown)
        have hs2 := hS.out (World.drew ((w.alloc (.cells #[.int .i64 room, .int .i64 e, .int .i64 o, .int .i64 u, .string sl, .string ss, .string st, .bool false, .int .i64 cut] 29)).alloc (.cells #[.int .i64 room, .int .i64 e, .int .i64 o, .int .i64 u, .string sl, .string ss, .string st, .bool false, .int .i64 cut] 29))) (by go_grown)
        go_enter Tryd.func34, Tryd.ntmps34
        go_wp2_with fail
        go_region
        all_goals clear hs1 hs2
        all_goals go_wp2_with fail
        all_goals go_returns
        all_goals exact ⟨rfl, by go_grown⟩
      · have hs1 := hS.out (World.drew ((w.alloc (.cells #[.int .i64 room, .int .i64 e, .int .i64 o, .int .i64 u, .string sl, .string ss, .string st, .bool false, .int .i64 (k : Int)] 29)).alloc (.cells #[.int .i64 0, .int .i64 0, .int .i64 0, .int .i64 0, .string ⟨#[]⟩, .string ⟨#[]⟩, .string ⟨#[]⟩, .bool false, .int .i64 0] 29))) (by go_grown)
        have hs2 := hS.out (World.drew ((w.alloc (.cells #[.int .i64 room, .int .i64 e, .int .i64 o, .int .i64 u, .string sl, .string ss, .string st, .bool false, .int .i64 (k : Int)] 29)).alloc (.cells #[.int .i64 room, .int .i64 e, .int .i64 o, .int .i64 u, .string sl, .string ss, .string st, .bool false, .int .i64 (k : Int)] 29))) (by go_grown)
        go_enter Tryd.func34, Tryd.ntmps34
        go_wp2_with fail
        go_region
        all_goals clear hs1 hs2
        all_goals go_wp2_with fail
        all_goals go_returns
        all_goals exact ⟨rfl, by go_grown⟩
      · have hs1 := hS.out (World.drew ((w.alloc (.cells #[.int .i64 room, .int .i64 e, .int .i64 o, .int .i64 u, .string sl, .string ss, .string st, .bool false, .int .i64 cut] 29)).alloc (.cells #[.int .i64 0, .int .i64 0, .int .i64 0, .int .i64 0, .string ⟨#[]⟩, .string ⟨#[]⟩, .string ⟨#[]⟩, .bool false, .int .i64 0] 29))) (by go_grown)
        have hs2 := hS.out (World.drew ((w.alloc (.cells #[.int .i64 room, .int .i64 e, .int .i64 o, .int .i64 u, .string sl, .string ss, .string st, .bool false, .int .i64 cut] 29)).alloc (.cells #[.int .i64 room, .int .i64 e, .int .i64 o, .int .i64 u, .string sl, .string ss, .string st, .bool false, .int .i64 cut] 29))) (by go_grown)
        go_enter Tryd.func34, Tryd.ntmps34
        go_wp2_with fail
        go_region
        all_goals clear hs1 hs2
        all_goals go_wp2_with fail
        all_goals go_returns
        all_goals exact ⟨rfl, by go_grown⟩
end Go.Proofs.YtbpgeghenninnaaDoor
