/- How the laws' arguments open: scenes, asks, slots, what happens later; the law's few. Conditions: none. The law's few; the reference's Can, Places. Conditions: what came in stands in memory. The document's example of a pass: its mathematics, and the law's own first call. Conditions: none. The law's own first call. Conditions: none. What Pass answers, in one form; what it promises where nothing is up, where nothing is held. Conditions: none. -/
import Derived.Test.YthkofnahimlijaaPlanB
namespace Go.Proofs.Ythkofnahimlijaa
open Go Go.Joins Go.ChangeShapes Go.WideShapes Go.RowKit
set_option maxRecDepth 100000
theorem hold_of {H : Type} {enc : TypeId × Value → H} {W : World} {fuel : Nat} {cs : List Value} {x : DataW H × List MemPlace} (hl : cs.length = 6)
    (hf : DataW.trod enc Try.prog W 0 (fun _ => true) true fuel 53 cs = some x) : ∃ h : Hd, cs = h.cells ∧ h.In W := by
  obtain ⟨xs, n, _, hx, _, hlen2, hg⟩ := DataW.trod_struct Try.underlying53 hf
  have c3 : Try.prog.cellsOf 3 = 1 := by kernel_rfl
  have cI : Try.prog.cellsOf 31 = 1 := by kernel_rfl
  have cV : Try.prog.cellsOf 40 = 4 := by kernel_rfl
  match cs, hl with
  | [c0, c1, c2, c3', c4, c5], _ =>
    match xs, hlen2 with
    | [y0, y1, y2], _ =>
      have h0 : DataW.trod enc Try.prog W 0 (fun _ => true) true n 31 (([c0, c1, c2, c3', c4, c5].drop 0).take (Try.prog.cellsOf 31)) = some y0 := hg 0 _ rfl
      have h1 : DataW.trod enc Try.prog W 0 (fun _ => true) true n 40 (([c0, c1, c2, c3', c4, c5].drop 1).take (Try.prog.cellsOf 40)) = some y1 := hg 1 _ rfl
      have h2 : DataW.trod enc Try.prog W 0 (fun _ => true) true n 3 (([c0, c1, c2, c3', c4, c5].drop 5).take (Try.prog.cellsOf 3)) = some y2 := hg 2 _ rfl
      rw [c3] at h2
      rw [cI] at h0
      rw [cV] at h1
      obtain ⟨A, cap, l, e1, k1, k2, k3, k4⟩ := ints_of (c0 := c0) h0
      obtain ⟨v, e2, e3, e4, e5, hv⟩ := vec_of (x0 := c1) (x1 := c2) (x2 := c3') (x3 := c4) h1
      obtain ⟨n2, e6, _, w2⟩ := DataW.trod_int Try.underlying3 (cs := [c5]) h2
      simp at e6
      subst e1 e2 e3 e4 e5 e6
      exact ⟨⟨A, cap, l, v, n2⟩, rfl, ⟨k1, k3, wf_i64 w2⟩⟩
theorem ask_of {H : Type} {enc : TypeId × Value → H} {W : World} {fuel : Nat} {cs : List Value} {x : DataW H × List MemPlace} (hl : cs.length = 10)
    (hf : DataW.trod enc Try.prog W 0 (fun _ => true) true fuel 42 cs = some x) : ∃ a : Ak, cs = a.cells ∧ a.In W := by
  obtain ⟨xs, n, _, hx, _, hlen2, hg⟩ := DataW.trod_struct Try.underlying42 hf
  have c3 : Try.prog.cellsOf 3 = 1 := by kernel_rfl
  have cI : Try.prog.cellsOf 31 = 1 := by kernel_rfl
  have cV : Try.prog.cellsOf 40 = 4 := by kernel_rfl
  match cs, hl with
  | [c0, c1, c2, c3', c4, c5, c6, c7, c8, c9], _ =>
    match xs, hlen2 with
    | [y0, y1, y2, y3, y4, y5, y6], _ =>
      have h0 : DataW.trod enc Try.prog W 0 (fun _ => true) true n 3 (([c0, c1, c2, c3', c4, c5, c6, c7, c8, c9].drop 0).take (Try.prog.cellsOf 3)) = some y0 := hg 0 _ rfl
      have h1 : DataW.trod enc Try.prog W 0 (fun _ => true) true n 31 (([c0, c1, c2, c3', c4, c5, c6, c7, c8, c9].drop 1).take (Try.prog.cellsOf 31)) = some y1 := hg 1 _ rfl
      have h2 : DataW.trod enc Try.prog W 0 (fun _ => true) true n 3 (([c0, c1, c2, c3', c4, c5, c6, c7, c8, c9].drop 2).take (Try.prog.cellsOf 3)) = some y2 := hg 2 _ rfl
      have h3 : DataW.trod enc Try.prog W 0 (fun _ => true) true n 40 (([c0, c1, c2, c3', c4, c5, c6, c7, c8, c9].drop 3).take (Try.prog.cellsOf 40)) = some y3 := hg 3 _ rfl
      have h4 : DataW.trod enc Try.prog W 0 (fun _ => true) true n 3 (([c0, c1, c2, c3', c4, c5, c6, c7, c8, c9].drop 7).take (Try.prog.cellsOf 3)) = some y4 := hg 4 _ rfl
      have h5 : DataW.trod enc Try.prog W 0 (fun _ => true) true n 3 (([c0, c1, c2, c3', c4, c5, c6, c7, c8, c9].drop 8).take (Try.prog.cellsOf 3)) = some y5 := hg 5 _ rfl
      have h6 : DataW.trod enc Try.prog W 0 (fun _ => true) true n 31 (([c0, c1, c2, c3', c4, c5, c6, c7, c8, c9].drop 9).take (Try.prog.cellsOf 31)) = some y6 := hg 6 _ rfl
      rw [c3] at h0 h2 h4 h5
      rw [cI] at h1 h6
      rw [cV] at h3
      obtain ⟨n0, e0, _, w0⟩ := DataW.trod_int Try.underlying3 (cs := [c0]) h0
      obtain ⟨A, cap, l, e1, k1, k2, k3, k4⟩ := ints_of (c0 := c1) h1
      obtain ⟨n2, e2, _, w2⟩ := DataW.trod_int Try.underlying3 (cs := [c2]) h2
      obtain ⟨v, e3, e4, e5, e6, hv⟩ := vec_of (x0 := c3') (x1 := c4) (x2 := c5) (x3 := c6) h3
      obtain ⟨n7, e7, _, w7⟩ := DataW.trod_int Try.underlying3 (cs := [c7]) h4
      obtain ⟨n8, e8, _, w8⟩ := DataW.trod_int Try.underlying3 (cs := [c8]) h5
      obtain ⟨G, gcap, gl, e9, m1, m2, m3, m4⟩ := ints_of (c0 := c9) h6
      simp at e0 e2 e7 e8
      subst e0 e1 e2 e3 e4 e5 e6 e7 e8 e9
      exact ⟨⟨n0, A, cap, l, n2, v, n7, n8, G, gcap, gl⟩, rfl, ⟨k1, k3, m1, m3, m2, wf_i64 w2, wf_i64 w7, wf_i64 w8⟩⟩
theorem bools_of {H : Type} {enc : TypeId × Value → H} {W : World} {fuel : Nat} {c0 : Value} {x : DataW H × List MemPlace} (hf : DataW.trod enc Try.prog W 0 (fun _ => true) true fuel 23 [c0] = some x) :
    ∃ A cap xs, c0 = .slice A (List.length xs) cap ∧ Bs W A xs ∧ xs.length ≤ 9223372036854775807 := by
  obtain ⟨A, cap, xs, h1, h2, h3, h4, h5⟩ := row_is (α := Bool) 1 Try.underlying23 (by kernel_rfl) (by decide) (fun b cs => cs = [.bool b]) (fun cs n x hl ht => by
    match cs, hl with
    | [c0], _ =>
      obtain ⟨b, e0, _⟩ := DataW.trod_bool Try.underlying4 ht
      exact ⟨b, e0⟩) hf
  simp at h1
  refine ⟨A, cap, xs, h1, ?_, h4⟩
  rcases h2 with rfl | ⟨b, off, rfl, hlt, hc⟩
  · exact .inl rfl
  · refine .inr ⟨b, off, rfl, hlt, fun i x hx => ?_⟩
    obtain ⟨cs, rfl, _, k⟩ := hc i x hx
    have := k 0 (by omega)
    simpa using this
theorem vecs_of {H : Type} {enc : TypeId × Value → H} {W : World} {fuel : Nat} {c0 : Value} {x : DataW H × List MemPlace} (hf : DataW.trod enc Try.prog W 0 (fun _ => true) true fuel 22 [c0] = some x) :
    ∃ A cap xs, c0 = .slice A (List.length xs) cap ∧ Vs W A xs ∧ xs.length ≤ 9223372036854775807 := by
  obtain ⟨A, cap, xs, h1, h2, h3, h4, h5⟩ := row_is (α := V4) 4 Try.underlying22 (by kernel_rfl) (by decide) (fun x cs => cs = [.int .i64 x.a, .int .i64 x.b, .int .i64 x.c, .int .i64 x.d] ∧ x.In) (fun cs n x hl ht => by
    match cs, hl with
    | [x0, x1, x2, x3], _ =>
      obtain ⟨x, rfl, rfl, rfl, rfl, hx⟩ := vec_of (x0 := x0) (x1 := x1) (x2 := x2) (x3 := x3) ht
      exact ⟨x, rfl, hx⟩) hf
  simp at h1
  refine ⟨A, cap, xs, h1, ?_, h4⟩
  rcases h2 with rfl | ⟨b, off, rfl, hlt, hc⟩
  · exact .inl rfl
  · refine .inr ⟨b, off, rfl, hlt, fun i x hx => ?_⟩
    obtain ⟨cs, ⟨rfl, _⟩, _, k⟩ := hc i x hx
    exact ⟨k 0 (by omega), k 1 (by omega), k 2 (by omega), k 3 (by omega)⟩
theorem holds_of {H : Type} {enc : TypeId × Value → H} {W : World} {fuel : Nat} {c0 : Value} {x : DataW H × List MemPlace} (hf : DataW.trod enc Try.prog W 0 (fun _ => true) true fuel 24 [c0] = some x) :
    ∃ A cap xs, c0 = .slice A (List.length xs) cap ∧ Hds W W A xs ∧ xs.length ≤ 9223372036854775807 := by
  obtain ⟨A, cap, xs, h1, h2, h3, h4, h5⟩ := row_is (α := Hd) 6 Try.underlying24 (by kernel_rfl) (by decide) (fun h cs => cs = h.cells ∧ h.In W) (fun cs n x hl ht => hold_of hl ht) hf
  simp at h1
  exact ⟨A, cap, xs, h1, h2, h4⟩
theorem asks_of {H : Type} {enc : TypeId × Value → H} {W : World} {fuel : Nat} {c0 : Value} {x : DataW H × List MemPlace} (hf : DataW.trod enc Try.prog W 0 (fun _ => true) true fuel 25 [c0] = some x) :
    ∃ A cap xs, c0 = .slice A (List.length xs) cap ∧ Aks W W A xs ∧ xs.length ≤ 9223372036854775807 := by
  obtain ⟨A, cap, xs, h1, h2, h3, h4, h5⟩ := row_is (α := Ak) 10 Try.underlying25 (by kernel_rfl) (by decide) (fun a cs => cs = a.cells ∧ a.In W) (fun cs n x hl ht => ask_of hl ht) hf
  simp at h1
  exact ⟨A, cap, xs, h1, h2, h4⟩
/-- A scene. -/
structure Sc where
  A : Option Addr
  cap : Nat
  xs : List V4
  U : Option Addr
  ucap : Nat
  up : List Bool
  now : Int
  H : Option Addr
  hcap : Nat
  hs : List Hd
  K : Option Addr
  kcap : Nat
  ks : List Ak
def Sc.cells (s : Sc) : List Value := [.slice s.A s.xs.length s.cap, .slice s.U s.up.length s.ucap, .int .i64 s.now, .slice s.H s.hs.length s.hcap, .slice s.K s.ks.length s.kcap]
structure Sc.In (s : Sc) (W : World) : Prop where
  x : Vs W s.A s.xs
  xl : s.xs.length ≤ 9223372036854775807
  u : Bs W s.U s.up
  ul : s.up.length ≤ 9223372036854775807
  n : i64 s.now
  h : Hds W W s.H s.hs
  hl : s.hs.length ≤ 9223372036854775807
  k : Aks W W s.K s.ks
  kl : s.ks.length ≤ 9223372036854775807
theorem scene_is {H : Type} {enc : TypeId × Value → H} {W : World} {base : Nat} {v : Value} {d : DataW H} {p : List MemPlace}
    (hv : Value.okWide Try.prog W .any base 27 v) (h : DataW.Trod enc Try.prog W 0 (fun _ => true) true 27 v d p) : ∃ s : Sc, v = .agg #[.slice s.A s.xs.length s.cap, .slice s.U s.up.length s.ucap, .int .i64 s.now, .slice s.H s.hs.length s.hcap, .slice s.K s.ks.length s.kcap] ∧ s.In W := by
  obtain ⟨cs, rfl, hsz⟩ := okWide_struct Try.underlying27 hv
  obtain ⟨fuel, hf⟩ := h
  have hl : cs.toList.length = 5 := by
    rw [Array.length_toList, hsz]
    kernel_rfl
  have key : ∃ s : Sc, cs.toList = s.cells ∧ s.In W := by
    change DataW.trod enc Try.prog W 0 (fun _ => true) true fuel 27 cs.toList = some _ at hf
    revert hf hl
    generalize cs.toList = l
    intro hl hf
    obtain ⟨xs, n, _, hx, _, hlen2, hg⟩ := DataW.trod_struct Try.underlying27 hf
    have c3 : Try.prog.cellsOf 3 = 1 := by kernel_rfl
    have c22 : Try.prog.cellsOf 22 = 1 := by kernel_rfl
    have c23 : Try.prog.cellsOf 23 = 1 := by kernel_rfl
    have c24 : Try.prog.cellsOf 24 = 1 := by kernel_rfl
    have c25 : Try.prog.cellsOf 25 = 1 := by kernel_rfl
    match l, hl with
    | [d0, d1, d2, d3, d4], _ =>
      match xs, hlen2 with
      | [y0, y1, y2, y3, y4], _ =>
        have h0 : DataW.trod enc Try.prog W 0 (fun _ => true) true n 22 (([d0, d1, d2, d3, d4].drop 0).take (Try.prog.cellsOf 22)) = some y0 := hg 0 _ rfl
        have h1 : DataW.trod enc Try.prog W 0 (fun _ => true) true n 23 (([d0, d1, d2, d3, d4].drop 1).take (Try.prog.cellsOf 23)) = some y1 := hg 1 _ rfl
        have h2 : DataW.trod enc Try.prog W 0 (fun _ => true) true n 3 (([d0, d1, d2, d3, d4].drop 2).take (Try.prog.cellsOf 3)) = some y2 := hg 2 _ rfl
        have h3 : DataW.trod enc Try.prog W 0 (fun _ => true) true n 24 (([d0, d1, d2, d3, d4].drop 3).take (Try.prog.cellsOf 24)) = some y3 := hg 3 _ rfl
        have h4 : DataW.trod enc Try.prog W 0 (fun _ => true) true n 25 (([d0, d1, d2, d3, d4].drop 4).take (Try.prog.cellsOf 25)) = some y4 := hg 4 _ rfl
        rw [c22] at h0
        rw [c23] at h1
        rw [c3] at h2
        rw [c24] at h3
        rw [c25] at h4
        obtain ⟨A, cap, xs, e0, k1, k2⟩ := vecs_of (c0 := d0) h0
        obtain ⟨U, ucap, us, e1, k3, k4⟩ := bools_of (c0 := d1) h1
        obtain ⟨n2, e2, _, w2⟩ := DataW.trod_int Try.underlying3 (cs := [d2]) h2
        obtain ⟨H, hcap, hs, e3, k5, k6⟩ := holds_of (c0 := d3) h3
        obtain ⟨K, kcap, ks, e4, k7, k8⟩ := asks_of (c0 := d4) h4
        simp at e2
        subst e0 e1 e2 e3 e4
        exact ⟨⟨A, cap, xs, U, ucap, us, n2, H, hcap, hs, K, kcap, ks⟩, rfl, ⟨k1, k2, k3, k4, wf_i64 w2, k5, k6, k7, k8⟩⟩
  obtain ⟨s, hs, hin⟩ := key
  refine ⟨s, ?_, hin⟩
  rw [show (#[.slice s.A s.xs.length s.cap, .slice s.U s.up.length s.ucap, .int .i64 s.now, .slice s.H s.hs.length s.hcap, .slice s.K s.ks.length s.kcap] : Array Value) = s.cells.toArray from rfl, ← hs]
theorem ask_is {H : Type} {enc : TypeId × Value → H} {W : World} {base : Nat} {v : Value} {d : DataW H} {p : List MemPlace}
    (hv : Value.okWide Try.prog W .any base 42 v) (h : DataW.Trod enc Try.prog W 0 (fun _ => true) true 42 v d p) : ∃ a : Ak, v = .agg #[.int .i64 a.id, .slice a.A a.pl.length a.cap, .int .i64 a.m, .int .i64 a.v.a, .int .i64 a.v.b, .int .i64 a.v.c, .int .i64 a.v.d, .int .i64 a.k, .int .i64 a.s, .slice a.G a.g.length a.gc] ∧ a.In W := by
  obtain ⟨cs, rfl, hsz⟩ := okWide_struct Try.underlying42 hv
  obtain ⟨fuel, hf⟩ := h
  have hl : cs.toList.length = 10 := by
    rw [Array.length_toList, hsz]
    kernel_rfl
  obtain ⟨a, ha, hok⟩ := ask_of hl hf
  refine ⟨a, ?_, hok⟩
  rw [show (#[.int .i64 a.id, .slice a.A a.pl.length a.cap, .int .i64 a.m, .int .i64 a.v.a, .int .i64 a.v.b, .int .i64 a.v.c, .int .i64 a.v.d, .int .i64 a.k, .int .i64 a.s, .slice a.G a.g.length a.gc] : Array Value) = a.cells.toArray from rfl, ← ha]
end Go.Proofs.Ythkofnahimlijaa
namespace Go.Proofs.Ythkofnahimlijaa
open Go Go.RowKit
def FewOk (s : Sc) (b : Bool) : Prop := b = true → s.xs.length ≤ 20 ∧ s.up.length ≤ 20 ∧ s.hs.length ≤ 8 ∧ s.ks.length ≤ 10 ∧ (∀ h, h ∈ s.hs → h.g.length ≤ 20) ∧ ∀ a, a ∈ s.ks → a.pl.length ≤ 30 ∧ a.g.length ≤ 20
theorem few_no (s : Sc) : FewOk s false := fun h => by cases h
def FewPost (w : World) (s : Sc) (e : Ending) (w' : World) : Prop := ∃ b, e = .returned (.bool b) ∧ FewOk s b ∧ Below w.heap.size w w'
set_option maxRecDepth 100000 in
set_option maxHeartbeats 2000000 in
theorem few_any (W : World) (s : Sc) (w : World) (h : s.In W) (hW : Below W.heap.size W w) : Calls Try.prog 9 #[.agg #[.slice s.A s.xs.length s.cap, .slice s.U s.up.length s.ucap, .int .i64 s.now, .slice s.H s.hs.length s.hcap, .slice s.K s.ks.length s.kcap]] w (FewPost w s) := by
  obtain ⟨nx, hnx⟩ : ∃ n, n = s.xs.length := ⟨_, rfl⟩
  obtain ⟨nu, hnu⟩ : ∃ n, n = s.up.length := ⟨_, rfl⟩
  obtain ⟨nh, hnh⟩ : ∃ n, n = s.hs.length := ⟨_, rfl⟩
  obtain ⟨nk, hnk⟩ : ∃ n, n = s.ks.length := ⟨_, rfl⟩
  have h1 := h.xl
  have h2 := h.ul
  have h3 := h.hl
  have h4 := h.kl
  have HNX := hid hnx
  have HNU := hid hnu
  have HNH := hid hnh
  have HNK := hid hnk
  rw [← hnx] at h1
  rw [← hnu] at h2
  rw [← hnh] at h3
  rw [← hnk] at h4
  rw [← hnx, ← hnu, ← hnh, ← hnk]
  have X0 := hid (heap_new w (.cells #[.slice s.A nx s.cap, .slice s.U nu s.ucap, .int .i64 s.now, .slice s.H nh s.hcap, .slice s.K nk s.kcap] 27))
  have g0 := hid (show Below w.heap.size w (w.alloc (.cells #[.slice s.A nx s.cap, .slice s.U nu s.ucap, .int .i64 s.now, .slice s.H nh s.hcap, .slice s.K nk s.kcap] 27)) from by go_grown)
  have HH := hid (h.h.keep (hW.trans (g0.out.mono hW.size)))
  have HK := hid (h.k.keep (hW.trans (g0.out.mono hW.size)))
  obtain ⟨x0, x1, x2, x3, x4⟩ := five X0.out
  have HNO := hid (few_no s)
  clear h hW hnx hnu hnh hnk
  by_cases k1 : (20 : Int) < (nx : Int)
  · have d1 : decide ((20 : Int) < (nx : Int)) = true := decide_eq_true k1
    clear k1
    go_enter Try.func9, Try.ntmps9
    go_wp2_with fail
    all_goals go_returns
    all_goals exact ⟨_, rfl, HNO.out, g0.out⟩
  have d1 : decide ((20 : Int) < (nx : Int)) = false := decide_eq_false k1
  by_cases k2 : (20 : Int) < (nu : Int)
  · have d2 : decide ((20 : Int) < (nu : Int)) = true := decide_eq_true k2
    clear k1 k2
    go_enter Try.func9, Try.ntmps9
    go_wp2_with fail
    all_goals go_returns
    all_goals exact ⟨_, rfl, HNO.out, g0.out⟩
  have d2 : decide ((20 : Int) < (nu : Int)) = false := decide_eq_false k2
  by_cases k3 : (8 : Int) < (nh : Int)
  · have d3 : decide ((8 : Int) < (nh : Int)) = true := decide_eq_true k3
    clear k1 k2 k3
    go_enter Try.func9, Try.ntmps9
    go_wp2_with fail
    all_goals go_returns
    all_goals exact ⟨_, rfl, HNO.out, g0.out⟩
  have d3 : decide ((8 : Int) < (nh : Int)) = false := decide_eq_false k3
  by_cases k4 : (10 : Int) < (nk : Int)
  · have d4 : decide ((10 : Int) < (nk : Int)) = true := decide_eq_true k4
    clear k1 k2 k3 k4
    go_enter Try.func9, Try.ntmps9
    go_wp2_with fail
    all_goals go_returns
    all_goals exact ⟨_, rfl, HNO.out, g0.out⟩
  have d4 : decide ((10 : Int) < (nk : Int)) = false := decide_eq_false k4
  have HB := hid (show nx ≤ 20 ∧ nu ≤ 20 ∧ nh ≤ 8 ∧ nk ≤ 10 from by omega)
  clear k1 k2
  go_enter Try.func9, Try.ntmps9
  go_wp2_with fail
  clear d1 d2 d3 d4
  go_loop [3] (fun x => ∃ k : Nat, k ≤ nh ∧ x = .int .i64 k ∧ ∀ (j : Nat) y, j < k → s.hs[j]? = some y → y.g.length ≤ 20) (fun x => nh - (intOf x).toNat)
  case atStart => exact ⟨0, Nat.zero_le _, rfl, fun j y hj => by omega⟩
  case round =>
    obtain ⟨k, hk, rfl, hall⟩ := hrel
    have HALL := hid hall
    clear hall
    by_cases hlt : k < nh
    · have hlt' : (k : Int) < (nh : Int) := by omega
      obtain ⟨y, hy⟩ : ∃ y, s.hs[k]? = some y := ⟨_, List.getElem?_eq_getElem (by have := HNH.out; omega)⟩
      obtain ⟨hin, b, off, hA, hbl, c0, _⟩ := HH.out.at hy
      rw [hA] at x0 x1 x2 x3 x4 c0 g0 ⊢
      have HY := hid hy
      have hyl := hin.len
      clear hy hin hA
      by_cases k5 : (20 : Int) < (y.g.length : Int)
      · have d5 : decide ((20 : Int) < (y.g.length : Int)) = true := decide_eq_true k5
        clear k5
        go_wp2_with fail
        all_goals go_returns
        all_goals exact ⟨_, rfl, HNO.out, g0.out⟩
      · have d5 : decide ((20 : Int) < (y.g.length : Int)) = false := decide_eq_false k5
        have HK5 := hid (show y.g.length ≤ 20 by omega)
        clear k5
        go_wp2_with fail
        go_round
        case rel =>
          refine ⟨k + 1, by omega, by go_num, fun j z hj hz => ?_⟩
          rcases Nat.lt_or_ge j k with h | h
          · exact HALL.out j z h hz
          · obtain rfl : j = k := by omega
            rw [HY.out] at hz
            cases hz
            exact HK5.out
        case measure => simp [intOf]; omega
    · have HA1 := hid (show ∀ h, h ∈ s.hs → h.g.length ≤ 20 from fun h hh => by
        obtain ⟨j, hj⟩ := List.getElem?_of_mem hh
        exact HALL.out j h (by have := (List.getElem?_eq_some_iff.1 hj).1; have := HNH.out; omega) hj)
      go_wp2_with fail
      go_loop [4] (fun x => ∃ k : Nat, k ≤ nk ∧ x = .int .i64 k ∧ ∀ (j : Nat) y, j < k → s.ks[j]? = some y → y.pl.length ≤ 30 ∧ y.g.length ≤ 20) (fun x => nk - (intOf x).toNat)
      case atStart => exact ⟨0, Nat.zero_le _, rfl, fun j y hj => by omega⟩
      case round =>
        clear hlt hk HALL
        rename_i u3 _ _ _ _
        obtain ⟨i, hi, rfl, hall⟩ := hrel
        have HALL := hid hall
        clear hall
        by_cases hlt2 : i < nk
        · have hlt2' : (i : Int) < (nk : Int) := by omega
          obtain ⟨y, hy⟩ : ∃ y, s.ks[i]? = some y := ⟨_, List.getElem?_eq_getElem (by have := HNK.out; omega)⟩
          obtain ⟨hin, b, off, hA, hbl, _, c1, _, _, _, _, _, _, _, c9⟩ := HK.out.at hy
          rw [hA] at x0 x1 x2 x3 x4 c1 c9 g0 ⊢
          have HY := hid hy
          have hyl := hin.pl
          have hyl2 := hin.gl
          clear hy hin hA
          by_cases k5 : (30 : Int) < (y.pl.length : Int)
          · have d5 : decide ((30 : Int) < (y.pl.length : Int)) = true := decide_eq_true k5
            clear k5
            go_wp2_with fail
            all_goals go_returns
            all_goals exact ⟨_, rfl, HNO.out, g0.out⟩
          have d5 : decide ((30 : Int) < (y.pl.length : Int)) = false := decide_eq_false k5
          by_cases k6 : (20 : Int) < (y.g.length : Int)
          · have d6 : decide ((20 : Int) < (y.g.length : Int)) = true := decide_eq_true k6
            clear k5 k6
            go_wp2_with fail
            all_goals go_returns
            all_goals exact ⟨_, rfl, HNO.out, g0.out⟩
          · have d6 : decide ((20 : Int) < (y.g.length : Int)) = false := decide_eq_false k6
            have HK5 := hid (show y.pl.length ≤ 30 ∧ y.g.length ≤ 20 by omega)
            clear k5 k6
            go_wp2_with fail
            go_round
            case rel =>
              refine ⟨i + 1, by omega, by go_num, fun j z hj hz => ?_⟩
              rcases Nat.lt_or_ge j i with h | h
              · exact HALL.out j z h hz
              · obtain rfl : j = i := by omega
                rw [HY.out] at hz
                cases hz
                exact HK5.out
            case measure => simp [intOf]; omega
        · have HA2 := hid (show ∀ a, a ∈ s.ks → a.pl.length ≤ 30 ∧ a.g.length ≤ 20 from fun h hh => by
            obtain ⟨j, hj⟩ := List.getElem?_of_mem hh
            exact HALL.out j h (by have := (List.getElem?_eq_some_iff.1 hj).1; have := HNK.out; omega) hj)
          go_wp2_with fail
          all_goals go_returns
          all_goals exact ⟨_, rfl, fun _ => by rw [← HNX.out, ← HNU.out, ← HNH.out, ← HNK.out]; exact ⟨HB.out.1, HB.out.2.1, HB.out.2.2.1, HB.out.2.2.2, HA1.out, HA2.out⟩, g0.out⟩
theorem can_any (a : Ak) (w : World) : Calls Try.prog 17 #[.agg #[.int .i64 a.id, .slice a.A a.pl.length a.cap, .int .i64 a.m, .int .i64 a.v.a, .int .i64 a.v.b, .int .i64 a.v.c, .int .i64 a.v.d, .int .i64 a.k, .int .i64 a.s, .slice a.G a.g.length a.gc]] w fun e w' => e = .returned (.bool (askB a)) ∧ Below w.heap.size w w' := by
  have X0 := hid (heap_new w (.cells #[.int .i64 a.id, .slice a.A a.pl.length a.cap, .int .i64 a.m, .int .i64 a.v.a, .int .i64 a.v.b, .int .i64 a.v.c, .int .i64 a.v.d, .int .i64 a.k, .int .i64 a.s, .slice a.G a.g.length a.gc] 42))
  have g0 := hid (show Below w.heap.size w (w.alloc (.cells #[.int .i64 a.id, .slice a.A a.pl.length a.cap, .int .i64 a.m, .int .i64 a.v.a, .int .i64 a.v.b, .int .i64 a.v.c, .int .i64 a.v.d, .int .i64 a.k, .int .i64 a.s, .slice a.G a.g.length a.gc] 42)) from by go_grown)
  have KR := hid (rright4 a.v)
  obtain ⟨x0, x1, x2, x3, x4, x5, x6, x7, x8, x9⟩ := ten X0.out
  obtain ⟨rb, hrb⟩ : ∃ rb, rb = askB a := ⟨_, rfl⟩
  have HB := hid hrb
  have ho : askB a = (decide (0 < a.m ∧ 0 < a.k) && a.v.okB) := rfl
  have HO := hid ho
  rw [← hrb]
  clear hrb ho
  cases hob : a.v.okB with
  | false =>
    rw [hob] at KR HO
    have HE := hid (show rb = false from by rw [HB.out, HO.out, Bool.and_false])
    clear hob
    go_enter Try.func17, Try.ntmps17
    go_wp2_with (go_at_call 37; (with_reducible refine (KR.out _).mono ?_); rintro _ w3 ⟨rfl, hb⟩; have g3 := hid (below_step g0.out g0.out.size hb); have X3 := hid (keep0 hb X0.out); obtain ⟨y0, y1, y2, y3, y4, y5, y6, y7, y8, y9⟩ := ten X3.out; clear hb)
    go_returns
    exact ⟨ret_bool HE.out.symm, g3.out⟩
  | true =>
    rw [hob] at KR HO
    clear hob
    by_cases h1 : 0 < a.m
    · by_cases h2 : 0 < a.k
      · have HE := hid (show rb = true from by rw [HB.out, HO.out, decide_eq_true ⟨h1, h2⟩, Bool.and_true])
        have d1 : decide (0 < a.m) = true := decide_eq_true h1
        have d2 : decide (0 < a.k) = true := decide_eq_true h2
        go_enter Try.func17, Try.ntmps17
        go_wp2_with (go_at_call 37; (with_reducible refine (KR.out _).mono ?_); rintro _ w3 ⟨rfl, hb⟩; have g3 := hid (below_step g0.out g0.out.size hb); have X3 := hid (keep0 hb X0.out); obtain ⟨y0, y1, y2, y3, y4, y5, y6, y7, y8, y9⟩ := ten X3.out; clear hb)
        go_returns
        exact ⟨ret_bool HE.out.symm, g3.out⟩
      · have HE := hid (show rb = false from by rw [HB.out, HO.out, decide_eq_false (fun h => h2 h.2), Bool.false_and])
        have d1 : decide (0 < a.m) = true := decide_eq_true h1
        have d2 : decide (0 < a.k) = false := decide_eq_false h2
        go_enter Try.func17, Try.ntmps17
        go_wp2_with (go_at_call 37; (with_reducible refine (KR.out _).mono ?_); rintro _ w3 ⟨rfl, hb⟩; have g3 := hid (below_step g0.out g0.out.size hb); have X3 := hid (keep0 hb X0.out); obtain ⟨y0, y1, y2, y3, y4, y5, y6, y7, y8, y9⟩ := ten X3.out; clear hb)
        go_returns
        exact ⟨ret_bool HE.out.symm, g3.out⟩
    · have HE := hid (show rb = false from by rw [HB.out, HO.out, decide_eq_false (fun h => h1 h.1), Bool.false_and])
      have d1 : decide (0 < a.m) = false := decide_eq_false h1
      go_enter Try.func17, Try.ntmps17
      go_wp2_with (go_at_call 37; (with_reducible refine (KR.out _).mono ?_); rintro _ w3 ⟨rfl, hb⟩; have g3 := hid (below_step g0.out g0.out.size hb); have X3 := hid (keep0 hb X0.out); obtain ⟨y0, y1, y2, y3, y4, y5, y6, y7, y8, y9⟩ := ten X3.out; clear hb)
      go_returns
      exact ⟨ret_bool HE.out.symm, g3.out⟩
set_option maxHeartbeats 2000000 in
theorem rplaces_any (U : Option Addr) (ucap : Nat) (up : List Bool) (a : Ak) (w : World) (hU : Bs w U up) (hul : up.length ≤ 1000) (hP : Ns w a.A a.pl) (hpl : a.pl.length ≤ 9223372036854775807) :
    Calls Try.prog 19 #[.agg #[.int .i64 a.id, .slice a.A a.pl.length a.cap, .int .i64 a.m, .int .i64 a.v.a, .int .i64 a.v.b, .int .i64 a.v.c, .int .i64 a.v.d, .int .i64 a.k, .int .i64 a.s, .slice a.G a.g.length a.gc], .slice U up.length ucap] w (PlPost w up a.pl) := by
  have X0 := hid (heap_new w (.cells #[.int .i64 a.id, .slice a.A a.pl.length a.cap, .int .i64 a.m, .int .i64 a.v.a, .int .i64 a.v.b, .int .i64 a.v.c, .int .i64 a.v.d, .int .i64 a.k, .int .i64 a.s, .slice a.G a.g.length a.gc] 42))
  have g0 := hid (show Below w.heap.size w (w.alloc (.cells #[.int .i64 a.id, .slice a.A a.pl.length a.cap, .int .i64 a.m, .int .i64 a.v.a, .int .i64 a.v.b, .int .i64 a.v.c, .int .i64 a.v.d, .int .i64 a.k, .int .i64 a.s, .slice a.G a.g.length a.gc] 42)) from by go_grown)
  have HU := hid hU
  have KC := hid (fun (y : Int) w1 (hb : Below w.heap.size w w1) => in_any a.A a.cap a.pl y w1 (hP.keep hb) hpl)
  obtain ⟨i0, hi, hz0, hz1, hz2⟩ := int_info
  obtain ⟨m, hm⟩ : ∃ m, m = up.length := ⟨_, rfl⟩
  have HM := hid hm
  rw [← hm] at hul ⊢
  clear hU hP hpl hm
  go_enter Try.func19, Try.ntmps19
  go_wp2_with fail
  go_loopw [5, 6] (fun o x wr => ∃ k : Nat, k ≤ m ∧ x = .int .i64 k ∧ wr.ownsRow (w.heap.size + 1) 3 1 o (plK up a.pl k).length (nums (plK up a.pl k)) ∧ Below w.heap.size w wr ∧ wr.heap[w.heap.size]? = some (.cells #[.int .i64 a.id, .slice a.A a.pl.length a.cap, .int .i64 a.m, .int .i64 a.v.a, .int .i64 a.v.b, .int .i64 a.v.c, .int .i64 a.v.d, .int .i64 a.k, .int .i64 a.s, .slice a.G a.g.length a.gc] 42 (0, 0))) (fun _ x _ => m - (intOf x).toNat)
  case atStart => exact ⟨0, Nat.zero_le _, rfl, World.ownsRow_nil _ _ _ _, g0.out, X0.out⟩
  case round =>
    clear X0 g0
    obtain ⟨k, hk, rfl, ho, hg, hx⟩ := hrel
    have HO := hid ho
    have HG := hid hg
    have HX := hid hx
    clear ho hg hx
    have hLl := plK_le up a.pl k
    by_cases hlt : k < m
    · have hlt' : (k : Int) < (m : Int) := by omega
      obtain ⟨u, hu⟩ : ∃ u, up[k]? = some u := ⟨_, List.getElem?_eq_getElem (by have := HM.out; omega)⟩
      have hgd : up.getD k false = u := by simp [List.getD, hu]
      obtain ⟨b, off, rfl, c0⟩ := (HU.out.keep HG.out).at hu
      obtain ⟨_, x1, _⟩ := ten HX.out
      have HL := hid (plK_succ up a.pl k)
      rw [hgd] at HL
      clear hu hgd
      cases u with
      | false =>
        rw [Bool.false_and, if_neg (by decide)] at HL
        go_wp2_with fail
        go_roundw
        case rel => exact ⟨k + 1, by omega, by go_num, by rw [HL.out]; exact HO.out, HG.out, HX.out⟩
        case measure => simp [intOf]; omega
      | true =>
        rw [Bool.true_and] at HL
        have KI := hid (KC.out (k : Int) wr HG.out)
        cases hc : a.pl.contains (k : Int) with
        | false =>
          rw [hc] at HL KI
          rw [if_neg (by decide)] at HL
          clear hc
          go_wp2_with (go_at_call 43; (with_reducible refine KI.out.mono ?_); rintro _ w5 ⟨rfl, rfl⟩)
          go_roundw
          case rel => exact ⟨k + 1, by omega, by go_num, by rw [HL.out]; exact HO.out, HG.out, HX.out⟩
          case measure => simp [intOf]; omega
        | true =>
          rw [hc] at HL KI
          rw [if_pos rfl] at HL
          clear hc
          obtain ⟨L, hL⟩ : ∃ L, L = plK up a.pl k := ⟨_, rfl⟩
          rw [← hL] at HO HL hLl
          clear hL
          have OA := hid (HO.out.alloc (.cells #[.int .i64 (k : Nat)] 3))
          have NA := hid (World.news_of_block (heap_new wr (.cells #[.int .i64 (k : Nat)] 3)))
          have gA := hid (HG.out.alloc HG.out.size (.cells #[.int .i64 (k : Nat)] 3))
          have XA := hid (heapA (o := .cells #[.int .i64 (k : Nat)] 3) HX.out)
          have hsz := lt_of HX.out
          go_wp2_with (first | (go_at_call 43; (with_reducible refine KI.out.mono ?_); rintro _ w5 ⟨rfl, rfl⟩) | (at_builtin; refine wpList_append_own _ rfl _ _ 31 rfl (w.heap.size + 1) 3 i0 _ 1 8 Try.underlying31 hi hz0 hz1 hz2 rfl (by decide) _ _ _ rfl OA.out ⟨wr.heap.size, 0, none⟩ 1 1 [.int .i64 (k : Nat)] rfl rfl NA.out (fun u hu => by simp at hu; rw [hu]; rfl) (by unfold maxLen; omega) (by omega) (by simp; omega) ?_; rintro v' w' ho hgr hv; have O2 := hid ho; have R2 := hid hgr; clear ho hgr hv))
          go_roundw
          case rel =>
            refine ⟨k + 1, by omega, by go_num, ?_, ?_, ?_⟩
            · rw [HL.out]
              have := O2.out
              simpa [nums] using this
            · exact below_own gA.out R2.out OA.out (Nat.le_succ _) (by simp; omega)
            · exact gb_keep R2.out XA.out (own_ne OA.out (Nat.lt_succ_self _))
          case measure => simp [intOf]; omega
    · obtain rfl : k = m := by omega
      have e : plK up a.pl k = plcN up a.pl := by rw [HM.out]; rfl
      rw [e] at HO
      clear e
      go_wp2_with fail
      go_returns
      exact ⟨_, rfl, own_mono HO.out (Nat.le_succ _), HG.out⟩
end Go.Proofs.Ythkofnahimlijaa
namespace Go.Proofs.Ythkofnahimlijaa
open Go Go.RowKit
theorem gang_one {n : Nat} {x : Int} (h : 0 ≤ x ∧ x < (n : Int)) : Gang n [x] := by
  refine ⟨by simp, fun i y hy => ?_, fun i y z hy hz => ?_⟩
  · match i, hy with
    | 0, hy => simp at hy; omega
    | i + 1, hy => simp at hy
  · match i, hy, hz with
    | 0, _, hz => simp at hz
    | i + 1, hy, _ => simp at hy
theorem gang_two {n : Nat} {x y : Int} (h : 0 ≤ x ∧ x < y ∧ y < (n : Int)) : Gang n [x, y] := by
  refine ⟨by simp, fun i z hz => ?_, fun i z u hz hu => ?_⟩
  · match i, hz with
    | 0, hz => simp at hz; omega
    | 1, hz => simp at hz; omega
    | i + 2, hz => simp at hz
  · match i, hz, hu with
    | 0, hz, hu => simp at hz hu; omega
    | 1, _, hu => simp at hu
    | i + 2, hz, _ => simp at hz
theorem Ns.lit {w : World} {b : Nat} {cs : Array Value} {t : TypeId} {fr : Nat × Nat} {xs : List Int} (h : w.heap[b]? = some (.cells cs t fr)) (hc : ∀ (i : Nat) x, xs[i]? = some x → cs[i]? = some (.int .i64 x)) : Ns w (some ⟨b, 0, none⟩) xs :=
  .inr ⟨b, 0, rfl, lt_of h, fun i x hx => by rw [Nat.zero_add, cell_of h i]; exact hc i x hx⟩
theorem Ns.lit1 {w : World} {x : Int} : Ns (w.alloc (.cells #[.int .i64 x] 3)) (some ⟨w.heap.size, 0, none⟩) [x] := Ns.lit (heap_new w _) fun i y hy => by
  match i, hy with
  | 0, hy => simp at hy; simp [hy]
  | i + 1, hy => simp at hy
theorem Ns.lit2 {w : World} {x y : Int} : Ns (w.alloc (.cells #[.int .i64 x, .int .i64 y] 3)) (some ⟨w.heap.size, 0, none⟩) [x, y] := Ns.lit (heap_new w _) fun i z hz => by
  match i, hz with
  | 0, hz => simp at hz; simp [hz]
  | 1, hz => simp at hz; simp [hz]
  | i + 2, hz => simp at hz
abbrev v2 : V4 := ⟨2, 0, 0, 0⟩
def exW : Nat → V4 := wsF [v2, v2]
def exD0 : List Bk := [⟨[0], 0, 4, v2⟩]
def exD1 : List Bk := ⟨[0, 1], 4, 7, v2⟩ :: exD0
def exD2 : List Bk := ⟨[1], 0, 4, v2⟩ :: exD1
theorem at_in {d : Bk} {i : Nat} {t : Int} (h : d.xs.contains (i : Int) = true) (h1 : d.a ≤ t) (h2 : t < d.c) : d.at i t = d.v := if_pos ⟨h, h1, h2⟩
theorem at_out {d : Bk} {i : Nat} {t : Int} (h : d.xs.contains (i : Int) = false ∨ t < d.a ∨ d.c ≤ t) : d.at i t = V4.z := if_neg (by
  rintro ⟨h1, h2, h3⟩
  rcases h with h | h
  · rw [h] at h1
    cases h1
  · omega)
theorem ex_free0 (t : Int) : freeOf exW exD0 0 t = if 0 ≤ t ∧ t < 4 then V4.z else v2 := by
  show (exW 0).sub ((Bk.at ⟨[0], 0, 4, v2⟩ 0 t).add V4.z) = _
  split
  · next h =>
    rw [at_in (by decide) h.1 h.2]
    rfl
  · next h =>
    rw [at_out (.inr (by simp only; omega))]
    rfl
theorem ex_free0' (t : Int) : freeOf exW exD0 1 t = v2 := by
  show (exW 1).sub ((Bk.at ⟨[0], 0, 4, v2⟩ 1 t).add V4.z) = _
  rw [at_out (.inl (by decide))]
  rfl
theorem ex_free1 (t : Int) : freeOf exW exD1 0 t = if 0 ≤ t ∧ t < 7 then V4.z else v2 := by
  show (exW 0).sub ((Bk.at ⟨[0, 1], 4, 7, v2⟩ 0 t).add ((Bk.at ⟨[0], 0, 4, v2⟩ 0 t).add V4.z)) = _
  by_cases h1 : 4 ≤ t ∧ t < 7
  · rw [at_in (by decide) h1.1 h1.2, at_out (.inr (by simp only; omega)), if_pos (by omega)]
    rfl
  · rw [at_out (d := ⟨[0, 1], 4, 7, v2⟩) (.inr (by simp only; omega))]
    by_cases h2 : 0 ≤ t ∧ t < 4
    · rw [at_in (by decide) h2.1 h2.2, if_pos (by omega)]
      rfl
    · rw [at_out (.inr (by simp only; omega)), if_neg (by omega)]
      rfl
theorem ex_free1' (t : Int) : freeOf exW exD1 1 t = if 4 ≤ t ∧ t < 7 then V4.z else v2 := by
  show (exW 1).sub ((Bk.at ⟨[0, 1], 4, 7, v2⟩ 1 t).add ((Bk.at ⟨[0], 0, 4, v2⟩ 1 t).add V4.z)) = _
  rw [at_out (d := ⟨[0], 0, 4, v2⟩) (.inl (by decide))]
  split
  · next h =>
    rw [at_in (by decide) h.1 h.2]
    rfl
  · next h =>
    rw [at_out (.inr (by simp only; omega))]
    rfl
theorem ex_free2 (t : Int) : freeOf exW exD2 0 t = if 0 ≤ t ∧ t < 7 then V4.z else v2 := by
  have e : freeOf exW exD2 0 t = freeOf exW exD1 0 t := by
    show (exW 0).sub ((Bk.at ⟨[1], 0, 4, v2⟩ 0 t).add (used exD1 0 t)) = (exW 0).sub (used exD1 0 t)
    rw [at_out (.inl (by decide))]
    apply V4.ext4 <;> simp [V4.add, V4.z]
  rw [e, ex_free1]
theorem ex_free2' (t : Int) : freeOf exW exD2 1 t = if 0 ≤ t ∧ t < 7 then V4.z else v2 := by
  have e : freeOf exW exD1 1 t = _ := ex_free1' t
  show (exW 1).sub ((Bk.at ⟨[1], 0, 4, v2⟩ 1 t).add (used exD1 1 t)) = _
  change (exW 1).sub (used exD1 1 t) = _ at e
  by_cases h1 : 0 ≤ t ∧ t < 4
  · rw [if_neg (by omega)] at e
    rw [at_in (by decide) h1.1 h1.2, if_pos (by omega)]
    have e1 := congrArg V4.a e
    have e2 := congrArg V4.b e
    have e3 := congrArg V4.c e
    have e4 := congrArg V4.d e
    simp only [V4.sub] at e1 e2 e3 e4
    apply V4.ext4 <;> simp only [V4.sub, V4.add, V4.z] <;> omega
  · rw [at_out (.inr (by simp only; omega))]
    have e0 : (V4.z.add (used exD1 1 t)) = used exD1 1 t := by apply V4.ext4 <;> simp [V4.add, V4.z]
    rw [e0, e]
    by_cases h2 : 4 ≤ t ∧ t < 7
    · rw [if_pos h2, if_pos (by omega)]
    · rw [if_neg h2, if_neg (by omega)]
theorem ex_good : Good 2 exW exD0 := by
  refine ⟨fun d hd => ?_, fun i t hi => ?_⟩
  · have : d = ⟨[0], 0, 4, v2⟩ := by simpa [exD0] using hd
    subst this
    exact not_bad (gang_one (by omega)) (by decide) (by decide)
  · have h0 : V4.le (used exD0 i t) v2 := by
      show V4.le ((Bk.at ⟨[0], 0, 4, v2⟩ i t).add V4.z) v2
      unfold Bk.at
      split <;> (unfold V4.add V4.le V4.z; simp)
    rcases (by omega : i = 0 ∨ i = 1) with rfl | rfl
    · exact h0
    · exact h0
/-- The asks of the example, wherever their places lie. -/
def exK (A1 A2 A3 : Option Addr) : List Ak := [⟨1, A1, 2, [0, 1], 2, v2, 3, -1, none, 0, []⟩, ⟨2, A2, 2, [0, 1], 1, v2, 4, -1, none, 0, []⟩, ⟨3, A3, 2, [0, 1], 1, v2, 5, -1, none, 0, []⟩]
def exH (A : Option Addr) : List Hd := [⟨A, 1, [0], v2, 4⟩]
theorem ex_opn (A : Option Addr) : opnE [v2, v2] [true, true] 0 (hdF (exH A)) 1 = 0 ∧ hFl 2 0 (fun i _ => wsF [v2, v2] i) (hdF (exH A)) 1 = freeOf exW exD0 := by
  have h0 : hTo 0 (hdF (exH A)) 1 = exD0 := by
    show [(hdF (exH A) 0).bk 0] = _
    unfold exD0 Hd.bk
    rfl
  have h1 : Good 2 exW (hTo 0 (hdF (exH A)) 1 ++ []) := by
    rw [h0, List.append_nil]
    exact ex_good
  have h2 := hold_ok h1
  have hnil : (fun i (_ : Int) => wsF [v2, v2] i) = freeOf exW [] := (freeOf_nil exW).symm
  constructor
  · rw [opnE_go ⟨by decide, rfl, by decide, by decide⟩, hnil]
    exact h2
  · rw [hnil]
    have h3 := (hold_good (D := []) (Good.nil 2 exW (fun i hi => by
      rcases (by omega : i = 0 ∨ i = 1) with rfl | rfl <;> (unfold exW wsF V4.ok; decide))) h2).1
    rw [h3, h0, List.append_nil]
theorem ex_open (F : Nat → Int → V4) (a c : Int) : openL 2 F (intL (plcN [true, true] [0, 1])) a c v2 = [0, 1].filter fun i => opB (F i) v2 a c := by
  unfold openL
  rw [show cntL 2 (intL (plcN [true, true] [0, 1])) 16 = [0, 1] by decide]
theorem filt2 {P : Nat → Bool} {b0 b1 : Bool} (h0 : P 0 = b0) (h1 : P 1 = b1) : [0, 1].filter P = (if b0 = true then [0] else []) ++ (if b1 = true then [1] else []) := by
  subst h0 h1
  cases e0 : P 0 <;> cases e1 : P 1 <;> simp [e0, e1]
theorem op_z {f : Int → V4} {a c : Int} (h : a < c) (hz : f a = V4.z) : opB f v2 a c = false := by
  cases hb : opB f v2 a c
  · rfl
  · have := (opB_iff _ _ _ _).1 hb a (Int.le_refl _) h
    rw [hz] at this
    have h1 := this.1
    exact absurd h1 (by decide)
theorem op_v {f : Int → V4} {a c : Int} (h : ∀ t, a ≤ t → t < c → f t = v2) : opB f v2 a c = true := (opB_iff _ _ _ _).2 fun t t1 t2 => by
  rw [h t t1 t2]
  exact V4.le_refl _
section
variable (A1 A2 A3 : Option Addr)
theorem ex_kept (k : Nat) (hk : k < 3) : kB [true, true] 2 0 (freeOf exW exD0) (akF (exK A1 A2 A3)) k = false := by
  unfold kB
  have : ((akF (exK A1 A2 A3)) k).s = -1 := by
    rcases (by omega : k = 0 ∨ k = 1 ∨ k = 2) with rfl | rfl | rfl <;> rfl
  rw [this]
  rfl
theorem ex_kF (k : Nat) (hk : k ≤ 3) : kFl [true, true] 2 0 (freeOf exW exD0) (akF (exK A1 A2 A3)) k = freeOf exW exD0 := by
  induction k with
  | zero => rfl
  | succ k ih =>
    have : ((akF (exK A1 A2 A3)) k).s = -1 := by
      rcases (by omega : k = 0 ∨ k = 1 ∨ k = 2) with rfl | rfl | rfl <;> rfl
    unfold kFl
    rw [this, if_neg (by decide), ih (by omega)]
theorem ex_fA (k : Nat) (hk : k < 3) : fA [true, true] 2 exW 0 (freeOf exW exD0) (akF (exK A1 A2 A3)) 3 k = tF [true, true] 2 exW 0 (freeOf exW exD0) (akF (exK A1 A2 A3)) 3 k := by
  unfold fA gB
  rw [ex_kept A1 A2 A3 k hk, if_neg (by decide)]
theorem ex_turn {k : Nat} (hk : k < 3) {D : List Bk} {t : Int} {l : List Nat} (hF : tF [true, true] 2 exW 0 (freeOf exW exD0) (akF (exK A1 A2 A3)) 3 k = freeOf exW D)
    (h : Fnd [true, true] 2 0 (freeOf exW D) (akF (exK A1 A2 A3) k) t) (hl : l = (openL 2 (freeOf exW D) (intL (plcN [true, true] (akF (exK A1 A2 A3) k).pl)) t (t + (akF (exK A1 A2 A3) k).k) (akF (exK A1 A2 A3) k).v).take (akF (exK A1 A2 A3) k).m.toNat) :
    slot [true, true] 2 exW 0 (freeOf exW exD0) (akF (exK A1 A2 A3)) 3 k = ⟨(akF (exK A1 A2 A3) k).id, t, l⟩ ∧ tF [true, true] 2 exW 0 (freeOf exW exD0) (akF (exK A1 A2 A3)) 3 (k + 1) = freeOf exW (⟨intL l, t, t + (akF (exK A1 A2 A3) k).k, (akF (exK A1 A2 A3) k).v⟩ :: D) := by
  have e0 := ex_fA A1 A2 A3 k hk
  rw [hF] at e0
  have e1 : slot [true, true] 2 exW 0 (freeOf exW exD0) (akF (exK A1 A2 A3)) 3 k = ⟨(akF (exK A1 A2 A3) k).id, t, l⟩ := by
    unfold slot
    rw [e0, slt_some h, hl]
  refine ⟨e1, ?_⟩
  have ht : 0 ≤ t := by
    have := h.2.2.2.2.1
    omega
  rw [tF_succ, e1, if_pos ht, e0]
  unfold bkF
  rw [if_pos (fnd_take h hl)]
  exact freeOf_take _ _ _ _ _ _
theorem ex_slots : slot [true, true] 2 exW 0 (freeOf exW exD0) (akF (exK A1 A2 A3)) 3 0 = ⟨1, 4, [0, 1]⟩ ∧ slot [true, true] 2 exW 0 (freeOf exW exD0) (akF (exK A1 A2 A3)) 3 1 = ⟨2, 0, [1]⟩ ∧ slot [true, true] 2 exW 0 (freeOf exW exD0) (akF (exK A1 A2 A3)) 3 2 = ⟨3, 7, [0]⟩ := by
  have t0 : tF [true, true] 2 exW 0 (freeOf exW exD0) (akF (exK A1 A2 A3)) 3 0 = freeOf exW exD0 := ex_kF A1 A2 A3 3 (Nat.le_refl _)
  have o0 : openL 2 (freeOf exW exD0) (intL (plcN [true, true] [0, 1])) 4 (4 + 3) v2 = [0, 1] := by
    rw [ex_open, filt2 (op_v fun t t1 t2 => by rw [ex_free0, if_neg (by omega)]) (op_v fun t t1 t2 => ex_free0' t)]
    rfl
  obtain ⟨s0, t1⟩ := ex_turn A1 A2 A3 (k := 0) (by omega) (t := 4) (l := [0, 1]) t0 ⟨rfl, (show (1 : Int) ≤ 2 by decide), (show (1 : Int) ≤ 3 by decide), rfl, (show max (0 : Int) 0 ≤ 4 by decide), (show (4 : Int) ≤ 1099511627776 - 3 by decide), by
      show (2 : Int).toNat ≤ (openL 2 (freeOf exW exD0) (intL (plcN [true, true] [0, 1])) 4 (4 + 3) v2).length
      rw [o0]
      decide, fun u u1 u2 => by
      show (openL 2 (freeOf exW exD0) (intL (plcN [true, true] [0, 1])) u (u + 3) v2).length < 2
      rw [ex_open, filt2 (op_z (by omega) (by rw [ex_free0, if_pos (by omega)])) rfl, if_neg (by decide)]
      split <;> decide⟩ (by
      show [0, 1] = (openL 2 (freeOf exW exD0) (intL (plcN [true, true] [0, 1])) 4 (4 + 3) v2).take (2 : Int).toNat
      rw [o0]
      rfl)
  have o1 : openL 2 (freeOf exW exD1) (intL (plcN [true, true] [0, 1])) 0 (0 + 4) v2 = [1] := by
    rw [ex_open, filt2 (op_z (by omega) (by rw [ex_free1, if_pos (by omega)])) (op_v fun t t1 t2 => by rw [ex_free1', if_neg (by omega)])]
    rfl
  obtain ⟨s1, t2⟩ := ex_turn A1 A2 A3 (k := 1) (by omega) (D := exD1) (t := 0) (l := [1]) t1 ⟨rfl, (show (1 : Int) ≤ 1 by decide), (show (1 : Int) ≤ 4 by decide), rfl, (show max (0 : Int) 0 ≤ 0 by decide), (show (0 : Int) ≤ 1099511627776 - 4 by decide), by
      show (1 : Int).toNat ≤ (openL 2 (freeOf exW exD1) (intL (plcN [true, true] [0, 1])) 0 (0 + 4) v2).length
      rw [o1]
      decide, fun u u1 u2 => by omega⟩ (by
      show [1] = (openL 2 (freeOf exW exD1) (intL (plcN [true, true] [0, 1])) 0 (0 + 4) v2).take (1 : Int).toNat
      rw [o1]
      rfl)
  have o2 : openL 2 (freeOf exW exD2) (intL (plcN [true, true] [0, 1])) 7 (7 + 5) v2 = [0, 1] := by
    rw [ex_open, filt2 (op_v fun t t1 t2 => by rw [ex_free2, if_neg (by omega)]) (op_v fun t t1 t2 => by rw [ex_free2', if_neg (by omega)])]
    rfl
  obtain ⟨s2, _⟩ := ex_turn A1 A2 A3 (k := 2) (by omega) (D := exD2) (t := 7) (l := [0]) t2 ⟨rfl, (show (1 : Int) ≤ 1 by decide), (show (1 : Int) ≤ 5 by decide), rfl, (show max (0 : Int) 0 ≤ 7 by decide), (show (7 : Int) ≤ 1099511627776 - 5 by decide), by
      show (1 : Int).toNat ≤ (openL 2 (freeOf exW exD2) (intL (plcN [true, true] [0, 1])) 7 (7 + 5) v2).length
      rw [o2]
      decide, fun u u1 u2 => by
      show (openL 2 (freeOf exW exD2) (intL (plcN [true, true] [0, 1])) u (u + 5) v2).length < 1
      rw [ex_open, filt2 (op_z (by omega) (by rw [ex_free2, if_pos (by omega)])) (op_z (by omega) (by rw [ex_free2', if_pos (by omega)]))]
      decide⟩ (by
      show [0] = (openL 2 (freeOf exW exD2) (intL (plcN [true, true] [0, 1])) 7 (7 + 5) v2).take (1 : Int).toNat
      rw [o2]
      rfl)
  exact ⟨s0, s1, s2⟩
end
end Go.Proofs.Ythkofnahimlijaa
namespace Go.Proofs.Ythkofnahimlijaa
open Go Go.RowKit
def AwPost (w : World) (e : Ending) (w' : World) : Prop := ∃ br A1 c1 A2 c2, e = .returned (.tuple #[.slice (some ⟨br, 0, none⟩) 3 3, .int .i64 0]) ∧ Below w.heap.size w w' ∧
  w'.cell? ⟨br, 1, none⟩ = some (.int .i64 4) ∧ w'.cell? ⟨br, 4, none⟩ = some (.int .i64 0) ∧ w'.cell? ⟨br, 5, none⟩ = some (.slice A1 1 c1) ∧ w'.cell? ⟨br, 7, none⟩ = some (.int .i64 7) ∧ w'.cell? ⟨br, 8, none⟩ = some (.slice A2 1 c2) ∧ Ns w' A1 [1] ∧ Ns w' A2 [0] ∧ br < w'.heap.size
theorem ask_row {w : World} {b : Nat} {t : TypeId} {A1 A2 A3 : Option Addr} (h : w.heap[b]? = some (.cells #[.int .i64 1, .slice A1 2 2, .int .i64 2, .int .i64 2, .int .i64 0, .int .i64 0, .int .i64 0, .int .i64 3, .int .i64 (-1), .slice none 0 0, .int .i64 2, .slice A2 2 2, .int .i64 1, .int .i64 2, .int .i64 0, .int .i64 0, .int .i64 0, .int .i64 4, .int .i64 (-1), .slice none 0 0, .int .i64 3, .slice A3 2 2, .int .i64 1, .int .i64 2, .int .i64 0, .int .i64 0, .int .i64 0, .int .i64 5, .int .i64 (-1), .slice none 0 0] t (0, 0)))
    (h1 : Ns w A1 [0, 1]) (h2 : Ns w A2 [0, 1]) (h3 : Ns w A3 [0, 1]) : Aks w w (some ⟨b, 0, none⟩) (exK A1 A2 A3) := by
  refine .inr ⟨b, 0, rfl, lt_of h, fun j x hx => ?_⟩
  have hc : ∀ i, w.cell? ⟨b, 0 + i, none⟩ = _ := fun i => cell_of h (0 + i)
  have hin : ∀ (n m k : Int) (A : Option Addr), i64 m → i64 k → Ns w A [0, 1] → Ak.In ⟨n, A, 2, [0, 1], m, v2, k, -1, none, 0, []⟩ w := fun n m k A hm hk hN => ⟨hN, (show 2 ≤ 9223372036854775807 by decide), .inl rfl, (show 0 ≤ 9223372036854775807 by decide), Nat.le_refl _, hm, hk, (show i64 (-1) by unfold i64; omega)⟩
  match j, hx with
  | 0, hx => cases hx; exact ⟨_, ⟨rfl, hin _ _ _ _ (by unfold i64; omega) (by unfold i64; omega) h1⟩, rfl, fun i hi => by
      rw [cell_of h]
      rcases (by omega : i = 0 ∨ i = 1 ∨ i = 2 ∨ i = 3 ∨ i = 4 ∨ i = 5 ∨ i = 6 ∨ i = 7 ∨ i = 8 ∨ i = 9) with rfl | rfl | rfl | rfl | rfl | rfl | rfl | rfl | rfl | rfl <;> rfl⟩
  | 1, hx => cases hx; exact ⟨_, ⟨rfl, hin _ _ _ _ (by unfold i64; omega) (by unfold i64; omega) h2⟩, rfl, fun i hi => by
      rw [cell_of h]
      rcases (by omega : i = 0 ∨ i = 1 ∨ i = 2 ∨ i = 3 ∨ i = 4 ∨ i = 5 ∨ i = 6 ∨ i = 7 ∨ i = 8 ∨ i = 9) with rfl | rfl | rfl | rfl | rfl | rfl | rfl | rfl | rfl | rfl <;> rfl⟩
  | 2, hx => cases hx; exact ⟨_, ⟨rfl, hin _ _ _ _ (by unfold i64; omega) (by unfold i64; omega) h3⟩, rfl, fun i hi => by
      rw [cell_of h]
      rcases (by omega : i = 0 ∨ i = 1 ∨ i = 2 ∨ i = 3 ∨ i = 4 ∨ i = 5 ∨ i = 6 ∨ i = 7 ∨ i = 8 ∨ i = 9) with rfl | rfl | rfl | rfl | rfl | rfl | rfl | rfl | rfl | rfl <;> rfl⟩
  | j + 3, hx => simp [exK] at hx
theorem aw_pass (b0 b1 b2 b3 b4 b5 b6 b7 : Nat) (w : World) (t0 t1 t3 t7 : TypeId)
    (h0 : w.heap[b0]? = some (.cells #[.int .i64 2, .int .i64 0, .int .i64 0, .int .i64 0, .int .i64 2, .int .i64 0, .int .i64 0, .int .i64 0] t0 (0, 0)))
    (h1 : w.heap[b1]? = some (.cells #[.bool true, .bool true] t1 (0, 0)))
    (h2 : w.heap[b2]? = some (.cells #[.int .i64 0] 3 (0, 0)))
    (h3 : w.heap[b3]? = some (.cells #[.slice (some ⟨b2, 0, none⟩) 1 1, .int .i64 2, .int .i64 0, .int .i64 0, .int .i64 0, .int .i64 4] t3 (0, 0)))
    (h4 : w.heap[b4]? = some (.cells #[.int .i64 0, .int .i64 1] 3 (0, 0))) (h5 : w.heap[b5]? = some (.cells #[.int .i64 0, .int .i64 1] 3 (0, 0))) (h6 : w.heap[b6]? = some (.cells #[.int .i64 0, .int .i64 1] 3 (0, 0)))
    (h7 : w.heap[b7]? = some (.cells #[.int .i64 1, .slice (some ⟨b4, 0, none⟩) 2 2, .int .i64 2, .int .i64 2, .int .i64 0, .int .i64 0, .int .i64 0, .int .i64 3, .int .i64 (-1), .slice none 0 0, .int .i64 2, .slice (some ⟨b5, 0, none⟩) 2 2, .int .i64 1, .int .i64 2, .int .i64 0, .int .i64 0, .int .i64 0, .int .i64 4, .int .i64 (-1), .slice none 0 0, .int .i64 3, .slice (some ⟨b6, 0, none⟩) 2 2, .int .i64 1, .int .i64 2, .int .i64 0, .int .i64 0, .int .i64 0, .int .i64 5, .int .i64 (-1), .slice none 0 0] t7 (0, 0))) :
    Calls Try.prog 12 #[.slice (some ⟨b0, 0, none⟩) 2 2, .slice (some ⟨b1, 0, none⟩) 2 2, .int .i64 0, .slice (some ⟨b3, 0, none⟩) 1 1, .slice (some ⟨b7, 0, none⟩) 3 3] w (AwPost w) := by
  have two01 : ∀ b, w.heap[b]? = some (.cells #[.int .i64 0, .int .i64 1] 3 (0, 0)) → Ns w (some ⟨b, 0, none⟩) [0, 1] := fun b hb => Ns.lit hb fun i z hz => by
    match i, hz with
    | 0, hz => simp at hz; simp [hz]
    | 1, hz => simp at hz; simp [hz]
    | i + 2, hz => simp at hz
  have hV : Vs w (some ⟨b0, 0, none⟩) [v2, v2] := .inr ⟨b0, 0, rfl, lt_of h0, fun i x hx => by
    match i, hx with
    | 0, hx => cases hx; exact ⟨cell_of h0 0, cell_of h0 1, cell_of h0 2, cell_of h0 3⟩
    | 1, hx => cases hx; exact ⟨cell_of h0 4, cell_of h0 5, cell_of h0 6, cell_of h0 7⟩
    | i + 2, hx => simp at hx⟩
  have hB : Bs w (some ⟨b1, 0, none⟩) [true, true] := .inr ⟨b1, 0, rfl, lt_of h1, fun i x hx => by
    match i, hx with
    | 0, hx => cases hx; exact cell_of h1 0
    | 1, hx => cases hx; exact cell_of h1 1
    | i + 2, hx => simp at hx⟩
  have hH : Hds w w (some ⟨b3, 0, none⟩) (exH (some ⟨b2, 0, none⟩)) := .inr ⟨b3, 0, rfl, lt_of h3, fun j x hx => by
    match j, hx with
    | 0, hx =>
      cases hx
      refine ⟨_, ⟨rfl, ⟨Ns.lit h2 fun i z hz => ?_, (show 1 ≤ 9223372036854775807 by decide), (show i64 4 by unfold i64; omega)⟩⟩, rfl, fun i hi => ?_⟩
      · match i, hz with
        | 0, hz => simp at hz; simp [hz]
        | i + 1, hz => simp at hz
      · rw [cell_of h3]
        rcases (by omega : i = 0 ∨ i = 1 ∨ i = 2 ∨ i = 3 ∨ i = 4 ∨ i = 5) with rfl | rfl | rfl | rfl | rfl | rfl <;> rfl
    | j + 1, hx => simp [exH] at hx⟩
  have hK := ask_row h7 (two01 b4 h4) (two01 b5 h5) (two01 b6 h6)
  obtain ⟨o1, o2⟩ := ex_opn (some ⟨b2, 0, none⟩)
  obtain ⟨s0, s1, s2⟩ := ex_slots (some ⟨b4, 0, none⟩) (some ⟨b5, 0, none⟩) (some ⟨b6, 0, none⟩)
  refine Calls.mono (R := PassPost w [v2, v2] [true, true] 0 (exH (some ⟨b2, 0, none⟩)) (exK (some ⟨b4, 0, none⟩) (some ⟨b5, 0, none⟩) (some ⟨b6, 0, none⟩))) (pass_any (some ⟨b0, 0, none⟩) 2 [v2, v2] (some ⟨b1, 0, none⟩) 2 [true, true] 0 (some ⟨b3, 0, none⟩) 1 (exH (some ⟨b2, 0, none⟩)) (some ⟨b7, 0, none⟩) 3 (exK (some ⟨b4, 0, none⟩) (some ⟨b5, 0, none⟩) (some ⟨b6, 0, none⟩)) w hV (by decide) hB (by decide) (by unfold i64; omega) hH (show 1 ≤ 9223372036854775807 by decide) hK (show 3 ≤ 1000 by decide)) ?_
  rintro e w' ⟨hb, ⟨_, hno⟩ | ⟨br, rfl, _, hbr, cs, c1, c2, c3⟩⟩
  · exact absurd o1 hno
  · change ∀ j, j < 3 → SlotAt w' cs 0 (fun _ => 0) w.heap.size (slot [true, true] 2 exW 0 (hFl 2 0 (fun i _ => wsF [v2, v2] i) (hdF (exH (some ⟨b2, 0, none⟩))) 1) (akF (exK (some ⟨b4, 0, none⟩) (some ⟨b5, 0, none⟩) (some ⟨b6, 0, none⟩))) 3 j) j at c3
    rw [o2] at c3
    have k0 := c3 0 (by omega)
    have k1 := c3 1 (by omega)
    have k2 := c3 2 (by omega)
    rw [s0] at k0
    rw [s1] at k1
    rw [s2] at k2
    obtain ⟨_, _, _, m0, _⟩ := k0
    obtain ⟨A1, d1, _, m1, m2, _, m3, _⟩ := k1
    obtain ⟨A2, d2, _, m4, m5, _, m6, _⟩ := k2
    exact ⟨br, A1, d1, A2, d2, rfl, hb, (cell_of c1 1).trans m0, (cell_of c1 4).trans m1, (cell_of c1 5).trans m2, (cell_of c1 7).trans m4, (cell_of c1 8).trans m5, m3, m6, lt_of c1⟩
theorem same_one (A C : Option Addr) (c1 c2 : Nat) (x : Int) (w : World) (ha : Ns w A [x]) (hc : Ns w C [x]) : Calls Try.prog 21 #[.slice A 1 c1, .slice C 1 c2] w fun e w' => e = .returned (.bool true) ∧ Below w.heap.size w w' := same_ints A C c1 c2 [x] w ha hc (show 1 ≤ 1000000 by decide)
theorem heap_newS {w : World} {o : Obj} {n : Nat} (h : w.heap.size = n) : (w.alloc o).heap[n]? = some o := by
  subst h
  exact heap_new w o
set_option maxRecDepth 100000 in
set_option maxHeartbeats 4000000 in
theorem awake_any (w : World) : Calls Try.prog 8 #[] w fun e w' => e = .returned (.bool true) ∧ Below w.heap.size w w' := by
  have KP := hid aw_pass
  have KS := hid same_one
  go_enter Try.func8, Try.ntmps8
  go_wp2_with fail
  have HP := hid (KP.out w.heap.size (w.heap.size + 1) (w.heap.size + 1 + 1) (w.heap.size + 1 + 1 + 1) (w.heap.size + 1 + 1 + 1 + 1) (w.heap.size + 1 + 1 + 1 + 1 + 1) (w.heap.size + 1 + 1 + 1 + 1 + 1 + 1) (w.heap.size + 1 + 1 + 1 + 1 + 1 + 1 + 1) ((((((((w.alloc (.cells #[.int .i64 2, .int .i64 0, .int .i64 0, .int .i64 0, .int .i64 2, .int .i64 0, .int .i64 0, .int .i64 0] 40)).alloc (.cells #[.bool true, .bool true] 4)).alloc (.cells #[.int .i64 0] 3)).alloc (.cells #[.slice (some ⟨w.heap.size + 1 + 1, 0, none⟩) 1 1, .int .i64 2, .int .i64 0, .int .i64 0, .int .i64 0, .int .i64 4] 53)).alloc (.cells #[.int .i64 0, .int .i64 1] 3)).alloc (.cells #[.int .i64 0, .int .i64 1] 3)).alloc (.cells #[.int .i64 0, .int .i64 1] 3)).alloc (.cells #[.int .i64 1, .slice (some ⟨w.heap.size + 1 + 1 + 1 + 1, 0, none⟩) 2 2, .int .i64 2, .int .i64 2, .int .i64 0, .int .i64 0, .int .i64 0, .int .i64 3, .int .i64 (-1), .slice none 0 0, .int .i64 2, .slice (some ⟨w.heap.size + 1 + 1 + 1 + 1 + 1, 0, none⟩) 2 2, .int .i64 1, .int .i64 2, .int .i64 0, .int .i64 0, .int .i64 0, .int .i64 4, .int .i64 (-1), .slice none 0 0, .int .i64 3, .slice (some ⟨w.heap.size + 1 + 1 + 1 + 1 + 1 + 1, 0, none⟩) 2 2, .int .i64 1, .int .i64 2, .int .i64 0, .int .i64 0, .int .i64 0, .int .i64 5, .int .i64 (-1), .slice none 0 0] 42)) 40 4 53 42
    (by repeat (first | (refine heap_newS ?_; simp; done) | refine heapA ?_)) (by repeat (first | (refine heap_newS ?_; simp; done) | refine heapA ?_)) (by repeat (first | (refine heap_newS ?_; simp; done) | refine heapA ?_)) (by repeat (first | (refine heap_newS ?_; simp; done) | refine heapA ?_)) (by repeat (first | (refine heap_newS ?_; simp; done) | refine heapA ?_)) (by repeat (first | (refine heap_newS ?_; simp; done) | refine heapA ?_)) (by repeat (first | (refine heap_newS ?_; simp; done) | refine heapA ?_)) (by repeat (first | (refine heap_newS ?_; simp; done) | refine heapA ?_)))
  with_reducible refine HP.out.mono ?_
  rintro _ w1 ⟨br, A1, c1, A2, c2, rfl, hb, x1, x4, x5, x7, x8, n1, n2, hbr⟩
  have g1 := hid (show Below w.heap.size w w1 from (show Below w.heap.size w _ by go_grown).trans (hb.mono (by simp; omega)))
  have N1 := hid n1
  have N2 := hid n2
  clear HP KP hb n1 n2
  go_wp2_with fail
  have g2 := hid (g1.out.alloc g1.out.size (.cells #[.int .i64 1] 3))
  have K1 := hid (KS.out A1 (some ⟨w1.heap.size, 0, none⟩) c1 1 1 _ (N1.out.keep ((Below.refl _ _).alloc (Nat.le_refl _) (.cells #[.int .i64 1] 3))) Ns.lit1)
  with_reducible refine K1.out.mono ?_
  rintro _ w2 ⟨rfl, hb⟩
  have g3 := hid (below_step g2.out g2.out.size hb)
  have hA : Below w1.heap.size w1 w2 := ((Below.refl _ _).alloc (Nat.le_refl _) _).trans (hb.mono (by simp))
  have y7 : w2.cell? ⟨br, 7, none⟩ = some (.int .i64 7) := by rw [hA.cell (p := ⟨br, 7, none⟩) hbr]; exact x7
  have y8 : w2.cell? ⟨br, 8, none⟩ = some (.slice A2 1 c2) := by rw [hA.cell (p := ⟨br, 8, none⟩) hbr]; exact x8
  have N3 := hid (N2.out.keep hA)
  clear hb hA K1 x1 x4 x5 x7 x8
  go_wp2_with fail
  have g4 := hid (g3.out.alloc g3.out.size (.cells #[.int .i64 0] 3))
  have K2 := hid (KS.out A2 (some ⟨w2.heap.size, 0, none⟩) c2 1 0 _ (N3.out.keep ((Below.refl _ _).alloc (Nat.le_refl _) (.cells #[.int .i64 0] 3))) Ns.lit1)
  with_reducible refine K2.out.mono ?_
  rintro _ w3 ⟨rfl, hb⟩
  have g5 := hid (below_step g4.out g4.out.size hb)
  clear hb K2
  go_wp2_with fail
  go_returns
  exact ⟨rfl, g5.out⟩
end Go.Proofs.Ythkofnahimlijaa
namespace Go.Proofs.Ythkofnahimlijaa
open Go Go.RowKit
noncomputable def passS (xs : List V4) (up : List Bool) (now : Int) (hs : List Hd) (ks : List Ak) : Nat → Slt := slot up xs.length (wsF xs) now (hFl xs.length now (fun i _ => wsF xs i) (hdF hs) hs.length) (akF ks) ks.length
/-- The slots that were told: none, or a row of new memory. -/
def OutRow (w w' : World) (sa : Option Addr) (m : Nat) (E : Int) (N : Nat) (S : Nat → Slt) : Prop := (E ≠ 0 ∧ m = 0 ∧ sa = none) ∨ (E = 0 ∧ m = N ∧ ∃ br, sa = some ⟨br, 0, none⟩ ∧ w.heap.size ≤ br ∧ SRow w' br m 0 (fun _ => 0) w.heap.size S m)
def PassOut (w : World) (xs : List V4) (up : List Bool) (now : Int) (hs : List Hd) (ks : List Ak) (e : Ending) (w' : World) : Prop := ∃ (sa : Option Addr) (m : Nat), e = .returned (.tuple #[.slice sa m m, .int .i64 (opnE xs up now (hdF hs) hs.length)]) ∧ Below w.heap.size w w' ∧ OutRow w w' sa m (opnE xs up now (hdF hs) hs.length) ks.length (passS xs up now hs ks)
theorem pass_out {w w' : World} {xs : List V4} {up : List Bool} {now : Int} {hs : List Hd} {ks : List Ak} {e : Ending} (h : PassPost w xs up now hs ks e w') : PassOut w xs up now hs ks e w' := by
  obtain ⟨hb, ⟨rfl, hno⟩ | ⟨br, rfl, h0, hbr, hr⟩⟩ := h
  · exact ⟨none, 0, rfl, hb, .inl ⟨hno, rfl, rfl⟩⟩
  · exact ⟨_, _, by rw [h0], hb, .inr ⟨h0, rfl, br, rfl, hbr, hr⟩⟩
theorem OutRow.len {w w' : World} {sa : Option Addr} {m : Nat} {E : Int} {N : Nat} {S : Nat → Slt} (h : OutRow w w' sa m E N S) : m ≤ N := by
  rcases h with ⟨_, rfl, _⟩ | ⟨_, rfl, _⟩ <;> omega
theorem OutRow.keep {w w' w2 : World} {sa : Option Addr} {m : Nat} {E : Int} {N : Nat} {S : Nat → Slt} (h : OutRow w w' sa m E N S) (hb : Below w'.heap.size w' w2) : OutRow w w2 sa m E N S := by
  rcases h with h | ⟨h1, h2, br, h3, h4, h5⟩
  · exact .inl h
  · exact .inr ⟨h1, h2, br, h3, h4, h5.keep hb⟩
theorem OutRow.at {w w' : World} {sa : Option Addr} {m : Nat} {E : Int} {N : Nat} {S : Nat → Slt} (h : OutRow w w' sa m E N S) {j : Nat} (hj : j < m) : ∃ br A cap, sa = some ⟨br, 0, none⟩ ∧ br < w'.heap.size ∧ w'.cell? ⟨br, j * 3, none⟩ = some (.int .i64 (S j).id) ∧ w'.cell? ⟨br, j * 3 + 1, none⟩ = some (.int .i64 (S j).t) ∧ w'.cell? ⟨br, j * 3 + 2, none⟩ = some (.slice A (S j).l.length cap) ∧ (S j).l.length ≤ cap ∧ Ns w' A (intL (S j).l) := by
  rcases h with ⟨_, rfl, _⟩ | ⟨_, _, br, h3, _, cs, h5, h6, h7⟩
  · omega
  · obtain ⟨A, cap, k1, k2, k3, k4, k5, _⟩ := h7 j hj
    exact ⟨br, A, cap, h3, lt_of h5, by rw [cell_of h5]; exact k1, by rw [cell_of h5]; exact k2, by rw [cell_of h5]; exact k3, k4, k5⟩
theorem RowOf.of_in {W W' w : World} {A : Option Addr} {xs : List Hd} (h : RowOf w A 6 (fun h cs => cs = h.cells ∧ h.In W) xs) (hb : ∀ x : Hd, x.In W → x.In W') : RowOf w A 6 (fun h cs => cs = h.cells ∧ h.In W') xs := by
  rcases h with h | ⟨b, off, e, hlt, hc⟩
  · exact .inl h
  · exact .inr ⟨b, off, e, hlt, fun j x hx => by
      obtain ⟨cs, ⟨k1, k2⟩, k3⟩ := hc j x hx
      exact ⟨cs, ⟨k1, hb x k2⟩, k3⟩⟩
theorem RowOf.of_in2 {W W' w : World} {A : Option Addr} {xs : List Ak} (h : RowOf w A 10 (fun h cs => cs = h.cells ∧ h.In W) xs) (hb : ∀ x : Ak, x.In W → x.In W') : RowOf w A 10 (fun h cs => cs = h.cells ∧ h.In W') xs := by
  rcases h with h | ⟨b, off, e, hlt, hc⟩
  · exact .inl h
  · exact .inr ⟨b, off, e, hlt, fun j x hx => by
      obtain ⟨cs, ⟨k1, k2⟩, k3⟩ := hc j x hx
      exact ⟨cs, ⟨k1, hb x k2⟩, k3⟩⟩
theorem slt_up {up : List Bool} {n : Nat} {now : Int} {F : Nat → Int → V4} {a : Ak} {i : Nat} (hi : i ∈ (slt up n now F a).l) : i < up.length ∧ up.getD i false = true := by
  by_cases h : 0 ≤ (slt up n now F a).t
  · obtain ⟨h1, h2⟩ := slt_found h
    obtain ⟨_, _, h3, _⟩ := fnd_gang h1 h2
    obtain ⟨k1, k2, _⟩ := plcN_mem.1 (h3 i hi).2.1
    exact ⟨k1, k2⟩
  · rw [(slt_not h).1] at hi
    simp at hi
theorem slt_len {up : List Bool} {n : Nat} {now : Int} {F : Nat → Int → V4} {a : Ak} : (slt up n now F a).l.length ≤ 16 := by
  by_cases h : 0 ≤ (slt up n now F a).t
  · rw [(slt_found h).2, List.length_take]
    have := openL_le n F (intL (plcN up a.pl)) (slt up n now F a).t ((slt up n now F a).t + a.k) a.v
    omega
  · rw [(slt_not h).1]
    simp
theorem plcN_down (n : Nat) (pl : List Int) : plcN (List.replicate n false) pl = [] := by
  rw [List.eq_nil_iff_forall_not_mem]
  intro i hi
  have h := (plcN_mem.1 hi).2.1
  rw [List.getD_eq_getElem?_getD, List.getElem?_replicate] at h
  split at h <;> simp at h
theorem openL_nil (n : Nat) (F : Nat → Int → V4) (a c : Int) (v : V4) : openL n F [] a c v = [] := by
  rw [List.eq_nil_iff_forall_not_mem]
  intro i hi
  unfold openL at hi
  have := (cntL_mem.1 (List.mem_filter.1 hi).1).2.2
  simp at this
theorem slt_down (k n : Nat) (now : Int) (F : Nat → Int → V4) (a : Ak) : slt (List.replicate k false) n now F a = ⟨a.id, -1, []⟩ := slt_none fun t ht => by
  have h1 := ht.2.1
  have h2 := ht.2.2.2.2.2.2.1
  rw [plcN_down, show intL [] = [] from rfl, openL_nil] at h2
  simp at h2
  omega
theorem made_bs {w : World} {b n : Nat} (h : w.heap[b]? = some (.cells (madeCells #[.bool false] n) 4 (0, 0))) : Bs w (some ⟨b, 0, none⟩) (List.replicate n false) := .inr ⟨b, 0, rfl, lt_of h, fun i x hx => by
  rw [List.getElem?_replicate] at hx
  split at hx
  · next hi =>
    cases hx
    rw [cell_of h]
    simp [madeCells, hi, Nat.mod_one]
  · cases hx⟩
theorem passS_down {xs : List V4} {n : Nat} {now : Int} {hs : List Hd} {ks : List Ak} (j : Nat) : (passS xs (List.replicate n false) now hs ks j).t = -1 ∧ (passS xs (List.replicate n false) now hs ks j).l = [] := by
  unfold passS slot
  rw [slt_down]
  exact ⟨rfl, rfl⟩
theorem ask_one {w : World} {b : Nat} {t : TypeId} {a : Ak} (h : w.heap[b]? = some (.cells #[.int .i64 a.id, .slice a.A a.pl.length a.cap, .int .i64 a.m, .int .i64 a.v.a, .int .i64 a.v.b, .int .i64 a.v.c, .int .i64 a.v.d, .int .i64 a.k, .int .i64 a.s, .slice a.G a.g.length a.gc] t (0, 0))) (ha : a.In w) : Aks w w (some ⟨b, 0, none⟩) [a] := .inr ⟨b, 0, rfl, lt_of h, fun j x hx => by
  match j, hx with
  | 0, hx =>
    cases hx
    refine ⟨_, ⟨rfl, ha⟩, rfl, fun i hi => ?_⟩
    rw [cell_of h]
    rcases (by omega : i = 0 ∨ i = 1 ∨ i = 2 ∨ i = 3 ∨ i = 4 ∨ i = 5 ∨ i = 6 ∨ i = 7 ∨ i = 8 ∨ i = 9) with rfl | rfl | rfl | rfl | rfl | rfl | rfl | rfl | rfl | rfl <;> rfl
  | j + 1, hx => simp at hx⟩
theorem Ak.In.keep {a : Ak} {W w : World} (h : a.In W) (hb : Below W.heap.size W w) : a.In w := ⟨h.p.keep hb, h.pl, h.g.keep hb, h.gl, h.gc, h.m, h.k, h.s⟩
theorem Hd.In.keep {a : Hd} {W w : World} (h : a.In W) (hb : Below W.heap.size W w) : a.In w := ⟨h.n.keep hb, h.len, h.u⟩
theorem Sc.In.keep {s : Sc} {W w : World} (h : s.In W) (hb : Below W.heap.size W w) : s.In w := ⟨h.x.keep hb, h.xl, h.u.keep hb, h.ul, h.n, RowOf.of_in (h.h.keep hb) (fun _ h1 => h1.keep hb), h.hl, RowOf.of_in2 (h.k.keep hb) (fun _ h1 => h1.keep hb), h.kl⟩
/-- Pass at a scene. -/
theorem scene_pass (s : Sc) (w : World) (h : s.In w) (hu : s.up.length ≤ 20) (hk : s.ks.length ≤ 11) : Calls Try.prog 12 #[.slice s.A s.xs.length s.cap, .slice s.U s.up.length s.ucap, .int .i64 s.now, .slice s.H s.hs.length s.hcap, .slice s.K s.ks.length s.kcap] w (PassOut w s.xs s.up s.now s.hs s.ks) :=
  (pass_any s.A s.cap s.xs s.U s.ucap s.up s.now s.H s.hcap s.hs s.K s.kcap s.ks w h.x h.xl h.u (by omega) h.n h.h h.hl h.k (by omega)).mono fun _ _ h => pass_out h
theorem cnt_plc {n : Nat} {up : List Bool} (pl : List Int) (hu : up.length = n) (hn : n ≤ 16) : cntL n (intL (plcN up pl)) 16 = plcN up pl := by
  have hinj : (cntL n (intL (plcN up pl)) 16).map (fun i : Nat => (i : Int)) = (plcN up pl).map (fun i : Nat => (i : Int)) := by
    refine sorted_ext ?_ ?_ fun x => ?_
    · rw [List.pairwise_map]
      unfold cntL
      refine List.Pairwise.filter _ ?_
      exact List.pairwise_lt_range.imp fun h => by omega
    · rw [List.pairwise_map]
      exact (plcN_pair up pl).imp fun h => by omega
    · rw [List.mem_map, List.mem_map]
      constructor
      · rintro ⟨i, hi, rfl⟩
        exact ⟨i, mem_intL.1 (cntL_mem.1 hi).2.2, rfl⟩
      · rintro ⟨i, hi, rfl⟩
        have := (plcN_mem.1 hi).1
        exact ⟨i, cntL_mem.2 ⟨by omega, by omega, mem_intL.2 hi⟩, rfl⟩
  have h2 := congrArg (List.map Int.toNat) hinj
  rw [List.map_map, List.map_map] at h2
  have e : (Int.toNat ∘ fun i : Nat => (i : Int)) = id := by
    funext i
    simp
  rw [e, List.map_id, List.map_id] at h2
  exact h2
/-- How many places of an ask have what it asks for. -/
def fitN (xs : List V4) (up : List Bool) (a : Ak) : Nat := ((plcN up a.pl).filter fun i => a.v.leB (wsF xs i)).length
def fitK (xs : List V4) (up : List Bool) (a : Ak) (k : Nat) : Nat := (((plcN up a.pl).take k).filter fun i => a.v.leB (wsF xs i)).length
theorem fitK_succ {xs : List V4} {up : List Bool} {a : Ak} {k x : Nat} (h : (plcN up a.pl)[k]? = some x) : fitK xs up a (k + 1) = if a.v.leB (wsF xs x) = true then fitK xs up a k + 1 else fitK xs up a k := by
  unfold fitK
  have hk := (List.getElem?_eq_some_iff.1 h)
  rw [List.take_succ_eq_append_getElem hk.1, hk.2, List.filter_append, List.length_append]
  split
  · next hb => rw [List.filter_cons_of_pos (by simpa using hb)]; rfl
  · next hb => rw [List.filter_cons_of_neg (by simpa using hb)]; rfl
theorem fitK_all {xs : List V4} {up : List Bool} {a : Ak} : fitK xs up a (plcN up a.pl).length = fitN xs up a := by
  unfold fitK fitN
  rw [List.take_length]
theorem fitK_le {xs : List V4} {up : List Bool} {a : Ak} (k : Nat) : fitK xs up a k ≤ k := by
  unfold fitK
  refine Nat.le_trans (List.length_filter_le _ _) ?_
  rw [List.length_take]
  omega
def fitB (xs : List V4) (up : List Bool) (now : Int) (a : Ak) : Bool := askB a && (decide (a.m ≤ (fitN xs up a : Int)) && decide (a.k ≤ 1099511627776 - now))
theorem open_const {xs : List V4} {up : List Bool} {a : Ak} (hu : up.length = xs.length) (hn : xs.length ≤ 16) {t : Int} (hk : 0 < a.k) : openL xs.length (fun i _ => wsF xs i) (intL (plcN up a.pl)) t (t + a.k) a.v = (plcN up a.pl).filter fun i => a.v.leB (wsF xs i) := by
  unfold openL
  rw [cnt_plc a.pl hu hn]
  congr 1
  funext i
  rw [Bool.eq_iff_iff, opB_iff, V4.leB_iff]
  exact ⟨fun h => h t (Int.le_refl _) (by omega), fun h _ _ _ => h⟩
theorem one_slot {xs : List V4} {up : List Bool} {now : Int} {a : Ak} (hE : opnE xs up now (hdF []) 0 = 0) (ha : a.s = -1) : (passS xs up now [] [a] 0).t = if fitB xs up now a = true then now else -1 := by
  obtain ⟨h1, h2, h3, h4, _⟩ := opnE_zero hE
  have hn : xs.length ≤ 16 := by
    unfold WhB at h1
    rw [Bool.and_eq_true] at h1
    exact of_decide_eq_true h1.1
  have e0 : passS xs up now [] [a] 0 = slt up xs.length now (fun i _ => wsF xs i) a := by
    show slt up xs.length now (fA up xs.length (wsF xs) now (fun i _ => wsF xs i) (akF [a]) 1 0) a = _
    have e1 : fA up xs.length (wsF xs) now (fun i _ => wsF xs i) (akF [a]) 1 0 = fun i _ => wsF xs i := by
      unfold fA gB
      have e2 : kB up xs.length now (fun i _ => wsF xs i) (akF [a]) 0 = false := by
        unfold kB
        rw [show ((akF [a]) 0).s = -1 from ha]
        rfl
      rw [e2, if_neg (by decide)]
      show kFl up xs.length now (fun i _ => wsF xs i) (akF [a]) 1 = _
      show (if 0 ≤ ((akF [a]) 0).s then _ else _) = _
      rw [show ((akF [a]) 0).s = -1 from ha, if_neg (by decide)]
      rfl
    rw [e1]
  rw [e0]
  cases hf : fitB xs up now a with
  | true =>
    unfold fitB at hf
    simp only [Bool.and_eq_true, decide_eq_true_eq] at hf
    obtain ⟨k1, k2, k3⟩ := hf
    have k4 := k1
    unfold askB at k4
    simp only [Bool.and_eq_true, decide_eq_true_eq] at k4
    have hF : Fnd up xs.length now (fun i _ => wsF xs i) a now := ⟨k1, by omega, by omega, k4.2, by omega, by omega, by
      rw [open_const h2 hn k4.1.2]
      unfold fitN at k2
      omega, fun u u1 u2 => by omega⟩
    rw [slt_some hF]
    rfl
  | false =>
    rw [slt_none]
    · rfl
    · rintro t ⟨k1, k2, k3, k4, k5, k6, k7, _⟩
      have k8 := k1
      unfold askB at k8
      simp only [Bool.and_eq_true, decide_eq_true_eq] at k8
      rw [open_const h2 hn k8.1.2] at k7
      unfold fitB at hf
      rw [k1, Bool.true_and] at hf
      have : (decide (a.m ≤ (fitN xs up a : Int)) && decide (a.k ≤ 1099511627776 - now)) = true := by
        simp only [Bool.and_eq_true, decide_eq_true_eq]
        unfold fitN
        exact ⟨by omega, by omega⟩
      rw [hf] at this
      cases this
theorem opnE_none {xs : List V4} {up : List Bool} {now : Int} {hs : List Hd} (h : opnE xs up now (hdF []) 0 ≠ 0) : opnE xs up now (hdF []) 0 = 1 ∧ opnE xs up now (hdF hs) hs.length = 1 := by
  by_cases hv : WhB xs = true ∧ up.length = xs.length ∧ 0 ≤ now ∧ now < 1099511627776
  · rw [opnE_go hv] at h
    exact absurd rfl h
  · exact ⟨opnE_bad hv, opnE_bad hv⟩
end Go.Proofs.Ythkofnahimlijaa
