/- plan's turn: where an ask may go; what was kept for it is given back by a deferred call. Conditions: what came in stands in memory. plan's open: a book in which the holds are taken. Conditions: what came in stands in memory. A pass under way: what is kept, which slots are promised; the closure that promises. Conditions: what came in stands in memory. What stays in a pass under way. Conditions: none. plan.Pass: what each ask is promised. Conditions: what came in stands in memory. -/
import Derived.Test.YthkofnahimlijaaPlanA
import Derived.Deep.QuietTactic
import Derived.BigQuiet
import Derived.RegionTactic
import Derived.WalkMore
namespace Go.Proofs.Ythkofnahimlijaa
open Go Go.RowKit
def tnL (up : List Bool) (a : Ak) : List Nat := if askB a = true then plcN up a.pl else []
def TnPost (w : World) (bb q : Nat) (sv : Value) (n : Nat) (ps : Nat → Nat) (Ws : Nat → V4) (fs : Nat → Int → V4) (U : Option Addr) (ucap : Nat) (up : List Bool) (now : Int) (a : Ak) (kept : Bool) (e : Ending) (w' : World) : Prop :=
  ∃ A cap, e = .returned (.tuple #[.slice A (intL (tnL up a)).length cap, .bool (askB a)]) ∧ Ns w' A (intL (tnL up a)) ∧ Bo w' bb q sv n ps Ws (gB n Ws now fs a kept) U ucap up now ∧ FrP w w' n ps
theorem own_ap {w : World} {v : Value} {l : List Nat} {q : Nat} {sv : Value} {n : Nat} {ps : Nat → Nat} {Ws : Nat → V4} {fs : Nat → Int → V4} {B : Nat} (h : w.ownsRow B 3 1 v l.length (nums l)) (hp : PL w q sv n ps Ws fs) : ∃ A cap, v = .slice A (intL l).length cap ∧ Ns w A (intL l) ∧ Apart A n ps := by
  rcases Nl.of_any h with ⟨rfl, rfl⟩ | ⟨b, cap, rfl, hB, hn⟩
  · exact ⟨none, 0, rfl, .inl rfl, Apart.none _ _⟩
  · refine ⟨some ⟨b, 0, none⟩, cap, by rw [intL_len], hn.ns, ?_⟩
    obtain ⟨cs, h1, _⟩ := hn
    intro x hx i hi
    cases hx
    exact hp.apart h1 (by decide) i hi
set_option maxRecDepth 100000 in
set_option maxHeartbeats 4000000 in
theorem pturn_no (bb q : Nat) (sv : Value) (n : Nat) (ps : Nat → Nat) (Ws : Nat → V4) (fs : Nat → Int → V4) (U : Option Addr) (ucap : Nat) (up : List Bool) (now : Int) (a : Ak) (w : World)
    (h : Bo w bb q sv n ps Ws fs U ucap up now) (hP : Ns w a.A a.pl) (hpl : a.pl.length ≤ 9223372036854775807) :
    Calls Try.prog 29 #[.pointer (some ⟨bb, 0, none⟩), .agg #[.int .i64 a.id, .slice a.A a.pl.length a.cap, .int .i64 a.m, .int .i64 a.v.a, .int .i64 a.v.b, .int .i64 a.v.c, .int .i64 a.v.d, .int .i64 a.k, .int .i64 a.s, .slice a.G a.g.length a.gc], .bool false] w (TnPost w bb q sv n ps Ws fs U ucap up now a false) := by
  have X0 := hid (heap_new w (.cells #[.int .i64 a.id, .slice a.A a.pl.length a.cap, .int .i64 a.m, .int .i64 a.v.a, .int .i64 a.v.b, .int .i64 a.v.c, .int .i64 a.v.d, .int .i64 a.k, .int .i64 a.s, .slice a.G a.g.length a.gc] 42))
  have g0 := hid (show Below w.heap.size w (w.alloc (.cells #[.int .i64 a.id, .slice a.A a.pl.length a.cap, .int .i64 a.m, .int .i64 a.v.a, .int .i64 a.v.b, .int .i64 a.v.c, .int .i64 a.v.d, .int .i64 a.k, .int .i64 a.s, .slice a.G a.g.length a.gc] 42)) from by go_grown)
  have HB := hid h
  have KR := hid (fun w1 => pright_any a w1)
  have KP := hid (fun w1 (hb : Below w.heap.size w w1) => places_any bb _ U ucap up now a w1 (h.keep hb).h (h.keep hb).u h.l (hP.keep hb) hpl)
  have HT : Hid (tnL up a = if askB a = true then plcN up a.pl else []) := hid rfl
  obtain ⟨x0, x1, x2, x3, x4, x5, x6, x7, x8, x9⟩ := ten X0.out
  clear h hP hpl
  obtain ⟨L, hL⟩ : ∃ L, L = tnL up a := ⟨_, rfl⟩
  rw [← hL] at HT
  have HL := hid hL
  clear hL
  unfold TnPost
  rw [← HL.out]
  cases hr : askB a with
  | false =>
    rw [hr] at KR HT
    rw [if_neg (by decide)] at HT
    rw [HT.out]
    clear hr
    go_enter_defers Try.func29, Try.ntmps29
    go_wp2_with (go_at_call 45; (with_reducible refine (KR.out _).mono ?_); rintro _ w3 ⟨rfl, hb⟩; have g3 := hid (below_step g0.out g0.out.size hb); clear hb)
    exact ⟨_, results_tmp2 rfl _ _ _, none, 0, rfl, .inl rfl, HB.out.keep g3.out, FrP.of n ps g3.out⟩
  | true =>
    rw [hr] at KR HT
    rw [if_pos rfl] at HT
    rw [HT.out]
    clear hr
    go_enter_defers Try.func29, Try.ntmps29
    go_wp2_with (first
      | (go_at_call 45; (with_reducible refine (KR.out _).mono ?_); rintro _ w3 ⟨rfl, hb⟩; have g3 := hid (below_step g0.out g0.out.size hb); have X3 := hid (keep0 hb X0.out); obtain ⟨y0, y1, y2, y3, y4, y5, y6, y7, y8, y9⟩ := ten X3.out; clear hb)
      | (go_at_call 46; (with_reducible refine (KP.out _ g3.out).mono ?_); rintro _ w4 ⟨pv, rfl, ho, hb⟩; obtain ⟨PA, pcap, rfl, hpn⟩ := own_ns2 ho; have g4 := hid (below_step g3.out g3.out.size hb); have HPN := hid hpn; clear hb ho hpn))
    exact ⟨_, results_tmp2 rfl _ _ _, PA, pcap, rfl, HPN.out, HB.out.keep g4.out, FrP.of n ps g4.out⟩
set_option maxRecDepth 100000 in
set_option maxHeartbeats 4000000 in
theorem pturn_yes (bb q : Nat) (sv : Value) (n : Nat) (ps : Nat → Nat) (Ws : Nat → V4) (fs : Nat → Int → V4) (U : Option Addr) (ucap : Nat) (up : List Bool) (now : Int) (a : Ak) (w : World)
    (h : Bo w bb q sv n ps Ws fs U ucap up now) (hP : Ns w a.A a.pl) (hpl : a.pl.length ≤ 9223372036854775807) (hG : Ns w a.G a.g) (hgl : a.g.length ≤ 9223372036854775807) (hgc : a.g.length ≤ a.gc) (hap : a.g ≠ [] → Apart a.G n ps) (hr : askB a = true) (hn0 : 0 ≤ now) (hs : max a.s now ≤ 1099511627776) (hk : a.k ≤ 1099511627776) :
    Calls Try.prog 29 #[.pointer (some ⟨bb, 0, none⟩), .agg #[.int .i64 a.id, .slice a.A a.pl.length a.cap, .int .i64 a.m, .int .i64 a.v.a, .int .i64 a.v.b, .int .i64 a.v.c, .int .i64 a.v.d, .int .i64 a.k, .int .i64 a.s, .slice a.G a.g.length a.gc], .bool true] w (TnPost w bb q sv n ps Ws fs U ucap up now a true) := by
  have X0 := hid (heap_new w (.cells #[.int .i64 a.id, .slice a.A a.pl.length a.cap, .int .i64 a.m, .int .i64 a.v.a, .int .i64 a.v.b, .int .i64 a.v.c, .int .i64 a.v.d, .int .i64 a.k, .int .i64 a.s, .slice a.G a.g.length a.gc] 42))
  have g0 := hid (show Below w.heap.size w (w.alloc (.cells #[.int .i64 a.id, .slice a.A a.pl.length a.cap, .int .i64 a.m, .int .i64 a.v.a, .int .i64 a.v.b, .int .i64 a.v.c, .int .i64 a.v.d, .int .i64 a.k, .int .i64 a.s, .slice a.G a.g.length a.gc] 42)) from by go_grown)
  have HB := hid h
  have KR := hid (fun w1 => pright_any a w1)
  rw [hr] at KR
  have KP := hid (fun w1 (hb : Below w.heap.size w w1) => places_any bb _ U ucap up now a w1 (h.keep hb).h (h.keep hb).u h.l (hP.keep hb) hpl)
  have KG := hid (fun w1 (hb : Below w.heap.size w w1) => give_all2D .returning q sv n ps Ws fs a.G a.gc a.g (max a.s now) (max a.s now + a.k) a.v w1 (h.keep hb).p (hG.keep hb) hgl hgc hap)
  have HT : Hid (tnL up a = plcN up a.pl) := hid (if_pos hr)
  have hk0 : 0 < a.k := by
    unfold askB at hr
    rw [Bool.and_eq_true] at hr
    exact (of_decide_eq_true hr.1).2
  obtain ⟨b0, b1, b2⟩ := tri (h.keep g0.out).h
  obtain ⟨x0, x1, x2, x3, x4, x5, x6, x7, x8, x9⟩ := ten X0.out
  have HWR := hid (show IntKind.i64.wrap (max a.s now + a.k) = max a.s now + a.k from IntWalk.i64_in _ (by omega))
  unfold TnPost
  rw [HT.out, hr]
  unfold gB
  rw [if_pos rfl]
  clear h hP hpl hG hap hr
  go_enter_defers Try.func29, Try.ntmps29
  go_wp2_with fail
  go_quiet (fail)
  all_goals go_wp2_with fail
  go_region_held3 (fun w' => w'.cell? ⟨bb, 0, none⟩ = some (.pointer (some ⟨q, 0, none⟩)) ∧ w'.cell? ⟨w.heap.size, 3, none⟩ = some (.int .i64 a.v.a) ∧ w'.cell? ⟨w.heap.size, 4, none⟩ = some (.int .i64 a.v.b) ∧ w'.cell? ⟨w.heap.size, 5, none⟩ = some (.int .i64 a.v.c) ∧ w'.cell? ⟨w.heap.size, 6, none⟩ = some (.int .i64 a.v.d) ∧ w'.cell? ⟨w.heap.size, 7, none⟩ = some (.int .i64 a.k) ∧ w'.cell? ⟨w.heap.size, 9, none⟩ = some (.slice a.G a.g.length a.gc)) (first | exact ⟨b0, x3, x4, x5, x6, x7, x9⟩ | go_keep) (fail)
  go_wp2_with (first
    | (go_at_call 45; (with_reducible refine (KR.out _).mono ?_); rintro _ w3 ⟨rfl, hb⟩; have g3 := hid (below_step (Below.drew (dN g0.out _)) (Below.drew (dN g0.out _)).size hb); have X3 := hid (keep0 hb X0.out); obtain ⟨y0, y1, y2, y3, y4, y5, y6, y7, y8, y9⟩ := ten X3.out; clear hb)
    | (go_at_call 46; (with_reducible refine (KP.out _ g3.out).mono ?_); rintro _ w4 ⟨pv, rfl, ho, hb⟩; obtain ⟨PA, pcap, rfl, hpn, hpa⟩ := own_ap ho (HB.out.keep (below_step g3.out g3.out.size hb)).p; have g4 := hid (below_step g3.out g3.out.size hb); have HPN := hid hpn; have HPA := hid hpa; clear hb ho hpn hpa))
  refine leaves_cons (f := 20) (args := #[.pointer (some ⟨q, 0, none⟩), .slice a.G a.g.length a.gc, .int .i64 (max a.s now), .int .i64 (max a.s now + a.k), .agg #[.int .i64 a.v.a, .int .i64 a.v.b, .int .i64 a.v.c, .int .i64 a.v.d]]) (by simp) (by simp [go_sem, HWR.out]) ?_
  refine (KG.out _ g4.out).mono ?_
  rintro e u' w5 ⟨rfl, ⟨y, rfl⟩, hp, hf⟩
  exact ⟨_, results_tmp2 rfl _ _ _, PA, pcap, rfl, HPN.out.fr hf HPA.out, (HB.out.keep g4.out).fr hp hf, (FrP.of n ps g4.out).trans hf⟩
theorem pturn_any (bb q : Nat) (sv : Value) (n : Nat) (ps : Nat → Nat) (Ws : Nat → V4) (fs : Nat → Int → V4) (U : Option Addr) (ucap : Nat) (up : List Bool) (now : Int) (a : Ak) (kept : Bool) (w : World)
    (h : Bo w bb q sv n ps Ws fs U ucap up now) (hP : Ns w a.A a.pl) (hpl : a.pl.length ≤ 9223372036854775807) (hG : Ns w a.G a.g) (hgl : a.g.length ≤ 9223372036854775807) (hgc : a.g.length ≤ a.gc) (hap : a.g ≠ [] → Apart a.G n ps) (hn0 : 0 ≤ now) (hk : kept = true → askB a = true ∧ max a.s now ≤ 1099511627776 ∧ a.k ≤ 1099511627776) :
    Calls Try.prog 29 #[.pointer (some ⟨bb, 0, none⟩), .agg #[.int .i64 a.id, .slice a.A a.pl.length a.cap, .int .i64 a.m, .int .i64 a.v.a, .int .i64 a.v.b, .int .i64 a.v.c, .int .i64 a.v.d, .int .i64 a.k, .int .i64 a.s, .slice a.G a.g.length a.gc], .bool kept] w (TnPost w bb q sv n ps Ws fs U ucap up now a kept) := by
  cases kept with
  | false => exact pturn_no bb q sv n ps Ws fs U ucap up now a w h hP hpl
  | true =>
    obtain ⟨h1, h2, h3⟩ := hk rfl
    exact pturn_yes bb q sv n ps Ws fs U ucap up now a w h hP hpl hG hgl hgc hap h1 hn0 h2 h3
end Go.Proofs.Ythkofnahimlijaa
namespace Go.Proofs.Ythkofnahimlijaa
open Go Go.RowKit
def Hd.cells (h : Hd) : List Value := [.slice h.G h.g.length h.gc, .int .i64 h.v.a, .int .i64 h.v.b, .int .i64 h.v.c, .int .i64 h.v.d, .int .i64 h.u]
/-- What is known of a hold that comes in. -/
structure Hd.In (h : Hd) (W : World) : Prop where
  n : Ns W h.G h.g
  len : h.g.length ≤ 9223372036854775807
  u : i64 h.u
def Hds (W w : World) (A : Option Addr) (xs : List Hd) : Prop := RowOf w A 6 (fun h cs => cs = h.cells ∧ h.In W) xs
theorem Hds.keep {W w w' : World} {A : Option Addr} {xs : List Hd} (h : Hds W w A xs) (hb : Below w.heap.size w w') : Hds W w' A xs := RowOf.keep h hb
theorem Hds.at {W w : World} {A : Option Addr} {xs : List Hd} (h : Hds W w A xs) {k : Nat} {x : Hd} (hk : xs[k]? = some x) : x.In W ∧ ∃ b off, A = some ⟨b, off, none⟩ ∧ b < w.heap.size ∧ w.cell? ⟨b, off + k * 6, none⟩ = some (.slice x.G x.g.length x.gc) ∧ w.cell? ⟨b, off + k * 6 + 1, none⟩ = some (.int .i64 x.v.a) ∧ w.cell? ⟨b, off + k * 6 + 2, none⟩ = some (.int .i64 x.v.b) ∧ w.cell? ⟨b, off + k * 6 + 3, none⟩ = some (.int .i64 x.v.c) ∧ w.cell? ⟨b, off + k * 6 + 4, none⟩ = some (.int .i64 x.v.d) ∧ w.cell? ⟨b, off + k * 6 + 5, none⟩ = some (.int .i64 x.u) := by
  rcases h with rfl | ⟨b, off, rfl, hlt, hc⟩
  · simp at hk
  · obtain ⟨cs, ⟨rfl, hin⟩, _, h3⟩ := hc k x hk
    exact ⟨hin, b, off, rfl, hlt, h3 0 (by omega), h3 1 (by omega), h3 2 (by omega), h3 3 (by omega), h3 4 (by omega), h3 5 (by omega)⟩
def hd0 : Hd := ⟨none, 0, [], V4.z, 0⟩
def hdF (xs : List Hd) : Nat → Hd := fun j => xs.getD j hd0
theorem Ns.apx {W : World} {A : Option Addr} {xs : List Int} {n : Nat} {ps : Nat → Nat} (h : Ns W A xs) (hp : ∀ i, i < n → W.heap.size ≤ ps i) : xs ≠ [] → Apart A n ps := by
  intro hx
  rcases h with e | ⟨b, off, rfl, hlt, _⟩
  · exact absurd e hx
  · exact Apart.old hp hlt
theorem Bs.apx {W : World} {A : Option Addr} {xs : List Bool} {n : Nat} {ps : Nat → Nat} (h : Bs W A xs) (hp : ∀ i, i < n → W.heap.size ≤ ps i) : xs ≠ [] → Apart A n ps := by
  intro hx
  rcases h with e | ⟨b, off, rfl, hlt, _⟩
  · exact absurd e hx
  · exact Apart.old hp hlt
def OpPost (w : World) (xs : List V4) (U : Option Addr) (ucap : Nat) (up : List Bool) (now : Int) (hs : List Hd) (e : Ending) (w' : World) : Prop :=
  Below w.heap.size w w' ∧ ((e = .returned (.tuple #[.pointer none, .int .i64 (opnE xs up now (hdF hs) hs.length)]) ∧ opnE xs up now (hdF hs) hs.length ≠ 0) ∨
  (∃ bb q sv ps, e = .returned (.tuple #[.pointer (some ⟨bb, 0, none⟩), .int .i64 0]) ∧ opnE xs up now (hdF hs) hs.length = 0 ∧ Bo w' bb q sv xs.length ps (wsF xs) (hFl xs.length now (fun i _ => wsF xs i) (hdF hs) hs.length) U ucap up now ∧ w.heap.size ≤ bb ∧ ∀ i, i < xs.length → w.heap.size ≤ ps i))
theorem six {w : World} {B : Nat} {a0 a1 a2 a3 a4 a5 : Value} {T : TypeId} (h : w.heap[B]? = some (.cells #[a0, a1, a2, a3, a4, a5] T (0, 0))) :
    w.cell? ⟨B, 0, none⟩ = some a0 ∧ w.cell? ⟨B, 1, none⟩ = some a1 ∧ w.cell? ⟨B, 2, none⟩ = some a2 ∧ w.cell? ⟨B, 3, none⟩ = some a3 ∧ w.cell? ⟨B, 4, none⟩ = some a4 ∧ w.cell? ⟨B, 5, none⟩ = some a5 := by
  refine ⟨?_, ?_, ?_, ?_, ?_, ?_⟩
  · rw [cell_of h 0]; rfl
  · rw [cell_of h 1]; rfl
  · rw [cell_of h 2]; rfl
  · rw [cell_of h 3]; rfl
  · rw [cell_of h 4]; rfl
  · rw [cell_of h 5]; rfl
theorem opnE_bad {xs : List V4} {up : List Bool} {now : Int} {hl : Nat → Hd} {M : Nat} (h : ¬ (WhB xs = true ∧ up.length = xs.length ∧ 0 ≤ now ∧ now < 1099511627776)) : opnE xs up now hl M = 1 := by
  unfold opnE
  rw [if_neg]
  intro h1
  simp only [Bool.and_eq_true, decide_eq_true_eq] at h1
  exact h ⟨h1.1.1, h1.1.2, h1.2.1, h1.2.2⟩
theorem opnE_go {xs : List V4} {up : List Bool} {now : Int} {hl : Nat → Hd} {M : Nat} (h : WhB xs = true ∧ up.length = xs.length ∧ 0 ≤ now ∧ now < 1099511627776) : opnE xs up now hl M = hE xs.length now (fun i _ => wsF xs i) hl M := by
  unfold opnE
  rw [if_pos]
  simp only [Bool.and_eq_true, decide_eq_true_eq]
  exact ⟨⟨h.1, h.2.1⟩, h.2.2⟩
set_option maxRecDepth 100000 in
set_option maxHeartbeats 4000000 in
theorem popen_any (A : Option Addr) (cap : Nat) (xs : List V4) (U : Option Addr) (ucap : Nat) (up : List Bool) (now : Int) (H : Option Addr) (hcap : Nat) (hs : List Hd) (w : World) (hN : Vs w A xs) (hl : xs.length ≤ 9223372036854775807) (hU : Bs w U up) (hul : up.length ≤ 1000) (hn : i64 now) (hH : Hds w w H hs) (hhl : hs.length ≤ 9223372036854775807) :
    Calls Try.prog 22 #[.slice A xs.length cap, .slice U up.length ucap, .int .i64 now, .slice H hs.length hcap] w (OpPost w xs U ucap up now hs) := by
  have KN := hid (gnew_any A cap xs w hN hl)
  have HU := hid hU
  have HH := hid hH
  obtain ⟨m, hm⟩ : ∃ m, m = xs.length := ⟨_, rfl⟩
  obtain ⟨mu, hmu⟩ : ∃ mu, mu = up.length := ⟨_, rfl⟩
  obtain ⟨M, hM⟩ : ∃ M, M = hs.length := ⟨_, rfl⟩
  have HM := hid hm
  have HMU := hid hmu
  have HMH := hid hM
  obtain ⟨n0, n1⟩ := hn
  rw [← hm] at hl KN ⊢
  rw [← hmu] at hul ⊢
  rw [← hM] at hhl ⊢
  clear hN hU hH hm hmu hM
  have HBAD : Hid (¬ (WhB xs = true ∧ mu = m ∧ 0 ≤ now ∧ now < 1099511627776) → ∀ w', Below w.heap.size w w' → OpPost w xs U ucap up now hs (.returned (.tuple #[.pointer none, .int .i64 1])) w') := hid fun hb w' hw => by
    have e := opnE_bad (hl := hdF hs) (M := hs.length) (xs := xs) (up := up) (now := now) (by rw [← HMU.out, ← HM.out]; exact hb)
    exact ⟨hw, .inl ⟨by rw [e], by rw [e]; decide⟩⟩
  go_enter Try.func22, Try.ntmps22
  go_wp2_with fail
  refine KN.out.mono ?_
  rintro _ w1 ⟨hb, ⟨rfl, hno⟩ | ⟨q, sv, ps, rfl, hok, hp, _, hps⟩⟩
  · have g1 := hid hb
    have HW : Hid (WhB xs = false) := hid (by
      unfold WhB
      rcases hno with h | ⟨x, hx, h⟩
      · rw [decide_eq_false (by omega), Bool.false_and]
      · have : xs.all V4.okB = false := by
          rw [List.all_eq_false]
          exact ⟨x, hx, by rw [h]; decide⟩
        rw [this, Bool.and_false])
    have HR := hid (HBAD.out (fun h => by rw [HW.out] at h; cases h.1))
    have g2 := hid (g1.out.alloc g1.out.size (.cells #[.pointer none, .slice U mu ucap, .int .i64 now] 76))
    have B1 := hid (heap_new w1 (.cells #[.pointer none, .slice U mu ucap, .int .i64 now] 76))
    obtain ⟨b0, b1, b2⟩ := tri B1.out
    clear hb hno
    go_wp2_with fail
    go_returns
    exact HR.out _ g2.out
  · have g1 := hid hb
    have HW : Hid (WhB xs = true) := hid (by
      unfold WhB
      rw [Bool.and_eq_true, List.all_eq_true]
      exact ⟨decide_eq_true (by have := hp.m; omega), hok⟩)
    rw [← HM.out] at hp hps
    have HPS := hid hps
    have g2 := hid (g1.out.alloc g1.out.size (.cells #[.pointer (some ⟨q, 0, none⟩), .slice U mu ucap, .int .i64 now] 76))
    have B1 := hid (heap_new w1 (.cells #[.pointer (some ⟨q, 0, none⟩), .slice U mu ucap, .int .i64 now] 76))
    have BO := hid (show Bo (w1.alloc (.cells #[.pointer (some ⟨q, 0, none⟩), .slice U mu ucap, .int .i64 now] 76)) w1.heap.size q sv m ps (wsF xs) (fun i _ => wsF xs i) U ucap up now from ⟨by rw [← HMU.out]; exact B1.out, hp.keep ((Below.refl _ _).alloc (Nat.le_refl _) _), HU.out.keep g2.out, HU.out.apx hps, by rw [← HMU.out]; exact hul⟩)
    have hz1 := hb.size
    obtain ⟨b0, b1, b2⟩ := tri B1.out
    clear hb hok hp hps
    by_cases h1 : mu = m
    rotate_left
    · have HR := hid (HBAD.out (fun h => h1 h.2.1))
      have d1 : ((mu : Int) != (m : Int)) = true := by simp; omega
      have d1' : ((mu : Int) == (m : Int)) = false := by simp; omega
      clear h1
      go_wp2_with fail
      go_returns
      exact HR.out _ g2.out
    have d1 : ((mu : Int) != (m : Int)) = false := by simp; omega
    have d1' : ((mu : Int) == (m : Int)) = true := by simp; omega
    have H1 := hid h1
    clear h1
    by_cases h2 : 0 ≤ now
    rotate_left
    · have HR := hid (HBAD.out (fun h => h2 h.2.2.1))
      have d2 : decide (now < 0) = true := decide_eq_true (by omega)
      clear h2
      go_wp2_with fail
      go_returns
      exact HR.out _ g2.out
    have d2 : decide (now < 0) = false := decide_eq_false (by omega)
    by_cases h3 : now < 1099511627776
    rotate_left
    · have HR := hid (HBAD.out (fun h => h3 h.2.2.2))
      have d3 : decide (1099511627776 ≤ now) = true := decide_eq_true (by omega)
      clear h3
      go_wp2_with fail
      go_returns
      exact HR.out _ g2.out
    have d3 : decide (1099511627776 ≤ now) = false := decide_eq_false (by omega)
    have HE := hid (opnE_go (hl := hdF hs) (M := hs.length) (xs := xs) (up := up) (now := now) ⟨HW.out, by rw [← HMU.out, ← HM.out]; exact H1.out, h2, h3⟩)
    rw [← HM.out, ← HMH.out] at HE
    have HBB := hid (show w.heap.size ≤ w1.heap.size from hz1)
    have HEND : Hid (hE m now (fun i _ => wsF xs i) (hdF hs) M = 0 → ∀ w', Below w.heap.size w w' → Bo w' w1.heap.size q sv m ps (wsF xs) (hFl m now (fun i _ => wsF xs i) (hdF hs) M) U ucap up now → OpPost w xs U ucap up now hs (.returned (.tuple #[.pointer (some ⟨w1.heap.size, 0, none⟩), .int .i64 0])) w') := hid fun h0 w' hw hbo => by
      unfold OpPost
      rw [← HM.out, ← HMH.out, HE.out]
      exact ⟨hw, .inr ⟨w1.heap.size, q, sv, ps, rfl, h0, hbo, HBB.out, HPS.out⟩⟩
    have HERR : Hid (∀ k px, k < M → px ≠ 0 → hE m now (fun i _ => wsF xs i) (hdF hs) (k + 1) = px → ∀ w', Below w.heap.size w w' → OpPost w xs U ucap up now hs (.returned (.tuple #[.pointer none, .int .i64 px])) w') := hid fun k px hk hp he w' hw => by
      have h1 := hE_stays (k := k + 1) (by rw [he]; exact hp) (M - (k + 1))
      rw [show k + 1 + (M - (k + 1)) = M by omega, he] at h1
      unfold OpPost
      rw [← HM.out, ← HMH.out, HE.out, h1]
      exact ⟨hw, .inl ⟨rfl, hp⟩⟩
    clear HBAD HW B1 hz1
    go_wp2_with fail
    go_loopw [42] (fun x wr => ∃ k : Nat, k ≤ M ∧ x = .int .i64 k ∧ hE m now (fun i _ => wsF xs i) (hdF hs) k = 0 ∧ Below w.heap.size w wr ∧ Bo wr w1.heap.size q sv m ps (wsF xs) (hFl m now (fun i _ => wsF xs i) (hdF hs) k) U ucap up now) (fun x _ => M - (intOf x).toNat)
    case atStart => exact ⟨0, Nat.zero_le _, rfl, rfl, g2.out, BO.out⟩
    case round =>
      clear g2 BO b0 b1 b2
      obtain ⟨k, hk, rfl, he, hg, hbo⟩ := hrel
      have HG := hid hg
      have HBO := hid hbo
      have HEK := hid he
      clear hg hbo he
      by_cases hlt : k < M
      · have hlt' : (k : Int) < (M : Int) := by omega
        obtain ⟨x, hx⟩ : ∃ x, hs[k]? = some x := ⟨_, List.getElem?_eq_getElem (by have := HMH.out; omega)⟩
        obtain ⟨hin, b, off, rfl, hbl, c0, c1, c2, c3, c4, c5⟩ := (HH.out.keep HG.out).at hx
        have hxk : hdF hs k = x := by simp [hdF, List.getD, hx]
        have HE1 : Hid (hE m now (fun i _ => wsF xs i) (hdF hs) (k + 1) = pkE m (hFl m now (fun i _ => wsF xs i) (hdF hs) k) x.g now (max x.u (now + 1)) x.v) := hid (by
          show (if hE m now (fun i _ => wsF xs i) (hdF hs) k = 0 then _ else _) = _
          rw [if_pos HEK.out, hxk])
        have HF1 : Hid (hFl m now (fun i _ => wsF xs i) (hdF hs) (k + 1) = pkF m (hFl m now (fun i _ => wsF xs i) (hdF hs) k) x.g now (max x.u (now + 1)) x.v) := hid (by
          show pkF _ _ (hdF hs k).g _ _ _ = _
          rw [hxk])
        have HIN := hid hin
        have X0 := hid (heap_new wr (.cells #[.slice x.G x.g.length x.gc, .int .i64 x.v.a, .int .i64 x.v.b, .int .i64 x.v.c, .int .i64 x.v.d, .int .i64 x.u] 53))
        have gX := hid (HG.out.alloc HG.out.size (.cells #[.slice x.G x.g.length x.gc, .int .i64 x.v.a, .int .i64 x.v.b, .int .i64 x.v.c, .int .i64 x.v.d, .int .i64 x.u] 53))
        have BX := hid (HBO.out.keep ((Below.refl _ _).alloc (Nat.le_refl _) (.cells #[.slice x.G x.g.length x.gc, .int .i64 x.v.a, .int .i64 x.v.b, .int .i64 x.v.c, .int .i64 x.v.d, .int .i64 x.u] 53)))
        obtain ⟨b0, b1, b2⟩ := tri BX.out.h
        obtain ⟨x0, x1, x2, x3, x4, x5⟩ := six X0.out
        have KT := hid (take_all2 q sv m ps (wsF xs) (hFl m now (fun i _ => wsF xs i) (hdF hs) k) x.G x.gc x.g now (max x.u (now + 1)) x.v _ (BX.out.p.keep (Below.drew (Below.refl _ _))) (HIN.out.n.keep (Below.drew gX.out)) HIN.out.len (HIN.out.n.apx HPS.out))
        have hxu := hin.u
        have HWR := hid (show IntKind.i64.wrap (now + 1) = now + 1 from IntWalk.i64_in _ (by omega))
        obtain ⟨px, hpx⟩ : ∃ px, px = pkE m (hFl m now (fun i _ => wsF xs i) (hdF hs) k) x.g now (max x.u (now + 1)) x.v := ⟨_, rfl⟩
        rw [← hpx] at HE1 KT
        clear hin hx hxk hpx hxu
        go_wp2_with fail
        go_region_held3 (fun w' => w'.cell? ⟨w1.heap.size, 0, none⟩ = some (.pointer (some ⟨q, 0, none⟩)) ∧ w'.cell? ⟨wr.heap.size, 0, none⟩ = some (.slice x.G x.g.length x.gc) ∧ w'.cell? ⟨wr.heap.size, 1, none⟩ = some (.int .i64 x.v.a) ∧ w'.cell? ⟨wr.heap.size, 2, none⟩ = some (.int .i64 x.v.b) ∧ w'.cell? ⟨wr.heap.size, 3, none⟩ = some (.int .i64 x.v.c) ∧ w'.cell? ⟨wr.heap.size, 4, none⟩ = some (.int .i64 x.v.d) ∧ w'.cell? ⟨wr.heap.size, 5, none⟩ = some (.int .i64 x.u)) (first | exact ⟨b0, x0, x1, x2, x3, x4, x5⟩ | exact ⟨bz0, xz0, xz1, xz2, xz3, xz4, xz5⟩ | go_keep)
          (first | (go_at_call 16; (try rw [HWR.out]); (refine KT.out.mono ?_); rintro _ w6 ⟨rfl, hp, hf⟩; have HB6 := hid ((BX.out.keep (Below.drew (Below.refl _ _))).fr hp hf); have X6 := hid (frp_keep hf (heapD X0.out) ((BX.out.keep (Below.drew (Below.refl _ _))).p.apart (heapD X0.out) (by decide))); have g6 := hid (FrP.below (Below.drew gX.out) hf HPS.out); obtain ⟨bz0, _, _⟩ := tri HB6.out.h; obtain ⟨xz0, xz1, xz2, xz3, xz4, xz5⟩ := six X6.out; clear hp hf))
        by_cases hp0 : px = 0
        · subst hp0
          go_wp2_with fail
          go_roundw
          case rel => exact ⟨k + 1, by omega, by go_num, HE1.out, g6.out, by rw [HF1.out]; exact HB6.out⟩
          case measure => simp [intOf]; omega
        · have hd : (px != 0) = true := by simpa using hp0
          have hd' : (px == 0) = false := by simpa using hp0
          have HR := hid (HERR.out k px hlt hp0 HE1.out _ g6.out)
          clear hp0
          go_wp2_with fail
          go_returns
          exact HR.out
      · obtain rfl : k = M := by omega
        go_wp2_with fail
        all_goals go_returns
        all_goals exact HEND.out HEK.out _ HG.out HBO.out
end Go.Proofs.Ythkofnahimlijaa
namespace Go.Proofs.Ythkofnahimlijaa
open Go Go.RowKit
def Ak.cells (a : Ak) : List Value := [.int .i64 a.id, .slice a.A a.pl.length a.cap, .int .i64 a.m, .int .i64 a.v.a, .int .i64 a.v.b, .int .i64 a.v.c, .int .i64 a.v.d, .int .i64 a.k, .int .i64 a.s, .slice a.G a.g.length a.gc]
/-- What is known of an ask that comes in. -/
structure Ak.In (a : Ak) (W : World) : Prop where
  p : Ns W a.A a.pl
  pl : a.pl.length ≤ 9223372036854775807
  g : Ns W a.G a.g
  gl : a.g.length ≤ 9223372036854775807
  gc : a.g.length ≤ a.gc
  m : i64 a.m
  k : i64 a.k
  s : i64 a.s
def Aks (W w : World) (A : Option Addr) (xs : List Ak) : Prop := RowOf w A 10 (fun a cs => cs = a.cells ∧ a.In W) xs
theorem Aks.keep {W w w' : World} {A : Option Addr} {xs : List Ak} (h : Aks W w A xs) (hb : Below w.heap.size w w') : Aks W w' A xs := RowOf.keep h hb
theorem Aks.at {W w : World} {A : Option Addr} {xs : List Ak} (h : Aks W w A xs) {k : Nat} {a : Ak} (hk : xs[k]? = some a) : a.In W ∧ ∃ b off, A = some ⟨b, off, none⟩ ∧ b < w.heap.size ∧ w.cell? ⟨b, off + k * 10, none⟩ = some (.int .i64 a.id) ∧ w.cell? ⟨b, off + k * 10 + 1, none⟩ = some (.slice a.A a.pl.length a.cap) ∧ w.cell? ⟨b, off + k * 10 + 2, none⟩ = some (.int .i64 a.m) ∧ w.cell? ⟨b, off + k * 10 + 3, none⟩ = some (.int .i64 a.v.a) ∧ w.cell? ⟨b, off + k * 10 + 4, none⟩ = some (.int .i64 a.v.b) ∧ w.cell? ⟨b, off + k * 10 + 5, none⟩ = some (.int .i64 a.v.c) ∧ w.cell? ⟨b, off + k * 10 + 6, none⟩ = some (.int .i64 a.v.d) ∧ w.cell? ⟨b, off + k * 10 + 7, none⟩ = some (.int .i64 a.k) ∧ w.cell? ⟨b, off + k * 10 + 8, none⟩ = some (.int .i64 a.s) ∧ w.cell? ⟨b, off + k * 10 + 9, none⟩ = some (.slice a.G a.g.length a.gc) := by
  rcases h with rfl | ⟨b, off, rfl, hlt, hc⟩
  · simp at hk
  · obtain ⟨cs, ⟨rfl, hin⟩, _, h3⟩ := hc k a hk
    exact ⟨hin, b, off, rfl, hlt, h3 0 (by omega), h3 1 (by omega), h3 2 (by omega), h3 3 (by omega), h3 4 (by omega), h3 5 (by omega), h3 6 (by omega), h3 7 (by omega), h3 8 (by omega), h3 9 (by omega)⟩
def ak0 : Ak := ⟨0, none, 0, [], 0, V4.z, 0, 0, none, 0, []⟩
def akF (xs : List Ak) : Nat → Ak := fun j => xs.getD j ak0
/-- Truths in a row of the call's own, of which the first k are told. -/
def KRow (w : World) (bk N k : Nat) (B : Nat → Bool) : Prop := ∃ cs, w.heap[bk]? = some (.cells cs 4 (0, 0)) ∧ cs.size = N ∧ (∀ j, j < N → ∃ b, cs[j]? = some (.bool b)) ∧ ∀ j, j < k → cs[j]? = some (.bool (B j))
theorem KRow.of {w w' : World} {bk N k : Nat} {B : Nat → Bool} (h : KRow w bk N k B) (hb : ∀ c, w.heap[bk]? = some c → w'.heap[bk]? = some c) : KRow w' bk N k B := by
  obtain ⟨cs, h1, h2⟩ := h
  exact ⟨cs, hb _ h1, h2⟩
theorem KRow.cell {w : World} {bk N k : Nat} {B : Nat → Bool} (h : KRow w bk N k B) {j : Nat} (hj : j < N) : ∃ b, w.cell? ⟨bk, j, none⟩ = some (.bool b) ∧ w.frozen? ⟨bk, j, none⟩ = false ∧ (j < k → b = B j) := by
  obtain ⟨cs, h1, h2, h3, h4⟩ := h
  obtain ⟨b, hb⟩ := h3 j hj
  refine ⟨b, by rw [cell_of h1, hb], free_of h1 j, fun hk => ?_⟩
  have := h4 j hk
  rw [hb] at this
  simpa using this
theorem KRow.set {w : World} {bk N k : Nat} {B : Nat → Bool} (h : KRow w bk N k B) (hk : k < N) : KRow (w.setCell ⟨bk, k, none⟩ (.bool (B k))) bk N (k + 1) B := by
  obtain ⟨cs, h1, h2, h3, h4⟩ := h
  refine ⟨cs.setIfInBounds k (.bool (B k)), heap_setCell_same w bk k _ _ _ h1, by simpa using h2, fun j hj => ?_, fun j hj => ?_⟩
  · rw [Array.getElem?_setIfInBounds]
    by_cases e : k = j
    · subst e
      exact ⟨B k, by rw [if_pos rfl, if_pos (by omega)]⟩
    · rw [if_neg e]
      exact h3 j hj
  · rw [Array.getElem?_setIfInBounds]
    by_cases e : k = j
    · subst e
      rw [if_pos rfl, if_pos (by omega)]
    · rw [if_neg e]
      exact h4 j (by omega)
/-- A slot as it stands in memory; its gang in memory of the call's own. -/
def SlotAt (w : World) (cs : Array Value) (n : Nat) (ps : Nat → Nat) (B : Nat) (s : Slt) (j : Nat) : Prop := ∃ A cap, cs[j * 3]? = some (.int .i64 s.id) ∧ cs[j * 3 + 1]? = some (.int .i64 s.t) ∧ cs[j * 3 + 2]? = some (.slice A s.l.length cap) ∧ s.l.length ≤ cap ∧ Ns w A (intL s.l) ∧ (s.l = [] ∨ ∃ b, A = some ⟨b, 0, none⟩ ∧ B ≤ b ∧ (∀ i, i < n → b ≠ ps i) ∧ ∃ gs, w.heap[b]? = some (.cells gs 3 (0, 0)))
def SRow (w : World) (br N n : Nat) (ps : Nat → Nat) (B : Nat) (S : Nat → Slt) (k : Nat) : Prop := ∃ cs, w.heap[br]? = some (.cells cs 33 (0, 0)) ∧ cs.size = N * 3 ∧ ∀ j, j < k → SlotAt w cs n ps B (S j) j
theorem Ns.of {w w' : World} {A : Option Addr} {xs : List Int} (h : Ns w A xs) {b : Nat} {gs : Array Value} (hA : A = some ⟨b, 0, none⟩) (hb : w.heap[b]? = some (.cells gs 3 (0, 0))) (hb' : w'.heap[b]? = some (.cells gs 3 (0, 0))) : Ns w' A xs := by
  rcases h with e | ⟨b', off, e, hlt, hc⟩
  · exact .inl e
  · rw [hA] at e
    cases e
    refine .inr ⟨b, 0, hA, lt_of hb', fun i x hx => ?_⟩
    rw [cell_of hb', ← cell_of hb]
    exact hc i x hx
theorem SlotAt.of {w w' : World} {cs : Array Value} {n : Nat} {ps : Nat → Nat} {B : Nat} {s : Slt} {j : Nat} (h : SlotAt w cs n ps B s j) (hb : ∀ b gs, (∀ i, i < n → b ≠ ps i) → w.heap[b]? = some (.cells gs 3 (0, 0)) → w'.heap[b]? = some (.cells gs 3 (0, 0))) : SlotAt w' cs n ps B s j := by
  obtain ⟨A, cap, h1, h2, h3, h4, h5, h6⟩ := h
  rcases h6 with h6 | ⟨b, rfl, h7, h8, gs, h9⟩
  · exact ⟨A, cap, h1, h2, h3, h4, .inl (by rw [h6]; rfl), .inl h6⟩
  · exact ⟨_, cap, h1, h2, h3, h4, h5.of rfl h9 (hb b gs h8 h9), .inr ⟨b, rfl, h7, h8, gs, hb b gs h8 h9⟩⟩
theorem SRow.of {w w' : World} {br N n : Nat} {ps : Nat → Nat} {B : Nat} {S : Nat → Slt} {k : Nat} (h : SRow w br N n ps B S k) (hbr : ∀ c, w.heap[br]? = some c → w'.heap[br]? = some c) (hb : ∀ b gs, (∀ i, i < n → b ≠ ps i) → w.heap[b]? = some (.cells gs 3 (0, 0)) → w'.heap[b]? = some (.cells gs 3 (0, 0))) : SRow w' br N n ps B S k := by
  obtain ⟨cs, h1, h2, h3⟩ := h
  exact ⟨cs, hbr _ h1, h2, fun j hj => (h3 j hj).of hb⟩
theorem SRow.keep {w w' : World} {br N n : Nat} {ps : Nat → Nat} {B : Nat} {S : Nat → Slt} {k : Nat} (h : SRow w br N n ps B S k) (hb : Below w.heap.size w w') : SRow w' br N n ps B S k := h.of (fun _ hc => keep0 hb hc) (fun _ _ _ hc => keep0 hb hc)
def updS (S : Nat → Slt) (k : Nat) (s : Slt) : Nat → Slt := fun j => if j = k then s else S j
theorem PL.aside {w w' : World} {q : Nat} {sv : Value} {n : Nat} {ps : Nat → Nat} {Ws : Nat → V4} {fs : Nat → Int → V4} (h : PL w q sv n ps Ws fs) {k : Nat} {cs : Array Value} {t : TypeId} {fr : Nat × Nat} (hk : w.heap[k]? = some (.cells cs t fr)) (ht : t ≠ 108 ∧ t ≠ 105 ∧ t ≠ 80 ∧ t ≠ 81) (hb : w.grownBy w' (some k)) : PL w' q sv n ps Ws fs := by
  refine ⟨gb_keep hb h.h (fun e => ?_), own_keep h.r (fun g o hg c hc => gb_keep hb hc (fun e => ?_)), fun i hi => (h.p i hi).apart hk ⟨ht.1, ht.2.1⟩ hb, h.d, h.m⟩
  · cases e
    rw [h.h] at hk
    simp at hk
    exact ht.2.2.1 hk.2.1.symm
  · cases e
    obtain ⟨_, ⟨e2, _⟩ | ⟨k2, cap2, cur2, e2, _, h4, _⟩⟩ := h.r
    · rw [hg] at e2
      cases e2
    · rw [hg] at e2
      simp only [Value.slice.injEq, Option.some.injEq, Addr.mk.injEq] at e2
      obtain ⟨⟨rfl, _⟩, _⟩ := e2
      rw [hk] at h4
      simp at h4
      exact ht.2.2.2 h4.2.1
theorem gb_set3 {w : World} {br i : Nat} (v0 v1 v2 : Value) : w.grownBy (((w.setCell ⟨br, i, none⟩ v0).setCell ⟨br, i + 1, none⟩ v1).setCell ⟨br, i + 2, none⟩ v2) (some br) :=
  ⟨rfl, rfl, rfl, by simp, fun k _ hn => by
    have hk : k ≠ br := fun e => hn (by rw [e])
    rw [heap_setCell_other _ _ _ _ hk, heap_setCell_other _ _ _ _ hk, heap_setCell_other _ _ _ _ hk]⟩
theorem set3_heap {w : World} {br i : Nat} {cs : Array Value} {t : TypeId} (v0 v1 v2 : Value) (h : w.heap[br]? = some (.cells cs t (0, 0))) : (((w.setCell ⟨br, i, none⟩ v0).setCell ⟨br, i + 1, none⟩ v1).setCell ⟨br, i + 2, none⟩ v2).heap[br]? = some (.cells (((cs.setIfInBounds i v0).setIfInBounds (i + 1) v1).setIfInBounds (i + 2) v2) t (0, 0)) :=
  heap_setCell_same _ br (i + 2) _ t v2 (heap_setCell_same _ br (i + 1) _ t v1 (heap_setCell_same w br i _ t v0 h))
theorem SRow.put {w : World} {br N n : Nat} {ps : Nat → Nat} {B : Nat} {S : Nat → Slt} {k : Nat} (h : SRow w br N n ps B S k) (hk : k < N) (s : Slt) {A : Option Addr} {cap : Nat} (hc : s.l.length ≤ cap) (hN : Ns w A (intL s.l)) (hA : s.l = [] ∨ ∃ b, A = some ⟨b, 0, none⟩ ∧ B ≤ b ∧ (∀ i, i < n → b ≠ ps i) ∧ ∃ gs, w.heap[b]? = some (.cells gs 3 (0, 0))) :
    SRow (((w.setCell ⟨br, k * 3, none⟩ (.int .i64 s.id)).setCell ⟨br, k * 3 + 1, none⟩ (.int .i64 s.t)).setCell ⟨br, k * 3 + 2, none⟩ (.slice A s.l.length cap)) br N n ps B (updS S k s) (k + 1) := by
  obtain ⟨cs, h1, h2, h3⟩ := h
  have hne : ∀ (b : Nat) (gs : Array Value), w.heap[b]? = some (.cells gs 3 (0, 0)) → (((w.setCell ⟨br, k * 3, none⟩ (.int .i64 s.id)).setCell ⟨br, k * 3 + 1, none⟩ (.int .i64 s.t)).setCell ⟨br, k * 3 + 2, none⟩ (.slice A s.l.length cap)).heap[b]? = some (.cells gs 3 (0, 0)) := fun b gs hb =>
    gb_keep (gb_set3 _ _ _) hb (fun e => by
      cases e
      rw [h1] at hb
      simp at hb)
  refine ⟨_, set3_heap _ _ _ h1, by simpa using h2, fun j hj => ?_⟩
  unfold updS
  by_cases e : j = k
  · subst e
    rw [if_pos rfl]
    refine ⟨A, cap, ?_, ?_, ?_, hc, ?_, ?_⟩
    · rw [Array.getElem?_setIfInBounds, if_neg (by omega), Array.getElem?_setIfInBounds, if_neg (by omega), Array.getElem?_setIfInBounds, if_pos rfl, if_pos (by omega)]
    · rw [Array.getElem?_setIfInBounds, if_neg (by omega), Array.getElem?_setIfInBounds, if_pos rfl, if_pos (by simp; omega)]
    · rw [Array.getElem?_setIfInBounds, if_pos rfl, if_pos (by simp; omega)]
    · rcases hA with hA | ⟨b, rfl, _, _, gs, hgs⟩
      · exact .inl (by rw [hA]; rfl)
      · exact hN.of rfl hgs (hne b gs hgs)
    · rcases hA with hA | ⟨b, hA, k1, k2, gs, hgs⟩
      · exact .inl hA
      · exact .inr ⟨b, hA, k1, k2, gs, hne b gs hgs⟩
  · rw [if_neg e]
    obtain ⟨A', cap', k1, k2, k3, k4, k5, k6⟩ := (h3 j (by omega)).of (w' := ((w.setCell ⟨br, k * 3, none⟩ (.int .i64 s.id)).setCell ⟨br, k * 3 + 1, none⟩ (.int .i64 s.t)).setCell ⟨br, k * 3 + 2, none⟩ (.slice A s.l.length cap)) (fun b gs _ hb => hne b gs hb)
    refine ⟨A', cap', ?_, ?_, ?_, k4, k5, k6⟩
    · rw [Array.getElem?_setIfInBounds, if_neg (by omega), Array.getElem?_setIfInBounds, if_neg (by omega), Array.getElem?_setIfInBounds, if_neg (by omega)]
      exact k1
    · rw [Array.getElem?_setIfInBounds, if_neg (by omega), Array.getElem?_setIfInBounds, if_neg (by omega), Array.getElem?_setIfInBounds, if_neg (by omega)]
      exact k2
    · rw [Array.getElem?_setIfInBounds, if_neg (by omega), Array.getElem?_setIfInBounds, if_neg (by omega), Array.getElem?_setIfInBounds, if_neg (by omega)]
      exact k3
def PmPost (w : World) (br N n : Nat) (ps : Nat → Nat) (B : Nat) (S : Nat → Slt) (k : Nat) (s : Slt) (e : Ending) (w' : World) : Prop := e = .returned (.tuple #[]) ∧ w.grownBy w' (some br) ∧ SRow w' br N n ps B (updS S k s) (k + 1)
set_option maxRecDepth 100000 in
theorem promise_any (ba bs bi br N n : Nat) (ps : Nat → Nat) (B : Nat) (S : Nat → Slt) (k : Nat) (id st : Int) (A : Option Addr) (cap : Nat) (l : List Nat) (T : TypeId) (a1 a2 a3 a4 a5 a6 a7 a8 a9 : Value) (w : World)
    (ha : w.heap[ba]? = some (.cells #[.int .i64 id, a1, a2, a3, a4, a5, a6, a7, a8, a9] T (0, 0))) (hs : w.heap[bs]? = some (.cells #[.slice (some ⟨br, 0, none⟩) N N] 28 (0, 0))) (hi : w.heap[bi]? = some (.cells #[.int .i64 (k : Nat)] 3 (0, 0))) (hr : SRow w br N n ps B S k) (hk : k < N)
    (hc : l.length ≤ cap) (hN : Ns w A (intL l)) (hA : l = [] ∨ ∃ b, A = some ⟨b, 0, none⟩ ∧ B ≤ b ∧ (∀ i, i < n → b ≠ ps i) ∧ ∃ gs, w.heap[b]? = some (.cells gs 3 (0, 0))) :
    Calls Try.prog 28 #[.int .i64 st, .slice A l.length cap, .pointer (some ⟨ba, 0, none⟩), .pointer (some ⟨bs, 0, none⟩), .pointer (some ⟨bi, 0, none⟩)] w (PmPost w br N n ps B S k ⟨id, st, l⟩) := by
  have HR := hid (SRow.put hr hk ⟨id, st, l⟩ hc hN hA)
  obtain ⟨x0, _⟩ := ten ha
  have s0 := one hs
  have i0 := one hi
  obtain ⟨cs, h1, h2, _⟩ := hr
  have f0 := free_of h1 (k * 3)
  have f1 := free_of h1 (k * 3 + 1)
  have f2 := free_of h1 (k * 3 + 2)
  obtain ⟨v0, hv0⟩ : ∃ v, cs[k * 3]? = some v := ⟨_, Array.getElem?_eq_getElem (by omega)⟩
  obtain ⟨v1, hv1⟩ : ∃ v, cs[k * 3 + 1]? = some v := ⟨_, Array.getElem?_eq_getElem (by omega)⟩
  obtain ⟨v2, hv2⟩ : ∃ v, cs[k * 3 + 2]? = some v := ⟨_, Array.getElem?_eq_getElem (by omega)⟩
  have c0 := (cell_of h1 (k * 3)).trans hv0
  have c1 := (cell_of h1 (k * 3 + 1)).trans hv1
  have c2 := (cell_of h1 (k * 3 + 2)).trans hv2
  have hk' : (k : Int) < (N : Int) := by omega
  clear ha hs hi h1 h2 hv0 hv1 hv2 hN hA
  go_enter Try.func28, Try.ntmps28
  go_wp2_with fail
  go_end0
  exact ⟨rfl, gb_set3 _ _ _, HR.out⟩
end Go.Proofs.Ythkofnahimlijaa
namespace Go.Proofs.Ythkofnahimlijaa
open Go Go.RowKit
theorem gb_keepT {w w' : World} {br k : Nat} {cs cs' : Array Value} {t t' : TypeId} {fr fr' : Nat × Nat} (hb : w.grownBy w' (some br)) (hbr : w.heap[br]? = some (.cells cs' t' fr')) (hk : w.heap[k]? = some (.cells cs t fr)) (ht : t ≠ t') : w'.heap[k]? = some (.cells cs t fr) :=
  gb_keep hb hk fun e => by
    cases e
    rw [hk] at hbr
    simp at hbr
    exact ht hbr.2.1
theorem frp_keepT {w w' : World} {q : Nat} {sv : Value} {n : Nat} {ps : Nat → Nat} {Ws : Nat → V4} {fs : Nat → Int → V4} (hp : PL w q sv n ps Ws fs) (hf : FrP w w' n ps) {k : Nat} {cs : Array Value} {t : TypeId} {fr : Nat × Nat} (hk : w.heap[k]? = some (.cells cs t fr)) (ht : t ≠ 108) : w'.heap[k]? = some (.cells cs t fr) := frp_keep hf hk (hp.apart hk ht)
theorem below_gbs {br : Nat} {w w1 w2 : World} (h : Below w.heap.size w w1) (hb : w1.grownBy w2 (some br)) (hB : w.heap.size ≤ br) : Below w.heap.size w w2 :=
  ⟨hb.os.trans h.os, hb.tape.trans h.tape, hb.output.trans h.output, Nat.le_trans h.size hb.size, fun k hk => by
    rw [hb.block k (Nat.lt_of_lt_of_le hk h.size) (fun e => by cases e; omega)]
    exact h.block k hk⟩
theorem SRow.type {w : World} {br N n : Nat} {ps : Nat → Nat} {B : Nat} {S : Nat → Slt} {k : Nat} (h : SRow w br N n ps B S k) : ∃ cs, w.heap[br]? = some (.cells cs 33 (0, 0)) := by
  obtain ⟨cs, h1, _⟩ := h
  exact ⟨cs, h1⟩
theorem SRow.fr {w w' : World} {br N : Nat} {B : Nat} {S : Nat → Slt} {k : Nat} {q : Nat} {sv : Value} {n : Nat} {ps : Nat → Nat} {Ws : Nat → V4} {fs : Nat → Int → V4} (h : SRow w br N n ps B S k) (hp : PL w q sv n ps Ws fs) (hf : FrP w w' n ps) : SRow w' br N n ps B S k := by
  obtain ⟨cs, h1⟩ := h.type
  exact h.of (fun c hc => frp_keep hf hc (hp.apart h1 (by decide))) (fun b gs hb hc => frp_keep hf hc hb)
theorem SRow.congr {w : World} {br N n : Nat} {ps : Nat → Nat} {B : Nat} {S S' : Nat → Slt} {k k' : Nat} (h : SRow w br N n ps B S k) (hk : k' ≤ k) (hS : ∀ j, j < k' → S' j = S j) : SRow w br N n ps B S' k' := by
  obtain ⟨cs, h1, h2, h3⟩ := h
  exact ⟨cs, h1, h2, fun j hj => by rw [hS j hj]; exact h3 j (by omega)⟩
theorem SRow.weak {w : World} {br N n : Nat} {ps : Nat → Nat} {B : Nat} {S : Nat → Slt} {k : Nat} (h : SRow w br N n ps B S k) : SRow w br N 0 (fun _ => 0) B S k := by
  obtain ⟨cs, h1, h2, h3⟩ := h
  refine ⟨cs, h1, h2, fun j hj => ?_⟩
  obtain ⟨A, cap, k1, k2, k3, k4, k5, k6⟩ := h3 j hj
  refine ⟨A, cap, k1, k2, k3, k4, k5, ?_⟩
  rcases k6 with k6 | ⟨b, k6, k7, _, k8⟩
  · exact .inl k6
  · exact .inr ⟨b, k6, k7, fun i hi => by omega, k8⟩
theorem KRow.gb {w w' : World} {bk N k br : Nat} {B : Nat → Bool} (h : KRow w bk N k B) {cs' : Array Value} {t' : TypeId} {fr' : Nat × Nat} (hb : w.grownBy w' (some br)) (hbr : w.heap[br]? = some (.cells cs' t' fr')) (ht : (4 : TypeId) ≠ t') : KRow w' bk N k B := by
  obtain ⟨cs, h1, h2⟩ := h
  exact ⟨cs, gb_keepT hb hbr h1 ht, h2⟩
theorem own_gang {w : World} {B : Nat} {v : Value} {m : Nat} {l : List Nat} {q : Nat} {sv : Value} {n : Nat} {ps : Nat → Nat} {Ws : Nat → V4} {fs : Nat → Int → V4} (h : w.ownsRow B 3 1 v m (nums l)) (hm : m = l.length) (hp : PL w q sv n ps Ws fs) : ∃ A cap, v = .slice A (intL l).length cap ∧ v = .slice A l.length cap ∧ l.length ≤ cap ∧ Ns w A (intL l) ∧ (intL l ≠ [] → Apart A n ps) ∧ (l = [] ∨ ∃ b, A = some ⟨b, 0, none⟩ ∧ B ≤ b ∧ (∀ i, i < n → b ≠ ps i) ∧ ∃ gs, w.heap[b]? = some (.cells gs 3 (0, 0))) := by
  subst hm
  rcases Nl.of_any h with ⟨rfl, rfl⟩ | ⟨b, cap, rfl, hB, hn⟩
  · exact ⟨none, 0, rfl, rfl, Nat.le_refl _, .inl rfl, fun h => absurd rfl h, .inl rfl⟩
  · obtain ⟨cs, h1, h2, h3, h4⟩ := id hn
    have hap : ∀ i, i < n → b ≠ ps i := hp.apart h1 (by decide)
    exact ⟨some ⟨b, 0, none⟩, cap, by rw [intL_len], rfl, h3, hn.ns, fun _ a ha i hi => by cases ha; exact hap i hi, .inr ⟨b, rfl, hB, hap, cs, h1⟩⟩
theorem Lgang {w w' : World} {A : Option Addr} {l : List Nat} {n : Nat} {ps : Nat → Nat} {B : Nat} (h : l = [] ∨ ∃ b, A = some ⟨b, 0, none⟩ ∧ B ≤ b ∧ (∀ i, i < n → b ≠ ps i) ∧ ∃ gs, w.heap[b]? = some (.cells gs 3 (0, 0))) (hN : Ns w A (intL l)) (hf : ∀ b gs, (∀ i, i < n → b ≠ ps i) → w.heap[b]? = some (.cells gs 3 (0, 0)) → w'.heap[b]? = some (.cells gs 3 (0, 0))) :
    Ns w' A (intL l) ∧ (l = [] ∨ ∃ b, A = some ⟨b, 0, none⟩ ∧ B ≤ b ∧ (∀ i, i < n → b ≠ ps i) ∧ ∃ gs, w'.heap[b]? = some (.cells gs 3 (0, 0))) := by
  rcases h with h | ⟨b, rfl, h1, h2, gs, h3⟩
  · exact ⟨.inl (by rw [h]; rfl), .inl h⟩
  · exact ⟨hN.of rfl h3 (hf b gs h2 h3), .inr ⟨b, rfl, h1, h2, gs, hf b gs h2 h3⟩⟩
end Go.Proofs.Ythkofnahimlijaa
namespace Go.Proofs.Ythkofnahimlijaa
open Go Go.RowKit
theorem bools_info : (Try.prog.info? 4).map (fun i => (i.zero, i.size, i.bytes)) = some (some (.bool false), 1, 1) := by kernel_rfl
theorem slot_info : (Try.prog.info? 33).map (fun i => (i.zero, i.size, i.bytes)) = some (some (.agg #[.int .i64 0, .int .i64 0, .slice none 0 0]), 3, 40) := by kernel_rfl
theorem info_tri {t : TypeId} {z : Value} {s b : Nat} (h : (Try.prog.info? t).map (fun i => (i.zero, i.size, i.bytes)) = some (some z, s, b)) : ∃ i0, Try.prog.info? t = some i0 ∧ i0.zero = some z ∧ i0.size = s ∧ i0.bytes = b := by
  obtain ⟨i, h1, h2⟩ := Option.map_eq_some_iff.1 h
  simp only [Prod.mk.injEq] at h2
  exact ⟨i, h1, h2.1, h2.2.1, h2.2.2⟩
theorem make_bools (c : Nat) (hc : c ≤ 1000) (w : World) : (Instr.makeSlice 23 (.int .i64 (c : Int)) (.int .i64 (c : Int))).run Try.prog w = .ok (.slice (some ⟨w.heap.size, 0, none⟩) c c) (w.alloc (.cells (madeCells #[.bool false] c) 4)) := by
  obtain ⟨i0, hi, hz0, hz1, hz2⟩ := info_tri bools_info
  have := run_make (P := Try.prog) (w := w) 23 4 i0 (.bool false) Try.underlying23 hi hz0 .i64 .i64 (c : Int) (c : Int) (by omega) (by omega) (by rw [hz2]; omega) (by omega)
  rw [this, hz1]
  simp [Value.cells]
theorem make_slots (c : Nat) (hc : c ≤ 1000) (w : World) : (Instr.makeSlice 28 (.int .i64 (c : Int)) (.int .i64 (c : Int))).run Try.prog w = .ok (.slice (some ⟨w.heap.size, 0, none⟩) c c) (w.alloc (.cells (madeCells #[.int .i64 0, .int .i64 0, .slice none 0 0] (c * 3)) 33)) := by
  obtain ⟨i0, hi, hz0, hz1, hz2⟩ := info_tri slot_info
  have := run_make (P := Try.prog) (w := w) 28 33 i0 (.agg #[.int .i64 0, .int .i64 0, .slice none 0 0]) Try.underlying28 hi hz0 .i64 .i64 (c : Int) (c : Int) (by omega) (by omega) (by rw [hz2]; omega) (by omega)
  rw [this, hz1]
  simp [Value.cells]
theorem KRow.made {w : World} {bk N : Nat} {B : Nat → Bool} (h : w.heap[bk]? = some (.cells (madeCells #[.bool false] N) 4 (0, 0))) : KRow w bk N 0 B := by
  refine ⟨_, h, size_madeCells _ _, fun j hj => ⟨false, ?_⟩, fun j hj => by omega⟩
  simp [madeCells, hj, Nat.mod_one]
theorem SRow.made {w : World} {br N n : Nat} {ps : Nat → Nat} {B : Nat} {S : Nat → Slt} {z : Array Value} (h : w.heap[br]? = some (.cells (madeCells z (N * 3)) 33 (0, 0))) : SRow w br N n ps B S 0 := ⟨_, h, size_madeCells _ _, fun j hj => by omega⟩
theorem Bo.aside {w w' : World} {bb q : Nat} {sv : Value} {n : Nat} {ps : Nat → Nat} {Ws : Nat → V4} {fs : Nat → Int → V4} {U : Option Addr} {ucap : Nat} {up : List Bool} {now : Int} (h : Bo w bb q sv n ps Ws fs U ucap up now) {k : Nat} {cs : Array Value} {t : TypeId} {fr : Nat × Nat} (hk : w.heap[k]? = some (.cells cs t fr)) (ht : t ≠ 108 ∧ t ≠ 105 ∧ t ≠ 80 ∧ t ≠ 81) (ht2 : t ≠ 76) (hb : w.grownBy w' (some k)) (hu : Bs w' U up) : Bo w' bb q sv n ps Ws fs U ucap up now :=
  ⟨gb_keep hb h.h (fun e => by
    cases e
    rw [h.h] at hk
    simp at hk
    exact ht2 hk.2.1.symm), h.p.aside hk ht hb, hu, h.ap, h.l⟩
theorem KRow.type {w : World} {bk N k : Nat} {B : Nat → Bool} (h : KRow w bk N k B) : ∃ cs, w.heap[bk]? = some (.cells cs 4 (0, 0)) := by
  obtain ⟨cs, h1, _⟩ := h
  exact ⟨cs, h1⟩
theorem KRow.fr {w w' : World} {bk N k : Nat} {B : Nat → Bool} {q : Nat} {sv : Value} {n : Nat} {ps : Nat → Nat} {Ws : Nat → V4} {fs : Nat → Int → V4} (h : KRow w bk N k B) (hp : PL w q sv n ps Ws fs) (hf : FrP w w' n ps) : KRow w' bk N k B := by
  obtain ⟨cs, h1⟩ := h.type
  exact h.of fun c hc => frp_keep hf hc (hp.apart h1 (by decide))
/-- What Pass answers. -/
def PassPost (w : World) (xs : List V4) (up : List Bool) (now : Int) (hs : List Hd) (ks : List Ak) (e : Ending) (w' : World) : Prop :=
  Below w.heap.size w w' ∧ ((e = .returned (.tuple #[.slice none 0 0, .int .i64 (opnE xs up now (hdF hs) hs.length)]) ∧ opnE xs up now (hdF hs) hs.length ≠ 0) ∨
  (∃ br, e = .returned (.tuple #[.slice (some ⟨br, 0, none⟩) ks.length ks.length, .int .i64 0]) ∧ opnE xs up now (hdF hs) hs.length = 0 ∧ w.heap.size ≤ br ∧
    SRow w' br ks.length 0 (fun _ => 0) w.heap.size (slot up xs.length (wsF xs) now (hFl xs.length now (fun i _ => wsF xs i) (hdF hs) hs.length) (akF ks) ks.length) ks.length))
set_option maxRecDepth 100000 in
set_option maxHeartbeats 8000000 in
theorem pass_any (A : Option Addr) (cap : Nat) (xs : List V4) (U : Option Addr) (ucap : Nat) (up : List Bool) (now : Int) (H : Option Addr) (hcap : Nat) (hs : List Hd) (K : Option Addr) (kcap : Nat) (ks : List Ak) (w : World) (hN : Vs w A xs) (hl : xs.length ≤ 9223372036854775807) (hU : Bs w U up) (hul : up.length ≤ 1000) (hn : i64 now) (hH : Hds w w H hs) (hhl : hs.length ≤ 9223372036854775807) (hK : Aks w w K ks) (hkl : ks.length ≤ 1000) :
    Calls Try.prog 12 #[.slice A xs.length cap, .slice U up.length ucap, .int .i64 now, .slice H hs.length hcap, .slice K ks.length kcap] w (PassPost w xs up now hs ks) := by
  have KO := hid (popen_any A cap xs U ucap up now H hcap hs w hN hl hU hul hn hH hhl)
  have HU := hid hU
  have HK := hid hK
  have HERR : Hid (∀ w', Below w.heap.size w w' → opnE xs up now (hdF hs) hs.length ≠ 0 → PassPost w xs up now hs ks (.returned (.tuple #[.slice none 0 0, .int .i64 (opnE xs up now (hdF hs) hs.length)])) w') := hid fun w' hw he => ⟨hw, .inl ⟨rfl, he⟩⟩
  obtain ⟨E, hE⟩ : ∃ E, E = opnE xs up now (hdF hs) hs.length := ⟨_, rfl⟩
  have HE := hid hE
  rw [← hE] at HERR
  obtain ⟨N, hNe⟩ : ∃ N, N = ks.length := ⟨_, rfl⟩
  have HNe := hid hNe
  rw [← hNe] at hkl ⊢
  clear hN hU hH hK hE hNe
  go_enter Try.func12, Try.ntmps12
  go_wp2_with fail
  go_step3
  go_wp2_with fail
  refine KO.out.mono ?_
  rintro _ w1 ⟨hb, ⟨rfl, hno⟩ | ⟨bb, q, sv, ps, rfl, he0, hbo, hbb, hps⟩⟩
  · rw [← HE.out] at hno ⊢
    have HR := hid (HERR.out w1 hb hno)
    have d1 : (E != 0) = true := by simpa using hno
    have d2 : (E == 0) = false := by simpa using hno
    clear hb hno
    go_wp2_with fail
    go_returns
    exact HR.out
  · have g1 := hid hb
    have BO1 := hid hbo
    have HPS := hid hps
    have HE0 := hid he0
    have hn0 : 0 ≤ now := (opnE_zero he0).2.2.1
    clear hb hbo hps he0 HERR KO
    have hmk := make_bools N hkl
    go_wp2_with fail
    clear hmk
    have g2 := hid (g1.out.alloc g1.out.size (.cells (madeCells #[.bool false] N) 4))
    have BO2 := hid (BO1.out.keep ((Below.refl _ _).alloc (Nat.le_refl _) (.cells (madeCells #[.bool false] N) 4)))
    have KR2 : Hid (KRow (w1.alloc (.cells (madeCells #[.bool false] N) 4)) w1.heap.size N 0 (kB up xs.length now (hFl xs.length now (fun i _ => wsF xs i) (hdF hs) hs.length) (akF ks))) := hid (KRow.made (heap_new w1 _))
    have hz1 := g1.out.size
    obtain ⟨bk, hbk⟩ : ∃ bk, bk = w1.heap.size := ⟨_, rfl⟩
    rw [← hbk] at KR2 hz1 ⊢
    obtain ⟨F0, hF0⟩ : ∃ F0, F0 = hFl xs.length now (fun i _ => wsF xs i) (hdF hs) hs.length := ⟨_, rfl⟩
    have HF0 := hid hF0
    rw [← hF0] at KR2 BO2
    obtain ⟨al, hal⟩ : ∃ al, al = akF ks := ⟨_, rfl⟩
    have HAL := hid hal
    rw [← hal] at KR2
    obtain ⟨n, hn'⟩ : ∃ n, n = xs.length := ⟨_, rfl⟩
    have HN := hid hn'
    rw [← hn'] at KR2 BO2 HPS
    obtain ⟨KB, hKB⟩ : ∃ KB, KB = kB up n now F0 al := ⟨_, rfl⟩
    have HKB := hid hKB
    rw [← hKB] at KR2
    clear hbk hF0 hal hn' hKB
    go_loopw [41] (fun x wr => ∃ k : Nat, k ≤ N ∧ x = .int .i64 k ∧ Below w.heap.size w wr ∧ Bo wr bb q sv n ps (wsF xs) (kFl up n now F0 al k) U ucap up now ∧ KRow wr bk N k KB) (fun x _ => N - (intOf x).toNat)
    case atStart => exact ⟨0, Nat.zero_le _, rfl, g2.out, BO2.out, KR2.out⟩
    case round =>
      clear g1 BO1 g2 BO2 KR2
      obtain ⟨k, hk, rfl, hg, hbo, hkr⟩ := hrel
      have HG := hid hg
      have HBO := hid hbo
      have HKR := hid hkr
      clear hg hbo hkr
      by_cases hlt : k < N
      · have hlt' : (k : Int) < (N : Int) := by omega
        obtain ⟨a, ha⟩ : ∃ a, ks[k]? = some a := ⟨_, List.getElem?_eq_getElem (by have := HNe.out; omega)⟩
        obtain ⟨hin, b, off, rfl, hbl, c0, c1, c2, c3, c4, c5, c6, c7, c8, c9⟩ := (HK.out.keep HG.out).at ha
        have hak : al k = a := by simp [HAL.out, akF, List.getD, ha]
        have HIN := hid hin
        have X0 := hid (heap_new wr (.cells #[.int .i64 a.id, .slice a.A a.pl.length a.cap, .int .i64 a.m, .int .i64 a.v.a, .int .i64 a.v.b, .int .i64 a.v.c, .int .i64 a.v.d, .int .i64 a.k, .int .i64 a.s, .slice a.G a.g.length a.gc] 42))
        have gX := hid (HG.out.alloc HG.out.size (.cells #[.int .i64 a.id, .slice a.A a.pl.length a.cap, .int .i64 a.m, .int .i64 a.v.a, .int .i64 a.v.b, .int .i64 a.v.c, .int .i64 a.v.d, .int .i64 a.k, .int .i64 a.s, .slice a.G a.g.length a.gc] 42))
        have BX := hid (HBO.out.keep ((Below.refl _ _).alloc (Nat.le_refl _) (.cells #[.int .i64 a.id, .slice a.A a.pl.length a.cap, .int .i64 a.m, .int .i64 a.v.a, .int .i64 a.v.b, .int .i64 a.v.c, .int .i64 a.v.d, .int .i64 a.k, .int .i64 a.s, .slice a.G a.g.length a.gc] 42)))
        have KX := hid (HKR.out.of (w' := wr.alloc (.cells #[.int .i64 a.id, .slice a.A a.pl.length a.cap, .int .i64 a.m, .int .i64 a.v.a, .int .i64 a.v.b, .int .i64 a.v.c, .int .i64 a.v.d, .int .i64 a.k, .int .i64 a.s, .slice a.G a.g.length a.gc] 42)) (fun c hc => heapA hc))
        obtain ⟨x0, x1, x2, x3, x4, x5, x6, x7, x8, x9⟩ := ten X0.out
        obtain ⟨kb, hkb⟩ : ∃ kb, kb = KB k := ⟨_, rfl⟩
        have HKb := hid hkb
        by_cases hs0 : 0 ≤ a.s
        · have d0 : decide (0 ≤ a.s) = true := decide_eq_true hs0
          have HB1 : Hid (bkB up n (kFl up n now F0 al k) a a.g (max a.s now) = kb) := hid (by
            rw [hkb, HKB.out]
            unfold kB
            rw [hak, d0, Bool.true_and])
          have HF1 : Hid (kFl up n now F0 al (k + 1) = bkF up n (kFl up n now F0 al k) a a.g (max a.s now)) := hid (by
            show (if 0 ≤ (al k).s then _ else _) = _
            rw [hak, if_pos hs0])
          have KT := hid (ptake_any bb q sv n ps (wsF xs) (kFl up n now F0 al k) U ucap up now a a.G a.gc a.g (max a.s now) _ BX.out (HIN.out.p.keep gX.out) HIN.out.pl (HIN.out.g.keep gX.out) HIN.out.gl (HIN.out.g.apx HPS.out) (by omega))
          unfold TkPost at KT
          rw [HB1.out] at KT
          clear hin ha hak hkb
          go_wp2_with (go_at_call 23; (with_reducible refine KT.out.mono ?_); rintro _ w6 ⟨rfl, hbo, hf⟩; have B6 := hid hbo; have K6 := hid (KX.out.fr BX.out.p hf); have g6 := hid (FrP.below gX.out hf HPS.out); obtain ⟨kv, kc, kf, _⟩ := K6.out.cell hlt; clear hbo hf)
          go_roundw
          case rel =>
            obtain ⟨cs, hcs⟩ := K6.out.type
            refine ⟨k + 1, by omega, by go_num, g6.out.setCell (p := ⟨bk, k, none⟩) (by omega) _, ?_, ?_⟩
            · rw [HF1.out]
              exact B6.out.aside hcs (by decide) (by decide) (gb_set _) (HU.out.keep (g6.out.setCell (p := ⟨bk, k, none⟩) (by omega) _))
            · rw [HKb.out]
              exact K6.out.set hlt
          case measure => simp [intOf]; omega
        · have d0 : decide (0 ≤ a.s) = false := decide_eq_false hs0
          have HB1 : Hid (false = KB k) := hid (by
            rw [HKB.out]
            unfold kB
            rw [hak, d0, Bool.false_and])
          have HF1 : Hid (kFl up n now F0 al (k + 1) = kFl up n now F0 al k) := hid (by
            show (if 0 ≤ (al k).s then _ else _) = _
            rw [hak, if_neg hs0])
          obtain ⟨kv, kc, kf, _⟩ := KX.out.cell hlt
          clear hin ha hak hkb hs0
          go_wp2_with fail
          go_roundw
          case rel =>
            obtain ⟨cs, hcs⟩ := KX.out.type
            refine ⟨k + 1, by omega, by go_num, gX.out.setCell (p := ⟨bk, k, none⟩) (by omega) _, ?_, ?_⟩
            · rw [HF1.out]
              exact BX.out.aside hcs (by decide) (by decide) (gb_set _) (HU.out.keep (gX.out.setCell (p := ⟨bk, k, none⟩) (by omega) _))
            · have := KX.out.set hlt
              rw [← HB1.out] at this
              exact this
          case measure => simp [intOf]; omega
      · obtain rfl : N = k := by omega
        obtain ⟨wo, hwo⟩ : ∃ wo : World, wo = wr := ⟨_, rfl⟩
        rw [← hwo] at HG HBO HKR ⊢
        clear hwo hlt hk
        have hmk := make_slots N hkl
        go_wp2_with fail
        clear hmk
        have hzo := lt_of HKR.out.type.choose_spec
        have gB := hid ((HG.out.alloc HG.out.size (.cells (madeCells #[.int .i64 0, .int .i64 0, .slice none 0 0] (N * 3)) 33)).alloc (by have := HG.out.size; simp; omega) (.cells #[.slice (some ⟨wo.heap.size, 0, none⟩) N N] 28))
        have hAB : Below wo.heap.size wo ((wo.alloc (.cells (madeCells #[.int .i64 0, .int .i64 0, .slice none 0 0] (N * 3)) 33)).alloc (.cells #[.slice (some ⟨wo.heap.size, 0, none⟩) N N] 28)) := by go_grown
        have BB := hid (HBO.out.keep hAB)
        have KK := hid (HKR.out.of (fun c hc => keep0 hAB hc))
        obtain ⟨br, hbr⟩ : ∃ br, br = wo.heap.size := ⟨_, rfl⟩
        have SS : Hid (SRow ((wo.alloc (.cells (madeCells #[.int .i64 0, .int .i64 0, .slice none 0 0] (N * 3)) 33)).alloc (.cells #[.slice (some ⟨wo.heap.size, 0, none⟩) N N] 28)) br N n ps w.heap.size (slot up n (wsF xs) now F0 al N) 0) := hid (SRow.made (by rw [hbr]; exact heapA (heap_new wo _)))
        have VV : Hid (((wo.alloc (.cells (madeCells #[.int .i64 0, .int .i64 0, .slice none 0 0] (N * 3)) 33)).alloc (.cells #[.slice (some ⟨wo.heap.size, 0, none⟩) N N] 28)).heap[br + 1]? = some (.cells #[.slice (some ⟨br, 0, none⟩) N N] 28 (0, 0))) := hid (by rw [hbr]; simpa using heap_new (wo.alloc (.cells (madeCells #[.int .i64 0, .int .i64 0, .slice none 0 0] (N * 3)) 33)) (.cells #[.slice (some ⟨wo.heap.size, 0, none⟩) N N] 28))
        have hbrw : w.heap.size ≤ br := by rw [hbr]; exact HG.out.size
        obtain ⟨wS, hwS⟩ : ∃ wS, wS = (wo.alloc (.cells (madeCells #[.int .i64 0, .int .i64 0, .slice none 0 0] (N * 3)) 33)).alloc (.cells #[.slice (some ⟨wo.heap.size, 0, none⟩) N N] 28) := ⟨_, rfl⟩
        rw [← hwS] at gB BB KK SS VV ⊢
        rw [← hbr] at hwS ⊢
        clear hwS hAB HG HBO HKR hzo hbr
        go_step3
        go_wp2_with fail
        go_loopw [69] (fun x wr => ∃ k : Nat, k ≤ N ∧ x = .int .i64 k ∧ Below w.heap.size w wr ∧ Bo wr bb q sv n ps (wsF xs) (tF up n (wsF xs) now F0 al N k) U ucap up now ∧ KRow wr bk N N KB ∧ SRow wr br N n ps w.heap.size (slot up n (wsF xs) now F0 al N) k ∧ wr.heap[br + 1]? = some (.cells #[.slice (some ⟨br, 0, none⟩) N N] 28 (0, 0))) (fun x _ => N - (intOf x).toNat)
        case atStart => exact ⟨0, Nat.zero_le _, rfl, gB.out, BB.out, KK.out, SS.out, VV.out⟩
        case round =>
          clear gB BB KK SS VV
          obtain ⟨k, hk, rfl, hg, hbo, hkr, hsr, hvr⟩ := hrel
          have HG := hid hg
          have HBO := hid hbo
          have HKR := hid hkr
          have HSR := hid hsr
          have HVR := hid hvr
          clear hg hbo hkr hsr hvr
          by_cases hlt : k < N
          · have hlt' : (k : Int) < (N : Int) := by omega
            obtain ⟨a, ha⟩ : ∃ a, ks[k]? = some a := ⟨_, List.getElem?_eq_getElem (by have := HNe.out; omega)⟩
            obtain ⟨hin, b, off, rfl, hbl, c0, c1, c2, c3, c4, c5, c6, c7, c8, c9⟩ := (HK.out.keep HG.out).at ha
            have hak : al k = a := by simp [HAL.out, akF, List.getD, ha]
            have HIN := hid hin
            have HAK := hid hak
            obtain ⟨wX, hwX⟩ : ∃ wX, wX = (wr.alloc (.cells #[.int .i64 (k : Nat)] 3)).alloc (.cells #[.int .i64 a.id, .slice a.A a.pl.length a.cap, .int .i64 a.m, .int .i64 a.v.a, .int .i64 a.v.b, .int .i64 a.v.c, .int .i64 a.v.d, .int .i64 a.k, .int .i64 a.s, .slice a.G a.g.length a.gc] 42) := ⟨_, rfl⟩
            have hXB : Below wr.heap.size wr wX := by rw [hwX]; go_grown
            have I1 : Hid (wX.heap[wr.heap.size]? = some (.cells #[.int .i64 (k : Nat)] 3 (0, 0))) := hid (by rw [hwX]; exact heapA (heap_new wr _))
            have A1 : Hid (wX.heap[wr.heap.size + 1]? = some (.cells #[.int .i64 a.id, .slice a.A a.pl.length a.cap, .int .i64 a.m, .int .i64 a.v.a, .int .i64 a.v.b, .int .i64 a.v.c, .int .i64 a.v.d, .int .i64 a.k, .int .i64 a.s, .slice a.G a.g.length a.gc] 42 (0, 0))) := hid (by rw [hwX]; simpa using heap_new (wr.alloc (.cells #[.int .i64 (k : Nat)] 3)) (.cells #[.int .i64 a.id, .slice a.A a.pl.length a.cap, .int .i64 a.m, .int .i64 a.v.a, .int .i64 a.v.b, .int .i64 a.v.c, .int .i64 a.v.d, .int .i64 a.k, .int .i64 a.s, .slice a.G a.g.length a.gc] 42))
            have g1 := hid (HG.out.trans (hXB.mono HG.out.size))
            have B1 := hid (HBO.out.keep hXB)
            have K1 := hid (HKR.out.of (fun c hc => keep0 hXB hc))
            have S1 := hid (HSR.out.keep hXB)
            have V1 := hid (keep0 hXB HVR.out)
            have KP := hid (promise_any (wr.heap.size + 1) (br + 1) wr.heap.size br N n ps w.heap.size (slot up n (wsF xs) now F0 al N) k a.id (-1) none 0 [] 42 _ _ _ _ _ _ _ _ _ wX A1.out V1.out I1.out S1.out hlt (Nat.le_refl _) (.inl rfl) (.inl rfl))
            have hwX' := hid hwX
            clear hin ha hak hXB hwX HBO HKR HSR HVR
            go_upto_region 14 with fail
            rw [← hwX'.out]
            clear c0 c1 c2 c3 c4 c5 c6 c7 c8 c9
            go_wp2_with fail
            refine KP.out.mono ?_
            rintro _ w2 ⟨rfl, hgb, hsr⟩
            obtain ⟨rs, hrs⟩ := S1.out.type
            have g2 := hid (below_gbs g1.out hgb hbrw)
            have B2 := hid (B1.out.aside hrs (by decide) (by decide) hgb (HU.out.keep g2.out))
            have K2 := hid (K1.out.gb hgb hrs (by decide))
            have A2 := hid (gb_keepT hgb hrs A1.out (by decide))
            have I2 := hid (gb_keepT hgb hrs I1.out (by decide))
            have V2 := hid (gb_keepT hgb hrs V1.out (by decide))
            have S2 := hid hsr
            obtain ⟨kb, kc, _, kbv⟩ := K2.out.cell hlt
            obtain rfl := kbv hlt
            obtain ⟨kb, hkb⟩ : ∃ kb, kb = KB k := ⟨_, rfl⟩
            have HKb := hid hkb
            rw [← hkb] at kc
            have HKT : Hid (kb = true → askB a = true ∧ max a.s now ≤ 1099511627776 ∧ a.k ≤ 1099511627776) := hid fun h => by
              rw [hkb, HKB.out] at h
              unfold kB at h
              rw [Bool.and_eq_true] at h
              have h1 := ((bkB_iff _ _ _ _ _ _).1 h.2).1
              rw [HAK.out] at h1
              exact ⟨h1.1, h1.2.2.1, h1.2.2.2.1⟩
            obtain ⟨rb, hrb⟩ : ∃ rb, rb = askB a := ⟨_, rfl⟩
            obtain ⟨L, hL⟩ : ∃ L, L = tnL up a := ⟨_, rfl⟩
            obtain ⟨FT, hFT⟩ : ∃ FT, FT = fA up n (wsF xs) now F0 al N k := ⟨_, rfl⟩
            have hFT' : FT = gB n (wsF xs) now (tF up n (wsF xs) now F0 al N k) a kb := by
              rw [hFT, hkb, HKB.out]
              unfold fA
              rw [HAK.out]
            have HSL0 : Hid ((∀ t, ¬ Fnd up n now FT a t) → slot up n (wsF xs) now F0 al N k = ⟨a.id, -1, []⟩ ∧ tF up n (wsF xs) now F0 al N (k + 1) = FT) := hid fun h => by
              have e : slot up n (wsF xs) now F0 al N k = ⟨a.id, -1, []⟩ := by
                unfold slot
                rw [← hFT, HAK.out]
                exact slt_none h
              refine ⟨e, ?_⟩
              rw [tF_succ, e, if_neg (show ¬ (0 : Int) ≤ -1 by decide), hFT]
            have HSL1 : Hid (∀ t l, Fnd up n now FT a t → l = (openL n FT (intL (plcN up a.pl)) t (t + a.k) a.v).take a.m.toNat → slot up n (wsF xs) now F0 al N k = ⟨a.id, t, l⟩ ∧ tF up n (wsF xs) now F0 al N (k + 1) = bkF up n FT a (intL l) t) := hid fun t l h hl => by
              have e : slot up n (wsF xs) now F0 al N k = ⟨a.id, t, l⟩ := by
                unfold slot
                rw [← hFT, HAK.out, slt_some h, hl]
              refine ⟨e, ?_⟩
              have ht : 0 ≤ t := by
                have := h.2.2.2.2.1
                omega
              rw [tF_succ, e, if_pos ht, ← hFT, HAK.out]
            have HCG : Hid (∀ (s : Slt) (S' : Nat → Slt), slot up n (wsF xs) now F0 al N k = s → (∀ j, j < k + 1 → S' j = updS (slot up n (wsF xs) now F0 al N) k s j) → ∀ j, j < k + 1 → slot up n (wsF xs) now F0 al N j = S' j) := hid fun s S' hs hS j hj => by
              rw [hS j hj]
              unfold updS
              split
              · next e => rw [e, hs]
              · rfl
            have HRB := hid hrb
            have HL : Hid (rb = true → L = plcN up a.pl) := hid fun h => by
              rw [hL]
              exact if_pos (by rw [← hrb]; exact h)
            have KT := hid (fun w3 (hb : Below w2.heap.size w2 w3) => Calls.mono (R' := fun e w' => ∃ A cap, e = .returned (.tuple #[.slice A (intL L).length cap, .bool rb]) ∧ Ns w' A (intL L) ∧ Bo w' bb q sv n ps (wsF xs) FT U ucap up now ∧ FrP w3 w' n ps) (pturn_any bb q sv n ps (wsF xs) (tF up n (wsF xs) now F0 al N k) U ucap up now a kb w3 (B2.out.keep hb) (HIN.out.p.keep (g2.out.trans (hb.mono g2.out.size))) HIN.out.pl (HIN.out.g.keep (g2.out.trans (hb.mono g2.out.size))) HIN.out.gl HIN.out.gc (HIN.out.g.apx HPS.out) hn0 HKT.out) (fun e w' h => by rw [hL, hrb, hFT']; exact h))
            obtain ⟨x0, x1, x2, x3, x4, x5, x6, x7, x8, x9⟩ := ten A2.out
            have i0 := one I2.out
            obtain ⟨b0, b1, b2⟩ := tri B2.out.h
            clear hgb hsr hrs KP kbv hkb S1 B1 K1 A1 I1 V1 hrb hL hFT hFT'
            go_wp2_with fail
            go_region_held3 (fun w' => w'.cell? ⟨wr.heap.size, 0, none⟩ = some (.int .i64 (k : Nat)) ∧ w'.cell? ⟨bk, k, none⟩ = some (.bool kb) ∧ w'.cell? ⟨wr.heap.size + 1, 0, none⟩ = some (.int .i64 a.id) ∧ w'.cell? ⟨wr.heap.size + 1, 1, none⟩ = some (.slice a.A a.pl.length a.cap) ∧ w'.cell? ⟨wr.heap.size + 1, 2, none⟩ = some (.int .i64 a.m) ∧ w'.cell? ⟨wr.heap.size + 1, 3, none⟩ = some (.int .i64 a.v.a) ∧ w'.cell? ⟨wr.heap.size + 1, 4, none⟩ = some (.int .i64 a.v.b) ∧ w'.cell? ⟨wr.heap.size + 1, 5, none⟩ = some (.int .i64 a.v.c) ∧ w'.cell? ⟨wr.heap.size + 1, 6, none⟩ = some (.int .i64 a.v.d) ∧ w'.cell? ⟨wr.heap.size + 1, 7, none⟩ = some (.int .i64 a.k) ∧ w'.cell? ⟨wr.heap.size + 1, 8, none⟩ = some (.int .i64 a.s) ∧ w'.cell? ⟨wr.heap.size + 1, 9, none⟩ = some (.slice a.G a.g.length a.gc)) (first | exact ⟨i0, kc, x0, x1, x2, x3, x4, x5, x6, x7, x8, x9⟩ | exact ⟨iz0, kz, z0, z1, z2, z3, z4, z5, z6, z7, z8, z9⟩ | go_keep)
              (first | (go_at_call 29; (refine (KT.out _ (Below.drew (Below.refl _ _))).mono ?_); rintro _ w3 ⟨PA, pcap, rfl, hpn, hbo, hf⟩; have B3 := hid hbo; have N3 := hid hpn; have F3 := hid (show FrP w2 w3 n ps from ⟨hf.os, hf.tape, hf.output, hf.size, hf.block⟩); have A3 := hid (frp_keepT B2.out.p F3.out A2.out (by decide)); have I3 := hid (frp_keepT B2.out.p F3.out I2.out (by decide)); have K3 := hid (K2.out.fr B2.out.p F3.out); obtain ⟨kb3, kz, _, kbv⟩ := K3.out.cell hlt; obtain rfl := kbv hlt; rw [← HKb.out] at kz; obtain ⟨z0, z1, z2, z3, z4, z5, z6, z7, z8, z9⟩ := ten A3.out; have iz0 := one I3.out; clear hbo hpn hf kbv))
            have g3 := hid (FrP.below g2.out F3.out HPS.out)
            have S3 := hid (S2.out.fr B2.out.p F3.out)
            have V3 := hid (frp_keepT B2.out.p F3.out V2.out (by decide))
            clear x0 x1 x2 x3 x4 x5 x6 x7 x8 x9 i0 b0 b1 b2 kc A2 I2 K2 S2 V2 B2 KT HKT F3
            cases rb with
            | false =>
              have HS := hid (HSL0.out (fun t ht => by have := ht.1; rw [← HRB.out] at this; cases this))
              go_wp2_with fail
              go_roundw
              case rel => exact ⟨k + 1, by omega, by go_num, g3.out, by rw [HS.out.2]; exact B3.out, K3.out, S3.out.congr (Nat.le_refl _) (HCG.out _ _ HS.out.1 fun j hj => rfl), V3.out⟩
              case measure => simp [intOf]; omega
            | true =>
              have HLL := hid (HL.out rfl)
              clear HL
              have KF := hid (Calls.mono (R' := fun e w' => ∃ ft fv fb, e = .returned (.tuple #[.int .i64 ft, fv, .bool fb]) ∧ Below w3.heap.size w3 w' ∧ Hid ((fb = true ∧ FindOk n FT (intL L) a.v now a.k a.m ft ∧ w'.ownsRow w3.heap.size 3 1 fv a.m.toNat (nums ((openL n FT (intL L) ft (ft + a.k) a.v).take a.m.toNat))) ∨ (fb = false ∧ ∀ t, ¬ FindOk n FT (intL L) a.v now a.k a.m t))) (find_all q sv n ps (wsF xs) FT PA pcap (intL L) a.m a.k now a.v w3.drew (B3.out.p.keep (Below.drew (Below.refl _ _))) (N3.out.keep (Below.drew (Below.refl _ _))) (by rw [intL_len, HLL.out]; have := plK_le up a.pl up.length; have := B3.out.l; show (plK up a.pl up.length).length ≤ _; omega) HIN.out.k.2 hn.2) (by
                rintro e w' ⟨hb, ⟨t, v', rfl, h1, h2⟩ | ⟨rfl, h1⟩⟩
                · exact ⟨t, v', true, rfl, unD hb, hid (.inl ⟨rfl, h1, h2⟩)⟩
                · exact ⟨0, _, false, rfl, unD hb, hid (.inr ⟨rfl, h1⟩)⟩))
              have HQ : Hid (∀ w4, Below w3.heap.size w3 w4 → Bo w4 bb q sv n ps (wsF xs) FT U ucap up now ∧ w4.heap[wr.heap.size + 1]? = some (.cells #[.int .i64 a.id, .slice a.A a.pl.length a.cap, .int .i64 a.m, .int .i64 a.v.a, .int .i64 a.v.b, .int .i64 a.v.c, .int .i64 a.v.d, .int .i64 a.k, .int .i64 a.s, .slice a.G a.g.length a.gc] 42 (0, 0))) := hid fun w4 hb => ⟨B3.out.keep hb, keep0 hb A3.out⟩
              obtain ⟨b0, b1, b2⟩ := tri B3.out.h
              go_wp2_with fail
              go_region_held3 (fun w' => w'.cell? ⟨bb, 0, none⟩ = some (.pointer (some ⟨q, 0, none⟩)) ∧ w'.cell? ⟨wr.heap.size + 1, 2, none⟩ = some (.int .i64 a.m) ∧ w'.cell? ⟨wr.heap.size + 1, 3, none⟩ = some (.int .i64 a.v.a) ∧ w'.cell? ⟨wr.heap.size + 1, 4, none⟩ = some (.int .i64 a.v.b) ∧ w'.cell? ⟨wr.heap.size + 1, 5, none⟩ = some (.int .i64 a.v.c) ∧ w'.cell? ⟨wr.heap.size + 1, 6, none⟩ = some (.int .i64 a.v.d) ∧ w'.cell? ⟨wr.heap.size + 1, 7, none⟩ = some (.int .i64 a.k)) (first | exact ⟨b0, z2, z3, z4, z5, z6, z7⟩ | exact ⟨by0, y2, y3, y4, y5, y6, y7⟩ | go_keep)
                (first | (go_at_call 18; (refine KF.out.mono ?_); rintro _ w4 ⟨ft, fv, fb, rfl, hb, HFR⟩; have g34 := hid hb; obtain ⟨hq1, hq2⟩ := HQ.out _ g34.out; obtain ⟨by0, _, _⟩ := tri hq1.h; obtain ⟨_, _, y2, y3, y4, y5, y6, y7, _, _⟩ := ten hq2; clear hb hq1 hq2))
              have P4 := hid (HQ.out _ g34.out)
              have g4 := hid (below_step g3.out g3.out.size g34.out)
              have K4 := hid (K3.out.of (fun c hc => keep0 g34.out hc))
              have S4 := hid (S3.out.keep g34.out)
              have V4 := hid (keep0 g34.out V3.out)
              have I4 := hid (keep0 g34.out I3.out)
              clear b0 b1 b2 z0 z1 z2 z3 z4 z5 z6 z7 z8 z9 iz0 kz KF HQ B3 N3 K3 S3 V3 I3 A3 by0 y2 y3 y4 y5 y6 y7
              rcases HFR.out with ⟨rfl, hok, ho⟩ | ⟨rfl, hno⟩
              · obtain ⟨l, hl'⟩ : ∃ l, l = (openL n FT (intL L) ft (ft + a.k) a.v).take a.m.toNat := ⟨_, rfl⟩
                have hml : a.m.toNat = l.length := by
                  rw [hl', List.length_take]
                  have := hok.2.2.2.2.2.1
                  omega
                have hf0 : 0 ≤ ft := by
                  have := hok.2.2.2.1
                  omega
                have HS := hid (HSL1.out ft l ⟨HRB.out.symm, by rw [← HLL.out]; exact hok⟩ (by rw [← HLL.out]; exact hl'))
                rw [← hl'] at ho
                obtain ⟨GA, gcap, -, rfl, hgc, hgn, hgap, hgl⟩ := own_gang ho hml P4.out.1.p
                have hl16 : l.length ≤ 16 := by
                  rw [hl', List.length_take]
                  have := openL_le n FT (intL L) ft (ft + a.k) a.v
                  omega
                have KT2 := ptake_any bb q sv n ps (wsF xs) FT U ucap up now a GA gcap (intL l) ft w4 P4.out.1 (HIN.out.p.keep g4.out) HIN.out.pl hgn (by rw [intL_len]; omega) hgap hf0
                rw [intL_len] at KT2
                have HT2 := hid KT2
                have GN := hid hgn
                have GL := hid hgl
                have A4 := hid P4.out.2
                have B4 := hid P4.out.1
                obtain ⟨x0, x1, x2, x3, x4, x5, x6, x7, x8, x9⟩ := ten A4.out
                clear HFR KT2 hok ho hl' hml hgn hgap hgl P4
                go_wp2_with fail
                with_reducible refine HT2.out.mono ?_
                rintro _ w5 ⟨rfl, hbo, hf⟩
                have B5 := hid hbo
                have g5 := hid (FrP.below g4.out hf HPS.out)
                have K5 := hid (K4.out.fr B4.out.p hf)
                have S5 := hid (S4.out.fr B4.out.p hf)
                have V5 := hid (frp_keepT B4.out.p hf V4.out (by decide))
                have I5 := hid (frp_keepT B4.out.p hf I4.out (by decide))
                have A5 := hid (frp_keepT B4.out.p hf A4.out (by decide))
                obtain ⟨hgn, hgl⟩ := Lgang (w' := w5) GL.out GN.out (fun b gs hb hc => frp_keep hf hc hb)
                have KP2 := hid (promise_any (wr.heap.size + 1) (br + 1) wr.heap.size br N n ps w.heap.size (slot up n (wsF xs) now F0 al N) k a.id ft GA gcap l 42 _ _ _ _ _ _ _ _ _ w5 A5.out V5.out I5.out (S5.out.congr (Nat.le_succ k) (fun j hj => by unfold updS; rw [if_neg (by omega)])) hlt hgc hgn (by
                  rcases hgl with h | ⟨b, h1, h2, h3⟩
                  · exact .inl h
                  · exact .inr ⟨b, h1, Nat.le_trans g3.out.size h2, h3⟩))
                clear hbo hf hgn hgl x0 x1 x2 x3 x4 x5 x6 x7 x8 x9 HT2
                go_wp2_with fail
                with_reducible refine KP2.out.mono ?_
                rintro _ w6 ⟨rfl, hgb, hsr⟩
                obtain ⟨rs, hrs⟩ := S5.out.type
                have g6 := hid (below_gbs g5.out hgb hbrw)
                have B6 := hid (B5.out.aside hrs (by decide) (by decide) hgb (HU.out.keep g6.out))
                have K6 := hid (K5.out.gb hgb hrs (by decide))
                have V6 := hid (gb_keepT hgb hrs V5.out (by decide))
                have S6 := hid hsr
                clear hgb hsr hrs KP2
                go_wp2_with fail
                go_roundw
                case rel => exact ⟨k + 1, by omega, by go_num, g6.out, by rw [HS.out.2]; exact B6.out, K6.out, S6.out.congr (Nat.le_refl _) (HCG.out _ _ HS.out.1 fun j hj => rfl), V6.out⟩
                case measure => simp [intOf]; omega
              · have HS := hid (HSL0.out (fun t ht => hno t (by have := ht.2; rw [← HLL.out] at this; exact this)))
                clear HFR hno
                go_wp2_with fail
                go_roundw
                case rel => exact ⟨k + 1, by omega, by go_num, g4.out, by rw [HS.out.2]; exact P4.out.1, K4.out, S4.out.congr (Nat.le_refl _) (HCG.out _ _ HS.out.1 fun j hj => rfl), V4.out⟩
                case measure => simp [intOf]; omega
          · obtain rfl : N = k := by omega
            have v0 := one HVR.out
            have HEND : Hid (PassPost w xs up now hs ks (.returned (.tuple #[.slice (some ⟨br, 0, none⟩) N N, .int .i64 0])) wr) := hid (by
              have hw := HSR.out.weak
              rw [HN.out, HF0.out, HAL.out, HNe.out] at hw
              refine ⟨HG.out, .inr ⟨br, by rw [HNe.out], HE0.out, hbrw, hw⟩⟩)
            go_wp2_with fail
            rw [Exit.noGoto_ret]
            go_returns
            exact HEND.out
end Go.Proofs.Ythkofnahimlijaa
