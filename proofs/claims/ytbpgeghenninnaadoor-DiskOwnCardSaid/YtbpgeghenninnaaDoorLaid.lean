/- A listed variable of plain data (numbers, bools, strings, and arrays and structs of these) has just the cells that its datum tells. Conditions: none of its own. -/
import Derived.LaidLaws
import Derived.ChangeArms
import Derived.OpenShut
import Derived.FnData
namespace Go.Proofs.YtbpgeghenninnaaDoor
open Go Go.ChangeShapes Go.WideShapes Go.RowKit

section
variable {H : Type}
def tileFields (cut : TypeId → DataW H → Option (List Value)) (c : TypeId → Nat) : List Field → List (DataW H) → Nat → Option (List Value)
  | [], [], _ => some []
  | f :: fs, d :: ds, o =>
    match cut f.type d with
    | some l => if f.offset = o ∧ l.length = c f.type then (tileFields cut c fs ds (o + l.length)).map (l ++ ·) else none
    | none => none
  | _, _, _ => none
def tileElems (cut : DataW H → Option (List Value)) (c : Nat) : List (DataW H) → Option (List Value)
  | [] => some []
  | d :: ds =>
    match cut d with
    | some l => if l.length = c then (tileElems cut c ds).map (l ++ ·) else none
    | none => none
/-- The cells that a plain datum tells at a type. -/
def plainCells (P : Program) : Nat → TypeId → DataW H → Option (List Value)
  | 0, _, _ => none
  | f + 1, t, d =>
    match P.underlying t, d with
    | some .bool, .lit (.bool b) => some [.bool b]
    | some (.int k), .lit (.int k' n) => if k' = k then some [.int k n] else none
    | some .string, .lit (.string s) => some [.string ⟨s.toArray⟩]
    | some (.struct fs), .agg ds => (tileFields (plainCells P f) P.cellsOf fs.toList ds 0).bind fun l => if l.length = P.cellsOf t then some l else none
    | some (.array _ e), .agg ds => (tileElems (plainCells P f e) (P.cellsOf e) ds).bind fun l => if l.length = P.cellsOf t then some l else none
    | _, _ => none

theorem take_tile {cs l l' : List Value} {o : Nat} (h : (cs.drop o).take l.length = l) (h' : (cs.drop (o + l.length)).take l'.length = l') : (cs.drop o).take (l ++ l').length = l ++ l' := by
  rw [List.length_append, List.take_add, h, List.drop_drop, h']

theorem tileFields_sound {cut : TypeId → DataW H → Option (List Value)} {c : TypeId → Nat} {read : TypeId → List Value → Option (DataW H × List MemPlace)} (hcut : ∀ t cs x l, read t cs = some x → cut t x.1 = some l → cs = l) (cs : List Value) :
    ∀ (fs : List Field) (xs : List (DataW H × List MemPlace)) (o : Nat) (l : List Value), tileFields cut c fs (xs.map (·.1)) o = some l →
      (∀ (i : Nat) (f : Field), fs[i]? = some f → read f.type ((cs.drop f.offset).take (c f.type)) = xs[i]?) → (cs.drop o).take l.length = l
  | [], [], o, l, h, _ => by
    simp [tileFields] at h
    subst h
    simp
  | [], _ :: _, _, _, h, _ => by simp [tileFields] at h
  | _ :: _, [], _, _, h, _ => by simp [tileFields] at h
  | f :: fs, x :: xs, o, l, h, hx => by
    simp only [List.map_cons, tileFields] at h
    split at h
    · rename_i l0 hl0
      split at h
      · rename_i hc
        obtain ⟨ho, hlen⟩ := hc
        obtain ⟨l1, h1, rfl⟩ := Option.map_eq_some_iff.1 h
        have h0 := hcut _ _ _ _ (by simpa using hx 0 f rfl) hl0
        have ih := tileFields_sound hcut cs fs xs (o + l0.length) l1 h1 (fun i g hg => by simpa using hx (i + 1) g (by simpa using hg))
        refine take_tile ?_ ih
        rw [hlen, ← ho]
        exact h0
      · cases h
    · cases h

theorem tileElems_sound {cut : DataW H → Option (List Value)} {c : Nat} {read : List Value → Option (DataW H × List MemPlace)} (hcut : ∀ cs x l, read cs = some x → cut x.1 = some l → cs = l) (cs : List Value) :
    ∀ (xs : List (DataW H × List MemPlace)) (k : Nat) (l : List Value), tileElems cut c (xs.map (·.1)) = some l →
      (∀ (i : Nat), i < xs.length → read ((cs.drop ((k + i) * c)).take c) = xs[i]?) → (cs.drop (k * c)).take l.length = l
  | [], k, l, h, _ => by
    simp [tileElems] at h
    subst h
    simp
  | x :: xs, k, l, h, hx => by
    simp only [List.map_cons, tileElems] at h
    split at h
    · rename_i l0 hl0
      split at h
      · rename_i hc
        obtain ⟨l1, h1, rfl⟩ := Option.map_eq_some_iff.1 h
        have h0 := hcut _ _ _ (by simpa using hx 0 (by simp)) hl0
        have ih := tileElems_sound hcut cs xs (k + 1) l1 h1 (fun i hi => by
          have := hx (i + 1) (by simpa using hi)
          simpa [Nat.add_assoc, Nat.add_comm 1 i] using this)
        refine take_tile ?_ ?_
        · rw [hc]
          exact h0
        · rw [hc]
          rw [Nat.succ_mul] at ih
          exact ih
      · cases h
    · cases h

theorem plainCells_sound {enc : TypeId × Value → H} {P : Program} {w : World} {base : Nat} {spare : Nat → Bool} {held : Bool} :
    ∀ (f : Nat) (t : TypeId) (cs : List Value) (fuel : Nat) (x : DataW H × List MemPlace) (l : List Value), DataW.trod enc P w base spare held fuel t cs = some x → plainCells P f t x.1 = some l → cs = l := by
  intro f
  induction f with
  | zero => intro t cs fuel x l _ h; simp [plainCells] at h
  | succ f ih =>
    intro t cs fuel x l hx h
    unfold plainCells at h
    split at h
    · rename_i ht hd
      obtain ⟨b, rfl, rfl⟩ := DataW.trod_bool ht hx
      simp at hd h
      subst hd h
      rfl
    · rename_i ht hd
      obtain ⟨n, rfl, rfl, _⟩ := DataW.trod_int ht hx
      split at h
      · simp at hd h
        obtain ⟨rfl, rfl⟩ := hd
        rw [← h]
      · cases h
    · rename_i ht hd
      obtain ⟨s, rfl, rfl, _⟩ := DataW.trod_string ht hx
      simp at hd h
      subst hd
      rw [← h]
    · rename_i fs ds ht hd
      obtain ⟨xs, n, rfl, rfl, hlen, hxl, hf⟩ := DataW.trod_struct ht hx
      simp only [DataW.agg.injEq] at hd
      subst hd
      obtain ⟨l0, h0, h1⟩ := Option.bind_eq_some_iff.1 h
      split at h1
      · rename_i hl0
        obtain rfl := Option.some.inj h1
        have := tileFields_sound (read := DataW.trod enc P w base spare held n) (fun t cs x l hr hc => ih t cs n x l hr hc) cs fs.toList xs 0 l0 h0 (fun i g hg => hf i g (by simpa using hg))
        rw [hl0, ← hlen] at this
        simpa using this
      · cases h1
    · rename_i m e ds ht hd
      obtain ⟨xs, n, rfl, rfl, hlen, hxl, hf⟩ := DataW.trod_array ht hx
      simp only [DataW.agg.injEq] at hd
      subst hd
      obtain ⟨l0, h0, h1⟩ := Option.bind_eq_some_iff.1 h
      split at h1
      · rename_i hl0
        obtain rfl := Option.some.inj h1
        have := tileElems_sound (read := DataW.trod enc P w base spare held n e) (fun cs x l hr hc => ih e cs n x l hr hc) cs xs 0 l0 h0 (fun i hi => by simpa using hf i (by omega))
        rw [hl0, ← hlen] at this
        simpa using this
      · cases h1
    · cases h
end

/-- THE HEAD OF A LIST OF LISTED VARIABLES: its block of cells; and the rest of the list. -/
theorem laid_head {P : Program} {w : World} {n : String} {d : DataW Unit} {r : List (String × DataW Unit)} {ps : List MemPlace} {g : Nat} {t : TypeId} {l : List Value} (f : Nat)
    (hg : P.globalNamed n = some g) (ht : (P.globals[g]?).map (·.type) = some t) (hl : plainCells P f t d = some l) (h : DataW.LaidVars P w ((n, d) :: r) ps) :
    (∃ T fr, w.heap[g]? = some (.cells l.toArray T fr)) ∧ ∃ q, DataW.LaidVars P w r q := by
  obtain ⟨g', t', cs, fuel, p, q, hg', ht', hv, hd, hr, _⟩ := h
  obtain rfl := Option.some.inj (hg.symm.trans hg')
  obtain rfl := Option.some.inj (ht.symm.trans ht')
  refine ⟨?_, q, hr⟩
  have hcs := plainCells_sound f t cs.toList fuel (d, p) l hd hl
  have hcs' : cs = l.toArray := by rw [← hcs]
  subst hcs'
  unfold World.var? at hv
  rw [hg, Option.bind_some] at hv
  split at hv
  · rename_i c T fr hh
    obtain rfl := Option.some.inj hv
    exact ⟨T, fr, hh⟩
  · cases hv
end Go.Proofs.YtbpgeghenninnaaDoor
