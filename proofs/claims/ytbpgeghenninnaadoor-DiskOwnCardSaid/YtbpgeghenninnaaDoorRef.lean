/- The document's disk, by values. Condition: none. -/
import Derived.Test.YtbpgeghenninnaaDoorMore
namespace Go.Proofs.YtbpgeghenninnaaDoor
open Go Go.RowKit
def str (l : List UInt8) : ByteArray := ⟨l.toArray⟩
theorem str_size (l : List UInt8) : (str l).size = l.length := by simp [str, ByteArray.size]
theorem str_add (a b : List UInt8) : str a ++ str b = str (a ++ b) := by
  apply ByteArray.ext
  simp [str]
/-- The document's disk as a value. -/
def rv (d : Dsk) : Array Value := #[.int .i64 d.room, .int .i64 d.e, .int .i64 d.o, .int .i64 d.u, .string (str d.log), .string (str d.snap), .string (str d.stg), .bool d.armed, .int .i64 d.cut]
theorem rnew_any (room : Int) (w : World) : Calls Tryd.prog 9 #[.int .i64 room] w fun e w' => e = .returned (.agg (rv (Dsk.new room))) ∧ Below w.heap.size w w' := by
  have hs : str [] = ⟨#[]⟩ := rfl
  simp only [rv, Dsk.new]
  rw [hs]
  clear hs
  go_enter Tryd.func9, Tryd.ntmps9
  go_wp2_with fail
  all_goals go_returns
  all_goals exact ⟨by congr 4; congr 1; omega, by go_grown⟩
theorem rcut_any (d : Dsk) (n : Int) (w : World) : Calls Tryd.prog 29 #[.agg (rv d), .int .i64 n] w fun e w' => e = .returned (.agg (rv { d with armed := true, cut := n })) ∧ Below w.heap.size w w' := by
  simp only [rv]
  obtain ⟨room, e, o, u, log, snap, stg, armed, cut⟩ := d
  simp only
  generalize str log = sl at *
  generalize str snap = ss at *
  generalize str stg = st at *
  go_enter Tryd.func29, Tryd.ntmps29
  go_wp2_with fail
  all_goals go_returns
  all_goals exact ⟨rfl, by go_grown⟩
set_option maxHeartbeats 2000000 in
theorem rswap_any (d : Dsk) (a b : Int × Int × Int) (w : World) : Calls Tryd.prog 24 #[.agg (rv d), cl a, cl b] w fun e w' => e = .returned (.tuple #[.agg (rv (swD d a b)), .int .i64 (swE d a b)]) ∧ Below w.heap.size w w' := by
  have hE : swE d a b = if b.1 < a.1 ∨ 1099511627776 < b.1 then 1 else if (d.e, d.o, d.u) = a then 0 else 150 := rfl
  have hD : swD d a b = if swE d a b = 0 then { d with e := b.1, o := b.2.1, u := b.2.2 } else d := rfl
  obtain ⟨e1, w1, u1⟩ := a
  obtain ⟨e2, w2, u2⟩ := b
  obtain ⟨room, e0, o0, u0, log, snap, stg, armed, cut⟩ := d
  simp only [cl] at hE hD ⊢
  by_cases hbad : e2 < e1 ∨ 1099511627776 < e2
  · rw [if_pos hbad] at hE
    rw [hE, if_neg (by decide)] at hD
    rw [hE, hD]
    simp only [rv]
    generalize str log = sl at *
    generalize str snap = ss at *
    generalize str stg = st at *
    clear hE hD
    by_cases h1 : e2 < e1
    · clear hbad
      go_enter Tryd.func24, Tryd.ntmps24
      go_wp2_with fail
      all_goals go_returns
      all_goals exact ⟨rfl, by go_grown⟩
    · have h2 : 1099511627776 < e2 := by omega
      clear hbad
      go_enter Tryd.func24, Tryd.ntmps24
      go_wp2_with fail
      all_goals go_returns
      all_goals exact ⟨rfl, by go_grown⟩
  · rw [if_neg hbad] at hE
    have h1 : ¬ e2 < e1 := fun h => hbad (.inl h)
    have h2 : ¬ 1099511627776 < e2 := fun h => hbad (.inr h)
    clear hbad
    by_cases he : (e0, o0, u0) = (e1, w1, u1)
    · rw [if_pos he] at hE
      rw [hE, if_pos rfl] at hD
      rw [hE, hD]
      simp only [rv]
      generalize str log = sl at *
      generalize str snap = ss at *
      generalize str stg = st at *
      cases he
      clear hE hD
      go_enter Tryd.func24, Tryd.ntmps24
      go_wp2_with fail
      all_goals go_returns
      all_goals exact ⟨rfl, by go_grown⟩
    · rw [if_neg he] at hE
      rw [hE, if_neg (by decide)] at hD
      rw [hE, hD]
      simp only [rv]
      generalize str log = sl at *
      generalize str snap = ss at *
      generalize str stg = st at *
      clear hE hD
      by_cases k1 : e0 = e1
      · by_cases k2 : o0 = w1
        · have k3 : (u0 == u1) = false := by
            simp only [k1, k2, Prod.mk.injEq, true_and] at he
            simpa using he
          subst k1 k2
          clear he
          go_enter Tryd.func24, Tryd.ntmps24
          go_wp2_with fail
          all_goals go_returns
          all_goals exact ⟨rfl, by go_grown⟩
        · have k3 : (o0 == w1) = false := by simpa using k2
          subst k1
          clear he k2
          go_enter Tryd.func24, Tryd.ntmps24
          go_wp2_with fail
          all_goals go_returns
          all_goals exact ⟨rfl, by go_grown⟩
      · have k3 : (e0 == e1) = false := by simpa using k1
        clear he k1
        go_enter Tryd.func24, Tryd.ntmps24
        go_wp2_with fail
        all_goals go_returns
        all_goals exact ⟨rfl, by go_grown⟩
end Go.Proofs.YtbpgeghenninnaaDoor
