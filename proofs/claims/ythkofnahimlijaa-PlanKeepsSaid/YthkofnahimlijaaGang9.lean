/- gang's New, of any amounts. Conditions: the amounts stand in memory. -/
import Derived.Test.YthkofnahimlijaaGang8
namespace Go.Proofs.Ythkofnahimlijaa
open Go Go.RowKit
/-- Amounts that lie in memory. -/
def Vs (w : World) (A : Option Addr) (xs : List V4) : Prop := xs = [] ∨ ∃ b off, A = some ⟨b, off, none⟩ ∧ b < w.heap.size ∧ ∀ (i : Nat) x, xs[i]? = some x → w.cell? ⟨b, off + i * 4, none⟩ = some (.int .i64 x.a) ∧ w.cell? ⟨b, off + i * 4 + 1, none⟩ = some (.int .i64 x.b) ∧ w.cell? ⟨b, off + i * 4 + 2, none⟩ = some (.int .i64 x.c) ∧ w.cell? ⟨b, off + i * 4 + 3, none⟩ = some (.int .i64 x.d)
theorem Vs.keep {w w' : World} {A : Option Addr} {xs : List V4} (h : Vs w A xs) (hb : Below w.heap.size w w') : Vs w' A xs := by
  rcases h with e | ⟨b, off, rfl, hlt, hc⟩
  · exact .inl e
  · refine .inr ⟨b, off, rfl, Nat.lt_of_lt_of_le hlt hb.size, fun i x hx => ?_⟩
    obtain ⟨h0, h1, h2, h3⟩ := hc i x hx
    exact ⟨by rw [hb.cell (p := ⟨b, _, none⟩) hlt]; exact h0, by rw [hb.cell (p := ⟨b, _, none⟩) hlt]; exact h1, by rw [hb.cell (p := ⟨b, _, none⟩) hlt]; exact h2, by rw [hb.cell (p := ⟨b, _, none⟩) hlt]; exact h3⟩
theorem Vs.at {w : World} {A : Option Addr} {xs : List V4} (h : Vs w A xs) {i : Nat} {x : V4} (hi : xs[i]? = some x) : ∃ b off, A = some ⟨b, off, none⟩ ∧ w.cell? ⟨b, off + i * 4, none⟩ = some (.int .i64 x.a) ∧ w.cell? ⟨b, off + i * 4 + 1, none⟩ = some (.int .i64 x.b) ∧ w.cell? ⟨b, off + i * 4 + 2, none⟩ = some (.int .i64 x.c) ∧ w.cell? ⟨b, off + i * 4 + 3, none⟩ = some (.int .i64 x.d) := by
  rcases h with rfl | ⟨b, off, rfl, _, hc⟩
  · simp at hi
  · exact ⟨b, off, rfl, hc i x hi⟩
theorem Pr.apart {w w' : World} {p k : Nat} {W : V4} {f : Int → V4} (h : Pr w p W f) {cs : Array Value} {t : TypeId} {fr : Nat × Nat} (hk : w.heap[k]? = some (.cells cs t fr)) (ht : t ≠ 108 ∧ t ≠ 105) (hb : w.grownBy w' (some k)) : Pr w' p W f := by
  obtain ⟨b, cap, n, T, V, h1, h2⟩ := h
  refine ⟨b, cap, n, T, V, h1.gb hb (fun e => ?_) (fun e => ?_), h2⟩
  · cases e
    have := h1.h
    rw [hk] at this
    simp at this
    exact ht.1 this.2.1
  · cases e
    obtain ⟨cs', fr', h3, _⟩ := h1.s
    rw [hk] at h3
    simp at h3
    exact ht.2 h3.2.1
theorem Pr.grow {w w' : World} {p : Nat} {W : V4} {f : Int → V4} (h : Pr w p W f) {base : Nat} {v : Value} {n : Nat} {xs : List Value} (ho : w.ownsRow base 81 1 v n xs) (hb : w.grownBy w' v.ownBlock) : Pr w' p W f := by
  obtain ⟨_, ⟨rfl, _⟩ | ⟨g, cap, cur, rfl, _, h4, _⟩⟩ := ho
  · exact h.keep (gb_none hb)
  · exact h.apart h4 (by decide) hb
theorem gb_set {w : World} {q i : Nat} (v : Value) : w.grownBy (w.setCell ⟨q, i, none⟩ v) (some q) := ⟨rfl, rfl, rfl, by simp, fun k _ hn => heap_setCell_other _ _ _ _ (fun e => hn (by rw [e]))⟩
theorem prof_info : ∃ i0, Try.prog.info? 81 = some i0 ∧ i0.zero = some (.pointer none) ∧ i0.size = 1 ∧ i0.bytes = 8 := by
  obtain ⟨i, hi⟩ := Option.isSome_iff_exists.1 (show (Try.prog.info? 81).isSome = true by kernel_rfl)
  have h1 : (Try.prog.info? 81).map (·.zero) = some (some (.pointer none)) := by kernel_rfl
  have h2 : (Try.prog.info? 81).map (·.size) = some 1 := by kernel_rfl
  have h3 : (Try.prog.info? 81).map (·.bytes) = some 8 := by kernel_rfl
  rw [hi] at h1 h2 h3
  simp at h1 h2 h3
  exact ⟨i, hi, h1, h2, h3⟩
def GNewPost (w : World) (xs : List V4) (e : Ending) (w' : World) : Prop := Below w.heap.size w w' ∧ ((e = .returned (.pointer none) ∧ (16 < xs.length ∨ ∃ x, x ∈ xs ∧ x.okB = false)) ∨
  (∃ q sv ps, e = .returned (.pointer (some ⟨q, 0, none⟩)) ∧ (∀ x, x ∈ xs → x.okB = true) ∧ PL w' q sv xs.length ps (fun i => xs.getD i V4.z) (fun i _ => xs.getD i V4.z) ∧ w.heap.size ≤ q ∧ ∀ i, i < xs.length → w.heap.size ≤ ps i))
set_option maxHeartbeats 2000000 in
theorem gnew_any (A : Option Addr) (cap : Nat) (xs : List V4) (w : World) (hN : Vs w A xs) (hl : xs.length ≤ 9223372036854775807) : Calls Try.prog 15 #[.slice A xs.length cap] w (GNewPost w xs) := by
  have HN : Hid (∀ w1, Below w.heap.size w w1 → Vs w1 A xs) := hid fun w1 hb => hN.keep hb
  obtain ⟨m, hm⟩ : ∃ m, m = xs.length := ⟨_, rfl⟩
  rw [← hm] at hl ⊢
  have HM := hid hm
  obtain ⟨i0, hi, hz0, hz1, hz2⟩ := prof_info
  clear hN hm
  by_cases h16 : 16 < m
  · have h16' : (16 : Int) < (m : Int) := by omega
    go_enter Try.func15, Try.ntmps15
    go_wp2_with fail
    go_returns
    exact ⟨Below.refl _ _, .inl ⟨rfl, .inl (by have := HM.out; omega)⟩⟩
  · have h16' : ¬ (16 : Int) < (m : Int) := by omega
    have B0 := hid (heap_new w (.cells #[.slice none 0 0] 80))
    have g0 := hid (show Below w.heap.size w (w.alloc (.cells #[.slice none 0 0] 80)) from by go_grown)
    go_enter Try.func15, Try.ntmps15
    go_wp2_with fail
    go_loopw [14] (fun x wr => ∃ (k : Nat) (sv : Value) (ps : Nat → Nat), k ≤ m ∧ x = .int .i64 k ∧ Below w.heap.size w wr ∧ PL wr w.heap.size sv k ps (fun i => xs.getD i V4.z) (fun i _ => xs.getD i V4.z) ∧ wr.ownsRow (w.heap.size + 1) 81 1 sv k (ptrs k ps) ∧ (∀ i, i < k → w.heap.size + 1 ≤ ps i) ∧ (∀ (i : Nat) x, i < k → xs[i]? = some x → x.okB = true)) (fun x _ => m - (intOf x).toNat)
    case atStart => exact ⟨0, .slice none 0 0, fun _ => 0, Nat.zero_le _, rfl, g0.out, ⟨B0.out, World.ownsRow_nil _ _ _ _, fun i hi => by omega, fun i j hi => by omega, by omega⟩, World.ownsRow_nil _ _ _ _, fun i hi => by omega, fun i x hi => by omega⟩
    case round =>
      clear B0 g0
      obtain ⟨k, sv, ps, hk, rfl, hg, hp, ho, hps, hr⟩ := hrel
      have HG := hid hg
      have HPl := hid hp
      have HO := hid ho
      have HS := hid hps
      have HR := hid hr
      clear hg hp ho hps hr
      by_cases hlt : k < m
      · have hlt' : (k : Int) < (m : Int) := by omega
        obtain ⟨x, hx⟩ : ∃ x, xs[k]? = some x := ⟨_, List.getElem?_eq_getElem (by have := HM.out; omega)⟩
        obtain ⟨b, off, rfl, c0, c1, c2, c3⟩ := (HN.out _ HG.out).at hx
        have HX := hid hx
        clear hx
        have X0 := hid (heap_new wr (.cells #[.int .i64 x.a, .int .i64 x.b, .int .i64 x.c, .int .i64 x.d] 40))
        have gX := hid (HG.out.alloc HG.out.size (.cells #[.int .i64 x.a, .int .i64 x.b, .int .i64 x.c, .int .i64 x.d] 40))
        have PX := hid (HPl.out.keep (show Below wr.heap.size wr (wr.alloc (.cells #[.int .i64 x.a, .int .i64 x.b, .int .i64 x.c, .int .i64 x.d] 40)) from by go_grown))
        have OX := hid (HO.out.alloc (.cells #[.int .i64 x.a, .int .i64 x.b, .int .i64 x.c, .int .i64 x.d] 40))
        obtain ⟨x0, x1, x2, x3⟩ := four X0.out
        cases hok : x.okB with
        | false =>
          have KN := hid (new_no x hok)
          have HK := hid hok
          clear hok
          go_wp2_with (go_at_call 31; (with_reducible refine (KN.out _).mono ?_); rintro _ w2 ⟨rfl, hb⟩; have g2 := hid (below_step gX.out gX.out.size hb); clear hb)
          go_returns
          exact ⟨g2.out, .inl ⟨rfl, .inr ⟨x, List.mem_of_getElem? HX.out, HK.out⟩⟩⟩
        | true =>
          have KN := hid (new_pr x hok)
          have HK := hid hok
          clear hok
          have hpk := hid (fun i (hi : i < k) => (HPl.out.p i hi).lt)
          go_upto_region 10 with (go_at_call 31; (with_reducible refine (KN.out _).mono ?_); rintro _ w2 ⟨p2, rfl, hp2, hpl2, hb⟩; have P3 := hid (hp2.keep (show Below w2.heap.size w2 (w2.alloc (.cells #[.pointer (some ⟨p2, 0, none⟩)] 81)) from by go_grown)); have L3 := hid ((PX.out.keep hb).keep (show Below w2.heap.size w2 (w2.alloc (.cells #[.pointer (some ⟨p2, 0, none⟩)] 81)) from by go_grown)); have O3 := hid ((own_keep OX.out (fun _ _ _ _ hc => keep0 hb hc)).alloc (.cells #[.pointer (some ⟨p2, 0, none⟩)] 81)); have g3 := hid ((below_step gX.out gX.out.size hb).alloc (by have := gX.out.size; have := hb.size; omega) (.cells #[.pointer (some ⟨p2, 0, none⟩)] 81)); have N3 := hid (World.news_of_block (heap_new w2 (.cells #[.pointer (some ⟨p2, 0, none⟩)] 81))); have HP2 := hid hpl2; have q2 := (PX.out.keep hb).cell; have hzz : w.heap.size + 1 ≤ w2.heap.size := (by have := lt_of PX.out.h; have := hb.size; omega); clear hp2 hpl2 hb)
          all_goals
            go_wp2_with (at_builtin; refine wpList_append_lies _ rfl (.tmp 26) (.tmp 28) 78 rfl (w.heap.size + 1) 81 i0 _ 1 8 Try.underlying78 hi hz0 hz1 hz2 rfl (by decide) sv k (ptrs k ps) rfl O3.out ⟨w2.heap.size, 0, none⟩ 1 1 [.pointer (some ⟨p2, 0, none⟩)] rfl rfl N3.out (fun u hu => by simp at hu; rw [hu]; rfl) (by decide) (by unfold maxLen; omega) (by omega) (by simp; omega) _ rfl ?_; intro gb cb w5 ho hgr hat hlt5; have O5 := hid ho; have R5 := hid hgr; have Q5 := hid (gb_keep hgr L3.out.h (own_ne O3.out (Nat.lt_succ_self _))); have q5 := one Q5.out; have fq5 := free_of Q5.out 0; clear ho hgr hat hlt5)
            go_wp2_with fail
            go_roundw
            case rel =>
              have hpe : ∀ i, i < k → upd ps k p2 i = ps i := fun i hi => upd_lt ps p2 hi
              have hptr : ptrs (k + 1) (upd ps k p2) = ptrs k ps ++ [.pointer (some ⟨p2, 0, none⟩)] := by
                rw [ptrs_succ, upd_same, show ptrs k (upd ps k p2) = ptrs k ps from List.map_congr_left fun i hi => by rw [hpe i (by simpa using hi)]]
              have hset : w5.grownBy (w5.setCell ⟨w.heap.size, 0, none⟩ (.slice (some ⟨gb, 0, none⟩) (k + 1) cb)) (some w.heap.size) := gb_set _
              have hrow : (w5.setCell ⟨w.heap.size, 0, none⟩ (.slice (some ⟨gb, 0, none⟩) (k + 1) cb)).ownsRow (w.heap.size + 1) 81 1 (.slice (some ⟨gb, 0, none⟩) (k + 1) cb) (k + 1) (ptrs (k + 1) (upd ps k p2)) := by
                rw [hptr]
                refine own_keep O5.out (fun g o hv cs hcs => gb_keep hset hcs (fun e => ?_))
                cases e
                exact own_ne O5.out (Nat.lt_succ_self w.heap.size) (by rw [hv]; rfl)
              have g5 := below_own g3.out R5.out O3.out (Nat.le_succ _) (by simp; omega)
              have hnew : p2 ≠ w.heap.size ∧ w.heap.size + 1 ≤ p2 := by
                have h1 := HP2.out
                have h2 := lt_of HPl.out.h
                simp at h1
                omega
              refine ⟨k + 1, .slice (some ⟨gb, 0, none⟩) (k + 1) cb, upd ps k p2, by omega, by go_num, g5.setCell (p := ⟨w.heap.size, 0, none⟩) (Nat.le_refl _) _, ⟨?_, own_weak hrow (Nat.zero_le _), fun i hi => ?_, fun i j hi hj he => ?_, by omega⟩, hrow, fun i hi => ?_, fun i y hi hy => ?_⟩
              · have h0 := heap_setCell_same w5 w.heap.size 0 _ 80 (.slice (some ⟨gb, 0, none⟩) (k + 1) cb) Q5.out
                simpa using h0
              · have hP5 : Pr w5 (upd ps k p2 i) (xs.getD i V4.z) (fun _ => xs.getD i V4.z) := by
                  rcases Nat.lt_or_ge i k with h | h
                  · rw [hpe i h]
                    exact (L3.out.p i h).grow O3.out R5.out
                  · obtain rfl : i = k := by omega
                    rw [upd_same, show xs.getD i V4.z = x by rw [List.getD_eq_getElem?_getD, HX.out]; rfl]
                    exact P3.out.grow O3.out R5.out
                exact hP5.apart Q5.out (by decide) hset
              · have hfar : ∀ i, i < k → ps i ≠ p2 := fun i hi => by
                  have h1 := hpk.out i hi
                  have h2 := HP2.out
                  simp at h2
                  omega
                rcases Nat.lt_or_ge i k with h | h <;> rcases Nat.lt_or_ge j k with h' | h'
                · rw [hpe i h, hpe j h'] at he
                  exact L3.out.d i j h h' he
                · obtain rfl : j = k := by omega
                  rw [hpe i h, upd_same] at he
                  exact absurd he (hfar i h)
                · obtain rfl : i = k := by omega
                  rw [hpe j h', upd_same] at he
                  exact absurd he.symm (hfar j h')
                · omega
              · rcases Nat.lt_or_ge i k with h | h
                · rw [hpe i h]
                  exact HS.out i h
                · obtain rfl : i = k := by omega
                  rw [upd_same]
                  exact hnew.2
              · rcases Nat.lt_or_ge i k with h | h
                · exact HR.out i y h hy
                · obtain rfl : i = k := by omega
                  rw [HX.out] at hy
                  cases hy
                  exact HK.out
            case measure => simp [intOf]; omega
      · obtain rfl : k = m := by omega
        go_wp2_with fail
        go_returns
        refine ⟨HG.out, .inr ⟨w.heap.size, sv, ps, rfl, fun x hx => ?_, ?_, Nat.le_refl _, fun i hi => ?_⟩⟩
        · obtain ⟨j, hj⟩ := List.getElem?_of_mem hx
          exact HR.out j x (by have := (List.getElem?_eq_some_iff.1 hj).1; have := HM.out; omega) hj
        · rw [← HM.out]
          exact HPl.out
        · have := HS.out i (by have := HM.out; omega)
          omega
end Go.Proofs.Ythkofnahimlijaa
