/- gang's Find: the tick that a rank among the first ticks falls on. Conditions: the pool and the places stand in memory. -/
import Derived.Test.YthkofnahimlijaaGang15
import Derived.Test.YthkofnahimlijaaShelfG
import Derived.Sort.OwnSortedInts
namespace Go.Proofs.Ythkofnahimlijaa
open Go Go.RowKit
def ints (l : List Int) : List Value := l.map (Value.int .i64)
theorem ints_len (l : List Int) : (ints l).length = l.length := by simp [ints]
/-- A list of numbers in rising order. -/
def srt (l : List Int) : List Int := l.mergeSort fun x y => decide (x ≤ y)
theorem srt_len (l : List Int) : (srt l).length = l.length := by simp [srt]
/-- The tick of rank m among the first ticks of some nodes. -/
noncomputable def nxT (fs : Nat → Int → V4) (v : V4) (a k : Int) (l : List Nat) (m : Nat) : Option Int := if m ≤ (firsts fs v a k l).length then (srt (firsts fs v a k l))[m - 1]? else none
theorem eT_isSome {o : Option Int} (h : o.isSome = true) : o = some (eT o) := by
  cases o with
  | none => cases h
  | some t => rfl
/-- What slices.Sort does to numbers of the call's own. -/
theorem sort_own (B : Nat) (v : Value) (l : List Int) (w : World) (ho : w.ownsRow B 3 1 v l.length (ints l)) (hl : l ≠ []) (h16 : l.length ≤ 16) :
    ∃ g cap, v = .slice (some ⟨g, 0, none⟩) l.length cap ∧ B ≤ g ∧ g < w.heap.size ∧ Calls Try.prog 41 #[v] w fun e w' => e = .returned (.tuple #[]) ∧ w'.ownsRow B 3 1 v l.length (ints (srt l)) ∧ w.grownBy w' (some g) := by
  obtain ⟨_, ⟨_, h0⟩ | ⟨g, cap, cur, rfl, hB, h1, h3, h4, h5, h6⟩⟩ := ho
  · exact absurd (List.eq_nil_of_length_eq_zero h0) hl
  · refine ⟨g, cap, rfl, hB, lt_of h1, ?_⟩
    refine (Try.slices_Sort_int g 0 cap l w (holds_of_blockI h1 (by simpa [ints] using h6)) (lt_of h1) (by omega)).mono ?_
    rintro e w' ⟨rfl, n, os, rfl⟩
    exact ⟨rfl, ownsRow_sortedI (srt_len l) hB h1 h3 h4 h5, grownBy_sortedI _⟩
theorem ints_at {l : List Int} {i : Nat} {x : Int} (h : l[i]? = some x) : (ints l)[i]? = some (.int .i64 x) := by
  unfold ints
  rw [List.getElem?_map, h]
  rfl
theorem ownsRow_any {w : World} {B : Nat} {x : Value} {n : Nat} {xs : List Value} (h : w.ownsRow B 3 1 x n xs) : (x = .slice none 0 0 ∧ n = 0) ∨ ∃ b cap, x = .slice (some ⟨b, 0, none⟩) n cap := by
  obtain ⟨_, ⟨hv, h0⟩ | ⟨b, cap, cs, rfl, _⟩⟩ := h
  · exact .inl ⟨hv, h0⟩
  · exact .inr ⟨b, cap, rfl⟩
def NxPost (w : World) (o : Option Int) (e : Ending) (w' : World) : Prop := e = .returned (.tuple #[.int .i64 (eT o), .bool o.isSome]) ∧ Below w.heap.size w w'
set_option maxHeartbeats 2000000 in
theorem find1_any (q : Nat) (sv : Value) (n : Nat) (ps : Nat → Nat) (Ws : Nat → V4) (fs : Nat → Int → V4) (bn bq bt bv bm g cap m : Nat) (l : List Nat) (v : V4) (a k : Int) (w : World) (h : PL w q sv n ps Ws fs) (hln : ∀ i, i ∈ l → i < n) (h16 : l.length ≤ 16) (hl0 : l ≠ []) (hl : Nl w g cap l)
    (hbn : w.heap[bn]? = some (.cells #[.slice (some ⟨g, 0, none⟩) l.length cap] 31 (0, 0))) (hbq : w.heap[bq]? = some (.cells #[.pointer (some ⟨q, 0, none⟩)] 49 (0, 0))) (hbt : w.heap[bt]? = some (.cells #[.int .i64 k] 3 (0, 0))) (hbv : w.heap[bv]? = some (.cells #[.int .i64 v.a, .int .i64 v.b, .int .i64 v.c, .int .i64 v.d] 40 (0, 0))) (hbm : w.heap[bm]? = some (.cells #[.int .i64 (m : Nat)] 3 (0, 0)))
    (hv : v.okB = true) (hk1 : 1 ≤ k) (ha : a ≤ 9223372036854775807) (hm1 : 1 ≤ m) (hm16 : m ≤ 16) :
    Calls Try.prog 39 #[.int .i64 a, .pointer (some ⟨bn, 0, none⟩), .pointer (some ⟨bq, 0, none⟩), .pointer (some ⟨bt, 0, none⟩), .pointer (some ⟨bv, 0, none⟩), .pointer (some ⟨bm, 0, none⟩)] w (NxPost w (nxT fs v a k l m)) := by
  have hn0 : 0 < n := by
    cases l with
    | nil => exact absurd rfl hl0
    | cons i r => exact Nat.lt_of_le_of_lt (Nat.zero_le _) (hln i (by simp))
  obtain ⟨g2, cp, rfl, _, hgl, hcell⟩ := h.row hn0
  have KE := hid (fun i (hi : i < n) w1 (hb : Below w.heap.size w w1) => earl_all (ps i) (Ws i) (fs i) a k v w1 ((h.p i hi).keep hb) hv hk1 ha)
  have HPL := hid h
  have HC := hid hcell
  have HL := hid hl
  have HLN := hid hln
  have NB := hid hbn
  have QB := hid hbq
  have TB := hid hbt
  have VB := hid hbv
  have MB := hid hbm
  obtain ⟨v0, v1, v2, v3⟩ := four hbv
  have b0 := one hbn
  have q0 := one hbq
  have t0 := one hbt
  have m0 := one hbm
  have p0 := h.cell
  have hpl := fun i (hi : i < n) => (h.p i hi).lt
  have hql := lt_of h.h
  obtain ⟨z, hz⟩ : ∃ z, z = l.length := ⟨_, rfl⟩
  have HZ := hid hz
  rw [← hz] at h16 b0
  have ib := int_info
  obtain ⟨i0, hi, hz0, hz1, hz2⟩ := ib
  clear h hcell hl hln hbn hbq hbt hbv hbm hz
  go_enter Try.func39, Try.ntmps39
  go_wp2_with fail
  go_loopw [9, 16] (fun x y wr => ∃ j : Nat, j ≤ z ∧ y = .int .i64 j ∧ Below w.heap.size w wr ∧ wr.ownsRow w.heap.size 3 1 x (firsts fs v a k (l.take j)).length (ints (firsts fs v a k (l.take j)))) (fun _ y _ => z - (intOf y).toNat)
  case atStart => exact ⟨0, Nat.zero_le _, rfl, Below.refl _ _, World.ownsRow_nil _ _ _ _⟩
  case round =>
    obtain ⟨j, hj, rfl, hg, ho⟩ := hrel
    have HG := hid hg
    have HO := hid ho
    clear hg ho
    have keepc : ∀ (b o : Nat) x, b < w.heap.size → w.cell? ⟨b, o, none⟩ = some x → wr.cell? ⟨b, o, none⟩ = some x := fun b o x hb hc => (HG.out.cell (p := ⟨b, o, none⟩) hb).trans hc
    by_cases hlt : j < z
    · have hlt' : (j : Int) < (z : Int) := by omega
      obtain ⟨x, hx⟩ : ∃ x, l[j]? = some x := ⟨_, List.getElem?_eq_getElem (by have := HZ.out; omega)⟩
      have hxn := HLN.out x (List.mem_of_getElem? hx)
      have c0 : wr.cell? ⟨g, j, none⟩ = some (.int .i64 (x : Nat)) := by
        obtain ⟨cs, h1, _, _, _, h5⟩ := HL.out
        exact keepc g j _ (lt_of h1) ((cell_of h1 j).trans (h5 j x hx))
      have va0 := keepc bv 0 _ (lt_of VB.out) v0
      have va1 := keepc bv 1 _ (lt_of VB.out) v1
      have va2 := keepc bv 2 _ (lt_of VB.out) v2
      have va3 := keepc bv 3 _ (lt_of VB.out) v3
      have qa0 := keepc bq 0 _ (lt_of QB.out) q0
      have ta0 := keepc bt 0 _ (lt_of TB.out) t0
      have pa0 := keepc q 0 _ hql p0
      have na0 := keepc g2 x _ hgl (HC.out x hxn)
      have hx0 : (x : Int) < (n : Int) := by omega
      have hm16n := HPL.out.m
      have KX := hid (KE.out x hxn wr.drew (Below.drew HG.out))
      have HX := hid (show firsts fs v a k (l.take (j + 1)) = firsts fs v a k (l.take j) ++ (eOf (fs x) v a k).toList from by
        rw [show l.take (j + 1) = l.take j ++ [x] from by rw [List.take_add_one, hx]; rfl, firsts_snoc]
        generalize eOf (fs x) v a k = o
        generalize firsts fs v a k (List.take j l) = fl
        cases o <;> simp)
      have HF := hid (Nat.le_trans (firsts_le fs v a k (l.take j)) (by rw [List.length_take]; omega : (l.take j).length ≤ j))
      clear v0 v1 v2 v3 q0 t0 p0 m0 hx keepc
      obtain ⟨o, ho⟩ : ∃ o, o = eOf (fs x) v a k := ⟨_, rfl⟩
      rw [← ho] at KX HX
      obtain ⟨F, hF⟩ : ∃ F, F = firsts fs v a k (l.take j) := ⟨_, rfl⟩
      rw [← hF] at HX HF HO
      clear ho hF
      have KEEP : Hid (∀ w5, Below wr.drew.heap.size wr.drew w5 → Below w.heap.size w w5 ∧ Below wr.heap.size wr w5) := hid fun w5 hb => ⟨(Below.drew HG.out).trans (hb.mono (Below.drew HG.out).size), unD hb⟩
      have hm16n := HPL.out.m
      cases o with
      | none =>
        go_wp2_with fail
        go_region_held3 (fun w' => w'.cell? ⟨bq, 0, none⟩ = some (.pointer (some ⟨q, 0, none⟩)) ∧ w'.cell? ⟨q, 0, none⟩ = some (.slice (some ⟨g2, 0, none⟩) n cp) ∧ w'.cell? ⟨g2, x, none⟩ = some (.pointer (some ⟨ps x, 0, none⟩)) ∧ w'.cell? ⟨bt, 0, none⟩ = some (.int .i64 k) ∧ w'.cell? ⟨bv, 0, none⟩ = some (.int .i64 v.a) ∧ w'.cell? ⟨bv, 1, none⟩ = some (.int .i64 v.b) ∧ w'.cell? ⟨bv, 2, none⟩ = some (.int .i64 v.c) ∧ w'.cell? ⟨bv, 3, none⟩ = some (.int .i64 v.d)) (first | exact ⟨qa0, pa0, na0, ta0, va0, va1, va2, va3⟩ | exact ⟨qb0, pb0, nb0, tb0, vb0, vb1, vb2, vb3⟩ | go_keep)
          (first | (go_at_call 40; (with_reducible refine KX.out.mono ?_); rintro _ w5 ⟨rfl, hb⟩; have H5 := hid (KEEP.out _ hb); have keep5 : ∀ (b o : Nat) x, b < wr.heap.size → wr.cell? ⟨b, o, none⟩ = some x → w5.cell? ⟨b, o, none⟩ = some x := (fun b o x hb' hc => ((unD hb).cell (p := ⟨b, o, none⟩) hb').trans hc); have vb0 := keep5 bv 0 _ (by have := lt_of VB.out; have := HG.out.size; omega) va0; have vb1 := keep5 bv 1 _ (by have := lt_of VB.out; have := HG.out.size; omega) va1; have vb2 := keep5 bv 2 _ (by have := lt_of VB.out; have := HG.out.size; omega) va2; have vb3 := keep5 bv 3 _ (by have := lt_of VB.out; have := HG.out.size; omega) va3; have qb0 := keep5 bq 0 _ (by have := lt_of QB.out; have := HG.out.size; omega) qa0; have tb0 := keep5 bt 0 _ (by have := lt_of TB.out; have := HG.out.size; omega) ta0; have pb0 := keep5 q 0 _ (by have := HG.out.size; omega) pa0; have nb0 := keep5 g2 x _ (by have := HG.out.size; omega) na0; clear hb keep5))
        all_goals go_wp2_with fail
        all_goals go_roundw
        case rel => exact ⟨j + 1, by omega, by go_num, H5.out.1, by rw [HX.out]; simpa using own_keep HO.out fun g' o' e cs hcs => (H5.out.2.block g' (lt_of hcs)).trans hcs⟩
        case measure => simp [intOf]; omega
      | some t =>
        rw [show eT (some t) = t from rfl] at KX
        go_wp2_with fail
        go_region_held3 (fun w' => w'.cell? ⟨bq, 0, none⟩ = some (.pointer (some ⟨q, 0, none⟩)) ∧ w'.cell? ⟨q, 0, none⟩ = some (.slice (some ⟨g2, 0, none⟩) n cp) ∧ w'.cell? ⟨g2, x, none⟩ = some (.pointer (some ⟨ps x, 0, none⟩)) ∧ w'.cell? ⟨bt, 0, none⟩ = some (.int .i64 k) ∧ w'.cell? ⟨bv, 0, none⟩ = some (.int .i64 v.a) ∧ w'.cell? ⟨bv, 1, none⟩ = some (.int .i64 v.b) ∧ w'.cell? ⟨bv, 2, none⟩ = some (.int .i64 v.c) ∧ w'.cell? ⟨bv, 3, none⟩ = some (.int .i64 v.d)) (first | exact ⟨qa0, pa0, na0, ta0, va0, va1, va2, va3⟩ | exact ⟨qb0, pb0, nb0, tb0, vb0, vb1, vb2, vb3⟩ | go_keep)
          (first | (go_at_call 40; (with_reducible refine KX.out.mono ?_); rintro _ w5 ⟨rfl, hb⟩; have H5 := hid (KEEP.out _ hb); have keep5 : ∀ (b o : Nat) x, b < wr.heap.size → wr.cell? ⟨b, o, none⟩ = some x → w5.cell? ⟨b, o, none⟩ = some x := (fun b o x hb' hc => ((unD hb).cell (p := ⟨b, o, none⟩) hb').trans hc); have vb0 := keep5 bv 0 _ (by have := lt_of VB.out; have := HG.out.size; omega) va0; have vb1 := keep5 bv 1 _ (by have := lt_of VB.out; have := HG.out.size; omega) va1; have vb2 := keep5 bv 2 _ (by have := lt_of VB.out; have := HG.out.size; omega) va2; have vb3 := keep5 bv 3 _ (by have := lt_of VB.out; have := HG.out.size; omega) va3; have qb0 := keep5 bq 0 _ (by have := lt_of QB.out; have := HG.out.size; omega) qa0; have tb0 := keep5 bt 0 _ (by have := lt_of TB.out; have := HG.out.size; omega) ta0; have pb0 := keep5 q 0 _ (by have := HG.out.size; omega) pa0; have nb0 := keep5 g2 x _ (by have := HG.out.size; omega) na0; clear hb keep5))
        all_goals have O5 := hid (own_keep HO.out fun g' o' e cs hcs => (H5.out.2.block g' (lt_of hcs)).trans hcs)
        all_goals have OA := hid (O5.out.alloc (.cells #[.int .i64 t] 3))
        all_goals have NA := hid (World.news_of_block (heap_new w5 (.cells #[.int .i64 t] 3)))
        all_goals have gA := hid (H5.out.1.alloc H5.out.1.size (.cells #[.int .i64 t] 3))
        all_goals go_wp2_with (at_builtin; refine wpList_append_own _ rfl _ _ 31 rfl (w.heap.size) 3 i0 _ 1 8 Try.underlying31 hi hz0 hz1 hz2 rfl (by decide) _ _ _ rfl OA.out ⟨w5.heap.size, 0, none⟩ 1 1 [.int .i64 t] rfl rfl NA.out (fun u hu => by simp at hu; rw [hu]; rfl) (by have := HF.out; unfold maxLen; omega) (by have := HF.out; omega) (by have := H5.out.1.size; simp; omega) ?_; rintro v' w' ho hgr hv; have O2 := hid ho; have R2 := hid hgr; clear ho hgr hv)
        all_goals go_roundw
        case rel =>
          refine ⟨j + 1, by omega, by go_num, below_own gA.out R2.out OA.out (Nat.le_refl _) (by have := H5.out.1.size; simp; omega), ?_⟩
          rw [HX.out]
          have := O2.out
          simpa [ints] using this
        case measure => simp [intOf]; omega
    · obtain rfl : j = z := by omega
      have HT := hid (show firsts fs v a k (l.take j) = firsts fs v a k l from by rw [HZ.out, List.take_length])
      have ma0 := keepc bm 0 _ (lt_of MB.out) m0
      have HFL := hid (Nat.le_trans (firsts_le fs v a k l) (by rw [← HZ.out]; exact h16 : l.length ≤ 16))
      rw [HT.out] at HO
      have HNX := hid (show nxT fs v a k l m = if m ≤ (firsts fs v a k l).length then (srt (firsts fs v a k l))[m - 1]? else none from rfl)
      obtain ⟨F, hF⟩ : ∃ F, F = firsts fs v a k l := ⟨_, rfl⟩
      rw [← hF] at HO HFL HNX
      clear HT hF v0 v1 v2 v3 q0 t0 p0 m0 keepc
      by_cases hfm : F.length < m
      · have hfm' : (F.length : Int) < (m : Int) := by omega
        have hltd : decide (F.length < m) = true := decide_eq_true hfm
        have hm0 : (0 : Int) < (m : Int) := by omega
        have hltd0 : decide (0 < m) = true := decide_eq_true (by omega)
        have HE := hid (show nxT fs v a k l m = none from by rw [HNX.out, if_neg (by omega)])
        rcases ownsRow_any HO.out with ⟨rfl, h0⟩ | ⟨b1, c1, rfl⟩
        all_goals go_wp2_with fail
        all_goals go_returns
        all_goals rw [HE.out]
        all_goals exact ⟨rfl, HG.out⟩
      · have hfm' : ¬ (F.length : Int) < (m : Int) := by omega
        have hltd : decide (F.length < m) = false := decide_eq_false hfm
        have hF0 : F ≠ [] := by
          intro e
          rw [e] at hfm
          exact hfm (by simp; omega)
        obtain ⟨b1, c1, rfl, hB1, hb1, hS⟩ := sort_own w.heap.size _ F wr HO.out hF0 HFL.out
        have HS := hid hS
        obtain ⟨r, hr⟩ : ∃ r, r = m - 1 := ⟨_, rfl⟩
        obtain ⟨t, ht⟩ : ∃ t, (srt F)[r]? = some t := ⟨_, List.getElem?_eq_getElem (by rw [srt_len]; omega)⟩
        have HE := hid (show nxT fs v a k l m = some t from by rw [HNX.out, if_pos (by omega), ← hr, ht])
        have HT2 := hid (ints_at ht)
        have hre : (m : Int) - 1 = (r : Int) := by omega
        have hr0 : 0 ≤ (r : Int) := by omega
        have hrF : (r : Int) < (F.length : Int) := by omega
        have hbm1 : bm < w.heap.size := lt_of MB.out
        have MBr : wr.heap[bm]? = some (.cells #[.int .i64 (m : Nat)] 3 (0, 0)) := (HG.out.block bm hbm1).trans MB.out
        have KK : Hid (∀ w5 : World, w5.ownsRow w.heap.size 3 1 (.slice (some ⟨b1, 0, none⟩) F.length c1) F.length (ints (srt F)) → wr.grownBy w5 (some b1) → w5.cell? ⟨bm, 0, none⟩ = some (.int .i64 (m : Nat)) ∧ w5.cell? ⟨b1, r, none⟩ = some (.int .i64 t) ∧ Below w.heap.size w w5) := hid fun w5 ho hgr => by
          refine ⟨one (gb_keep hgr MBr (by simp; omega)), ?_, below_own (v := .slice (some ⟨b1, 0, none⟩) F.length c1) HG.out hgr HO.out (Nat.le_refl _) HG.out.size⟩
          have h9 := ho.cells (g := b1) rfl r _ HT2.out
          rwa [show (⟨b1, 0, none⟩ : Addr).add r = ⟨b1, r, none⟩ by unfold Addr.add; split <;> simp_all] at h9
        clear hS ht MBr hbm1 hr
        go_wp2_with (go_at_call 41; (with_reducible refine HS.out.mono ?_); rintro _ w5 ⟨rfl, ho, hgr⟩; obtain ⟨mb0, ct, g5⟩ := KK.out _ ho hgr; have G5 := hid g5; clear ho hgr g5)
        go_returns
        rw [HE.out]
        exact ⟨rfl, G5.out⟩
end Go.Proofs.Ythkofnahimlijaa
