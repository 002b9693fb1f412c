/- slices.CompactFunc at records of one's own. No statement of the seat is proved here. -/
import Derived.Test.YtkgojdmjagicdaaGreatRsL
import Derived.Lib.SliceRun
import Derived.Shelf.SlSortCmp.NoneTotal
namespace Go.Proofs.YtkgojdmjagicdaaGreat
open Go.RowKit Go.Op

theorem keepF_snoc : ∀ (l : List Rrd) (q y p : Rrd), (q :: l).getLast? = some p → keepF q (l ++ [y]) = if cY y p = 0 then keepF q l else keepF q l ++ [y]
  | [], q, y, p, h => by
    obtain rfl : q = p := by simpa using h
    simp only [List.nil_append, keepF]
  | z :: l, q, y, p, h => by
    rw [List.getLast?_cons_cons] at h
    have ih := keepF_snoc l z y p h
    have ih2 : keepF q (z :: l ++ [y]) = if cY z q = 0 then keepF z (l ++ [y]) else z :: keepF z (l ++ [y]) := rfl
    rw [ih2, ih, keepF]
    by_cases c : cY z q = 0
    · rw [if_pos c, if_pos c]
    · rw [if_neg c, if_neg c]
      split <;> rfl
theorem compF_next {D : List Rrd} {k : Nat} {x y : Rrd} (hx : D[k + 1]? = some x) (hy : D[k]? = some y) : compF (D.take (k + 2)) = if cY x y = 0 then compF (D.take (k + 1)) else compF (D.take (k + 1)) ++ [x] := by
  have e : D.take (k + 2) = D.take (k + 1) ++ [x] := by rw [List.take_add_one, hx]; rfl
  have hl : k + 1 < D.length := (List.getElem?_eq_some_iff.1 hx).1
  have e2 : (D.take (k + 1)).getLast? = some y := by
    rw [List.getLast?_eq_getElem?, List.length_take, Nat.min_eq_left (by omega), List.getElem?_take, if_pos (by omega)]
    exact hy
  rw [e]
  cases h : D.take (k + 1) with
  | nil => rw [h] at e2; cases e2
  | cons q l =>
    rw [h] at e2
    rw [List.cons_append, compF, keepF_snoc l q x y e2, compF]
    split <;> rfl
theorem compF_one {D : List Rrd} (h : 0 < D.length) : compF (D.take 1) = D.take 1 := by
  cases D with
  | nil => simp at h
  | cons x D => rfl
theorem compF_less {D : List Rrd} (h : D.length < 2) : compF D = D := by
  match D, h with
  | [], _ => rfl
  | [x], _ => rfl

theorem own_setCells {base g n c : Nat} : ∀ (vs : List Value) (o : Nat) (w : World) (xs : List Value), w.ownsRow base 28 5 (.slice (some ⟨g, 0, none⟩) n c) n xs →
    ∃ xs', (w.setCells g o vs).ownsRow base 28 5 (.slice (some ⟨g, 0, none⟩) n c) n xs' ∧ (∀ j, j < o → xs'[j]? = xs[j]?) ∧ w.grownBy (w.setCells g o vs) (some g)
  | [], o, w, xs, h => ⟨xs, h, fun _ _ => rfl, World.grownBy.refl _ _⟩
  | v :: vs, o, w, xs, h => by
    obtain ⟨h1, g1⟩ := World.ownsRow.stored h o v
    obtain ⟨xs', h2, h3, g2⟩ := own_setCells vs (o + 1) _ _ h1
    refine ⟨xs', h2, fun j hj => ?_, grown_trans g1 g2⟩
    rw [h3 j (by omega), List.getElem?_set_ne (by omega)]
theorem own_take {w : World} {base g n c k : Nat} {e : TypeId} {xs : List Value} (h : w.ownsRow base e 5 (.slice (some ⟨g, 0, none⟩) n c) n xs) (hk : k ≤ n) : w.ownsRow base e 5 (.slice (some ⟨g, 0, none⟩) k c) k (xs.take (k * 5)) := by
  obtain ⟨h1, h2⟩ := h
  rcases h2 with ⟨e1, _⟩ | ⟨g', cap, cur, e1, hb, hg, h3, h4, h5, h6⟩
  · cases e1
  · simp only [Value.slice.injEq, Option.some.injEq, Addr.mk.injEq, and_true, true_and] at e1
    obtain ⟨rfl, rfl⟩ := e1
    refine ⟨by rw [List.length_take]; omega, .inr ⟨g, c, cur, rfl, hb, hg, by omega, h4, h5, ?_⟩⟩
    rw [← h6, List.take_take, Nat.min_eq_left (by omega)]
theorem clear_R (w : World) (g o n c : Nat) (hc : ∀ j, j < n * 5 → (w.cell? ⟨g, o + j, none⟩).isSome = true) (hf : ∀ j, w.frozen? ⟨g, j, none⟩ = false) :
    ∃ vs : List Value, ∀ ty, (Builtin.clear_ #[22] ty #[.slice (some ⟨g, o, none⟩) n c]).run Tryz.prog w = .ok (.tuple #[]) (w.setCells g o vs) := by
  obtain ⟨z, hz⟩ : ∃ z : Array Value, z = #[.string ⟨#[]⟩, .int .i64 0, .int .i64 0, .int .i64 0, .string ⟨#[]⟩] := ⟨_, rfl⟩
  have hzv : (zeroValue 28).run Tryz.prog w = .ok (.agg z) w := by rw [hz]; exact Tryz.zeroValue28 w
  refine ⟨(Builtin.zeroCells z n).toList, fun ty => ?_⟩
  rcases Nat.eq_zero_or_pos n with rfl | hn
  · simp [Builtin.clear_, run_underlying Tryz.underlying22, Builtin.zeroCells, World.setCells]
  · have hlen : (Builtin.zeroCells z n).toList.length = n * 5 := by rw [hz]; simp [Builtin.zeroCells]
    have h1 : ∀ v ∈ (Builtin.zeroCells z n).toList, v.oneCell' = true := by
      intro v hv
      rw [hz] at hv
      simp only [Builtin.zeroCells, Array.toList_map, List.mem_map] at hv
      obtain ⟨i, _, rfl⟩ := hv
      have hi : i % 5 < 5 := Nat.mod_lt _ (by omega)
      generalize i % 5 = r at hi
      rcases (show r = 0 ∨ r = 1 ∨ r = 2 ∨ r = 3 ∨ r = 4 by omega) with h | h | h | h | h <;> subst h <;> rfl
    have hst := run_storeCells_cells (P := Tryz.prog) g o (Builtin.zeroCells z n).toList 0 w (by rw [hlen]; simpa using hc) (fun j _ => hf _) h1
    simp only [Nat.add_zero] at hst
    obtain ⟨m, rfl⟩ : ∃ m, n = m + 1 := ⟨n - 1, by omega⟩
    simp [Builtin.clear_, run_underlying Tryz.underlying22, hzv, hst, Value.cells]
theorem rcells_take (D : List Rrd) (k : Nat) : (rcells D).take (k * 5) = rcells (D.take k) := by
  induction D generalizing k with
  | nil => simp [rcells]
  | cons x D ih =>
    cases k with
    | zero => simp [rcells]
    | succ k =>
      rw [rcells_cons, List.take_succ_cons, rcells_cons, ← ih k, show (k + 1) * 5 = k * 5 + 5 by omega]
      simp
theorem RowX.cleared {base g n c k : Nat} {K Z : List Rrd} {w : World} (h : RowX base g n c (K ++ Z) w) (hk : K.length = k) (vs : List Value) :
    RowX base g k c K (w.setCells g (k * 5) vs) ∧ w.grownBy (w.setCells g (k * 5) vs) (some g) := by
  have hl := h.len
  rw [List.length_append] at hl
  obtain ⟨xs', h1, h2, h3⟩ := own_setCells vs (k * 5) w _ h
  refine ⟨?_, h3⟩
  have h4 := own_take h1 (show k ≤ n by omega)
  have e : xs'.take (k * 5) = rcells K := by
    have e1 : rcells K = (rcells (K ++ Z)).take (k * 5) := by rw [rcells_take, ← hk, List.take_left]
    rw [e1]
    apply List.ext_getElem?
    intro j
    rw [List.getElem?_take, List.getElem?_take]
    by_cases hj : j < k * 5
    · rw [if_pos hj, if_pos hj, h2 j hj]
    · rw [if_neg hj, if_neg hj]
  rw [e] at h4
  exact h4

theorem CompactF_less (A : Option Addr) (n c : Nat) (w : World) (hn : n < 2) :
    Calls Tryz.prog 45 #[.slice A n c, sameF] w fun e w' => e = .returned (.slice A n c) ∧ w' = w := by
  have g1 : (n : Int) < 2 := by omega
  go_enter Tryz.func45, Tryz.ntmps45
  go_wp2_with fail
  go_ret
  exact ⟨rfl, rfl⟩
set_option maxHeartbeats 8000000 in
set_option maxRecDepth 20000 in
theorem CompactF_more (base g n c : Nat) (D : List Rrd) (w : World) (hok : OkL D) (h2 : 2 ≤ n) (hn : n ≤ 1000000) (h : RowX base g n c D w) :
    Calls Tryz.prog 45 #[.slice (some ⟨g, 0, none⟩) n c, sameF] w fun e w' =>
      ∃ m, e = .returned (.slice (some ⟨g, 0, none⟩) m c) ∧ RowX base g m c (compF D) w' ∧ w.grownBy w' (some g) := by
  have hl := h.len
  have g1 : ¬ (n : Int) < 2 := by omega
  have H := Lib.hid h
  have HL := Lib.hid hl
  have HOK := Lib.hid hok
  have hcap : n ≤ c ∧ c ≤ maxLen := by
    rcases h.2 with ⟨e, _⟩ | ⟨g', cap, cur, e, _, _, h3, h4, _⟩
    · cases e
    · simp only [Value.slice.injEq, Option.some.injEq, Addr.mk.injEq, and_true, true_and] at e
      obtain ⟨_, rfl⟩ := e
      exact ⟨h3, h4⟩
  obtain ⟨c1, c2⟩ := hcap
  clear h hl hok
  go_enter Tryz.func45, Tryz.ntmps45
  go_wp2_with fail
  go_loopw [5] (fun i wr => ∃ k : Nat, k < n ∧ i = .int .i64 ((k + 1 : Nat) : Int) ∧ compF (D.take (k + 1)) = D.take (k + 1) ∧ RowX base g n c D wr ∧ w.grownBy wr (some g)) (fun i _ => n - (intOf i).toNat)
  case atStart => exact ⟨0, by omega, rfl, compF_one (by rw [HL.out]; omega), H.out, World.grownBy.refl _ _⟩
  case round =>
    obtain ⟨k, hk, rfl, hc, hrow, hgr⟩ := hrel
    have HC := Lib.hid hc
    have HR := Lib.hid hrow
    have HG := Lib.hid hgr
    clear hc hgr
    obtain ⟨i0, hi0⟩ : ∃ i, i = k + 1 := ⟨_, rfl⟩
    rw [← hi0]
    have z1 : (i0 : Int) - 1 = (k : Int) := by omega
    by_cases hkn : i0 < n
    · have g2 : (i0 : Int) < (n : Int) := by omega
      have g0 : (0 : Int) ≤ (i0 : Int) := by omega
      have gk : (k : Int) < (n : Int) := by omega
      obtain ⟨x, hx⟩ : ∃ x, D[i0]? = some x := ⟨D[i0]'(by rw [HL.out]; exact hkn), List.getElem?_eq_getElem _⟩
      obtain ⟨y, hy⟩ : ∃ y, D[k]? = some y := ⟨D[k]'(by rw [HL.out]; exact hk), List.getElem?_eq_getElem _⟩
      obtain ⟨x0, x1, x2, x3, x4⟩ := hrow.five hx
      obtain ⟨y0, y1, y2, y3, y4⟩ := hrow.five hy
      have HX := Lib.hid (HOK.out.at hx)
      have HY := Lib.hid (HOK.out.at hy)
      have HN := Lib.hid (compF_next (show D[k + 1]? = some x by rw [← hi0]; exact hx) hy)
      have HI := Lib.hid hi0
      have HTK := Lib.hid (show D.take (i0 + 1) = D.take i0 ++ [x] by rw [List.take_add_one, hx]; rfl)
      obtain ⟨q, hq⟩ : ∃ q, q = decide (cY x y = 0) := ⟨_, rfl⟩
      have HQ := Lib.hid hq
      have hlt : g < wr.heap.size := hrow.lt
      obtain ⟨d0, d1, d2, d3, d4⟩ := (hrow.five hx).later hlt
      obtain ⟨e0, e1, e2, e3, e4⟩ := (hrow.five hy).later hlt
      have r1 : IntKind.i64.wrap (k : Int) = (k : Int) := by rw [IntKind.wrap_i64]; omega
      have HS := Lib.hid (show ∀ q' : Later wr, Calls Tryz.prog 26 #[.agg #[.string x.s, .int .i64 x.t, .int .i64 x.c, .int .i64 x.l, .string x.d], .agg #[.string y.s, .int .i64 y.t, .int .i64 y.c, .int .i64 y.l, .string y.d]] q'.val fun e w'' => e = .returned (.bool q) ∧ ∃ q2 : Later wr, w'' = q2.val from
        fun q' => later_call (by rw [hq]; exact same_any HX.out HY.out _))
      clear hrow hx hy hi0 hq x0 x1 x2 x3 x4 y0 y1 y2 y3 y4
      go_wp2_with fail
      refine region_later (by kernel_rfl) ?_
      repeat (go_big_quiet_step ((go_at_call 26; with_reducible exact HS.out _)))
      refine wpQuiet_nil ?_
      rintro _ ⟨q2, rfl⟩
      obtain ⟨W2, hB2⟩ := q2
      simp only []
      have HR2 := Lib.hid (HR.out.below hB2)
      have HG2 := Lib.hid (grown_trans HG.out (grown_below hB2 (some g)))
      clear d0 d1 d2 d3 d4 e0 e1 e2 e3 e4 hB2
      cases q
      · have hnc : compF (D.take (i0 + 1)) = D.take (i0 + 1) := by
          have h1 := HN.out
          rw [if_neg (by have := HQ.out; simpa using this), HC.out, ← HI.out] at h1
          rw [show i0 + 1 = k + 2 by have := HI.out; omega, h1]
          exact (by rw [show k + 2 = i0 + 1 by have := HI.out; omega]; exact HTK.out.symm)
        have HNC := Lib.hid hnc
        clear hnc
        go_wp2_with fail
        go_roundw
        case rel => exact ⟨i0, hkn, by go_num, HNC.out, HR2.out, HG2.out⟩
        case measure => simp [intOf]; omega
      · have hnc : compF (D.take (i0 + 1)) = D.take i0 := by
          have h1 := HN.out
          rw [if_pos (by have := HQ.out; simpa using this), HC.out, ← HI.out] at h1
          rw [show i0 + 1 = k + 2 by have := HI.out; omega, h1]
        have HNC := Lib.hid hnc
        obtain ⟨m0, hm0⟩ : ∃ m0, m0 = n - i0 := ⟨_, rfl⟩
        have HM0 := Lib.hid hm0
        have hmn : i0 + m0 = n := by omega
        have i0n : i0 ≤ n := by omega
        have i0c : i0 ≤ c := by omega
        clear hnc
        obtain ⟨cc, hcc⟩ : ∃ cc, cc = c - i0 := ⟨_, rfl⟩
        have mcc : m0 ≤ cc := by omega
        have hi1 : 0 < i0 := by have := HI.out; omega
        have hlen0 : (compF (D.take (i0 + 1))).length = i0 := by rw [HNC.out, List.length_take]; have := HL.out; omega
        have HLEN := Lib.hid hlen0
        go_wp2_with fail
        rw [← hm0, ← hcc]
        clear hlen0 hcc hm0
        go_loopw [5, 7] (fun s5 s7 wr2 => ∃ p kk : Nat, p < m0 ∧ s7 = .int .i64 ((p + 1 : Nat) : Int) ∧ s5 = .int .i64 (kk : Nat) ∧ kk = (compF (D.take (i0 + (p + 1)))).length ∧ kk ≤ i0 + p ∧ RowX base g n c (compF (D.take (i0 + (p + 1))) ++ D.drop kk) wr2 ∧ w.grownBy wr2 (some g)) (fun _ s7 _ => m0 - (intOf s7).toNat)
        case atStart => exact ⟨0, i0, by omega, rfl, rfl, HLEN.out.symm, Nat.le_refl _, by rw [HNC.out, List.take_append_drop]; exact HR2.out, HG2.out⟩
        case round =>
          obtain ⟨p, kk, hp, rfl, rfl, hkl, hkb, hrow, hgr⟩ := hrel
          have HR3 := Lib.hid hrow
          have HG3 := Lib.hid hgr
          have HKL := Lib.hid hkl
          obtain ⟨j, hj⟩ : ∃ j, j = p + 1 := ⟨_, rfl⟩
          rw [← hj]
          have z2 : (j : Int) - 1 = (p : Int) := by omega
          have hkkn : kk < n := by omega
          have hkc : kk ≤ c := by omega
          have hkn2 : kk ≤ n := by omega
          have hat : ∀ t, kk ≤ t → (compF (D.take (i0 + (p + 1))) ++ D.drop kk)[t]? = D[t]? := by
            intro t ht
            rw [List.getElem?_append_right (by omega), ← hkl, List.getElem?_drop]
            congr 1; omega
          by_cases hjm : j < m0
          · have g3 : (j : Int) < (m0 : Int) := by omega
            have g4 : (0 : Int) ≤ (j : Int) := by omega
            have gp : (p : Int) < (m0 : Int) := by omega
            obtain ⟨u, hu⟩ : ∃ u, D[i0 + j]? = some u := ⟨D[i0 + j]'(by rw [HL.out]; omega), List.getElem?_eq_getElem _⟩
            obtain ⟨v, hv⟩ : ∃ v, D[i0 + p]? = some v := ⟨D[i0 + p]'(by rw [HL.out]; omega), List.getElem?_eq_getElem _⟩
            obtain ⟨o, ho⟩ : ∃ o, D[kk]? = some o := ⟨D[kk]'(by rw [HL.out]; omega), List.getElem?_eq_getElem _⟩
            have hu' := (hat (i0 + j) (by omega)).trans hu
            have hv' := (hat (i0 + p) (by omega)).trans hv
            have ho' := (hat kk (Nat.le_refl _)).trans ho
            have HU' := Lib.hid hu'
            have HO' := Lib.hid ho'
            have hlt2 : g < wr.heap.size := hrow.lt
            have fu := hrow.five hu'
            have fv := hrow.five hv'
            rw [Nat.add_mul] at fu fv
            obtain ⟨d0, d1, d2, d3, d4⟩ := fu.later hlt2
            obtain ⟨e0, e1, e2, e3, e4⟩ := fv.later hlt2
            have r2 : IntKind.i64.wrap (p : Int) = (p : Int) := by rw [IntKind.wrap_i64]; omega
            have HUK := Lib.hid (HOK.out.at hu)
            have HVK := Lib.hid (HOK.out.at hv)
            have HNX := Lib.hid (show compF (D.take (i0 + (j + 1))) = if cY u v = 0 then compF (D.take (i0 + (p + 1))) else compF (D.take (i0 + (p + 1))) ++ [u] by
              have := compF_next (k := i0 + p) (x := u) (y := v) (by rw [show i0 + p + 1 = i0 + j by omega]; exact hu) hv
              rw [show i0 + (j + 1) = i0 + p + 2 by omega, show i0 + (p + 1) = i0 + p + 1 by omega]; exact this)
            obtain ⟨q3, hq3⟩ : ∃ q3, q3 = decide (cY u v = 0) := ⟨_, rfl⟩
            have HQ3 := Lib.hid hq3
            have HJ := Lib.hid hj
            have HS3 := Lib.hid (show ∀ q' : Later wr, Calls Tryz.prog 26 #[.agg #[.string u.s, .int .i64 u.t, .int .i64 u.c, .int .i64 u.l, .string u.d], .agg #[.string v.s, .int .i64 v.t, .int .i64 v.c, .int .i64 v.l, .string v.d]] q'.val fun e w'' => e = .returned (.bool q3) ∧ ∃ q2 : Later wr, w'' = q2.val from
              fun q' => later_call (by rw [hq3]; exact same_any HUK.out HVK.out _))
            clear hrow hgr hkl hj hu hv ho hu' hv' ho' hat fu fv hq3
            go_wp2_with fail
            refine region_later (by kernel_rfl) ?_
            repeat (go_big_quiet_step ((go_at_call 26; with_reducible exact HS3.out _)))
            refine wpQuiet_nil ?_
            rintro _ ⟨q4, rfl⟩
            obtain ⟨W4, hB4⟩ := q4
            simp only []
            have HR4 := Lib.hid (HR3.out.below hB4)
            have HG4 := Lib.hid (grown_trans HG3.out (grown_below hB4 (some g)))
            clear d0 d1 d2 d3 d4 e0 e1 e2 e3 e4 hB4
            cases q3
            · have fu := HR4.out.five HU'.out
              rw [Nat.add_mul] at fu
              obtain ⟨x0, x1, x2, x3, x4⟩ := fu
              obtain ⟨y0, y1, y2, y3, y4⟩ := HR4.out.five HO'.out
              obtain ⟨s0, s1, s2, s3, s4⟩ := HR4.out.softs (kk * 5)
              have hput := HR4.out.put kk u
              have hset : (compF (D.take (i0 + (p + 1))) ++ D.drop kk).set kk u = compF (D.take (i0 + (j + 1))) ++ D.drop (kk + 1) := by
                rw [HNX.out, if_neg (by have := HQ3.out; simpa using this), List.set_append_right _ _ (by rw [← HKL.out]; exact Nat.le_refl _), ← HKL.out, Nat.sub_self, List.append_assoc]
                congr 1
                rw [List.drop_eq_getElem_cons (show kk < D.length by rw [HL.out]; exact hkkn)]
                rfl
              rw [hset] at hput
              have HP := Lib.hid hput
              have HKL2 := Lib.hid (show kk + 1 = (compF (D.take (i0 + (j + 1)))).length by
                rw [HNX.out, if_neg (by have := HQ3.out; simpa using this), List.length_append, ← HKL.out]; rfl)
              clear hput hset
              go_wp2_with fail
              go_roundw
              case rel => exact ⟨j, kk + 1, hjm, by go_num, by go_num, HKL2.out, by have := HJ.out; omega, HP.out.1, grown_trans HG4.out HP.out.2⟩
              case measure => simp [intOf]; omega
            · have hnx := HNX.out
              rw [if_pos (by have := HQ3.out; simpa using this)] at hnx
              have HNX2 := Lib.hid hnx
              clear hnx
              go_wp2_with fail
              go_roundw
              case rel => exact ⟨j, kk, hjm, by go_num, rfl, by rw [HNX2.out]; exact HKL.out, by have := HJ.out; omega, by rw [HNX2.out]; exact HR4.out, HG4.out⟩
              case measure => simp [intOf]; omega
          · obtain rfl : j = m0 := by omega
            have g3 : ¬ ((j : Int) < (j : Int)) := by omega
            have hfin : compF (D.take (i0 + (p + 1))) = compF D := by rw [← hj, List.take_of_length_le (by rw [HL.out]; omega)]
            have hrow' := hrow
            rw [hfin] at hrow'
            rw [hfin] at hkl
            obtain ⟨vs, hcl⟩ := clear_R wr g (kk * 5) (n - kk) (c - kk) (fun t ht => by
              have h1 := hrow.1
              rw [World.ownsRow.cellAt hrow _ (by omega), List.getElem?_eq_getElem (by omega)]; rfl) (fun t => hrow.soft t)
            obtain ⟨k1, k2⟩ := hrow'.cleared hkl.symm vs
            have HK1 := Lib.hid k1
            have HK2 := Lib.hid k2
            clear hrow hrow' hgr hkl hj hat hfin k1 k2
            go_wp2_with (simp only [hcl])
            go_ret
            exact ⟨_, rfl, HK1.out, grown_trans HG3.out HK2.out⟩
    · obtain rfl : i0 = n := by omega
      have g2 : ¬ ((i0 : Int) < (i0 : Int)) := by omega
      have HI := Lib.hid (show compF D = D by have h1 := HC.out; rw [← hi0, List.take_of_length_le (by rw [HL.out]; exact Nat.le_refl _)] at h1; exact h1)
      clear hrow hi0
      go_wp2_with fail
      go_ret
      exact ⟨_, rfl, by rw [HI.out]; exact HR.out, HG.out⟩
theorem CompactF_any (base g n c : Nat) (D : List Rrd) (w : World) (hok : OkL D) (hn : n ≤ 1000000) (h : RowX base g n c D w) :
    Calls Tryz.prog 45 #[.slice (some ⟨g, 0, none⟩) n c, sameF] w fun e w' =>
      ∃ m, e = .returned (.slice (some ⟨g, 0, none⟩) m c) ∧ RowX base g m c (compF D) w' ∧ w.grownBy w' (some g) := by
  by_cases h2 : 2 ≤ n
  · exact CompactF_more base g n c D w hok h2 hn h
  · refine (CompactF_less _ n c w (by omega)).mono ?_
    rintro e w' ⟨rfl, rfl⟩
    exact ⟨n, rfl, by rw [compF_less (by rw [h.len]; omega)]; exact h, World.grownBy.refl _ _⟩

/-! ### distinct, Alike -/
theorem RowX.sees {base g n c : Nat} {D : List Rrd} {w : World} (h : RowX base g n c D w) : SeesR w w.heap.size (some ⟨g, 0, none⟩) n D :=
  ⟨h.len, fun _ => ⟨g, 0, rfl, h.lt, fun j x hx => by rw [Nat.zero_add]; exact h.five hx⟩⟩
theorem SortF_none (w : World) :
    Calls Tryz.prog 43 #[.slice none 0 0, .func (.func 44) #[] #[]] w fun e w' => e = .returned (.tuple #[]) ∧ Below w.heap.size w w' := by
  have hc : Calls Tryz.prog (sortL_ren.f 6) #[.slice none 0 0, .func (.func 44) #[] #[]] w fun e w' => e = .returned (.tuple #[]) ∧ w' = w := AnyF.slices_SortFunc_none sortL none 0 _ w
  refine Calls.mono hc ?_
  rintro e w' ⟨rfl, rfl⟩
  exact ⟨rfl, Below.refl _ _⟩
theorem keepF_le : ∀ (l : List Rrd) (p : Rrd), (keepF p l).length ≤ l.length
  | [], p => Nat.le_refl _
  | y :: l, p => by
    unfold keepF
    split
    · have := keepF_le l y; simp; omega
    · have := keepF_le l y; simp; omega
theorem compF_le (l : List Rrd) : (compF l).length ≤ l.length := by
  cases l with
  | nil => exact Nat.le_refl _
  | cons x l => have := keepF_le l x; simp [compF]; omega
theorem keepF_mem : ∀ (l : List Rrd) (p : Rrd), ∀ y ∈ keepF p l, y ∈ l
  | [], p, y, h => h
  | z :: l, p, y, h => by
    unfold keepF at h
    split at h
    · exact List.mem_cons_of_mem _ (keepF_mem l z y h)
    · rcases List.mem_cons.1 h with rfl | h
      · simp
      · exact List.mem_cons_of_mem _ (keepF_mem l z y h)
theorem compF_mem {l : List Rrd} : ∀ y ∈ compF l, y ∈ l := by
  cases l with
  | nil => intro y h; exact h
  | cons x l =>
    intro y h
    rcases List.mem_cons.1 h with rfl | h
    · simp
    · exact List.mem_cons_of_mem _ (keepF_mem l x y h)
set_option maxHeartbeats 4000000 in
theorem distinct_any (A : Option Addr) (n c : Nat) (xs : List Rrd) (w : World) (hx : SeesR w w.heap.size A n xs) (hok : OkL xs) (hn : n ≤ 1000000) :
    Calls Tryz.prog 25 #[.slice A n c] w fun e w' => ∃ A' m c' D, e = .returned (.slice A' m c') ∧ SeesR w' w'.heap.size A' m (compF D) ∧ m ≤ n ∧ xs.Perm D ∧ Srt cY D ∧ Below w.heap.size w w' := by
  have HX := Lib.hid hx
  have HOK := Lib.hid hok
  clear hx hok
  go_enter Tryz.func25, Tryz.ntmps25
  go_wp2_with fail
  refine (Clone_any A n c xs _ HX.out (by omega)).mono ?_
  rintro e w1 ⟨v, rfl, hown, hB⟩
  have HB := Lib.hid hB
  rcases hown.2 with ⟨rfl, hn0⟩ | ⟨g, cap, cur, rfl, hbase, _, _, _, _⟩
  · have hxs : xs = [] := List.eq_nil_of_length_eq_zero (by rw [HX.out.1, hn0])
    subst hn0 hxs
    clear hown hB
    go_wp2_with fail
    refine (SortF_none _).mono ?_
    rintro e w2 ⟨rfl, hB2⟩
    have HB2 := Lib.hid (HB.out.trans (hB2.mono HB.out.size))
    clear hB2
    go_wp2_with fail
    refine (CompactF_less none 0 0 _ (by omega)).mono ?_
    rintro e w3 ⟨rfl, rfl⟩
    go_wp2_with fail
    go_ret
    exact ⟨_, _, _, [], rfl, ⟨rfl, fun h => absurd h (by omega)⟩, Nat.le_refl _, List.Perm.refl _, List.Pairwise.nil, HB2.out⟩
  · have HR := Lib.hid (show RowX w.heap.size g n cap xs w1 from hown)
    have HG := Lib.hid hbase
    clear hown hB hbase
    go_wp2_with fail
    refine (SortF_any _ g n cap xs _ HOK.out hn HR.out).mono ?_
    rintro e w2 ⟨rfl, D, hp, hs, hr2, hg2⟩
    have HP := Lib.hid hp
    have HS := Lib.hid hs
    have HR2 := Lib.hid hr2
    have HG2 := Lib.hid hg2
    clear hp hs hr2 hg2
    go_wp2_with fail
    refine (CompactF_any _ g n cap D _ (fun x hx => HOK.out x (HP.out.mem_iff.2 hx)) hn HR2.out).mono ?_
    rintro e w3 ⟨m, rfl, hr3, hg3⟩
    have HR3 := Lib.hid hr3
    have HG3 := Lib.hid hg3
    clear hr3 hg3
    go_wp2_with fail
    go_ret
    have hB3 : Below w.heap.size w w3 := HB.out.grown (grown_trans HG2.out HG3.out) HB.out.size (fun j hj => by injection hj with hj; rw [← hj]; exact HG.out)
    exact ⟨_, _, _, D, rfl, HR3.out.sees, by rw [← HR3.out.len, ← HX.out.1, HP.out.length_eq]; exact compF_le D, HP.out, HS.out, hB3⟩
set_option maxHeartbeats 4000000 in
theorem SetAlike_any (A A' : Option Addr) (n c n' c' : Nat) (xs ys : List Rrd) (w : World) (hx : SeesR w w.heap.size A n xs) (hy : SeesR w w.heap.size A' n' ys) (ox : OkL xs) (oy : OkL ys) (hn : n ≤ 1000000) (hn' : n' ≤ 1000000) :
    Calls Tryz.prog 12 #[.slice A n c, .slice A' n' c'] w fun e w' => e = .returned (.bool (inX xs ys && inX ys xs)) ∧ Below w.heap.size w w' := by
  have HX := Lib.hid hx
  have HY := Lib.hid hy
  have HOX := Lib.hid ox
  have HOY := Lib.hid oy
  clear hx hy ox oy
  go_enter Tryz.func12, Tryz.ntmps12
  go_wp2_with fail
  refine (distinct_any A n c xs _ HX.out HOX.out hn).mono ?_
  rintro e w1 ⟨A1, m1, c1, D1, rfl, hs1, hm1, hp1, ho1, hB1⟩
  have HS1 := Lib.hid hs1
  have HP1 := Lib.hid hp1
  have HO1 := Lib.hid ho1
  have HB1 := Lib.hid hB1
  clear hs1 hp1 ho1 hB1
  go_wp2_with fail
  refine (distinct_any A' n' c' ys _ ((HY.out.keep HB1.out).more HB1.out.size) HOY.out hn').mono ?_
  rintro e w2 ⟨A2, m2, c2, D2, rfl, hs2, hm2, hp2, ho2, hB2⟩
  have HS2 := Lib.hid hs2
  have HP2 := Lib.hid hp2
  have HO2 := Lib.hid ho2
  have HB2 := Lib.hid hB2
  clear hs2 hp2 ho2 hB2
  go_wp2_with fail
  refine (EqualF_any A1 A2 m1 c1 m2 c2 (compF D1) (compF D2) _ ((HS1.out.keep HB2.out).more HB2.out.size) HS2.out (fun x hx => HOX.out x (HP1.out.mem_iff.2 (compF_mem x hx))) (fun x hx => HOY.out x (HP2.out.mem_iff.2 (compF_mem x hx))) (by omega)).mono ?_
  rintro e w3 ⟨rfl, hB3⟩
  have HB3 := Lib.hid ((HB1.out.trans (HB2.out.mono HB1.out.size)).trans (hB3.mono (Nat.le_trans HB1.out.size HB2.out.size)))
  clear hB3
  go_wp2_with fail
  go_ret
  exact ⟨by rw [← alike_is HO1.out HO2.out HP1.out HP2.out]; rfl, HB3.out⟩
end Go.Proofs.YtkgojdmjagicdaaGreat
