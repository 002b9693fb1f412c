/- The names of a zone; slices.Compact at strings; two lists of texts. No statement of the seat is proved here. (written by gen_i.py) -/
import Derived.Test.YtkmmbbcmpjkmkaaGreatZonF
import Derived.Lib.SliceRun
namespace Go.Proofs.YtkmmbbcmpjkmkaaGreat
open Go.RowKit Go.Op
set_option linter.unusedVariables false

/-! ### neighbours that are the same, once -/
def keepS (q : List UInt8) : List (List UInt8) → List (List UInt8)
  | [] => []
  | y :: l => if y = q then keepS y l else y :: keepS y l
def compS : List (List UInt8) → List (List UInt8)
  | [] => []
  | x :: l => x :: keepS x l
theorem keepS_snoc : ∀ (l : List (List UInt8)) (q y p : List UInt8), (q :: l).getLast? = some p → keepS q (l ++ [y]) = if y = p then keepS q l else keepS q l ++ [y]
  | [], q, y, p, h => by
    obtain rfl : q = p := by simpa using h
    simp only [List.nil_append, keepS]
  | z :: l, q, y, p, h => by
    rw [List.getLast?_cons_cons] at h
    have ih := keepS_snoc l z y p h
    have ih2 : keepS q (z :: l ++ [y]) = if z = q then keepS z (l ++ [y]) else z :: keepS z (l ++ [y]) := rfl
    rw [ih2, ih, keepS]
    by_cases c : z = q
    · rw [if_pos c, if_pos c]
    · rw [if_neg c, if_neg c]
      split <;> rfl
theorem compS_next {D : List (List UInt8)} {k : Nat} {x y : List UInt8} (hx : D[k + 1]? = some x) (hy : D[k]? = some y) : compS (D.take (k + 2)) = if x = y then compS (D.take (k + 1)) else compS (D.take (k + 1)) ++ [x] := by
  have e : D.take (k + 2) = D.take (k + 1) ++ [x] := by rw [List.take_add_one, hx]; rfl
  have hl : k + 1 < D.length := (List.getElem?_eq_some_iff.1 hx).1
  have e2 : (D.take (k + 1)).getLast? = some y := by
    rw [List.getLast?_eq_getElem?, List.length_take, Nat.min_eq_left (by omega), List.getElem?_take, if_pos (by omega)]
    exact hy
  rw [e]
  cases h : D.take (k + 1) with
  | nil => rw [h] at e2; cases e2
  | cons q l =>
    rw [h] at e2
    rw [List.cons_append, compS, keepS_snoc l q x y e2, compS]
    split <;> rfl
theorem compS_one {D : List (List UInt8)} (h : 0 < D.length) : compS (D.take 1) = D.take 1 := by
  cases D with
  | nil => simp at h
  | cons x D => rfl
theorem compS_less {D : List (List UInt8)} (h : D.length < 2) : compS D = D := by
  match D, h with
  | [], _ => rfl
  | [x], _ => rfl
theorem compS_len : ∀ D : List (List UInt8), (compS D).length ≤ D.length
  | [] => Nat.le_refl _
  | x :: l => by
    have h : ∀ (l : List (List UInt8)) (q : List UInt8), (keepS q l).length ≤ l.length := by
      intro l
      induction l with
      | nil => intro q; exact Nat.le_refl _
      | cons y l ih => intro q; have := ih y; unfold keepS; split <;> simp <;> omega
    have := h l x
    simp [compS]; omega
theorem compS_last : ∀ {D : List (List UInt8)} {k : Nat} {y : List UInt8}, D[k]? = some y → (compS (D.take (k + 1))).getLast? = some y := by
  intro D k
  induction k with
  | zero =>
    intro y hy
    rw [compS_one (List.getElem?_eq_some_iff.1 hy).1, List.getLast?_eq_getElem?, List.length_take, List.getElem?_take]
    have := (List.getElem?_eq_some_iff.1 hy).1
    rw [if_pos (by omega), show min (0 + 1) D.length - 1 = 0 by omega]
    exact hy
  | succ k ih =>
    intro x hx
    have hl := (List.getElem?_eq_some_iff.1 hx).1
    have hy : D[k]? = some (D[k]'(by omega)) := List.getElem?_eq_getElem _
    rw [compS_next hx hy]
    split
    · rename_i e
      rw [e]; exact ih hy
    · simp

/-! ### rows of strings of one's own -/
def RowS (base g n c : Nat) (D : List (List UInt8)) (W : World) : Prop := W.ownsRow base 9 1 (.slice (some ⟨g, 0, none⟩) n c) n (textL D)
theorem RowS.len {base g n c : Nat} {D : List (List UInt8)} {W : World} (h : RowS base g n c D W) : D.length = n := by have := h.1; rw [textL_length] at this; omega
theorem RowS.at {base g n c : Nat} {D : List (List UInt8)} {W : World} (h : RowS base g n c D W) {k : Nat} {x : List UInt8} (hx : D[k]? = some x) : W.cell? ⟨g, k, none⟩ = some (.string (mk x)) := by
  have hk : k < D.length := (List.getElem?_eq_some_iff.1 hx).1
  have h1 := World.ownsRow.cellAt h k (by have := h.len; omega)
  rw [h1]
  simp [textL, texts, hx]
theorem RowS.soft {base g n c : Nat} {D : List (List UInt8)} {W : World} (h : RowS base g n c D W) (k : Nat) : W.frozen? ⟨g, k, none⟩ = false := World.ownsRow.frozenAt h k
theorem RowS.lt {base g n c : Nat} {D : List (List UInt8)} {w : World} (h : RowS base g n c D w) : g < w.heap.size := by
  rcases h.2 with ⟨e, _⟩ | ⟨g', cap, cur, e, _, hh, _⟩
  · cases e
  · simp only [Value.slice.injEq, Option.some.injEq, Addr.mk.injEq, and_true, true_and] at e
    obtain ⟨rfl, _⟩ := e
    exact (Array.getElem?_eq_some_iff.1 hh).1
theorem RowS.put {base g n c : Nat} {D : List (List UInt8)} {W : World} (h : RowS base g n c D W) (k : Nat) (x : List UInt8) : RowS base g n c (D.set k x) (W.setCell ⟨g, k, none⟩ (.string (mk x))) ∧ W.grownBy (W.setCell ⟨g, k, none⟩ (.string (mk x))) (some g) := by
  obtain ⟨h1, g1⟩ := World.ownsRow.stored h k (.string (mk x))
  rw [textL_set] at h1
  exact ⟨h1, g1⟩
theorem RowS.below {base g n c : Nat} {D : List (List UInt8)} {w w' : World} (h : RowS base g n c D w) (hb : Below w.heap.size w w') : RowS base g n c D w' := own_keep h hb
theorem ownS_setCells {base g n c : Nat} : ∀ (vs : List Value) (o : Nat) (w : World) (xs : List Value), w.ownsRow base 9 1 (.slice (some ⟨g, 0, none⟩) n c) n xs →
    ∃ xs', (w.setCells g o vs).ownsRow base 9 1 (.slice (some ⟨g, 0, none⟩) n c) n xs' ∧ (∀ j, j < o → xs'[j]? = xs[j]?) ∧ w.grownBy (w.setCells g o vs) (some g)
  | [], o, w, xs, h => ⟨xs, h, fun _ _ => rfl, World.grownBy.refl _ _⟩
  | v :: vs, o, w, xs, h => by
    obtain ⟨h1, g1⟩ := World.ownsRow.stored h o v
    obtain ⟨xs', h2, h3, g2⟩ := ownS_setCells vs (o + 1) _ _ h1
    refine ⟨xs', h2, fun j hj => ?_, grown_trans g1 g2⟩
    rw [h3 j (by omega), List.getElem?_set_ne (by omega)]
theorem ownS_take {w : World} {base g n c k : Nat} {e : TypeId} {xs : List Value} (h : w.ownsRow base e 1 (.slice (some ⟨g, 0, none⟩) n c) n xs) (hk : k ≤ n) : w.ownsRow base e 1 (.slice (some ⟨g, 0, none⟩) k c) k (xs.take k) := by
  obtain ⟨h1, h2⟩ := h
  rcases h2 with ⟨e1, _⟩ | ⟨g', cap, cur, e1, hb, hg, h3, h4, h5, h6⟩
  · cases e1
  · simp only [Value.slice.injEq, Option.some.injEq, Addr.mk.injEq, and_true, true_and] at e1
    obtain ⟨rfl, rfl⟩ := e1
    refine ⟨by rw [List.length_take]; omega, .inr ⟨g, c, cur, rfl, hb, hg, by omega, h4, h5, ?_⟩⟩
    rw [← h6, List.take_take, Nat.mul_one, Nat.mul_one, Nat.min_eq_left hk]
theorem clear_S (w : World) (g o n c : Nat) (hc : ∀ j, j < n → (w.cell? ⟨g, o + j, none⟩).isSome = true) (hf : ∀ j, w.frozen? ⟨g, j, none⟩ = false) :
    ∃ vs : List Value, ∀ ty, (Builtin.clear_ #[45] ty #[.slice (some ⟨g, o, none⟩) n c]).run Tryz.prog w = .ok (.tuple #[]) (w.setCells g o vs) := by
  obtain ⟨z, hz⟩ : ∃ z : Array Value, z = #[.string ⟨#[]⟩] := ⟨_, rfl⟩
  have hzv : (zeroValue 9).run Tryz.prog w = .ok (.string ⟨#[]⟩) w := Tryz.zeroValue9 w
  refine ⟨(Builtin.zeroCells z n).toList, fun ty => ?_⟩
  rcases Nat.eq_zero_or_pos n with rfl | hn
  · simp [Builtin.clear_, run_underlying Tryz.underlying45, Builtin.zeroCells, World.setCells]
  · have hlen : (Builtin.zeroCells z n).toList.length = n := by rw [hz]; simp [Builtin.zeroCells]
    have h1 : ∀ v ∈ (Builtin.zeroCells z n).toList, v.oneCell' = true := by
      intro v hv
      rw [hz] at hv
      simp only [Builtin.zeroCells, Array.toList_map, List.mem_map] at hv
      obtain ⟨i, _, rfl⟩ := hv
      have hi : i % 1 = 0 := Nat.mod_one i
      simp [hi]
      rfl
    have hst := run_storeCells_cells (P := Tryz.prog) g o (Builtin.zeroCells z n).toList 0 w (by rw [hlen]; simpa using hc) (fun j _ => hf _) h1
    simp only [Nat.add_zero] at hst
    obtain ⟨m, rfl⟩ : ∃ m, n = m + 1 := ⟨n - 1, by omega⟩
    rw [hz] at hst ⊢
    simp [Builtin.clear_, run_underlying Tryz.underlying45, hzv, hst, Value.cells]
theorem textL_take (D : List (List UInt8)) (k : Nat) : (textL D).take k = textL (D.take k) := by simp [textL, texts]
theorem RowS.cleared {base g n c k : Nat} {K Z : List (List UInt8)} {w : World} (h : RowS base g n c (K ++ Z) w) (hk : K.length = k) (vs : List Value) :
    RowS base g k c K (w.setCells g k vs) ∧ w.grownBy (w.setCells g k vs) (some g) := by
  have hl := h.len
  rw [List.length_append] at hl
  obtain ⟨xs', h1, h2, h3⟩ := ownS_setCells vs k w _ h
  refine ⟨?_, h3⟩
  have h4 := ownS_take h1 (show k ≤ n by omega)
  have e : xs'.take k = textL K := by
    have e1 : textL K = (textL (K ++ Z)).take k := by rw [textL_take, ← hk, List.take_left]
    rw [e1]
    apply List.ext_getElem?
    intro j
    rw [List.getElem?_take, List.getElem?_take]
    by_cases hj : j < k
    · rw [if_pos hj, if_pos hj, h2 j hj]
    · rw [if_neg hj, if_neg hj]
  rw [e] at h4
  exact h4

theorem Compact_less (A : Option Addr) (n c : Nat) (w : World) (hn : n < 2) :
    Calls Tryz.prog 44 #[.slice A n c] w fun e w' => e = .returned (.slice A n c) ∧ w' = w := by
  have g1 : (n : Int) < 2 := by omega
  go_enter Tryz.func44, Tryz.ntmps44
  go_wp2_with fail
  go_ret
  exact ⟨rfl, rfl⟩
set_option maxHeartbeats 16000000 in
set_option maxRecDepth 20000 in
theorem Compact_more (base g n c : Nat) (D : List (List UInt8)) (w : World) (h2 : 2 ≤ n) (hn : n ≤ 1000000) (h : RowS base g n c D w) :
    Calls Tryz.prog 44 #[.slice (some ⟨g, 0, none⟩) n c] w fun e w' =>
      ∃ m, e = .returned (.slice (some ⟨g, 0, none⟩) m c) ∧ RowS base g m c (compS D) w' ∧ w.grownBy w' (some g) := by
  have hl := h.len
  have g1 : ¬ (n : Int) < 2 := by omega
  have H := Lib.hid h
  have HL := Lib.hid hl
  have hcap : n ≤ c ∧ c ≤ maxLen := by
    rcases h.2 with ⟨e, _⟩ | ⟨g', cap, cur, e, _, _, h3, h4, _⟩
    · cases e
    · simp only [Value.slice.injEq, Option.some.injEq, Addr.mk.injEq, and_true, true_and] at e
      obtain ⟨_, rfl⟩ := e
      exact ⟨h3, h4⟩
  obtain ⟨c1, c2⟩ := hcap
  clear h hl
  go_enter Tryz.func44, Tryz.ntmps44
  go_wp2_with fail
  go_loopw [3] (fun i wr => ∃ k : Nat, k < n ∧ i = .int .i64 ((k + 1 : Nat) : Int) ∧ compS (D.take (k + 1)) = D.take (k + 1) ∧ RowS base g n c D wr ∧ w.grownBy wr (some g)) (fun i _ => n - (intOf i).toNat)
  case atStart => exact ⟨0, by omega, rfl, compS_one (by rw [HL.out]; omega), H.out, World.grownBy.refl _ _⟩
  case round =>
    obtain ⟨k, hk, rfl, hc, hrow, hgr⟩ := hrel
    have HC := Lib.hid hc
    have HR := Lib.hid hrow
    have HG := Lib.hid hgr
    clear hc hgr
    obtain ⟨i0, hi0⟩ : ∃ i, i = k + 1 := ⟨_, rfl⟩
    rw [← hi0]
    have z1 : (i0 : Int) - 1 = (k : Int) := by omega
    by_cases hkn : i0 < n
    · have g2 : (i0 : Int) < (n : Int) := by omega
      have g0 : (0 : Int) ≤ (i0 : Int) := by omega
      have gk : (k : Int) < (n : Int) := by omega
      obtain ⟨x, hx⟩ : ∃ x, D[i0]? = some x := ⟨D[i0]'(by rw [HL.out]; exact hkn), List.getElem?_eq_getElem _⟩
      obtain ⟨y, hy⟩ : ∃ y, D[k]? = some y := ⟨D[k]'(by rw [HL.out]; exact hk), List.getElem?_eq_getElem _⟩
      obtain ⟨X, hX⟩ : ∃ X, X = mk x := ⟨_, rfl⟩
      obtain ⟨Y, hY⟩ : ∃ Y, Y = mk y := ⟨_, rfl⟩
      have a0 := hrow.at hx
      have b0 := hrow.at hy
      rw [← hX] at a0
      rw [← hY] at b0
      have hlt : g < wr.heap.size := hrow.lt
      have d0 : ∀ q : Later wr, q.val.cell? ⟨g, i0, none⟩ = some (.string X) := fun q => (q.below.cell hlt).trans a0
      have e0 : ∀ q : Later wr, q.val.cell? ⟨g, k, none⟩ = some (.string Y) := fun q => (q.below.cell hlt).trans b0
      have HN := Lib.hid (compS_next (show D[k + 1]? = some x by rw [← hi0]; exact hx) hy)
      have HI := Lib.hid hi0
      have HTK := Lib.hid (show D.take (i0 + 1) = D.take i0 ++ [x] by rw [List.take_add_one, hx]; rfl)
      obtain ⟨q, hq⟩ : ∃ q, q = decide (x = y) := ⟨_, rfl⟩
      have hqe : (X.toList == Y.toList) = q := by rw [hX, hY, mk_beq, hq, Bool.eq_iff_iff]; simp
      have HQ := Lib.hid hq
      have r1 : IntKind.i64.wrap (k : Int) = (k : Int) := by rw [IntKind.wrap_i64]; omega
      clear hrow hx hy hi0 hq hX hY a0 b0
      go_wp2_with fail
      refine region_later (by kernel_rfl) ?_
      repeat (go_big_quiet_step (fail))
      refine wpQuiet_nil ?_
      rintro _ ⟨q2, rfl⟩
      obtain ⟨W2, hB2⟩ := q2
      simp only []
      have HR2 := Lib.hid (HR.out.below hB2)
      have HG2 := Lib.hid (grown_trans HG.out (grown_below hB2 (some g)))
      clear d0 e0 hB2
      cases q
      · have hnc : compS (D.take (i0 + 1)) = D.take (i0 + 1) := by
          have h1 := HN.out
          rw [if_neg (by have := HQ.out; simpa using this), HC.out, ← HI.out] at h1
          rw [show i0 + 1 = k + 2 by have := HI.out; omega, h1]
          exact (by rw [show k + 2 = i0 + 1 by have := HI.out; omega]; exact HTK.out.symm)
        have HNC := Lib.hid hnc
        clear hnc
        go_wp2_with fail
        go_roundw
        case rel => exact ⟨i0, hkn, by go_num, HNC.out, HR2.out, HG2.out⟩
        case measure => simp [intOf]; omega
      · have hnc : compS (D.take (i0 + 1)) = D.take i0 := by
          have h1 := HN.out
          rw [if_pos (by have := HQ.out; simpa using this), HC.out, ← HI.out] at h1
          rw [show i0 + 1 = k + 2 by have := HI.out; omega, h1]
        have HNC := Lib.hid hnc
        obtain ⟨m0, hm0⟩ : ∃ m0, m0 = n - i0 := ⟨_, rfl⟩
        have HM0 := Lib.hid hm0
        have hmn : i0 + m0 = n := by omega
        have i0n : i0 ≤ n := by omega
        have i0c : i0 ≤ c := by omega
        clear hnc
        obtain ⟨cc, hcc⟩ : ∃ cc, cc = c - i0 := ⟨_, rfl⟩
        have mcc : m0 ≤ cc := by omega
        have hi1 : 0 < i0 := by have := HI.out; omega
        have hlen0 : (compS (D.take (i0 + 1))).length = i0 := by rw [HNC.out, List.length_take]; have := HL.out; omega
        have HLEN := Lib.hid hlen0
        go_wp2_with fail
        rw [← hm0, ← hcc]
        clear hlen0 hcc hm0
        go_loopw [3, 5] (fun s5 s7 wr2 => ∃ p kk : Nat, p < m0 ∧ s7 = .int .i64 ((p + 1 : Nat) : Int) ∧ s5 = .int .i64 (kk : Nat) ∧ kk = (compS (D.take (i0 + (p + 1)))).length ∧ kk ≤ i0 + p ∧ RowS base g n c (compS (D.take (i0 + (p + 1))) ++ D.drop kk) wr2 ∧ w.grownBy wr2 (some g)) (fun _ s7 _ => m0 - (intOf s7).toNat)
        case atStart => exact ⟨0, i0, by omega, rfl, rfl, HLEN.out.symm, Nat.le_refl _, by rw [HNC.out, List.take_append_drop]; exact HR2.out, HG2.out⟩
        case round =>
          obtain ⟨p, kk, hp, rfl, rfl, hkl, hkb, hrow, hgr⟩ := hrel
          have HR3 := Lib.hid hrow
          have HG3 := Lib.hid hgr
          have HKL := Lib.hid hkl
          obtain ⟨j, hj⟩ : ∃ j, j = p + 1 := ⟨_, rfl⟩
          rw [← hj]
          have z2 : (j : Int) - 1 = (p : Int) := by omega
          have hkkn : kk < n := by omega
          have hkc : kk ≤ c := by omega
          have hkn2 : kk ≤ n := by omega
          have hat : ∀ t, kk ≤ t → (compS (D.take (i0 + (p + 1))) ++ D.drop kk)[t]? = D[t]? := by
            intro t ht
            rw [List.getElem?_append_right (by omega), ← hkl, List.getElem?_drop]
            congr 1; omega
          by_cases hjm : j < m0
          · have g3 : (j : Int) < (m0 : Int) := by omega
            have g4 : (0 : Int) ≤ (j : Int) := by omega
            have gp : (p : Int) < (m0 : Int) := by omega
            obtain ⟨u, hu⟩ : ∃ u, D[i0 + j]? = some u := ⟨D[i0 + j]'(by rw [HL.out]; omega), List.getElem?_eq_getElem _⟩
            obtain ⟨v, hv⟩ : ∃ v, D[i0 + p]? = some v := ⟨D[i0 + p]'(by rw [HL.out]; omega), List.getElem?_eq_getElem _⟩
            obtain ⟨o, ho⟩ : ∃ o, D[kk]? = some o := ⟨D[kk]'(by rw [HL.out]; omega), List.getElem?_eq_getElem _⟩
            have hu' := (hat (i0 + j) (by omega)).trans hu
            have hv' := (hat (i0 + p) (by omega)).trans hv
            have ho' := (hat kk (Nat.le_refl _)).trans ho
            have HU' := Lib.hid hu'
            have HO' := Lib.hid ho'
            obtain ⟨U, hU⟩ : ∃ U, U = mk u := ⟨_, rfl⟩
            obtain ⟨V, hV⟩ : ∃ V, V = mk v := ⟨_, rfl⟩
            have a0 := hrow.at hu'
            have b0 := hrow.at hv'
            rw [← hU] at a0
            rw [← hV] at b0
            have hlt2 : g < wr.heap.size := hrow.lt
            have d0 : ∀ q : Later wr, q.val.cell? ⟨g, i0 + j, none⟩ = some (.string U) := fun q => (q.below.cell hlt2).trans a0
            have e0 : ∀ q : Later wr, q.val.cell? ⟨g, i0 + p, none⟩ = some (.string V) := fun q => (q.below.cell hlt2).trans b0
            have r2 : IntKind.i64.wrap (p : Int) = (p : Int) := by rw [IntKind.wrap_i64]; omega
            have HNX := Lib.hid (show compS (D.take (i0 + (j + 1))) = if u = v then compS (D.take (i0 + (p + 1))) else compS (D.take (i0 + (p + 1))) ++ [u] by
              have := compS_next (k := i0 + p) (x := u) (y := v) (by rw [show i0 + p + 1 = i0 + j by omega]; exact hu) hv
              rw [show i0 + (j + 1) = i0 + p + 2 by omega, show i0 + (p + 1) = i0 + p + 1 by omega]; exact this)
            obtain ⟨q3, hq3⟩ : ∃ q3, q3 = decide (u = v) := ⟨_, rfl⟩
            have hqe3 : (U.toList == V.toList) = q3 := by rw [hU, hV, mk_beq, hq3, Bool.eq_iff_iff]; simp
            have hqn3 : (U.toList != V.toList) = !q3 := by rw [bne, hqe3]
            have HQ3 := Lib.hid hq3
            have HJ := Lib.hid hj
            have HUU := Lib.hid hU
            clear hrow hgr hkl hj hu hv ho hu' hv' ho' hat hq3 hU hV a0 b0
            go_wp2_with fail
            refine region_later (by kernel_rfl) ?_
            repeat (go_big_quiet_step (fail))
            refine wpQuiet_nil ?_
            rintro _ ⟨q4, rfl⟩
            obtain ⟨W4, hB4⟩ := q4
            simp only []
            have HR4 := Lib.hid (HR3.out.below hB4)
            have HG4 := Lib.hid (grown_trans HG3.out (grown_below hB4 (some g)))
            clear d0 e0 hB4
            cases q3
            · have fu := HR4.out.at HU'.out
              rw [← HUU.out] at fu
              have fo := HR4.out.at HO'.out
              have s0 := HR4.out.soft kk
              have hput := HR4.out.put kk u
              have hset : (compS (D.take (i0 + (p + 1))) ++ D.drop kk).set kk u = compS (D.take (i0 + (j + 1))) ++ D.drop (kk + 1) := by
                rw [HNX.out, if_neg (by have := HQ3.out; simpa using this), List.set_append_right _ _ (by rw [← HKL.out]; exact Nat.le_refl _), ← HKL.out, Nat.sub_self, List.append_assoc]
                congr 1
                rw [List.drop_eq_getElem_cons (show kk < D.length by rw [HL.out]; exact hkkn)]
                rfl
              rw [hset, ← HUU.out] at hput
              have HP := Lib.hid hput
              have HKL2 := Lib.hid (show kk + 1 = (compS (D.take (i0 + (j + 1)))).length by
                rw [HNX.out, if_neg (by have := HQ3.out; simpa using this), List.length_append, ← HKL.out]; rfl)
              clear hput hset
              go_wp2_with fail
              go_roundw
              case rel => exact ⟨j, kk + 1, hjm, by go_num, by go_num, HKL2.out, by have := HJ.out; omega, HP.out.1, grown_trans HG4.out HP.out.2⟩
              case measure => simp [intOf]; omega
            · have hnx := HNX.out
              rw [if_pos (by have := HQ3.out; simpa using this)] at hnx
              have HNX2 := Lib.hid hnx
              clear hnx
              go_wp2_with fail
              go_roundw
              case rel => exact ⟨j, kk, hjm, by go_num, rfl, by rw [HNX2.out]; exact HKL.out, by have := HJ.out; omega, by rw [HNX2.out]; exact HR4.out, HG4.out⟩
              case measure => simp [intOf]; omega
          · obtain rfl : j = m0 := by omega
            have g3 : ¬ ((j : Int) < (j : Int)) := by omega
            have hfin : compS (D.take (i0 + (p + 1))) = compS D := by rw [← hj, List.take_of_length_le (by rw [HL.out]; omega)]
            have hrow' := hrow
            rw [hfin] at hrow'
            rw [hfin] at hkl
            obtain ⟨vs, hcl⟩ := clear_S wr g kk (n - kk) (c - kk) (fun t ht => by
              have h1 := hrow.1
              rw [World.ownsRow.cellAt hrow _ (by omega), List.getElem?_eq_getElem (by omega)]; rfl) (fun t => hrow.soft t)
            obtain ⟨k1, k2⟩ := hrow'.cleared hkl.symm vs
            have HK1 := Lib.hid k1
            have HK2 := Lib.hid k2
            clear hrow hrow' hgr hkl hj hat hfin k1 k2
            go_wp2_with (simp only [hcl])
            go_ret
            exact ⟨_, rfl, HK1.out, grown_trans HG3.out HK2.out⟩
    · obtain rfl : i0 = n := by omega
      have g2 : ¬ ((i0 : Int) < (i0 : Int)) := by omega
      have HI := Lib.hid (show compS D = D by have h1 := HC.out; rw [← hi0, List.take_of_length_le (by rw [HL.out]; exact Nat.le_refl _)] at h1; exact h1)
      clear hrow hi0
      go_wp2_with fail
      go_ret
      exact ⟨_, rfl, by rw [HI.out]; exact HR.out, HG.out⟩
theorem Compact_any (base g n c : Nat) (D : List (List UInt8)) (w : World) (hn : n ≤ 1000000) (h : RowS base g n c D w) :
    Calls Tryz.prog 44 #[.slice (some ⟨g, 0, none⟩) n c] w fun e w' =>
      ∃ m, e = .returned (.slice (some ⟨g, 0, none⟩) m c) ∧ RowS base g m c (compS D) w' ∧ w.grownBy w' (some g) := by
  by_cases h2 : 2 ≤ n
  · exact Compact_more base g n c D w h2 hn h
  · refine (Compact_less _ n c w (by omega)).mono ?_
    rintro e w' ⟨rfl, rfl⟩
    exact ⟨n, rfl, by rw [compS_less (by rw [h.len]; omega)]; exact h, World.grownBy.refl _ _⟩
theorem Compact_own (base n : Nat) (D : List (List UInt8)) (v : Value) (w W0 : World) (hn : n ≤ 1000000) (h : w.ownsRow base 9 1 v n (textL D)) (hb : base ≤ W0.heap.size) (hB : Below base W0 w) :
    Calls Tryz.prog 44 #[v] w fun e w' => ∃ u, e = .returned u ∧ w'.ownsRow base 9 1 u (compS D).length (textL (compS D)) ∧ Below base W0 w' := by
  have hl : D.length = n := by have := h.1; rw [textL_length] at this; omega
  have h0 := h
  rcases h.2 with ⟨rfl, e0⟩ | ⟨g, cap, cur, rfl, hg, _⟩
  · subst e0
    obtain rfl : D = [] := List.eq_nil_of_length_eq_zero hl
    refine (Compact_less none 0 0 w (by omega)).mono ?_
    rintro e w' ⟨rfl, rfl⟩
    exact ⟨_, rfl, h0, hB⟩
  · refine (Compact_any base g n cap D w hn h0).mono ?_
    rintro e w' ⟨m, rfl, hr, hgr⟩
    have hm := hr.len
    refine ⟨_, rfl, ?_, hB.grown hgr (Nat.le_trans hb hB.size) (fun j hj => by injection hj with hj; omega)⟩
    rw [hm]; exact hr
def namesX (D : List Rrd) : List (List UInt8) := D.map fun x => foldL (nmX x)
theorem namesX_take {D : List Rrd} {k : Nat} {x : Rrd} (hx : D[k]? = some x) : namesX (D.take (k + 1)) = namesX (D.take k) ++ [foldL (nmX x)] := by
  unfold namesX
  rw [List.take_add_one, hx, List.map_append]
  rfl
theorem namesX_at {D : List Rrd} {k : Nat} {x : Rrd} (hx : D[k]? = some x) : (namesX D)[k]? = some (foldL (nmX x)) := by unfold namesX; rw [List.getElem?_map, hx]; rfl
theorem namesX_len (D : List Rrd) : (namesX D).length = D.length := by simp [namesX]
set_option maxHeartbeats 16000000 in
set_option maxRecDepth 20000 in
theorem Names_any (N : ByteArray) (D : List Rrd) (v : Value) (w : World) (hz : ZoneAt w w.heap.size N D v) (hok : OkL D) (hn : D.length ≤ 100000) :
    Calls Tryz.prog 16 #[v] w fun e w' => ∃ u, e = .returned u ∧ w'.ownsRow w.heap.size 9 1 u (compS (namesX D)).length (textL (compS (namesX D))) ∧ Below w.heap.size w w' := by
  obtain ⟨A, c, s, rfl, hs, hcap, hsoa⟩ := hz
  obtain ⟨m, hm⟩ : ∃ m, m = D.length := ⟨_, rfl⟩
  have HM := Lib.hid hm
  rw [← hm] at hs hcap hn
  try rw [← hm]
  have hw0 := Whole.new w zoT #[.string N, .slice A m c, .string s.s, .int .i64 s.t, .int .i64 s.c, .int .i64 s.l, .string s.d]
  have hB0 : Below w.heap.size w (w.alloc (.cells #[.string N, .slice A m c, .string s.s, .int .i64 s.t, .int .i64 s.c, .int .i64 s.l, .string s.d] zoT)) := (Below.refl _ _).alloc (Nat.le_refl _) _
  obtain ⟨c0, c1, c2, c3, c4, c5, c6⟩ := zo_facts hw0
  have HW0 := Lib.hid hw0
  have HS := Lib.hid ((hs.keep hB0).more hB0.size)
  have HB0 := Lib.hid hB0
  have HCAP := Lib.hid hcap
  have HSOA := Lib.hid hsoa
  clear hw0 hB0 hs hcap hsoa
  have HOK := Lib.hid hok
  obtain ⟨W0, hW0⟩ : ∃ W, W = w.alloc (.cells #[.string N, .slice A m c, .string s.s, .int .i64 s.t, .int .i64 s.c, .int .i64 s.l, .string s.d] zoT) := ⟨_, rfl⟩
  rw [← hW0] at HS HB0
  have HW0' := Lib.hid hW0
  obtain ⟨i0, hi0, hz0, hz1, hz2⟩ := info_parts text_infoG
  clear hok hm hW0
  go_enter Tryz.func16, Tryz.ntmps16
  go_wp2_with fail
  rw [← HW0'.out]
  go_loopw [3, 9] (fun s i wr => ∃ k : Nat, k ≤ m ∧ i = .int .i64 (k : Nat) ∧ wr.ownsRow W0.heap.size 9 1 s k (textL (namesX (D.take k))) ∧ Below W0.heap.size W0 wr) (fun _ i _ => m - (intOf i).toNat)
  case atStart => exact ⟨0, Nat.zero_le _, rfl, World.ownsRow_nil _ _ _ _, Below.refl _ _⟩
  case round =>
    obtain ⟨k, hk, rfl, hO, hBW⟩ := hrel
    have HO := Lib.hid hO
    have HBW := Lib.hid hBW
    have HB := Lib.hid (HB0.out.trans (hBW.mono HB0.out.size))
    clear hO hBW c0 c1 c2 c3 c4 c5 c6
    by_cases hkm : k < m
    · have g2 : (k : Int) < (m : Int) := by omega
      have g0 : (0 : Int) ≤ (k : Int) := by omega
      obtain ⟨b, off, x, rfl, hb, hxk, ht⟩ := (HS.out.keep HBW.out).at hkm
      obtain ⟨x0, x1, x2, x3, x4⟩ := ht
      have HST := Lib.hid (namesX_take hxk)
      have hxl : (nmX x).length ≤ 1073741824 := by have := (HOK.out.at hxk).name; unfold nmX; omega
      obtain ⟨f, hf⟩ : ∃ f, f = foldL (nmX x) := ⟨_, rfl⟩
      have HF := Lib.hid hf
      have HB2 := Lib.hid (show Below w.heap.size w (wr.alloc (.cells #[.string x.s, .int .i64 x.t, .int .i64 x.c, .int .i64 x.l, .string x.d] 26)) from HB.out.alloc HB.out.size _)
      have HBW2 := Lib.hid (show Below W0.heap.size W0 (wr.alloc (.cells #[.string x.s, .int .i64 x.t, .int .i64 x.c, .int .i64 x.l, .string x.d] 26)) from HBW.out.alloc HBW.out.size _)
      have HO2 := Lib.hid (HO.out.alloc (.cells #[.string x.s, .int .i64 x.t, .int .i64 x.c, .int .i64 x.l, .string x.d] 26))
      obtain ⟨p0, p1, p2, p3, p4⟩ := box_five wr x
      clear hxk hf
      go_wp2_with fail
      refine (Fold_any x.s (nmX x) _ (rrd_name x) hxl).mono ?_
      rw [← HF.out]
      rintro e w1 ⟨rfl, hB1⟩
      have HO1 := Lib.hid (own_keep HO2.out hB1)
      have HB3 := Lib.hid (HB2.out.trans (hB1.mono HB2.out.size))
      have HBW3 := Lib.hid (HBW2.out.trans (hB1.mono HBW2.out.size))
      have H63 : Hid (k + 1 ≤ maxLen) := Lib.hid (by unfold maxLen; omega)
      have H47 : Hid ((k + 1) * 16 ≤ 140737488355328) := Lib.hid (by omega)
      have HAS := Lib.hid (show W0.heap.size ≤ (w1.alloc (.cells #[.string (mk f)] 9)).heap.size by have := HBW3.out.size; simp; omega)
      clear hB1 x0 x1 x2 x3 x4 p0 p1 p2 p3 p4
      go_wp2_with (at_builtin; refine wpList_append_own _ rfl _ _ 45 rfl W0.heap.size 9 i0 (.string ⟨#[]⟩) 1 16 Tryz.underlying45 hi0 hz0 hz1 hz2 rfl (by decide) _ _ _ rfl (HO1.out.alloc _) ⟨w1.heap.size, 0, none⟩ 1 1 [.string (mk f)] rfl rfl (news1 _ _ _) (one1 _ rfl) H63.out H47.out HAS.out ?_)
      intro v' w2 hown hgrow _
      have HO4 := Lib.hid (show w2.ownsRow W0.heap.size 9 1 v' (k + 1) (textL (namesX (D.take (k + 1)))) by rw [HST.out, textL_snoc, ← HF.out]; exact hown)
      have HBW4 := Lib.hid (show Below W0.heap.size W0 w2 from (HBW3.out.alloc HBW3.out.size (.cells #[.string (mk f)] 9)).grown hgrow (by have := HBW3.out.size; simp; omega) (own_block_ge HO1.out))
      clear hown hgrow
      go_wp2_with fail
      go_roundw
      case rel => exact ⟨k + 1, by omega, by go_num, HO4.out, HBW4.out⟩
      case measure => simp [intOf]; omega
    · obtain rfl : k = m := by omega
      have g2 : ¬ ((k : Int) < (k : Int)) := by omega
      have hO := HO.out
      rw [List.take_of_length_le (by rw [HM.out]; exact Nat.le_refl _)] at hO
      have HO2 := Lib.hid hO
      clear hO
      go_wp2_with fail
      refine (Compact_own W0.heap.size k (namesX D) _ _ W0 (by omega) HO2.out (Nat.le_refl _) HBW.out).mono ?_
      rintro e w2 ⟨u, rfl, ho, hB2⟩
      have HO3 := Lib.hid (own_less ho HB0.out.size)
      have HB3 := Lib.hid (HB0.out.trans (hB2.mono HB0.out.size))
      clear ho hB2
      go_wp2_with fail
      go_ret
      exact ⟨u, rfl, HO3.out, HB3.out⟩
set_option maxHeartbeats 16000000 in
set_option maxRecDepth 20000 in
theorem RefNames_any (N : ByteArray) (D : List Rrd) (v : Value) (w : World) (hz : ZRefAt w w.heap.size N D v) (hn : D.length ≤ 100000) :
    Calls Tryz.prog 17 #[v] w fun e w' => ∃ u, e = .returned u ∧ w'.ownsRow w.heap.size 9 1 u (compS (namesX D)).length (textL (compS (namesX D))) ∧ Below w.heap.size w w' := by
  obtain ⟨A, c, rfl, hs, hcap⟩ := hz
  obtain ⟨m, hm⟩ : ∃ m, m = D.length := ⟨_, rfl⟩
  have HM := Lib.hid hm
  rw [← hm] at hs hcap hn
  try rw [← hm]
  have hw0 := Whole.new w rzT #[.string N, .slice A m c]
  have hB0 : Below w.heap.size w (w.alloc (.cells #[.string N, .slice A m c] rzT)) := (Below.refl _ _).alloc (Nat.le_refl _) _
  obtain ⟨W0, hW0⟩ : ∃ W, W = w.alloc (.cells #[.string N, .slice A m c] rzT) := ⟨_, rfl⟩
  rw [← hW0] at hw0 hB0
  have HWZ := Lib.hid hw0
  have HS := Lib.hid ((hs.keep hB0).more hB0.size)
  have HB0 := Lib.hid hB0
  have HW0' := Lib.hid hW0
  have HNL := Lib.hid (namesX_len D)
  obtain ⟨i0, hi0, hz0, hz1, hz2⟩ := info_parts text_infoG
  clear hm hW0 hs hcap hw0 hB0
  go_enter Tryz.func17, Tryz.ntmps17
  go_wp2_with fail
  rw [← HW0'.out]
  go_loopw [3, 4] (fun s i wr => ∃ k : Nat, k ≤ m ∧ i = .int .i64 (k : Nat) ∧ wr.ownsRow W0.heap.size 9 1 s (compS ((namesX D).take k)).length (textL (compS ((namesX D).take k))) ∧ Below W0.heap.size W0 wr) (fun _ i _ => m - (intOf i).toNat)
  case atStart => exact ⟨0, Nat.zero_le _, rfl, World.ownsRow_nil _ _ _ _, Below.refl _ _⟩
  case round =>
    obtain ⟨k, hk, rfl, hO, hBW⟩ := hrel
    have HO := Lib.hid hO
    have HBW := Lib.hid hBW
    have hwz := HWZ.out.below hBW HWZ.out.lt
    have c0 : wr.cell? ⟨w.heap.size, 0, none⟩ = some (.string N) := (hwz.cell 0).trans rfl
    have c1 : wr.cell? ⟨w.heap.size, 1, none⟩ = some (.slice A m c) := (hwz.cell 1).trans rfl
    clear hO hBW hwz
    by_cases hkm : k < m
    · have g2 : (k : Int) < (m : Int) := by omega
      have g0 : (0 : Int) ≤ (k : Int) := by omega
      obtain ⟨b, off, x, rfl, hb, hxk, ht⟩ := (HS.out.keep HBW.out).at hkm
      obtain ⟨x0, x1, x2, x3, x4⟩ := ht
      obtain ⟨f, hf⟩ : ∃ f, f = foldL (nmX x) := ⟨_, rfl⟩
      have HF := Lib.hid hf
      have HFK := Lib.hid (show (namesX D)[k]? = some f by rw [hf]; exact namesX_at hxk)
      clear hxk hf
      go_wp2_with fail
      refine (RefFold_any x.s (nmX x) _ (rrd_name x)).mono ?_
      rw [← HF.out]
      rintro e w1 ⟨rfl, hB1⟩
      have HO1 := Lib.hid (own_keep HO.out hB1)
      have HBW3 := Lib.hid (HBW.out.trans (hB1.mono HBW.out.size))
      clear hB1 x0 x1 x2 x3 x4 c0 c1
      obtain ⟨L, hL⟩ : ∃ L, L = compS ((namesX D).take k) := ⟨_, rfl⟩
      have HLE := Lib.hid hL
      have hLl : L.length ≤ k := by rw [hL]; have h1 := compS_len ((namesX D).take k); have h2 := List.length_take_le k (namesX D); omega
      rw [← hL] at HO1
      try rw [← hL]
      have H63 : Hid (L.length + 1 ≤ maxLen) := Lib.hid (by unfold maxLen; omega)
      have H47 : Hid ((L.length + 1) * 16 ≤ 140737488355328) := Lib.hid (by omega)
      have HAS := Lib.hid (show W0.heap.size ≤ (w1.alloc (.cells #[.string (mk f)] 9)).heap.size by have := HBW3.out.size; simp; omega)
      clear hL
      rcases Nat.eq_zero_or_pos k with h0 | h0
      · -- the first one
        have HL0 := Lib.hid (show L = [] by rw [HLE.out, h0]; rfl)
        have HST := Lib.hid (show compS ((namesX D).take (k + 1)) = L ++ [f] by
          rw [HL0.out, h0, compS_one (by rw [HNL.out, ← HM.out]; omega), List.take_add_one]
          have := HFK.out
          rw [h0] at this
          rw [this]; rfl)
        have hl0 : L.length = 0 := by rw [HL0.out]; rfl
        rw [hl0] at HO1 H63 H47
        try rw [hl0]
        clear hl0 h0 hLl
        obtain ⟨A1, cA1, rfl, _⟩ := Sees.own HO1.out
        go_wp2_with (at_builtin; refine wpList_append_own _ rfl _ _ 45 rfl W0.heap.size 9 i0 (.string ⟨#[]⟩) 1 16 Tryz.underlying45 hi0 hz0 hz1 hz2 rfl (by decide) _ _ _ rfl (HO1.out.alloc _) ⟨w1.heap.size, 0, none⟩ 1 1 [.string (mk f)] rfl rfl (news1 _ _ _) (one1 _ rfl) H63.out H47.out HAS.out ?_)
        intro v' w2 hown hgrow _
        have HO4 := Lib.hid (show w2.ownsRow W0.heap.size 9 1 v' (compS ((namesX D).take (k + 1))).length (textL (compS ((namesX D).take (k + 1)))) by
          have hh := hown
          rw [HST.out, textL_snoc, List.length_append, HL0.out]
          rw [HL0.out] at hh
          exact hh)
        have HBW4 := Lib.hid (show Below W0.heap.size W0 w2 from (HBW3.out.alloc HBW3.out.size (.cells #[.string (mk f)] 9)).grown hgrow (by have := HBW3.out.size; simp; omega) (own_block_ge HO1.out))
        clear hown hgrow
        go_wp2_with fail
        go_roundw
        case rel => exact ⟨k + 1, by omega, by go_num, HO4.out, HBW4.out⟩
        case measure => simp [intOf]; omega
      · obtain ⟨k', hk'⟩ : ∃ k', k = k' + 1 := ⟨k - 1, by omega⟩
        have hfy : ∃ y, (namesX D)[k']? = some y := ⟨(namesX D)[k']'(by rw [HNL.out, ← HM.out]; omega), List.getElem?_eq_getElem _⟩
        obtain ⟨y, hy⟩ := hfy
        have hlast : L.getLast? = some y := by rw [HLE.out, hk']; exact compS_last hy
        have hnext : compS ((namesX D).take (k + 1)) = if f = y then L else L ++ [f] := by
          have h1 := compS_next (D := namesX D) (k := k') (x := f) (y := y) (by rw [← hk']; exact HFK.out) hy
          rw [HLE.out, hk']; exact h1
        have hlpos : 0 < L.length := by cases L with | nil => cases hlast | cons _ _ => simp
        obtain ⟨A1, cA1, rfl, hsee⟩ := Sees.own HO1.out
        obtain ⟨q, hq⟩ : ∃ q, L.length = q + 1 := ⟨L.length - 1, by omega⟩
        have hLq : L[q]? = some y := by rw [List.getLast?_eq_getElem?, hq] at hlast; exact hlast
        obtain ⟨bb, boff, hA1, hbb, hcell⟩ := textL_at hsee (k := q) (by omega) (by omega)
        obtain ⟨Y, hY⟩ : ∃ Y, Y = mk y := ⟨_, rfl⟩
        have hcell2 : w1.cell? ⟨bb, boff + q, none⟩ = some (.string Y) := by
          rw [hcell, hY]
          have := (List.getElem?_eq_some_iff.1 hLq).2
          rw [this]
        obtain ⟨Fs, hFs⟩ : ∃ Fs, Fs = mk f := ⟨_, rfl⟩
        obtain ⟨z, hz⟩ : ∃ z, z = decide (f = y) := ⟨_, rfl⟩
        have geq : (Y.toList == Fs.toList) = z := by
          rw [hY, hFs, mk_beq, hz, Bool.eq_iff_iff]
          simp
          exact eq_comm
        have gne : (Y.toList != Fs.toList) = !z := by rw [bne, geq]
        subst hA1
        have HNX := Lib.hid hnext
        have HZ := Lib.hid hz
        have HFS := Lib.hid hFs
        obtain ⟨l, hl⟩ : ∃ l, l = L.length := ⟨_, rfl⟩
        have gq1 : (l : Int) - 1 = (q : Int) := by omega
        have gq2 : (q : Int) < (l : Int) := by omega
        have gq3 : (0 : Int) ≤ (q : Int) := by omega
        have gq4 : ((l : Int) == 0) = false := by rw [beq_eq_false_iff_ne]; omega
        have gq5 : l ≤ 100000 := by omega
        have gq6 : q ≤ 100000 := by omega
        have HQ := Lib.hid hl
        rw [← hl] at HO1 H63 H47
        rw [← hFs] at HAS
        try rw [← hl]
        try rw [← hFs]
        clear hnext hz hFs hY hcell hsee hlast hlpos hq hl hLq hy hk' h0 hLl
        cases z with
        | true =>
          have HE := Lib.hid (show compS ((namesX D).take (k + 1)) = L by rw [HNX.out, if_pos (by have := HZ.out; simpa using this)])
          go_wp2_with fail
          go_roundw
          case rel => exact ⟨k + 1, by omega, by go_num, by rw [HE.out, ← HQ.out]; exact HO1.out, HBW3.out⟩
          case measure => simp [intOf]; omega
        | false =>
          have HE := Lib.hid (show compS ((namesX D).take (k + 1)) = L ++ [f] by rw [HNX.out, if_neg (by have := HZ.out; simpa using this)])
          go_wp2_with (at_builtin; refine wpList_append_own _ rfl _ _ 45 rfl W0.heap.size 9 i0 (.string ⟨#[]⟩) 1 16 Tryz.underlying45 hi0 hz0 hz1 hz2 rfl (by decide) _ _ _ rfl (HO1.out.alloc _) ⟨w1.heap.size, 0, none⟩ 1 1 [.string Fs] rfl rfl (news1 _ _ _) (one1 _ rfl) H63.out H47.out HAS.out ?_)
          intro v' w2 hown hgrow _
          have HO4 := Lib.hid (show w2.ownsRow W0.heap.size 9 1 v' (compS ((namesX D).take (k + 1))).length (textL (compS ((namesX D).take (k + 1)))) by
            rw [HE.out, textL_snoc, List.length_append, ← HQ.out, ← HFS.out]
            exact hown)
          have HBW4 := Lib.hid (show Below W0.heap.size W0 w2 from (HBW3.out.alloc HBW3.out.size (.cells #[.string Fs] 9)).grown hgrow (by have := HBW3.out.size; simp; omega) (own_block_ge HO1.out))
          clear hown hgrow
          go_wp2_with fail
          go_roundw
          case rel => exact ⟨k + 1, by omega, by go_num, HO4.out, HBW4.out⟩
          case measure => simp [intOf]; omega
    · obtain rfl : k = m := by omega
      have g2 : ¬ ((k : Int) < (k : Int)) := by omega
      have hO := HO.out
      rw [List.take_of_length_le (by rw [HNL.out, HM.out]; exact Nat.le_refl _)] at hO
      have HO2 := Lib.hid (own_less hO HB0.out.size)
      clear hO
      go_wp2_with fail
      go_ret
      exact ⟨_, rfl, HO2.out, HB0.out.trans (HBW.out.mono HB0.out.size)⟩

set_option maxHeartbeats 16000000 in
set_option maxRecDepth 20000 in
theorem Texts_own (A A' : Option Addr) (n c c' : Nat) (L : List (List UInt8)) (w : World) (h : Sees w w.heap.size A n (textL L)) (h' : Sees w w.heap.size A' n (textL L)) (hn : n ≤ 1073741824) :
    Calls Tryz.prog 15 #[.slice A n c, .slice A' n c'] w fun e w' => e = .returned (.bool true) ∧ Below w.heap.size w w' := by
  have hl := textL_len h
  have hnn : ((n : Int) != (n : Int)) = false := by simp
  have H := Lib.hid h
  have H' := Lib.hid h'
  have HL := Lib.hid hl
  clear h h' hl
  go_enter Tryz.func15, Tryz.ntmps15
  go_wp2_with fail
  go_loopw [5] (fun i wr => ∃ k : Nat, k ≤ n ∧ i = .int .i64 k ∧ Below w.heap.size w wr) (fun i _ => n - (intOf i).toNat)
  case atStart => exact ⟨0, Nat.zero_le _, rfl, Below.refl _ _⟩
  case round =>
    obtain ⟨k, hk, rfl, hB⟩ := hrel
    have HB := Lib.hid hB
    by_cases hlt : k < n
    · obtain ⟨b, off, rfl, hb, hc⟩ := textL_at H.out hlt (by have := HL.out; omega)
      obtain ⟨b', off', rfl, hb', hc'⟩ := textL_at H'.out hlt (by have := HL.out; omega)
      obtain ⟨X, hX⟩ : ∃ X, X = mk (L[k]'(by have := HL.out; omega)) := ⟨_, rfl⟩
      rw [← hX] at hc hc'
      have d0 : ∀ q : Later wr, q.val.cell? ⟨b, off + k, none⟩ = some (.string X) := fun q => (q.below.cell (Nat.lt_of_lt_of_le hb hB.size)).trans ((hB.cell hb).trans hc)
      have e0 : ∀ q : Later wr, q.val.cell? ⟨b', off' + k, none⟩ = some (.string X) := fun q => (q.below.cell (Nat.lt_of_lt_of_le hb' hB.size)).trans ((hB.cell hb').trans hc')
      have hi : (k : Int) < (n : Int) := by omega
      have hi0 : (0 : Int) ≤ (k : Int) := by omega
      have hxx : (X.toList != X.toList) = false := by simp
      clear hX hc hc' hB
      go_wp2_with fail
      refine region_later (by kernel_rfl) ?_
      repeat (go_big_quiet_step (fail))
      refine wpQuiet_nil ?_
      rintro _ ⟨q2, rfl⟩
      have HB2 := Lib.hid (HB.out.trans (q2.below.mono HB.out.size))
      clear d0 e0
      go_wp2_with fail
      go_roundw
      case rel => exact ⟨k + 1, by omega, by go_num, HB2.out⟩
      case measure => simp [intOf]; omega
    · obtain rfl : k = n := by omega
      have g2 : ¬ ((k : Int) < (k : Int)) := by omega
      clear hB
      go_wp2_with fail
      go_ret
      exact ⟨rfl, HB.out⟩
end Go.Proofs.YtkmmbbcmpjkmkaaGreat
