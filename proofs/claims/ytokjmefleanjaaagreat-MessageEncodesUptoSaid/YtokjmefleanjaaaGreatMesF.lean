/- The reference's Few: three slices of records joined. No statement of the seat is proved here. -/
import Derived.Test.YtokjmefleanjaaaGreatMesB
import Derived.Deep.AppendSrc
import Derived.Deep.RegionHeld3
namespace Go.Proofs.YtokjmefleanjaaaGreat
open Go.RowKit Go.Op

def rcells (xs : List Rrd) : List Value := xs.flatMap fun x => [.string x.s, .int .i64 x.t, .int .i64 x.c, .int .i64 x.l, .string x.d]
theorem rcells_nil : rcells [] = [] := rfl
theorem rcells_cons (x : Rrd) (xs : List Rrd) : rcells (x :: xs) = [.string x.s, .int .i64 x.t, .int .i64 x.c, .int .i64 x.l, .string x.d] ++ rcells xs := by simp [rcells]
theorem rcells_append (xs ys : List Rrd) : rcells (xs ++ ys) = rcells xs ++ rcells ys := by simp [rcells]
theorem rcells_len (xs : List Rrd) : (rcells xs).length = xs.length * 5 := by
  induction xs with
  | nil => rfl
  | cons x xs ih => rw [rcells_cons, List.length_append, ih, List.length_cons]; simp; omega
theorem rcells_one (xs : List Rrd) : ∀ u ∈ rcells xs, u.oneCell' = true := by
  intro u hu
  simp only [rcells, List.mem_flatMap] at hu
  obtain ⟨k, _, hu⟩ := hu
  simp only [List.mem_cons, List.not_mem_nil, or_false] at hu
  rcases hu with rfl | rfl | rfl | rfl | rfl <;> rfl
/-- the five cells of element j -/
theorem rcells_at : ∀ (xs : List Rrd) (j : Nat) (x : Rrd), xs[j]? = some x → (rcells xs)[j * 5]? = some (.string x.s) ∧ (rcells xs)[j * 5 + 1]? = some (.int .i64 x.t) ∧ (rcells xs)[j * 5 + 2]? = some (.int .i64 x.c) ∧ (rcells xs)[j * 5 + 3]? = some (.int .i64 x.l) ∧ (rcells xs)[j * 5 + 4]? = some (.string x.d) := by
  intro xs
  induction xs with
  | nil => intro j x h; simp at h
  | cons y xs ih =>
    intro j x h
    rw [rcells_cons]
    cases j with
    | zero => simp only [List.getElem?_cons_zero, Option.some.injEq] at h; subst h; exact ⟨rfl, rfl, rfl, rfl, rfl⟩
    | succ j =>
      rw [List.getElem?_cons_succ] at h
      obtain ⟨a0, a1, a2, a3, a4⟩ := ih j x h
      have e : ∀ r, ([Value.string y.s, .int .i64 y.t, .int .i64 y.c, .int .i64 y.l, .string y.d] ++ rcells xs)[(j + 1) * 5 + r]? = (rcells xs)[j * 5 + r]? := by
        intro r
        rw [List.getElem?_append_right (by simp; omega)]
        congr 1
        simp; omega
      exact ⟨(e 0).trans a0, (e 1).trans a1, (e 2).trans a2, (e 3).trans a3, (e 4).trans a4⟩
theorem SeesR.cells {w : World} {B : Nat} {A : Option Addr} {n : Nat} {xs : List Rrd} (h : SeesR w B A n xs) (hn : 0 < n) : ∃ b off, A = some ⟨b, off, none⟩ ∧ b < B ∧ ∀ j u, (rcells xs)[j]? = some u → w.cell? ⟨b, off + j, none⟩ = some u := by
  obtain ⟨hl, h2⟩ := h
  obtain ⟨b, off, e, hb, hc⟩ := h2 hn
  refine ⟨b, off, e, hb, fun j u hu => ?_⟩
  have hj : j < (rcells xs).length := (List.getElem?_eq_some_iff.1 hu).1
  rw [rcells_len] at hj
  obtain ⟨x, hx⟩ : ∃ x, xs[j / 5]? = some x := ⟨xs[j / 5]'(by omega), List.getElem?_eq_getElem (by omega)⟩
  obtain ⟨a0, a1, a2, a3, a4⟩ := rcells_at xs (j / 5) x hx
  obtain ⟨c0, c1, c2, c3, c4⟩ := hc (j / 5) x hx
  have hr : j % 5 < 5 := Nat.mod_lt _ (by omega)
  have hj5 : j = j / 5 * 5 + j % 5 := by omega
  obtain ⟨r, hrr⟩ : ∃ r, r = j % 5 := ⟨_, rfl⟩
  rw [← hrr] at hr hj5
  rw [hj5] at hu ⊢
  rcases (show r = 0 ∨ r = 1 ∨ r = 2 ∨ r = 3 ∨ r = 4 by omega) with rfl | rfl | rfl | rfl | rfl
  · rw [Nat.add_zero] at hu ⊢; rw [a0] at hu; injection hu with hu; subst hu; exact c0
  · rw [a1] at hu; injection hu with hu; subst hu; exact c1
  · rw [a2] at hu; injection hu with hu; subst hu; exact c2
  · rw [a3] at hu; injection hu with hu; subst hu; exact c3
  · rw [a4] at hu; injection hu with hu; subst hu; exact c4
/-- a row of one's own, seen as records -/
theorem SeesR.own {w : World} {base : Nat} {v : Value} {n : Nat} {xs : List Rrd} (h : w.ownsRow base 39 5 v n (rcells xs)) :
    ∃ A c, v = .slice A n c ∧ SeesR w w.heap.size A n xs := by
  have hl : xs.length = n := by have := h.1; rw [rcells_len] at this; omega
  rcases h.2 with ⟨rfl, rfl⟩ | ⟨g, cap, cur, rfl, hb, hg, h1, h2, h3, h4⟩
  · exact ⟨none, 0, rfl, hl, fun h => absurd h (by omega)⟩
  · refine ⟨some ⟨g, 0, none⟩, cap, rfl, hl, fun _ => ⟨g, 0, rfl, (Array.getElem?_eq_some_iff.1 hg).1, fun j x hx => ?_⟩⟩
    obtain ⟨a0, a1, a2, a3, a4⟩ := rcells_at xs j x hx
    have hj : j < n := by rw [← hl]; exact (List.getElem?_eq_some_iff.1 hx).1
    rw [Nat.zero_add]
    exact ⟨(h.cellAt _ (by omega)).trans a0, (h.cellAt _ (by omega)).trans a1, (h.cellAt _ (by omega)).trans a2, (h.cellAt _ (by omega)).trans a3, (h.cellAt _ (by omega)).trans a4⟩

theorem rec_info : (Tryz.prog.info? 39).map (fun i => (i.zero, i.size, i.bytes)) = some (some (.agg #[.string ⟨#[]⟩, .int .i64 0, .int .i64 0, .int .i64 0, .string ⟨#[]⟩]), 5, 56) := by kernel_rfl
set_option maxRecDepth 20000 in
/-- records appended to a row of one's own that is not nil: one step of a region -/
theorem step_append_R {w : World} {ops : Array Oper} {o : Oper} {a : Act} {K : Act → World → Prop} {Q : Exit → Act → World → Prop} {E : Prop} (hgd : o.guard = none) (s x : Operand)
    (ho : o.op = .call { callee := .builtin .append, args := #[s, x], argTypes := #[24, 24] }) (base : Nat) (v : Value) (n : Nat) (xs : List Value) (hs : a.eval s = v) (hown : w.ownsRow base 39 5 v n xs) (hv : v ≠ .slice none 0 0)
    (B : Nat) (A : Option Addr) (m c : Nat) (KL : List Rrd) (hx : a.eval x = .slice A m c) (hr : SeesR w B A m KL) (N : Nat) (hN : n + m = N) (ys : List Value) (hys : xs ++ rcells KL = ys) (h63 : N ≤ 1073741824) (hbase : base ≤ w.heap.size)
    (h : ∀ v' w', w'.ownsRow base 39 5 v' N ys → w.grownBy w' v.ownBlock → v' ≠ .slice none 0 0 → K (a.put o.dst v') w') : if Region.wanted o (yielded ops a.tmps) = true then Oper.wp Tryz.prog o a w K Q else E := by
  have hw : Region.wanted o (yielded ops a.tmps) = true := by simp [Region.wanted, hgd]
  rw [if_pos hw]
  subst hN
  subst hys
  obtain ⟨i, hi, hz0, hz1, hz2⟩ := info_parts rec_info
  have hkl := rcells_len KL
  rw [hr.1] at hkl
  rcases A with _ | ad
  · have hm : m = 0 := by
      rcases Nat.eq_zero_or_pos m with h0 | h0
      · exact h0
      · obtain ⟨b, off, e, _⟩ := hr.2 h0
        cases e
    subst hm
    have hn : rcells KL = [] := List.eq_nil_of_length_eq_zero (by omega)
    rw [hn, List.append_nil] at h
    rcases hown.2 with ⟨rfl, _⟩ | ⟨g, cap, cur, rfl, _, _, hnc, _⟩
    · exact absurd rfl hv
    · have hrun := run_append_room_src (P := Tryz.prog) w 24 24 o.type 39 i Tryz.underlying24 hi g 0 n cap (.slice none 0 c) 0 [] (Src.ofNil w Tryz.underlying24 c) (by omega) (by simp) (by simp)
      have hsame : w.setCells g (0 + n * i.size) [] = w := rfl
      rw [hsame] at hrun
      unfold Oper.wp
      simp [execOp, ho, resolve, invoke, builtin, hs, hx, hrun, Result.andThen]
      exact h _ _ hown (World.grownBy.refl w _) hv
  · have hcells : ∀ j u, (rcells KL)[j]? = some u → w.cell? (ad.add j) = some u := by
      intro j u hu
      have hj : j < (rcells KL).length := (List.getElem?_eq_some_iff.1 hu).1
      obtain ⟨b, off, e, _, hc⟩ := hr.cells (by omega)
      injection e with e
      subst e
      rw [show (⟨b, off, none⟩ : Addr).add j = ⟨b, off + j, none⟩ from by unfold Addr.add; split <;> simp_all]
      exact hc j u hu
    refine wp_append_own w s x 24 ho base 39 i (.agg #[.string ⟨#[]⟩, .int .i64 0, .int .i64 0, .int .i64 0, .string ⟨#[]⟩]) 5 56 Tryz.underlying24 hi hz0 hz1 hz2 rfl (by decide) v n xs hs hown ad m c (rcells KL) hx hkl hcells (rcells_one KL) (by unfold maxLen; omega) (by omega) hbase ?_
    intro v' w' h1 h2 h3
    exact h v' w' h1 h2 fun e => hv (h3.1 e).1
theorem own_noneR (w : World) (base : Nat) (hb : base ≤ w.heap.size) : (w.alloc (.cells #[] 39)).ownsRow base 39 5 (.slice (some ⟨w.heap.size, 0, none⟩) 0 0) 0 [] :=
  ⟨rfl, .inr ⟨w.heap.size, 0, #[], rfl, hb, heap_alloc_new w _, Nat.le_refl _, by unfold maxLen; omega, rfl, rfl⟩⟩

def fewR (x : Rrd) : Bool := decide (x.s.size ≤ 600) && decide (x.d.size ≤ 2000)
def fewM (x : Mrd) : Bool := (x.la ++ x.ln ++ x.ld).all fewR && (decide (x.an + x.nn + x.dn ≤ 30) && decide (x.qn ≤ 10))
theorem fewR_is {x : Rrd} : fewR x = true ↔ x.s.size ≤ 600 ∧ x.d.size ≤ 2000 := by unfold fewR; simp
set_option maxHeartbeats 8000000 in
set_option maxRecDepth 20000 in
theorem Few_any (hd : Hd) (x : Mrd) (w : World) (hx : SeesM w w.heap.size x) (ha : x.an ≤ 100000000) (hn : x.nn ≤ 100000000) (hdn : x.dn ≤ 100000000) :
    Calls Tryz.prog 6 #[.agg (msV hd x)] w fun e w' => e = .returned (.bool (fewM x)) ∧ Below w.heap.size w w' := by
  obtain ⟨W, hW⟩ : ∃ W, W = w.alloc (.cells (msV hd x) msT) := ⟨_, rfl⟩
  obtain ⟨g, hg⟩ : ∃ g, g = w.heap.size := ⟨_, rfl⟩
  have HB0 := Lib.hid (show Below w.heap.size w W by rw [hW]; exact (Below.refl _ _).alloc (Nat.le_refl _) _)
  have HW0 := Lib.hid (show Whole W g msT (msV hd x) by rw [hW, hg]; exact Whole.new w msT _)
  have HX := Lib.hid ((hx.keep HB0.out).more HB0.out.size)
  have HQN := Lib.hid hx.q.1
  have HAN := Lib.hid hx.a.1
  have HNN := Lib.hid hx.n.1
  have HDN := Lib.hid hx.d.1
  have HWW := Lib.hid hW
  have HG := Lib.hid hg
  have HMV := Lib.hid (show msV hd x = #[.int .i64 hd.id, .bool hd.qr, .int .i64 hd.op, .bool hd.aa, .bool hd.tc, .bool hd.rd, .bool hd.ra, .int .i64 hd.z, .int .i64 hd.rc, .slice x.qA x.qn x.qc, .slice x.aA x.an x.ac, .slice x.nA x.nn x.nc, .slice x.dA x.dn x.dc] from rfl)
  clear hW hg hx
  obtain ⟨_, _, _, _, _, _, _, _, _, c9, c10, c11, c12⟩ := ms_facts HW0.out
  have HWE := Lib.hid (HW0.out.alloc (.cells #[] 39))
  have HBE := Lib.hid (show Below W.heap.size W (W.alloc (.cells #[] 39)) from (Below.refl _ _).alloc (Nat.le_refl _) _)
  have HOE := Lib.hid (own_noneR W W.heap.size (Nat.le_refl _))
  obtain ⟨_, _, _, _, _, _, _, _, _, _, e10, e11, e12⟩ := ms_facts HWE.out
  rw [HMV.out]
  go_enter Tryz.func6, Tryz.ntmps6
  go_wp2_with fail
  rw [← HMV.out, ← HWW.out, ← HG.out]
  go_region_held3 (fun w' => w'.cell? ⟨g, 10, none⟩ = some (.slice x.aA x.an x.ac) ∧ w'.cell? ⟨g, 11, none⟩ = some (.slice x.nA x.nn x.nc) ∧ w'.cell? ⟨g, 12, none⟩ = some (.slice x.dA x.dn x.dc)) (go_keep) (first
    | (refine step_append_R (by rfl) (.tmp 5) (.tmp 7) (by rfl) W.heap.size (.slice (some ⟨W.heap.size, 0, none⟩) 0 0) 0 [] (by rfl) (own_below HOE.out (Below.refl _ _).drew) (by simp) W.heap.size x.aA x.an x.ac x.la (by rfl) (HX.out.a.keep HBE.out.drew) x.an (Nat.zero_add _) (rcells x.la) (by rfl) (by omega) HBE.out.drew.size ?_; intro v1 w1 hown1 hgrow1 hne1; have HB1 := Lib.hid (HBE.out.drew.grown hgrow1 HBE.out.drew.size (fun z hz => by simp [Value.ownBlock] at hz; omega)); have HO1 := Lib.hid hown1; have HN1 := Lib.hid hne1; clear hown1 hgrow1 hne1; obtain ⟨_, _, _, _, _, _, _, _, _, _, j10, j11, j12⟩ := ms_facts (HW0.out.below HB1.out HW0.out.lt))
    | (refine step_append_R (by rfl) (.tmp 8) (.tmp 10) (by rfl) W.heap.size v1 x.an (rcells x.la) (by rfl) HO1.out HN1.out W.heap.size x.nA x.nn x.nc x.ln (by rfl) (HX.out.n.keep HB1.out) (x.an + x.nn) rfl (rcells (x.la ++ x.ln)) (by rw [rcells_append]) (by omega) HB1.out.size ?_; intro v2 w2 hown2 hgrow2 hne2; have HB2 := Lib.hid (HB1.out.grown hgrow2 HB1.out.size (fun z hz => (HO1.out.lt z hz).1)); have HO2 := Lib.hid hown2; have HN2 := Lib.hid hne2; clear hown2 hgrow2 hne2; obtain ⟨_, _, _, _, _, _, _, _, _, _, k10, k11, k12⟩ := ms_facts (HW0.out.below HB2.out HW0.out.lt))
    | (refine step_append_R (by rfl) (.tmp 11) (.tmp 13) (by rfl) W.heap.size v2 (x.an + x.nn) (rcells (x.la ++ x.ln)) (by rfl) HO2.out HN2.out W.heap.size x.dA x.dn x.dc x.ld (by rfl) (HX.out.d.keep HB2.out) (x.an + x.nn + x.dn) rfl (rcells (x.la ++ x.ln ++ x.ld)) (by rw [rcells_append (x.la ++ x.ln)]) (by omega) HB2.out.size ?_; intro v3 w3 hown3 hgrow3 hne3; have HB3 := Lib.hid (HB2.out.grown hgrow3 HB2.out.size (fun z hz => (HO2.out.lt z hz).1)); obtain ⟨A3, c3, rfl, hsee3⟩ := SeesR.own hown3; have HS3 := Lib.hid hsee3; clear hown3 hgrow3 hne3 hsee3; obtain ⟨_, _, _, _, _, _, _, _, _, _, i10, i11, i12⟩ := ms_facts (HW0.out.below HB3.out HW0.out.lt)))
  all_goals (
    have HB := Lib.hid (HB0.out.trans (HB3.out.mono HB0.out.size))
    have HW3 := Lib.hid (HW0.out.below HB3.out HW0.out.lt)
    clear c9 c10 c11 c12 e10 e11 e12 j10 j11 j12 k10 k11 k12 i10 i11 i12
    obtain ⟨_, _, _, _, _, _, _, _, _, c9, _, _, _⟩ := ms_facts HW3.out
    obtain ⟨all, hall⟩ : ∃ all, all = x.la ++ x.ln ++ x.ld := ⟨_, rfl⟩
    obtain ⟨N, hN⟩ : ∃ N, N = x.an + x.nn + x.dn := ⟨_, rfl⟩
    rw [← hall, ← hN] at HS3
    rw [← hN]
    have hN2 : N ≤ 300000000 := by omega
    have HAL := Lib.hid (show all.length = N from HS3.out.1)
    have HFE := Lib.hid (show fewM x = (all.all fewR && (decide (N ≤ 30) && decide (x.qn ≤ 10))) by unfold fewM; rw [hall, hN])
    clear hall hN
    go_wp2_with fail
    go_loopw [4] (fun i wr => ∃ k : Nat, k ≤ N ∧ i = .int .i64 (k : Nat) ∧ Upto fewR all k ∧ w3 = wr) (fun i _ => N - (intOf i).toNat)
    case atStart => exact ⟨0, Nat.zero_le _, rfl, Upto.zero _ _, rfl⟩
    case round =>
      obtain ⟨k, hk, rfl, hup, rfl⟩ := hrel
      have HU := Lib.hid hup
      clear hup
      by_cases hkn : k < N
      · have g2 : (k : Int) < (N : Int) := by omega
        obtain ⟨b, off, y, rfl, hb, hyk, ht⟩ := HS3.out.at hkn
        obtain ⟨x0, _, _, _, x4⟩ := ht
        have HYK := Lib.hid hyk
        clear hyk
        by_cases h6 : y.s.size ≤ 600
        · have g3 : decide ((600 : Int) < (y.s.size : Int)) = false := by rw [decide_eq_false_iff_not]; omega
          by_cases h7 : y.d.size ≤ 2000
          · have g4 : decide ((2000 : Int) < (y.d.size : Int)) = false := by rw [decide_eq_false_iff_not]; omega
            have HU2 := Lib.hid (HU.out.succ HYK.out (fewR_is.2 ⟨h6, h7⟩))
            clear h6 h7
            go_wp2_with fail
            go_roundw
            case rel => exact ⟨k + 1, by omega, by go_num, HU2.out, trivial⟩
            case measure => simp [intOf]; omega
          · have g4 : (2000 : Int) < (y.d.size : Int) := by omega
            have HO := Lib.hid (show fewM x = false by rw [HFE.out, not_all HYK.out (by unfold fewR; simp; omega)]; rfl)
            clear h6 h7
            go_wp2_with fail
            go_ret
            exact ⟨by rw [HO.out]; rfl, HB.out⟩
        · have g3 : (600 : Int) < (y.s.size : Int) := by omega
          have HO := Lib.hid (show fewM x = false by rw [HFE.out, not_all HYK.out (by unfold fewR; simp; omega)]; rfl)
          clear h6
          go_wp2_with fail
          go_ret
          exact ⟨by rw [HO.out]; rfl, HB.out⟩
      · obtain rfl : k = N := by omega
        have hu := HU.out
        rw [← HAL.out] at hu
        have HO := Lib.hid (show fewM x = (decide (k ≤ 30) && decide (x.qn ≤ 10)) by rw [HFE.out, hu.all]; rfl)
        clear hu
        by_cases h30 : k ≤ 30
        · have g3 : decide ((k : Int) ≤ 30) = true := by rw [decide_eq_true_iff]; omega
          by_cases h10 : x.qn ≤ 10
          · have g4 : decide ((x.qn : Int) ≤ 10) = true := by rw [decide_eq_true_iff]; omega
            have HO2 := Lib.hid (show fewM x = true by rw [HO.out]; simp [h30, h10])
            clear h30 h10
            go_wp2_with fail
            go_ret
            exact ⟨by rw [HO2.out]; rfl, HB.out⟩
          · have g4 : decide ((x.qn : Int) ≤ 10) = false := by rw [decide_eq_false_iff_not]; omega
            have HO2 := Lib.hid (show fewM x = false by rw [HO.out]; simp [h10])
            clear h30 h10
            go_wp2_with fail
            go_ret
            exact ⟨by rw [HO2.out]; rfl, HB.out⟩
        · have g3 : decide ((k : Int) ≤ 30) = false := by rw [decide_eq_false_iff_not]; omega
          have HO2 := Lib.hid (show fewM x = false by rw [HO.out]; simp [h30])
          clear h30
          go_wp2_with fail
          go_ret
          exact ⟨by rw [HO2.out]; rfl, HB.out⟩)
end Go.Proofs.YtokjmefleanjaaaGreat
