/- The program's same; slices.EqualFunc at records. No statement of the seat is proved here. -/
import Derived.Test.YtkgojdmjagicdaaGreatRsB
namespace Go.Proofs.YtkgojdmjagicdaaGreat
open Go.RowKit Go.Op

theorem one_any {x y : Rrd} (hx : OkX x) (hy : OkX y) (w : World) :
    Calls Tryz.prog 22 #[.agg #[.string x.s, .int .i64 x.t, .int .i64 x.c, .int .i64 x.l, .string x.d], .agg #[.string y.s, .int .i64 y.t, .int .i64 y.c, .int .i64 y.l, .string y.d]] w fun e w' => e = .returned (.bool (decide (cmpX x y = 0))) ∧ Below w.heap.size w w' := by
  rw [← oneX hx hy]
  exact One_any x.s x.d y.s y.d x.toRec y.toRec w (rrd_name x) (rrd_data x) (rrd_name y) (rrd_data y) (by have := hx.name; omega) (by have := hy.name; omega) (by have := hx.data; omega) (by have := hy.data; omega)

set_option maxHeartbeats 4000000 in
set_option maxRecDepth 20000 in
theorem same_any {x y : Rrd} (hx : OkX x) (hy : OkX y) (w : World) :
    Calls Tryz.prog 26 #[.agg #[.string x.s, .int .i64 x.t, .int .i64 x.c, .int .i64 x.l, .string x.d], .agg #[.string y.s, .int .i64 y.t, .int .i64 y.c, .int .i64 y.l, .string y.d]] w fun e w' => e = .returned (.bool (decide (cY x y = 0))) ∧ Below w.heap.size w w' := by
  obtain ⟨W, hW⟩ : ∃ W, W = (w.alloc (.cells #[.string x.s, .int .i64 x.t, .int .i64 x.c, .int .i64 x.l, .string x.d] 28)).alloc (.cells #[.string y.s, .int .i64 y.t, .int .i64 y.c, .int .i64 y.l, .string y.d] 28) := ⟨_, rfl⟩
  obtain ⟨g, hg⟩ : ∃ g, g = w.heap.size := ⟨_, rfl⟩
  obtain ⟨h, hh⟩ : ∃ h, h = w.heap.size + 1 := ⟨_, rfl⟩
  have HB0 := Lib.hid (show Below w.heap.size w W by rw [hW]; exact ((Below.refl _ _).alloc (Nat.le_refl _) _).alloc (by simp) _)
  obtain ⟨p0, p1, p2, p3, p4⟩ := (show Five W g 0 x by rw [hW, hg]; exact (box_five w x).keep ((Below.refl _ _).alloc (Nat.le_refl _) _) (by simp))
  obtain ⟨q0, q1, q2, q3, q4⟩ := (show Five W h 0 y by rw [hW, hh]; have k := box_five (w.alloc (.cells #[.string x.s, .int .i64 x.t, .int .i64 x.c, .int .i64 x.l, .string x.d] 28)) y; rw [World.size_alloc] at k; exact k)
  have HE := Lib.hid (same_cY hx hy)
  obtain ⟨b, hb⟩ : ∃ b, b = decide (cmpX x y = 0) := ⟨_, rfl⟩
  have HBB := Lib.hid hb
  have HOX := Lib.hid hx
  have HOY := Lib.hid hy
  have HWW := Lib.hid hW
  have HG := Lib.hid hg
  have HH := Lib.hid hh
  clear hW hg hh hx hy hb
  by_cases hl : x.l = y.l
  · have gl : (x.l == y.l) = true := by rw [beq_iff_eq]; exact hl
    have HR := Lib.hid (show b = decide (cY x y = 0) by rw [← HE.out, gl, Bool.true_and]; exact HBB.out)
    clear hl
    go_enter Tryz.func26, Tryz.ntmps26
    go_wp2_with fail
    rw [← HWW.out, ← HH.out, ← HG.out]
    go_wp2_with fail
    refine (one_any HOX.out HOY.out _).mono ?_
    rw [← HBB.out]
    rintro e w1 ⟨rfl, hB⟩
    have HB1 := Lib.hid (HB0.out.trans (hB.mono HB0.out.size))
    clear hB p0 p1 p2 p3 p4 q0 q1 q2 q3 q4
    cases b
    all_goals (
      go_wp2_with fail
      go_ret
      exact ⟨by rw [← HR.out]; rfl, HB1.out⟩)
  · have gl : (x.l == y.l) = false := by rw [beq_eq_false_iff_ne]; exact hl
    have HR := Lib.hid (show decide (cY x y = 0) = false by rw [← HE.out, gl, Bool.false_and])
    clear hl
    go_enter Tryz.func26, Tryz.ntmps26
    go_wp2_with fail
    rw [← HWW.out, ← HH.out, ← HG.out]
    go_wp2_with fail
    go_ret
    exact ⟨by rw [HR.out]; rfl, by rw [HG.out]; exact HB0.out⟩

abbrev sameF : Value := .func (.func 26) #[] #[]
theorem eqF_step {xs ys : List Rrd} {k : Nat} {x y : Rrd} (hx : xs[k]? = some x) (hy : ys[k]? = some y) : eqF (xs.drop k) (ys.drop k) = (decide (cY x y = 0) && eqF (xs.drop (k + 1)) (ys.drop (k + 1))) := by
  obtain ⟨l1, rfl⟩ := List.getElem?_eq_some_iff.1 hx
  obtain ⟨l2, rfl⟩ := List.getElem?_eq_some_iff.1 hy
  rw [List.drop_eq_getElem_cons l1, List.drop_eq_getElem_cons l2, eqF]
theorem eqF_len : ∀ {xs ys : List Rrd}, xs.length ≠ ys.length → eqF xs ys = false
  | [], [], h => absurd rfl h
  | [], y :: ys, _ => rfl
  | x :: xs, [], _ => rfl
  | x :: xs, y :: ys, h => by rw [eqF, eqF_len (xs := xs) (ys := ys) (fun e => h (by simp [e])), Bool.and_false]
set_option maxHeartbeats 8000000 in
set_option maxRecDepth 20000 in
theorem EqualF_any (A A' : Option Addr) (n c n' c' : Nat) (xs ys : List Rrd) (w : World) (hx : SeesR w w.heap.size A n xs) (hy : SeesR w w.heap.size A' n' ys) (ox : OkL xs) (oy : OkL ys) (hn : n ≤ 1000000) :
    Calls Tryz.prog 24 #[.slice A n c, .slice A' n' c', sameF] w fun e w' => e = .returned (.bool (eqF xs ys)) ∧ Below w.heap.size w w' := by
  have HX := Lib.hid hx
  have HY := Lib.hid hy
  have HN := Lib.hid hx.1
  have HM := Lib.hid hy.1
  have HOX := Lib.hid ox
  have HOY := Lib.hid oy
  clear hx hy ox oy
  by_cases hnn : n = n'
  · subst hnn
    go_enter Tryz.func24, Tryz.ntmps24
    go_wp2_with fail
    go_loopw [17] (fun i wr => ∃ k : Nat, k ≤ n ∧ i = .int .i64 (k : Nat) ∧ eqF xs ys = eqF (xs.drop k) (ys.drop k) ∧ Below w.heap.size w wr) (fun i _ => n - (intOf i).toNat)
    case atStart => exact ⟨0, Nat.zero_le _, rfl, rfl, Below.refl _ _⟩
    case round =>
      obtain ⟨k, hk, rfl, hup, hB⟩ := hrel
      have HU := Lib.hid hup
      have HB := Lib.hid hB
      clear hup
      by_cases hkn : k < n
      · have g2 : (k : Int) < (n : Int) := by omega
        have g0 : (0 : Int) ≤ (k : Int) := by omega
        obtain ⟨b, off, x, rfl, hb, hxk, ht⟩ := (HX.out.keep hB).at hkn
        obtain ⟨b', off', y, rfl, hb', hyk, ht'⟩ := (HY.out.keep hB).at hkn
        have HXK := Lib.hid hxk
        have HYK := Lib.hid hyk
        have HKX := Lib.hid (HOX.out.at hxk)
        have HKY := Lib.hid (HOY.out.at hyk)
        have HBX := Lib.hid (show Below w.heap.size w (wr.alloc (.cells #[.string x.s, .int .i64 x.t, .int .i64 x.c, .int .i64 x.l, .string x.d] 28)) from hB.alloc hB.size _)
        obtain ⟨y0, y1, y2, y3, y4⟩ := ht'.keep ((Below.refl wr.heap.size wr).alloc (Nat.le_refl _) (.cells #[.string x.s, .int .i64 x.t, .int .i64 x.c, .int .i64 x.l, .string x.d] 28)) (Nat.lt_of_lt_of_le hb' hB.size)
        obtain ⟨x0, x1, x2, x3, x4⟩ := ht
        have HBY := Lib.hid (HBX.out.alloc HBX.out.size (.cells #[.string y.s, .int .i64 y.t, .int .i64 y.c, .int .i64 y.l, .string y.d] 28))
        have HS := Lib.hid (eqF_step hxk hyk)
        obtain ⟨q, hq⟩ : ∃ q, q = decide (cY x y = 0) := ⟨_, rfl⟩
        have HQ := Lib.hid hq
        clear hB hxk hyk hq
        go_wp2_with fail
        refine (same_any HKX.out HKY.out _).mono ?_
        rw [← HQ.out]
        rintro e w1 ⟨rfl, hB1⟩
        have HB2 := Lib.hid (HBY.out.trans (hB1.mono HBY.out.size))
        clear hB1 x0 x1 x2 x3 x4 y0 y1 y2 y3 y4 ht'
        cases q
        · go_wp2_with fail
          go_ret
          exact ⟨by rw [HU.out, HS.out, ← HQ.out]; rfl, HB2.out⟩
        · go_wp2_with fail
          go_roundw
          case rel => exact ⟨k + 1, by omega, by go_num, by rw [HU.out, HS.out, ← HQ.out]; rfl, HB2.out⟩
          case measure => simp [intOf]; omega
      · obtain rfl : k = n := by omega
        have g2 : ¬ ((k : Int) < (k : Int)) := by omega
        have HS := Lib.hid (show eqF xs ys = true by rw [HU.out, List.drop_of_length_le (by rw [HN.out]; exact Nat.le_refl _), List.drop_of_length_le (by rw [HM.out]; exact Nat.le_refl _)]; rfl)
        clear hB
        go_wp2_with fail
        go_ret
        exact ⟨by rw [HS.out]; rfl, HB.out⟩
  · have gn : ((n : Int) == (n' : Int)) = false := by rw [beq_eq_false_iff_ne]; omega
    have HS := Lib.hid (show eqF xs ys = false from eqF_len (by rw [HN.out, HM.out]; exact hnn))
    go_enter Tryz.func24, Tryz.ntmps24
    go_wp2_with fail
    go_ret
    exact ⟨by rw [HS.out]; rfl, Below.refl _ _⟩
end Go.Proofs.YtkgojdmjagicdaaGreat
