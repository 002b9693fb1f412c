/- The program's Is; the reference's Same; the search. No statement of the seat is proved here. -/
import Derived.Test.YtkgojdmjagicdaaGreatRrsB
import Derived.Laws.StructEq
namespace Go.Proofs.YtkgojdmjagicdaaGreat
open Go.RowKit Go.Op

set_option maxHeartbeats 2000000 in
set_option maxRecDepth 20000 in
theorem Is_any (A : Option Addr) (n c : Nat) (xs : List Rrd) (w : World) (hx : SeesR w w.heap.size A n xs) (hok : OkL xs) (h63 : n ≤ 1073741824) :
    Calls Tryz.prog 7 #[.slice A n c] w fun e w' => e = .returned (.bool (setX xs)) ∧ Below w.heap.size w w' := by
  have HX := Lib.hid hx
  have HN := Lib.hid hx.1
  have HOK := Lib.hid hok
  have HB := Lib.hid (Below.refl w.heap.size w)
  clear hx hok
  go_enter Tryz.func7, Tryz.ntmps7
  go_wp2_with fail
  go_loopw [3] (fun i wr => ∃ k : Nat, i = .int .i64 ((k + 1 : Nat) : Int) ∧ k ≤ n ∧ setX xs = downX xs k ∧ Below w.heap.size w wr) (fun i _ => n + 1 - (intOf i).toNat)
  case atStart => exact ⟨0, rfl, Nat.zero_le _, rfl, HB.out⟩
  case round =>
    obtain ⟨k, rfl, hk, hup, hB⟩ := hrel
    have HU := Lib.hid hup
    have HB1 := Lib.hid hB
    clear hup hB
    by_cases hkn : k + 1 < n
    · have g2 : ((k + 1 : Nat) : Int) < (n : Int) := by omega
      have g0 : (0 : Int) ≤ ((k + 1 : Nat) : Int) := by omega
      have g3 : wrap64 (((k + 1 : Nat) : Int) - 1) = (k : Nat) := by unfold wrap64; omega
      have g4 : (0 : Int) ≤ (k : Nat) := by omega
      have g5 : (k : Int) < (n : Int) := by omega
      obtain ⟨b, off, x, rfl, hb, hxk, ht⟩ := (HX.out.keep HB1.out).at (show k < n by omega)
      obtain ⟨b', off', y, hA, hb', hyk, hu⟩ := (HX.out.keep HB1.out).at hkn
      obtain ⟨rfl, rfl⟩ : b = b' ∧ off = off' := by simpa using hA
      obtain ⟨x0, x1, x2, x3, x4⟩ := ht
      obtain ⟨y0, y1, y2, y3, y4⟩ := hu
      have HXK := Lib.hid hxk
      have HYK := Lib.hid hyk
      have HDX := Lib.hid (HOK.out.at hxk)
      have HDY := Lib.hid (HOK.out.at hyk)
      clear hxk hyk hA hb'
      obtain ⟨p0, p1, p2, p3, p4⟩ := (show Five wr b (off + k * 5) x from ⟨x0, x1, x2, x3, x4⟩).later (Nat.lt_of_lt_of_le hb HB1.out.size)
      obtain ⟨q0, q1, q2, q3, q4⟩ := (show Five wr b (off + (k + 1) * 5) y from ⟨y0, y1, y2, y3, y4⟩).later (Nat.lt_of_lt_of_le hb HB1.out.size)
      obtain ⟨z, hz⟩ : ∃ z, z = cmpX x y := ⟨_, rfl⟩
      have HC := Lib.hid (show ∀ q : Later wr, Calls Tryz.prog 16 #[.agg #[.string x.s, .int .i64 x.t, .int .i64 x.c, .int .i64 x.l, .string x.d], .agg #[.string y.s, .int .i64 y.t, .int .i64 y.c, .int .i64 y.l, .string y.d]] q.val fun e w'' => e = .returned (.int .i64 z) ∧ ∃ q' : Later wr, w'' = q'.val from
        fun q => later_call (by rw [hz]; exact cmp_any HDX.out HDY.out _))
      have HZ := Lib.hid hz
      clear hz x0 x1 x2 x3 x4 y0 y1 y2 y3 y4
      by_cases hz1 : z = -1
      · have gz : ¬ (z ≥ 0) := by omega
        have HS := Lib.hid (show setX xs = downX xs (k + 1) by rw [HU.out, down_step HXK.out HYK.out, ← HZ.out, decide_eq_true hz1, Bool.true_and])
        clear hz1
        go_wp2_with fail
        refine region_later (by kernel_rfl) ?_
        repeat (go_big_quiet_step ((go_at_call 16; with_reducible exact HC.out _)))
        refine wpQuiet_nil ?_
        rintro _ ⟨r2, rfl⟩
        have HB2 := Lib.hid (HB1.out.trans (r2.below.mono HB1.out.size))
        clear p0 p1 p2 p3 p4 q0 q1 q2 q3 q4
        go_wp2_with fail
        go_roundw
        case rel => exact ⟨k + 1, by go_num, by omega, HS.out, HB2.out⟩
        case measure => simp [intOf]; omega
      · have gz : z ≥ 0 := by have := cmpR_range x.toRec y.toRec; have e := HZ.out; unfold cmpX at e; omega
        have HS := Lib.hid (show setX xs = false by rw [HU.out, down_step HXK.out HYK.out, ← HZ.out, decide_eq_false hz1, Bool.false_and])
        clear hz1
        go_wp2_with fail
        refine region_later (by kernel_rfl) ?_
        repeat (go_big_quiet_step ((go_at_call 16; with_reducible exact HC.out _)))
        refine wpQuiet_nil ?_
        rintro _ ⟨r2, rfl⟩
        have HB2 := Lib.hid (HB1.out.trans (r2.below.mono HB1.out.size))
        clear p0 p1 p2 p3 p4 q0 q1 q2 q3 q4
        go_wp2_with fail
        go_ret
        exact ⟨by rw [HS.out]; rfl, HB2.out⟩
    · have g2 : ¬ ((k + 1 : Nat) : Int) < (n : Int) := by omega
      have HS := Lib.hid (show setX xs = true by rw [HU.out, down_end (by have := HN.out; omega)])
      go_wp2_with fail
      go_ret
      exact ⟨by rw [HS.out]; rfl, HB1.out⟩

theorem Rrd.ext' {x y : Rrd} (h : x.s = y.s ∧ x.t = y.t ∧ x.c = y.c ∧ x.l = y.l ∧ x.d = y.d) : x = y := by
  obtain ⟨a, b, c, d, e⟩ := x
  obtain ⟨a', b', c', d', e'⟩ := y
  obtain ⟨h1, h2, h3, h4, h5⟩ := h
  simp only at h1 h2 h3 h4 h5
  subst h1 h2 h3 h4 h5
  rfl
/-- x == y, as Go's == says it of two records -/
def eqX (x y : Rrd) : Bool := x.s.toList == y.s.toList && (x.t == y.t && (x.c == y.c && (x.l == y.l && x.d.toList == y.d.toList)))
def sameX : List Rrd → List Rrd → Bool
  | [], [] => true
  | x :: xs, y :: ys => eqX x y && sameX xs ys
  | _, _ => false
theorem toList_same {a b : ByteArray} : a.toList = b.toList ↔ a = b := by
  rw [ByteArray.toList_eq, ByteArray.toList_eq]
  obtain ⟨⟨x⟩⟩ := a
  obtain ⟨⟨y⟩⟩ := b
  simp
theorem eqX_is {x y : Rrd} : eqX x y = true ↔ x = y := by
  unfold eqX
  simp only [Bool.and_eq_true, beq_iff_eq, toList_same]
  constructor
  · rintro ⟨h1, h2, h3, h4, h5⟩; exact Rrd.ext' ⟨h1, h2, h3, h4, h5⟩
  · rintro rfl; exact ⟨rfl, rfl, rfl, rfl, rfl⟩
theorem rr_eqIn (x y : Rrd) (w : World) : (Op.equalIn 10000 28 (.agg #[.string x.s, .int .i64 x.t, .int .i64 x.c, .int .i64 x.l, .string x.d]) (.agg #[.string y.s, .int .i64 y.t, .int .i64 y.c, .int .i64 y.l, .string y.d])).run Tryz.prog w = .ok (eqX x y) w := by
  have u9 := Tryz.underlying9
  have a9 := Tryz.isAgg9
  have z9 := Tryz.sizeOf9
  have u3 := Tryz.underlying3
  have a3 := Tryz.isAgg3
  have z3 := Tryz.sizeOf3
  have hS : Tryz.prog.underlying 28 = some (.struct (Tryz.prog.fieldsOf 28)) := by kernel_rfl
  have hp : Tryz.prog.stoodInHeld 28 = false := by kernel_rfl
  unfold eqX
  rw [show (10000 : Nat) = 9999 + 1 from rfl, run_equalIn_agg w 9999 28 _ _ hS hp]
  simp only [Program.fieldsOf, Tryz.underlying28]
  go_simp
  by_cases h1 : x.s.toList = y.s.toList <;> by_cases h2 : x.t = y.t <;> by_cases h3 : x.c = y.c <;> by_cases h4 : x.l = y.l <;> by_cases h5 : x.d.toList = y.d.toList <;> simp [h1, h2, h3, h4, h5]
theorem rr_neq (x y : Rrd) (w : World) : (binOp .neq 28 (.agg #[.string x.s, .int .i64 x.t, .int .i64 x.c, .int .i64 x.l, .string x.d]) (.agg #[.string y.s, .int .i64 y.t, .int .i64 y.c, .int .i64 y.l, .string y.d])).run Tryz.prog w = .ok (.bool (!eqX x y)) w := by
  rw [run_neq_struct, rr_eqIn]
  rfl
theorem rr_eql (x y : Rrd) (w : World) : (binOp .eql 28 (.agg #[.string x.s, .int .i64 x.t, .int .i64 x.c, .int .i64 x.l, .string x.d]) (.agg #[.string y.s, .int .i64 y.t, .int .i64 y.c, .int .i64 y.l, .string y.d])).run Tryz.prog w = .ok (.bool (eqX x y)) w := by
  rw [run_eql_struct, rr_eqIn]
  rfl
theorem rr_guard (op : BinOp) (a b : Operand) (x y : Rrd) (w : World) : (eqGuard op 28 a b (.agg #[.string x.s, .int .i64 x.t, .int .i64 x.c, .int .i64 x.l, .string x.d]) (.agg #[.string y.s, .int .i64 y.t, .int .i64 y.c, .int .i64 y.l, .string y.d])).run Tryz.prog w = .ok () w :=
  run_eqGuard_agg w op 28 a b _ _ (by kernel_rfl)
theorem sameX_is : ∀ {xs ys : List Rrd}, sameX xs ys = true ↔ xs = ys
  | [], [] => by simp [sameX]
  | [], y :: ys => by simp [sameX]
  | x :: xs, [] => by simp [sameX]
  | x :: xs, y :: ys => by
    rw [sameX, Bool.and_eq_true, eqX_is, sameX_is, List.cons.injEq]
theorem sameX_step {xs ys : List Rrd} {k : Nat} {x y : Rrd} (hx : xs[k]? = some x) (hy : ys[k]? = some y) : sameX (xs.drop k) (ys.drop k) = (eqX x y && sameX (xs.drop (k + 1)) (ys.drop (k + 1))) := by
  obtain ⟨l1, rfl⟩ := List.getElem?_eq_some_iff.1 hx
  obtain ⟨l2, rfl⟩ := List.getElem?_eq_some_iff.1 hy
  rw [List.drop_eq_getElem_cons l1, List.drop_eq_getElem_cons l2, sameX]
theorem sameX_end {xs ys : List Rrd} {k : Nat} (h : xs.length = k) (h' : ys.length = k) : sameX (xs.drop k) (ys.drop k) = true := by
  rw [List.drop_of_length_le (by omega), List.drop_of_length_le (by omega), sameX]

set_option maxHeartbeats 8000000 in
set_option maxRecDepth 20000 in
theorem Same_any (A A' : Option Addr) (n c n' c' : Nat) (xs ys : List Rrd) (w : World) (hx : SeesR w w.heap.size A n xs) (hy : SeesR w w.heap.size A' n' ys) (hn : n ≤ 1073741824) :
    Calls Tryz.prog 9 #[.slice A n c, .slice A' n' c'] w fun e w' => e = .returned (.bool (sameX xs ys)) ∧ Below w.heap.size w w' := by
  have HX := Lib.hid hx
  have HY := Lib.hid hy
  have HN := Lib.hid hx.1
  have HM := Lib.hid hy.1
  clear hx hy
  by_cases hnn : n = n'
  · subst hnn
    go_enter Tryz.func9, Tryz.ntmps9
    go_wp2_with fail
    go_loopw [5] (fun i wr => ∃ k : Nat, k ≤ n ∧ i = .int .i64 (k : Nat) ∧ sameX xs ys = sameX (xs.drop k) (ys.drop k) ∧ Below w.heap.size w wr) (fun i _ => n - (intOf i).toNat)
    case atStart => exact ⟨0, Nat.zero_le _, rfl, rfl, Below.refl _ _⟩
    case round =>
      obtain ⟨k, hk, rfl, hup, hB⟩ := hrel
      have HU := Lib.hid hup
      have HB := Lib.hid hB
      clear hup
      by_cases hkn : k < n
      · have g2 : (k : Int) < (n : Int) := by omega
        have g0 : (0 : Int) ≤ (k : Int) := by omega
        obtain ⟨b, off, x, rfl, hb, hxk, ht⟩ := (HX.out.keep hB).at hkn
        obtain ⟨b', off', y, rfl, hb', hyk, ht'⟩ := (HY.out.keep hB).at hkn
        have HXK := Lib.hid hxk
        have HYK := Lib.hid hyk
        obtain ⟨x0, x1, x2, x3, x4⟩ := ht
        obtain ⟨y0, y1, y2, y3, y4⟩ := ht'
        clear hB hxk hyk
        have hne := rr_neq x y
        have hgd := fun op a b => rr_guard op a b x y
        cases hxy : eqX x y with
        | true =>
          have HS := Lib.hid (show sameX xs ys = sameX (xs.drop (k + 1)) (ys.drop (k + 1)) by rw [HU.out, sameX_step HXK.out HYK.out, hxy, Bool.true_and])
          rw [hxy] at hne
          go_wp2_with fail
          go_quiet (fail)
          go_wp2_with fail
          go_roundw
          case rel => exact ⟨k + 1, by omega, by go_num, HS.out, below_drewN HB.out _⟩
          case measure => simp [intOf]; omega
        | false =>
          have HS := Lib.hid (show sameX xs ys = false by rw [HU.out, sameX_step HXK.out HYK.out, hxy, Bool.false_and])
          rw [hxy] at hne
          go_wp2_with fail
          go_quiet (fail)
          go_wp2_with fail
          go_ret
          exact ⟨by rw [HS.out]; rfl, below_drewN HB.out _⟩
      · obtain rfl : k = n := by omega
        have HS := Lib.hid (show sameX xs ys = true by rw [HU.out, sameX_end HN.out HM.out])
        clear hB
        go_wp2_with fail
        go_ret
        exact ⟨by rw [HS.out]; rfl, HB.out⟩
  · have gn : ((n : Int) == (n' : Int)) = false := by rw [beq_eq_false_iff_ne]; omega
    have HS := Lib.hid (show sameX xs ys = false by
      have h1 := HN.out
      have h2 := HM.out
      rw [Bool.eq_false_iff]
      intro e
      rw [sameX_is] at e
      subst e
      omega)
    go_enter Tryz.func9, Tryz.ntmps9
    go_wp2_with fail
    go_ret
    exact ⟨by rw [HS.out]; rfl, Below.refl _ _⟩
end Go.Proofs.YtkgojdmjagicdaaGreat
