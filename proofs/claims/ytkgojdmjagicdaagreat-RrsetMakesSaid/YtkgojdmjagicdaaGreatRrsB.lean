/- Records in their order; the reference's Rights, Is; the program's Is. No statement of the seat is proved here. -/
import Derived.Test.YtkgojdmjagicdaaGreatRrsA
import Derived.Test.YtkgojdmjagicdaaGreatRrsM
namespace Go.Proofs.YtkgojdmjagicdaaGreat
open Go.RowKit Go.Op Go.ChangeShapes Go.WideShapes Go.ChangeAt Go.Deep

def cmpX (x y : Rrd) : Int := cmpR x.toRec y.toRec
def okX (x : Rrd) : Bool := decide (x.d.size ≤ 2000) && okR x.toRec
def OkX (x : Rrd) : Prop := okR x.toRec = true ∧ x.d.size ≤ 2000
theorem okX_is {x : Rrd} : okX x = true ↔ OkX x := by unfold okX OkX; simp; exact and_comm
theorem ordX : OrdOn cmpX OkX where
  range x y := cmpR_range _ _
  flip x y := cmpR_flip _ _
  three x y z hx hy hz := by
    obtain ⟨⟨L, h1⟩, _⟩ := ok_parts hx.1
    obtain ⟨⟨M, h2⟩, _⟩ := ok_parts hy.1
    obtain ⟨⟨N, h3⟩, _⟩ := ok_parts hz.1
    exact cmpR_three h1 h2 h3
theorem oneX {x y : Rrd} (hx : OkX x) (hy : OkX y) : oneR x.toRec y.toRec = decide (cmpX x y = 0) := by
  obtain ⟨⟨L, h1⟩, _⟩ := ok_parts hx.1
  obtain ⟨⟨M, h2⟩, _⟩ := ok_parts hy.1
  exact cmpR_one h1 h2
theorem data_len (x : Rrd) : x.toRec.d.length = x.d.size := by
  unfold Rrd.toRec recOf
  exact Array.length_toList
theorem name_len (x : Rrd) : x.toRec.n.length = x.s.size := by
  unfold Rrd.toRec recOf
  exact Array.length_toList
theorem OkX.name {x : Rrd} (h : OkX x) : x.toRec.n.length ≤ 255 := by
  obtain ⟨⟨L, h1⟩, _⟩ := ok_parts h.1
  exact (nameL_is h1).2.2
theorem OkX.data {x : Rrd} (h : OkX x) : x.toRec.d.length ≤ 2000 := by rw [data_len]; exact h.2
/-- every record is right, of a size that is looked at -/
def OkL (xs : List Rrd) : Prop := ∀ x ∈ xs, OkX x
def rightsX (xs : List Rrd) : Bool := xs.all okX && decide (xs.length ≤ 30)
theorem rightsX_is {xs : List Rrd} (h : rightsX xs = true) : OkL xs ∧ xs.length ≤ 30 := by
  unfold rightsX at h
  rw [Bool.and_eq_true, List.all_eq_true, decide_eq_true_eq] at h
  exact ⟨fun x hx => okX_is.1 (h.1 x hx), h.2⟩
theorem OkL.at {xs : List Rrd} (h : OkL xs) {k : Nat} {x : Rrd} (hx : xs[k]? = some x) : OkX x := h x (List.mem_of_getElem? hx)

/-- the argument as a value -/
def rrV (x : Rrd) : Array Value := #[.string x.s, .int .i64 x.t, .int .i64 x.c, .int .i64 x.l, .string x.d]
theorem recs_in2 {H : Type} {enc : TypeId × Value → H} {W : World} {base : Nat} {held : Bool} {a : Option Addr} {len cap : Nat} {d : DataW H} {p : List MemPlace}
    (h : DataW.Trod enc Tryz.prog W base (fun _ => true) held 22 (.slice a len cap) d p) : ∃ xs, InRecs W a len xs ∧ len ≤ 9223372036854775807 := by
  obtain ⟨xs, hx⟩ := recs_in h
  refine ⟨xs, hx, ?_⟩
  obtain ⟨fuel, hf⟩ := h
  rcases open_slice Tryz.underlying22 hf with ⟨hcs, _⟩ | ⟨x, l, c, m, n, D, Pl, hcs, _, hl, hc, hm, _, hi⟩
  · simp [Value.cells] at hcs
    obtain ⟨rfl, rfl, rfl⟩ := hcs
    omega
  · simp [Value.cells] at hcs
    obtain ⟨rfl, rfl, rfl⟩ := hcs
    unfold maxLen at hc
    omega

set_option maxHeartbeats 2000000 in
set_option maxRecDepth 20000 in
theorem Rights_any (A : Option Addr) (n c : Nat) (xs : List Rrd) (w : World) (hx : SeesR w w.heap.size A n xs) (h63 : n ≤ 9223372036854775807) :
    Calls Tryz.prog 6 #[.slice A n c] w fun e w' => e = .returned (.bool (rightsX xs)) ∧ Below w.heap.size w w' := by
  have HX := Lib.hid hx
  have HN := Lib.hid hx.1
  have HB := Lib.hid (Below.refl w.heap.size w)
  clear hx
  go_enter Tryz.func6, Tryz.ntmps6
  go_wp2_with fail
  go_loopw [3] (fun i wr => ∃ k : Nat, k ≤ n ∧ i = .int .i64 (k : Nat) ∧ Upto okX xs k ∧ Below w.heap.size w wr) (fun i _ => n - (intOf i).toNat)
  case atStart => exact ⟨0, Nat.zero_le _, rfl, Upto.zero _ _, HB.out⟩
  case round =>
    obtain ⟨k, hk, rfl, hup, hB⟩ := hrel
    have HU := Lib.hid hup
    have HB1 := Lib.hid hB
    clear hup hB
    by_cases hkn : k < n
    · have g2 : (k : Int) < (n : Int) := by omega
      have g0 : (0 : Int) ≤ (k : Int) := by omega
      obtain ⟨b, off, x, rfl, hb, hxk, ht⟩ := (HX.out.keep HB1.out).at hkn
      obtain ⟨x0, x1, x2, x3, x4⟩ := ht
      have HXK := Lib.hid hxk
      clear hxk
      by_cases hd : x.d.size ≤ 2000
      · have gd : ¬ ((x.d.size : Int) > 2000) := by omega
        have HD := Lib.hid (show x.toRec.d.length ≤ 65535 by rw [data_len]; omega)
        cases hr : okR x.toRec with
        | true =>
          have HR := Lib.hid hr
          have HOK := Lib.hid (show okX x = true by unfold okX; rw [hr, decide_eq_true hd]; rfl)
          clear hr hd
          go_wp2_with fail
          refine (RefRRight_any x.s x.d x.toRec _ (rrd_name x) (rrd_data x) HD.out).mono ?_
          rw [HR.out]
          rintro e w1 ⟨rfl, hB2⟩
          have HB2 := Lib.hid (HB1.out.trans (hB2.mono HB1.out.size))
          have HU2 := Lib.hid (HU.out.succ HXK.out HOK.out)
          clear hB2 x0 x1 x2 x3 x4
          go_wp2_with fail
          go_roundw
          case rel => exact ⟨k + 1, by omega, by go_num, HU2.out, HB2.out⟩
          case measure => simp [intOf]; omega
        | false =>
          have HR := Lib.hid hr
          have HOK := Lib.hid (show rightsX xs = false by unfold rightsX; rw [not_all HXK.out (show okX x = false by unfold okX; rw [hr, Bool.and_false])]; rfl)
          clear hr hd
          go_wp2_with fail
          refine (RefRRight_any x.s x.d x.toRec _ (rrd_name x) (rrd_data x) HD.out).mono ?_
          rw [HR.out]
          rintro e w1 ⟨rfl, hB2⟩
          have HB2 := Lib.hid (HB1.out.trans (hB2.mono HB1.out.size))
          clear hB2 x0 x1 x2 x3 x4
          go_wp2_with fail
          go_ret
          exact ⟨by rw [HOK.out]; rfl, HB2.out⟩
      · have gd : (x.d.size : Int) > 2000 := by omega
        have HOK := Lib.hid (show rightsX xs = false by unfold rightsX; rw [not_all HXK.out (show okX x = false by unfold okX; rw [decide_eq_false hd]; rfl)]; rfl)
        clear hd
        go_wp2_with fail
        go_ret
        exact ⟨by rw [HOK.out]; rfl, HB1.out⟩
    · obtain rfl : k = n := by omega
      have hu := HU.out
      rw [← HN.out] at hu
      have HO := Lib.hid (show rightsX xs = decide (xs.length ≤ 30) by unfold rightsX; rw [hu.all]; rfl)
      clear hu
      by_cases h30 : k ≤ 30
      · have g3 : (k : Int) ≤ 30 := by omega
        have HO2 := Lib.hid (show rightsX xs = true by rw [HO.out, HN.out, decide_eq_true h30])
        clear h30
        go_wp2_with fail
        go_ret
        exact ⟨by rw [HO2.out]; rfl, HB1.out⟩
      · have g3 : decide ((k : Int) ≤ 30) = false := by rw [decide_eq_false_iff_not]; omega
        have HO2 := Lib.hid (show rightsX xs = false by rw [HO.out, HN.out, decide_eq_false h30])
        clear h30
        go_wp2_with fail
        go_ret
        exact ⟨by rw [HO2.out]; rfl, HB1.out⟩
/-- the lists from the place k on are neighbours in order -/
def downX (xs : List Rrd) (k : Nat) : Bool := isL cmpX (xs.drop k)
theorem down_step {xs : List Rrd} {k : Nat} {x y : Rrd} (hx : xs[k]? = some x) (hy : xs[k + 1]? = some y) : downX xs k = (decide (cmpX x y = -1) && downX xs (k + 1)) := by
  unfold downX
  obtain ⟨l1, rfl⟩ := List.getElem?_eq_some_iff.1 hx
  obtain ⟨l2, rfl⟩ := List.getElem?_eq_some_iff.1 hy
  rw [List.drop_eq_getElem_cons l1, List.drop_eq_getElem_cons l2, isL]
theorem down_end {xs : List Rrd} {k : Nat} (h : xs.length ≤ k + 1) : downX xs k = true := by
  unfold downX
  have : (xs.drop k).length ≤ 1 := by rw [List.length_drop]; omega
  generalize xs.drop k = l at this
  match l, this with
  | [], _ => rfl
  | [x], _ => rfl
def setX (xs : List Rrd) : Bool := isL cmpX xs
theorem setX_is {xs : List Rrd} (h : OkL xs) : setX xs = true ↔ SetL cmpX xs := isL_set ordX h

/-! ### one cell after another, in whatever later world -/
theorem Five.later {W : World} {b o : Nat} {x : Rrd} (h : Five W b o x) (hb : b < W.heap.size) :
    (∀ q : Later W, q.val.cell? ⟨b, o, none⟩ = some (.string x.s)) ∧ (∀ q : Later W, q.val.cell? ⟨b, o + 1, none⟩ = some (.int .i64 x.t)) ∧ (∀ q : Later W, q.val.cell? ⟨b, o + 2, none⟩ = some (.int .i64 x.c)) ∧
    (∀ q : Later W, q.val.cell? ⟨b, o + 3, none⟩ = some (.int .i64 x.l)) ∧ (∀ q : Later W, q.val.cell? ⟨b, o + 4, none⟩ = some (.string x.d)) :=
  ⟨fun q => (h.keep q.below hb).1, fun q => (h.keep q.below hb).2.1, fun q => (h.keep q.below hb).2.2.1, fun q => (h.keep q.below hb).2.2.2.1, fun q => (h.keep q.below hb).2.2.2.2⟩
theorem refcmp_any {x y : Rrd} (hx : OkX x) (hy : OkX y) (w : World) :
    Calls Tryz.prog 17 #[.agg #[.string x.s, .int .i64 x.t, .int .i64 x.c, .int .i64 x.l, .string x.d], .agg #[.string y.s, .int .i64 y.t, .int .i64 y.c, .int .i64 y.l, .string y.d]] w fun e w' => e = .returned (.int .i64 (cmpX x y)) ∧ Below w.heap.size w w' :=
  RefRCompare_any x.s x.d y.s y.d x.toRec y.toRec w (rrd_name x) (rrd_data x) (rrd_name y) (rrd_data y) (by have := hx.data; omega) (by have := hy.data; omega)
theorem refone_any {x y : Rrd} (hx : OkX x) (hy : OkX y) (w : World) :
    Calls Tryz.prog 46 #[.agg #[.string x.s, .int .i64 x.t, .int .i64 x.c, .int .i64 x.l, .string x.d], .agg #[.string y.s, .int .i64 y.t, .int .i64 y.c, .int .i64 y.l, .string y.d]] w fun e w' => e = .returned (.bool (decide (cmpX x y = 0))) ∧ Below w.heap.size w w' := by
  rw [← oneX hx hy]
  exact RefOne_any x.s x.d y.s y.d x.toRec y.toRec w (rrd_name x) (rrd_data x) (rrd_name y) (rrd_data y) (by have := hx.data; omega) (by have := hy.data; omega)
theorem cmp_any {x y : Rrd} (hx : OkX x) (hy : OkX y) (w : World) :
    Calls Tryz.prog 16 #[.agg #[.string x.s, .int .i64 x.t, .int .i64 x.c, .int .i64 x.l, .string x.d], .agg #[.string y.s, .int .i64 y.t, .int .i64 y.c, .int .i64 y.l, .string y.d]] w fun e w' => e = .returned (.int .i64 (cmpX x y)) ∧ Below w.heap.size w w' :=
  RCompare_any x.s x.d y.s y.d x.toRec y.toRec w (rrd_name x) (rrd_data x) (rrd_name y) (rrd_data y) (by have := hx.name; omega) (by have := hy.name; omega) (by have := hx.data; omega) (by have := hy.data; omega)

set_option maxHeartbeats 2000000 in
set_option maxRecDepth 20000 in
theorem RefIs_any (A : Option Addr) (n c : Nat) (xs : List Rrd) (w : World) (hx : SeesR w w.heap.size A n xs) (hok : OkL xs) (h63 : n ≤ 1073741824) :
    Calls Tryz.prog 8 #[.slice A n c] w fun e w' => e = .returned (.bool (setX xs)) ∧ Below w.heap.size w w' := by
  have HX := Lib.hid hx
  have HN := Lib.hid hx.1
  have HOK := Lib.hid hok
  have HB := Lib.hid (Below.refl w.heap.size w)
  clear hx hok
  go_enter Tryz.func8, Tryz.ntmps8
  go_wp2_with fail
  go_loopw [3] (fun i wr => ∃ k : Nat, i = .int .i64 ((k + 1 : Nat) : Int) ∧ k ≤ n ∧ setX xs = downX xs k ∧ Below w.heap.size w wr) (fun i _ => n + 1 - (intOf i).toNat)
  case atStart => exact ⟨0, rfl, Nat.zero_le _, rfl, HB.out⟩
  case round =>
    obtain ⟨k, rfl, hk, hup, hB⟩ := hrel
    have HU := Lib.hid hup
    have HB1 := Lib.hid hB
    clear hup hB
    by_cases hkn : k + 1 < n
    · have g2 : ((k + 1 : Nat) : Int) < (n : Int) := by omega
      have g0 : (0 : Int) ≤ ((k + 1 : Nat) : Int) := by omega
      have g3 : wrap64 (((k + 1 : Nat) : Int) - 1) = (k : Nat) := by unfold wrap64; omega
      have g4 : (0 : Int) ≤ (k : Nat) := by omega
      have g5 : (k : Int) < (n : Int) := by omega
      obtain ⟨b, off, x, rfl, hb, hxk, ht⟩ := (HX.out.keep HB1.out).at (show k < n by omega)
      obtain ⟨b', off', y, hA, hb', hyk, hu⟩ := (HX.out.keep HB1.out).at hkn
      obtain ⟨rfl, rfl⟩ : b = b' ∧ off = off' := by simpa using hA
      obtain ⟨x0, x1, x2, x3, x4⟩ := ht
      obtain ⟨y0, y1, y2, y3, y4⟩ := hu
      have HXK := Lib.hid hxk
      have HYK := Lib.hid hyk
      have HDX := Lib.hid (HOK.out.at hxk)
      have HDY := Lib.hid (HOK.out.at hyk)
      clear hxk hyk hA hb'
      obtain ⟨p0, p1, p2, p3, p4⟩ := (show Five wr b (off + k * 5) x from ⟨x0, x1, x2, x3, x4⟩).later (Nat.lt_of_lt_of_le hb HB1.out.size)
      obtain ⟨q0, q1, q2, q3, q4⟩ := (show Five wr b (off + (k + 1) * 5) y from ⟨y0, y1, y2, y3, y4⟩).later (Nat.lt_of_lt_of_le hb HB1.out.size)
      obtain ⟨z, hz⟩ : ∃ z, z = cmpX x y := ⟨_, rfl⟩
      have HC := Lib.hid (show ∀ q : Later wr, Calls Tryz.prog 17 #[.agg #[.string x.s, .int .i64 x.t, .int .i64 x.c, .int .i64 x.l, .string x.d], .agg #[.string y.s, .int .i64 y.t, .int .i64 y.c, .int .i64 y.l, .string y.d]] q.val fun e w'' => e = .returned (.int .i64 z) ∧ ∃ q' : Later wr, w'' = q'.val from
        fun q => later_call (by rw [hz]; exact refcmp_any HDX.out HDY.out _))
      have HZ := Lib.hid hz
      clear hz x0 x1 x2 x3 x4 y0 y1 y2 y3 y4
      by_cases hz1 : z = -1
      · have gz : (z == -1) = true := by rw [hz1]; rfl
        have HS := Lib.hid (show setX xs = downX xs (k + 1) by rw [HU.out, down_step HXK.out HYK.out, ← HZ.out, decide_eq_true hz1, Bool.true_and])
        clear hz1
        go_wp2_with fail
        refine region_later (by kernel_rfl) ?_
        repeat (go_big_quiet_step ((go_at_call 17; with_reducible exact HC.out _)))
        refine wpQuiet_nil ?_
        rintro _ ⟨r2, rfl⟩
        have HB2 := Lib.hid (HB1.out.trans (r2.below.mono HB1.out.size))
        clear p0 p1 p2 p3 p4 q0 q1 q2 q3 q4
        go_wp2_with fail
        go_roundw
        case rel => exact ⟨k + 1, by go_num, by omega, HS.out, HB2.out⟩
        case measure => simp [intOf]; omega
      · have gz : (z == -1) = false := by rw [beq_eq_false_iff_ne]; exact hz1
        have HS := Lib.hid (show setX xs = false by rw [HU.out, down_step HXK.out HYK.out, ← HZ.out, decide_eq_false hz1, Bool.false_and])
        clear hz1
        go_wp2_with fail
        refine region_later (by kernel_rfl) ?_
        repeat (go_big_quiet_step ((go_at_call 17; with_reducible exact HC.out _)))
        refine wpQuiet_nil ?_
        rintro _ ⟨r2, rfl⟩
        have HB2 := Lib.hid (HB1.out.trans (r2.below.mono HB1.out.size))
        clear p0 p1 p2 p3 p4 q0 q1 q2 q3 q4
        go_wp2_with fail
        go_ret
        exact ⟨by rw [HS.out]; rfl, HB2.out⟩
    · have g2 : ¬ ((k + 1 : Nat) : Int) < (n : Int) := by omega
      have HS := Lib.hid (show setX xs = true by rw [HU.out, down_end (by have := HN.out; omega)])
      go_wp2_with fail
      go_ret
      exact ⟨by rw [HS.out]; rfl, HB1.out⟩
end Go.Proofs.YtkgojdmjagicdaaGreat
