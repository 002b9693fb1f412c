/- RrH: texts RrsH, RrsI of our own, joined. No statement of the seat is proved here. -/
import Derived.Test.YtaijcoiepfjecaaGreatRrE
import Derived.Deep.RegionLaw
import Derived.Deep.RegionHeld3
namespace Go.Proofs.YtaijcoiepfjecaaGreat
open Go.RowKit Go.Op

theorem own_keep {w w' : World} {b : Nat} {e : TypeId} {k : Nat} {v : Value} {n : Nat} {xs : List Value} (h : w.ownsRow b e k v n xs) (hb : Below w.heap.size w w') : w'.ownsRow b e k v n xs := by
  obtain ⟨h1, h2⟩ := h
  refine ⟨h1, ?_⟩
  rcases h2 with h2 | ⟨g, cap, cur, h3, h4, h5, h6⟩
  · exact .inl h2
  · exact .inr ⟨g, cap, cur, h3, h4, (hb.block g (Array.getElem?_eq_some_iff.1 h5).1).trans h5, h6⟩
theorem refP_step {r x : Rrd} {xs : List Rrd} {k : Nat} (hx : xs[k]? = some x) (d : Bool) :
    refP cmpX r (xs.drop k) d = (if cmpX r x ≤ 0 ∧ d = false then [r] else []) ++ ((if cmpX r x = 0 then [] else [x]) ++ refP cmpX r (xs.drop (k + 1)) (d || decide (cmpX r x ≤ 0))) := by
  obtain ⟨l1, rfl⟩ := List.getElem?_eq_some_iff.1 hx
  rw [List.drop_eq_getElem_cons l1, refP]
/-- what the reference's Put has laid when it has gone through k records -/
def PutAt (W : World) (r : Rrd) (xs : List Rrd) (k : Nat) (v : Value) (d : Bool) (wr : World) : Prop :=
  ∃ O : List Rrd, wr.ownsRow W.heap.size 26 5 v O.length (rcells O) ∧ O ++ refP cmpX r (xs.drop k) d = refP cmpX r xs false ∧ O.length ≤ 2 * k ∧ Below W.heap.size W wr

set_option maxHeartbeats 8000000 in
set_option maxRecDepth 20000 in
theorem RefPut_any (A : Option Addr) (n c : Nat) (xs : List Rrd) (r : Rrd) (w : World) (hx : SeesR w w.heap.size A n xs) (hok : OkL xs) (hr : OkX r) (hn : n ≤ 1000000) :
    Calls Tryz.prog 49 #[.slice A n c, .agg #[.string r.s, .int .i64 r.t, .int .i64 r.c, .int .i64 r.l, .string r.d]] w fun e w' =>
      ∃ v, e = .returned v ∧ w'.ownsRow w.heap.size 26 5 v (refP cmpX r xs false).length (rcells (refP cmpX r xs false)) ∧ Below w.heap.size w w' := by
  obtain ⟨W, hW⟩ : ∃ W, W = w.alloc (.cells #[.string r.s, .int .i64 r.t, .int .i64 r.c, .int .i64 r.l, .string r.d] 26) := ⟨_, rfl⟩
  obtain ⟨g, hg⟩ : ∃ g, g = w.heap.size := ⟨_, rfl⟩
  have HB0 := Lib.hid (show Below w.heap.size w W by rw [hW]; exact (Below.refl _ _).alloc (Nat.le_refl _) _)
  have HBX := Lib.hid (show Five W g 0 r by rw [hW, hg]; exact box_five w r)
  have HGL := Lib.hid (show g < W.heap.size by rw [hW, hg]; simp)
  have HX := Lib.hid ((hx.keep HB0.out).more HB0.out.size)
  have HN := Lib.hid hx.1
  have HOK := Lib.hid hok
  have HR := Lib.hid hr
  have HW := Lib.hid hW
  have HG := Lib.hid hg
  clear hW hg hx hok hr
  go_enter Tryz.func49, Tryz.ntmps49
  go_wp2_with fail
  rw [← HW.out, ← HG.out]
  go_loopw [5, 6, 7] (fun v dv i wr => ∃ (k : Nat) (d : Bool), k ≤ n ∧ i = .int .i64 (k : Nat) ∧ dv = .bool d ∧ PutAt W r xs k v d wr) (fun _ _ i _ => n - (intOf i).toNat)
  case atStart => exact ⟨0, false, Nat.zero_le _, rfl, rfl, [], own_nil _ _ _ _, rfl, by simp, Below.refl _ _⟩
  case round =>
    obtain ⟨k, d, hk, rfl, rfl, O, hO, hP, hL, hB⟩ := hrel
    have HO := Lib.hid hO
    have HP := Lib.hid hP
    have HL := Lib.hid hL
    have HB := Lib.hid hB
    clear hO hP hL hB
    by_cases hkn : k < n
    · have g2 : (k : Int) < (n : Int) := by omega
      have g0 : (0 : Int) ≤ (k : Int) := by omega
      obtain ⟨b, off, x, rfl, hb, hxk, ht⟩ := (HX.out.keep HB.out).at hkn
      obtain ⟨p0, p1, p2, p3, p4⟩ := (HBX.out.keep HB.out HGL.out).later (Nat.lt_of_lt_of_le HGL.out HB.out.size)
      obtain ⟨q0, q1, q2, q3, q4⟩ := ht.later (Nat.lt_of_lt_of_le hb HB.out.size)
      obtain ⟨z, hz⟩ : ∃ z, z = cmpX r x := ⟨_, rfl⟩
      have HC := Lib.hid (show ∀ q : Later wr, Calls Tryz.prog 87 #[.agg #[.string r.s, .int .i64 r.t, .int .i64 r.c, .int .i64 r.l, .string r.d], .agg #[.string x.s, .int .i64 x.t, .int .i64 x.c, .int .i64 x.l, .string x.d]] q.val fun e w'' => e = .returned (.int .i64 z) ∧ ∃ q' : Later wr, w'' = q'.val from
        fun q => later_call (by rw [hz]; exact refcmp_any HR.out (HOK.out.at hxk) _))
      have hst := refP_step (r := r) hxk d
      rw [← hz] at hst
      have HXF := Lib.hid ht
      clear ht hxk hz
      have HLK := Lib.hid (show O.length + 2 ≤ 1073741824 by have := HL.out; omega)
      have HL2 := Lib.hid (show O.length + 2 ≤ 2 * (k + 1) by have := HL.out; omega)
      obtain ⟨b', off', x', hA', hb', hxk', hf'⟩ := HX.out.at hkn
      obtain ⟨rfl, rfl⟩ : b = b' ∧ off = off' := by simpa using hA'
      have hxx : x = x' := by
        have h1 := HXF.out
        have h2 := hf'.keep HB.out hb'
        obtain ⟨a0, a1, a2, a3, a4⟩ := h1
        obtain ⟨c0, c1, c2, c3, c4⟩ := h2
        rw [a0] at c0; rw [a1] at c1; rw [a2] at c2; rw [a3] at c3; rw [a4] at c4
        simp only [Option.some.injEq, Value.string.injEq, Value.int.injEq, true_and] at c0 c1 c2 c3 c4
        exact Rrd.ext' ⟨c0, c1, c2, c3, c4⟩
      subst hxx
      have HXB := Lib.hid hf'
      clear hA' hb' hxk' hf'
      rcases (show z < 0 ∨ z = 0 ∨ 0 < z by omega) with hz1 | hz1 | hz1
      · cases d
        · have gz : z ≤ 0 := by omega
          have gy : (z == 0) = false := by rw [beq_eq_false_iff_ne]; omega
          have gw : z ≠ 0 := by omega
          have HE := Lib.hid (show (O ++ [r] ++ [x]) ++ refP cmpX r (xs.drop (k + 1)) true = refP cmpX r xs false by rw [← HP.out, hst]; simp [gz, gw])
          clear hst
          go_wp2_with fail
          refine region_later (by kernel_rfl) ?_
          repeat (go_big_quiet_step ((go_at_call 87; with_reducible exact HC.out _)))
          refine wpQuiet_nil ?_
          rintro _ ⟨r2, rfl⟩
          have HB2 := Lib.hid (HB.out.trans (r2.below.mono HB.out.size))
          have HO2 := Lib.hid (own_keep HO.out r2.below)
          clear p0 p1 p2 p3 p4 q0 q1 q2 q3 q4
          obtain ⟨p0, p1, p2, p3, p4⟩ := HBX.out.keep HB2.out HGL.out
          have HA3 := Lib.hid (show W.heap.size ≤ (r2.val.alloc (.cells #[.string r.s, .int .i64 r.t, .int .i64 r.c, .int .i64 r.l, .string r.d] 26)).heap.size by have := HB2.out.size; simp; omega)
          have HN3 := Lib.hid (show (O).length + 1 ≤ 1073741824 by have := HLK.out; simp; omega)
          have HD3 := Lib.hid (show Below W.heap.size W (r2.val.alloc (.cells #[.string r.s, .int .i64 r.t, .int .i64 r.c, .int .i64 r.l, .string r.d] 26)) from HB2.out.alloc HB2.out.size _)
          have HQ3 := Lib.hid (HO2.out.alloc (.cells #[.string r.s, .int .i64 r.t, .int .i64 r.c, .int .i64 r.l, .string r.d] 26))
          go_wp2_with (first | (at_builtin; (refine wpList_append_R rfl _ _ rfl W.heap.size _ _ (O ++ [r]) rfl HQ4.out (w3.heap.size + 1) _ _ _ _ rfl (SeesR.one _ x) HN4.out HA4.out ?_); intro v4 w4 ho hg; (have HO4 := Lib.hid (show w4.ownsRow W.heap.size 26 5 v4 ((O ++ [r]) ++ [x]).length (rcells ((O ++ [r]) ++ [x])) by simpa using ho)); (have HB4 := Lib.hid (HD4.out.grown hg HA4.out (own_block_ge HQ4.out))); clear ho hg q0 q1 q2 q3 q4) | (at_builtin; (refine wpList_append_R rfl _ _ rfl W.heap.size _ _ (O) rfl HQ3.out (r2.val.heap.size + 1) _ _ _ _ rfl (SeesR.one _ r) HN3.out HA3.out ?_); intro v3 w3 ho hg; (have HO3 := Lib.hid (show w3.ownsRow W.heap.size 26 5 v3 (O ++ [r]).length (rcells (O ++ [r])) by simpa using ho)); (have HB3 := Lib.hid (HD3.out.grown hg HA3.out (own_block_ge HQ3.out))); clear ho hg p0 p1 p2 p3 p4; (obtain ⟨q0, q1, q2, q3, q4⟩ := HXB.out.keep HB3.out hb); (have HA4 := Lib.hid (show W.heap.size ≤ (w3.alloc (.cells #[.string x.s, .int .i64 x.t, .int .i64 x.c, .int .i64 x.l, .string x.d] 26)).heap.size by have := HB3.out.size; simp; omega)); (have HN4 := Lib.hid (show (O ++ [r]).length + 1 ≤ 1073741824 by have := HLK.out; simp; omega)); (have HD4 := Lib.hid (show Below W.heap.size W (w3.alloc (.cells #[.string x.s, .int .i64 x.t, .int .i64 x.c, .int .i64 x.l, .string x.d] 26)) from HB3.out.alloc HB3.out.size _)); (have HQ4 := Lib.hid (HO3.out.alloc (.cells #[.string x.s, .int .i64 x.t, .int .i64 x.c, .int .i64 x.l, .string x.d] 26)))))
          go_roundw
          case rel => exact ⟨k + 1, true, by omega, by go_num, rfl, (O ++ [r]) ++ [x], HO4.out, HE.out, by have := HL2.out; simp; omega, HB4.out⟩
          case measure => simp [intOf]; omega
        · have gz : z ≤ 0 := by omega
          have gy : (z == 0) = false := by rw [beq_eq_false_iff_ne]; omega
          have gw : z ≠ 0 := by omega
          have HE := Lib.hid (show (O ++ [x]) ++ refP cmpX r (xs.drop (k + 1)) true = refP cmpX r xs false by rw [← HP.out, hst]; simp [gw])
          clear hst
          go_wp2_with fail
          refine region_later (by kernel_rfl) ?_
          repeat (go_big_quiet_step ((go_at_call 87; with_reducible exact HC.out _)))
          refine wpQuiet_nil ?_
          rintro _ ⟨r2, rfl⟩
          have HB2 := Lib.hid (HB.out.trans (r2.below.mono HB.out.size))
          have HO2 := Lib.hid (own_keep HO.out r2.below)
          clear p0 p1 p2 p3 p4 q0 q1 q2 q3 q4
          obtain ⟨q0, q1, q2, q3, q4⟩ := HXB.out.keep HB2.out hb
          have HA3 := Lib.hid (show W.heap.size ≤ (r2.val.alloc (.cells #[.string x.s, .int .i64 x.t, .int .i64 x.c, .int .i64 x.l, .string x.d] 26)).heap.size by have := HB2.out.size; simp; omega)
          have HN3 := Lib.hid (show (O).length + 1 ≤ 1073741824 by have := HLK.out; simp; omega)
          have HD3 := Lib.hid (show Below W.heap.size W (r2.val.alloc (.cells #[.string x.s, .int .i64 x.t, .int .i64 x.c, .int .i64 x.l, .string x.d] 26)) from HB2.out.alloc HB2.out.size _)
          have HQ3 := Lib.hid (HO2.out.alloc (.cells #[.string x.s, .int .i64 x.t, .int .i64 x.c, .int .i64 x.l, .string x.d] 26))
          go_wp2_with (first | (at_builtin; (refine wpList_append_R rfl _ _ rfl W.heap.size _ _ (O) rfl HQ3.out (r2.val.heap.size + 1) _ _ _ _ rfl (SeesR.one _ x) HN3.out HA3.out ?_); intro v3 w3 ho hg; (have HO3 := Lib.hid (show w3.ownsRow W.heap.size 26 5 v3 (O ++ [x]).length (rcells (O ++ [x])) by simpa using ho)); (have HB3 := Lib.hid (HD3.out.grown hg HA3.out (own_block_ge HQ3.out))); clear ho hg q0 q1 q2 q3 q4))
          go_roundw
          case rel => exact ⟨k + 1, true, by omega, by go_num, rfl, O ++ [x], HO3.out, HE.out, by have := HL2.out; simp; omega, HB3.out⟩
          case measure => simp [intOf]; omega
      · cases d
        · have gz : z ≤ 0 := by omega
          have gy : (z == 0) = true := by rw [hz1]; rfl
          have gw : z = 0 := hz1
          have HE := Lib.hid (show (O ++ [r]) ++ refP cmpX r (xs.drop (k + 1)) true = refP cmpX r xs false by rw [← HP.out, hst]; simp [gw])
          clear hst
          go_wp2_with fail
          refine region_later (by kernel_rfl) ?_
          repeat (go_big_quiet_step ((go_at_call 87; with_reducible exact HC.out _)))
          refine wpQuiet_nil ?_
          rintro _ ⟨r2, rfl⟩
          have HB2 := Lib.hid (HB.out.trans (r2.below.mono HB.out.size))
          have HO2 := Lib.hid (own_keep HO.out r2.below)
          clear p0 p1 p2 p3 p4 q0 q1 q2 q3 q4
          obtain ⟨p0, p1, p2, p3, p4⟩ := HBX.out.keep HB2.out HGL.out
          have HA3 := Lib.hid (show W.heap.size ≤ (r2.val.alloc (.cells #[.string r.s, .int .i64 r.t, .int .i64 r.c, .int .i64 r.l, .string r.d] 26)).heap.size by have := HB2.out.size; simp; omega)
          have HN3 := Lib.hid (show (O).length + 1 ≤ 1073741824 by have := HLK.out; simp; omega)
          have HD3 := Lib.hid (show Below W.heap.size W (r2.val.alloc (.cells #[.string r.s, .int .i64 r.t, .int .i64 r.c, .int .i64 r.l, .string r.d] 26)) from HB2.out.alloc HB2.out.size _)
          have HQ3 := Lib.hid (HO2.out.alloc (.cells #[.string r.s, .int .i64 r.t, .int .i64 r.c, .int .i64 r.l, .string r.d] 26))
          go_wp2_with (first | (at_builtin; (refine wpList_append_R rfl _ _ rfl W.heap.size _ _ (O) rfl HQ3.out (r2.val.heap.size + 1) _ _ _ _ rfl (SeesR.one _ r) HN3.out HA3.out ?_); intro v3 w3 ho hg; (have HO3 := Lib.hid (show w3.ownsRow W.heap.size 26 5 v3 (O ++ [r]).length (rcells (O ++ [r])) by simpa using ho)); (have HB3 := Lib.hid (HD3.out.grown hg HA3.out (own_block_ge HQ3.out))); clear ho hg p0 p1 p2 p3 p4))
          go_roundw
          case rel => exact ⟨k + 1, true, by omega, by go_num, rfl, O ++ [r], HO3.out, HE.out, by have := HL2.out; simp; omega, HB3.out⟩
          case measure => simp [intOf]; omega
        · have gz : z ≤ 0 := by omega
          have gy : (z == 0) = true := by rw [hz1]; rfl
          have gw : z = 0 := hz1
          have HE := Lib.hid (show (O) ++ refP cmpX r (xs.drop (k + 1)) true = refP cmpX r xs false by rw [← HP.out, hst]; simp [gw])
          clear hst
          go_wp2_with fail
          refine region_later (by kernel_rfl) ?_
          repeat (go_big_quiet_step ((go_at_call 87; with_reducible exact HC.out _)))
          refine wpQuiet_nil ?_
          rintro _ ⟨r2, rfl⟩
          have HB2 := Lib.hid (HB.out.trans (r2.below.mono HB.out.size))
          have HO2 := Lib.hid (own_keep HO.out r2.below)
          clear p0 p1 p2 p3 p4 q0 q1 q2 q3 q4
          go_wp2_with fail
          go_roundw
          case rel => exact ⟨k + 1, true, by omega, by go_num, rfl, O, HO2.out, HE.out, by have := HL2.out; simp; omega, HB2.out⟩
          case measure => simp [intOf]; omega
      · cases d
        · have gz : decide (z ≤ 0) = false := by rw [decide_eq_false_iff_not]; omega
          have gy : (z == 0) = false := by rw [beq_eq_false_iff_ne]; omega
          have gw : z ≠ 0 := by omega
          have gv : ¬ (z ≤ 0) := by omega
          have HE := Lib.hid (show (O ++ [x]) ++ refP cmpX r (xs.drop (k + 1)) false = refP cmpX r xs false by rw [← HP.out, hst]; simp [gv, gw])
          clear hst
          go_wp2_with fail
          refine region_later (by kernel_rfl) ?_
          repeat (go_big_quiet_step ((go_at_call 87; with_reducible exact HC.out _)))
          refine wpQuiet_nil ?_
          rintro _ ⟨r2, rfl⟩
          have HB2 := Lib.hid (HB.out.trans (r2.below.mono HB.out.size))
          have HO2 := Lib.hid (own_keep HO.out r2.below)
          clear p0 p1 p2 p3 p4 q0 q1 q2 q3 q4
          obtain ⟨q0, q1, q2, q3, q4⟩ := HXB.out.keep HB2.out hb
          have HA3 := Lib.hid (show W.heap.size ≤ (r2.val.alloc (.cells #[.string x.s, .int .i64 x.t, .int .i64 x.c, .int .i64 x.l, .string x.d] 26)).heap.size by have := HB2.out.size; simp; omega)
          have HN3 := Lib.hid (show (O).length + 1 ≤ 1073741824 by have := HLK.out; simp; omega)
          have HD3 := Lib.hid (show Below W.heap.size W (r2.val.alloc (.cells #[.string x.s, .int .i64 x.t, .int .i64 x.c, .int .i64 x.l, .string x.d] 26)) from HB2.out.alloc HB2.out.size _)
          have HQ3 := Lib.hid (HO2.out.alloc (.cells #[.string x.s, .int .i64 x.t, .int .i64 x.c, .int .i64 x.l, .string x.d] 26))
          go_wp2_with (first | (at_builtin; (refine wpList_append_R rfl _ _ rfl W.heap.size _ _ (O) rfl HQ3.out (r2.val.heap.size + 1) _ _ _ _ rfl (SeesR.one _ x) HN3.out HA3.out ?_); intro v3 w3 ho hg; (have HO3 := Lib.hid (show w3.ownsRow W.heap.size 26 5 v3 (O ++ [x]).length (rcells (O ++ [x])) by simpa using ho)); (have HB3 := Lib.hid (HD3.out.grown hg HA3.out (own_block_ge HQ3.out))); clear ho hg q0 q1 q2 q3 q4))
          go_roundw
          case rel => exact ⟨k + 1, false, by omega, by go_num, rfl, O ++ [x], HO3.out, HE.out, by have := HL2.out; simp; omega, HB3.out⟩
          case measure => simp [intOf]; omega
        · have gz : decide (z ≤ 0) = false := by rw [decide_eq_false_iff_not]; omega
          have gy : (z == 0) = false := by rw [beq_eq_false_iff_ne]; omega
          have gw : z ≠ 0 := by omega
          have gv : ¬ (z ≤ 0) := by omega
          have HE := Lib.hid (show (O ++ [x]) ++ refP cmpX r (xs.drop (k + 1)) true = refP cmpX r xs false by rw [← HP.out, hst]; simp [gv, gw])
          clear hst
          go_wp2_with fail
          refine region_later (by kernel_rfl) ?_
          repeat (go_big_quiet_step ((go_at_call 87; with_reducible exact HC.out _)))
          refine wpQuiet_nil ?_
          rintro _ ⟨r2, rfl⟩
          have HB2 := Lib.hid (HB.out.trans (r2.below.mono HB.out.size))
          have HO2 := Lib.hid (own_keep HO.out r2.below)
          clear p0 p1 p2 p3 p4 q0 q1 q2 q3 q4
          obtain ⟨q0, q1, q2, q3, q4⟩ := HXB.out.keep HB2.out hb
          have HA3 := Lib.hid (show W.heap.size ≤ (r2.val.alloc (.cells #[.string x.s, .int .i64 x.t, .int .i64 x.c, .int .i64 x.l, .string x.d] 26)).heap.size by have := HB2.out.size; simp; omega)
          have HN3 := Lib.hid (show (O).length + 1 ≤ 1073741824 by have := HLK.out; simp; omega)
          have HD3 := Lib.hid (show Below W.heap.size W (r2.val.alloc (.cells #[.string x.s, .int .i64 x.t, .int .i64 x.c, .int .i64 x.l, .string x.d] 26)) from HB2.out.alloc HB2.out.size _)
          have HQ3 := Lib.hid (HO2.out.alloc (.cells #[.string x.s, .int .i64 x.t, .int .i64 x.c, .int .i64 x.l, .string x.d] 26))
          go_wp2_with (first | (at_builtin; (refine wpList_append_R rfl _ _ rfl W.heap.size _ _ (O) rfl HQ3.out (r2.val.heap.size + 1) _ _ _ _ rfl (SeesR.one _ x) HN3.out HA3.out ?_); intro v3 w3 ho hg; (have HO3 := Lib.hid (show w3.ownsRow W.heap.size 26 5 v3 (O ++ [x]).length (rcells (O ++ [x])) by simpa using ho)); (have HB3 := Lib.hid (HD3.out.grown hg HA3.out (own_block_ge HQ3.out))); clear ho hg q0 q1 q2 q3 q4))
          go_roundw
          case rel => exact ⟨k + 1, true, by omega, by go_num, rfl, O ++ [x], HO3.out, HE.out, by have := HL2.out; simp; omega, HB3.out⟩
          case measure => simp [intOf]; omega
    · obtain rfl : k = n := by omega
      have HE := Lib.hid (show O ++ refP cmpX r [] d = refP cmpX r xs false by rw [← HP.out, List.drop_of_length_le (Nat.le_of_eq HN.out)])
      have HLK := Lib.hid (show O.length + 1 ≤ 1073741824 by have := HL.out; omega)
      obtain ⟨p0, p1, p2, p3, p4⟩ := HBX.out.keep HB.out HGL.out
      cases d
      · have HE2 := Lib.hid (show O ++ [r] = refP cmpX r xs false from HE.out)
        have HA3 := Lib.hid (show W.heap.size ≤ (wr.alloc (.cells #[.string r.s, .int .i64 r.t, .int .i64 r.c, .int .i64 r.l, .string r.d] 26)).heap.size by have := HB.out.size; simp; omega)
        have HD3 := Lib.hid (show Below W.heap.size W (wr.alloc (.cells #[.string r.s, .int .i64 r.t, .int .i64 r.c, .int .i64 r.l, .string r.d] 26)) from HB.out.alloc HB.out.size _)
        have HQ3 := Lib.hid (HO.out.alloc (.cells #[.string r.s, .int .i64 r.t, .int .i64 r.c, .int .i64 r.l, .string r.d] 26))
        go_wp2_with (at_builtin; (refine wpList_append_R rfl _ _ rfl W.heap.size _ _ O rfl HQ3.out (wr.heap.size + 1) _ _ _ _ rfl (SeesR.one _ r) HLK.out HA3.out ?_); intro v3 w3 ho hg)
        have HO3 := Lib.hid (show w3.ownsRow W.heap.size 26 5 v3 (refP cmpX r xs false).length (rcells (refP cmpX r xs false)) by rw [← HE2.out]; simpa using ho)
        have HB3 := Lib.hid (HD3.out.grown hg HA3.out (own_block_ge HQ3.out))
        clear ho hg p0 p1 p2 p3 p4
        go_wp2_with fail
        go_ret
        exact ⟨_, rfl, own_less HO3.out HB0.out.size, HB0.out.trans (HB3.out.mono HB0.out.size)⟩
      · have HE2 := Lib.hid (show O = refP cmpX r xs false by rw [← HE.out]; simp [refP])
        have HO3 := Lib.hid (show wr.ownsRow W.heap.size 26 5 u5 (refP cmpX r xs false).length (rcells (refP cmpX r xs false)) by rw [← HE2.out]; exact HO.out)
        clear p0 p1 p2 p3 p4
        go_wp2_with fail
        go_ret
        exact ⟨_, rfl, own_less HO3.out HB0.out.size, HB0.out.trans (HB.out.mono HB0.out.size)⟩
end Go.Proofs.YtaijcoiepfjecaaGreat
namespace Go.Proofs.YtaijcoiepfjecaaGreat
open Go.RowKit Go.Op

theorem idxX_step {r x : Rrd} {xs : List Rrd} {k : Nat} (hx : xs[k]? = some x) : idxX cmpX r (xs.drop k) = if cmpX x r = 0 then 0 else idxX cmpX r (xs.drop (k + 1)) + 1 := by
  obtain ⟨l1, rfl⟩ := List.getElem?_eq_some_iff.1 hx
  rw [List.drop_eq_getElem_cons l1, idxX]
/-- the place of the record that is one with r, or -1 -/
def plX (r : Rrd) (xs : List Rrd) : Int := if hitX cmpX r xs = true then (posX cmpX r xs : Nat) else -1

end Go.Proofs.YtaijcoiepfjecaaGreat
