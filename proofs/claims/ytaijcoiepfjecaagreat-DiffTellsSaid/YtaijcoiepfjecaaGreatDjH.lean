/- DjH: texts DifH, DifI of our own, joined. No statement of the seat is proved here. -/
import Derived.Test.YtaijcoiepfjecaaGreatDjF
import Derived.Test.YtaijcoiepfjecaaGreatZoF
namespace Go.Proofs.YtaijcoiepfjecaaGreat
open Go.RowKit Go.Op
set_option linter.unusedVariables false
attribute [local go_sem] rr_eql rr_neq rr_guard

theorem upto_no {g : Rrd → Bool} {xs : List Rrd} (h : Upto (fun x => !g x) xs xs.length) : xs.any g = false := by
  have := h.all
  rw [List.all_eq_true] at this
  rw [List.any_eq_false]
  intro x hx
  have := this x hx
  simpa using this
set_option maxHeartbeats 8000000 in
set_option maxRecDepth 20000 in
theorem RefHas_any (A : Option Addr) (n c : Nat) (xs : List Rrd) (r : Rrd) (w : World) (hx : SeesR w w.heap.size A n xs) (hn : n ≤ 1000000) :
    Calls Tryz.prog 29 #[.slice A n c, .agg #[.string r.s, .int .i64 r.t, .int .i64 r.c, .int .i64 r.l, .string r.d]] w fun e w' => e = .returned (.bool (hasX xs r)) ∧ Below w.heap.size w w' := by
  obtain ⟨p, hp⟩ : ∃ p, p = w.heap.size := ⟨_, rfl⟩
  obtain ⟨W, hW⟩ : ∃ W, W = w.alloc (.cells #[.string r.s, .int .i64 r.t, .int .i64 r.c, .int .i64 r.l, .string r.d] 26) := ⟨_, rfl⟩
  have HBX := Lib.hid (show Whole W p 26 #[.string r.s, .int .i64 r.t, .int .i64 r.c, .int .i64 r.l, .string r.d] by rw [hp, hW]; exact Whole.new _ _ _)
  have HB0 := Lib.hid (show Below w.heap.size w W by rw [hW]; exact (Below.refl _ _).alloc (Nat.le_refl _) _)
  have HX := Lib.hid ((hx.keep HB0.out).more HB0.out.size)
  have HN := Lib.hid hx.1
  have HWW := Lib.hid hW
  have HPP := Lib.hid hp
  clear hx hp hW
  go_enter Tryz.func29, Tryz.ntmps29
  go_wp2_with fail
  rw [← HWW.out, ← HPP.out]
  go_loopw [5] (fun i wr => ∃ k : Nat, k ≤ n ∧ i = .int .i64 (k : Nat) ∧ Upto (fun x => !(eqX x r)) xs k ∧ Below W.heap.size W wr) (fun i _ => n - (intOf i).toNat)
  case atStart => exact ⟨0, Nat.zero_le _, rfl, Upto.zero _ _, Below.refl _ _⟩
  case round =>
    obtain ⟨k, hk, rfl, hup, hB⟩ := hrel
    have HU := Lib.hid hup
    have HB := Lib.hid hB
    clear hup
    by_cases hkn : k < n
    · have g2 : (k : Int) < (n : Int) := by omega
      have g0 : (0 : Int) ≤ (k : Int) := by omega
      obtain ⟨b, off, x, rfl, hb, hxk, ht⟩ := (HX.out.keep hB).at hkn
      have HXK := Lib.hid hxk
      have HMEM := Lib.hid (List.mem_of_getElem? hxk)
      have hbl : b < wr.heap.size := Nat.lt_of_lt_of_le hb hB.size
      obtain ⟨d0, d1, d2, d3, d4⟩ := ht.later hbl
      have HBX2 := Lib.hid (HBX.out.below hB HBX.out.lt)
      obtain ⟨e0, e1, e2, e3, e4⟩ := (HBX2.out.five).later HBX2.out.lt
      obtain ⟨z, hz⟩ : ∃ z : Bool, z = (eqX x r) := ⟨_, rfl⟩
      have HZ := Lib.hid hz
      clear hxk hB ht
      cases z with
      | true =>
        have hel := rr_eql x r
        have hgd := fun op a b => rr_guard op a b x r
        rw [← hz] at hel
        clear hz
        have HR := Lib.hid (show hasX xs r = true from List.any_eq_true.2 ⟨x, HMEM.out, HZ.out.symm⟩)
        go_wp2_with fail
        refine region_later (by kernel_rfl) ?_
        repeat (go_big_quiet_step (fail))
        refine wpQuiet_nil ?_
        rintro _ ⟨q2, rfl⟩
        have HB2 := Lib.hid (HB.out.trans (q2.below.mono HB.out.size))
        go_wp2_with fail
        go_ret
        exact ⟨by rw [HR.out]; rfl, HB0.out.trans (HB2.out.mono HB0.out.size)⟩
      | false =>
        have hel := rr_eql x r
        have hgd := fun op a b => rr_guard op a b x r
        rw [← hz] at hel
        clear hz
        have HU2 := Lib.hid (HU.out.succ HXK.out (by rw [← HZ.out]; rfl))
        go_wp2_with fail
        refine region_later (by kernel_rfl) ?_
        repeat (go_big_quiet_step (fail))
        refine wpQuiet_nil ?_
        rintro _ ⟨q2, rfl⟩
        have HB2 := Lib.hid (HB.out.trans (q2.below.mono HB.out.size))
        go_wp2_with fail
        go_roundw
        case rel => exact ⟨k + 1, by omega, by go_num, HU2.out, HB2.out⟩
        case measure => simp [intOf]; omega
    · obtain rfl : k = n := by omega
      have g2 : ¬ ((k : Int) < (k : Int)) := by omega
      have HR := Lib.hid (show hasX xs r = false from upto_no (by rw [HN.out]; exact HU.out))
      go_wp2_with fail
      go_ret
      exact ⟨by rw [HR.out]; rfl, HB0.out.trans (HB.out.mono HB0.out.size)⟩
set_option maxHeartbeats 8000000 in
set_option maxRecDepth 20000 in
theorem RefOneL_any (A : Option Addr) (n c : Nat) (xs : List Rrd) (r : Rrd) (w : World) (hx : SeesR w w.heap.size A n xs) (ok : OkL xs) (hr : OkX r) (hn : n ≤ 1000000) :
    Calls Tryz.prog 40 #[.slice A n c, .agg #[.string r.s, .int .i64 r.t, .int .i64 r.c, .int .i64 r.l, .string r.d]] w fun e w' => e = .returned (.bool (oneL xs r)) ∧ Below w.heap.size w w' := by
  obtain ⟨p, hp⟩ : ∃ p, p = w.heap.size := ⟨_, rfl⟩
  obtain ⟨W, hW⟩ : ∃ W, W = w.alloc (.cells #[.string r.s, .int .i64 r.t, .int .i64 r.c, .int .i64 r.l, .string r.d] 26) := ⟨_, rfl⟩
  have HBX := Lib.hid (show Whole W p 26 #[.string r.s, .int .i64 r.t, .int .i64 r.c, .int .i64 r.l, .string r.d] by rw [hp, hW]; exact Whole.new _ _ _)
  have HB0 := Lib.hid (show Below w.heap.size w W by rw [hW]; exact (Below.refl _ _).alloc (Nat.le_refl _) _)
  have HX := Lib.hid ((hx.keep HB0.out).more HB0.out.size)
  have HN := Lib.hid hx.1
  have HWW := Lib.hid hW
  have HPP := Lib.hid hp
  have HOK := Lib.hid ok
  have HRO := Lib.hid hr
  clear hx hp hW ok hr
  go_enter Tryz.func40, Tryz.ntmps40
  go_wp2_with fail
  rw [← HWW.out, ← HPP.out]
  go_loopw [5] (fun i wr => ∃ k : Nat, k ≤ n ∧ i = .int .i64 (k : Nat) ∧ Upto (fun x => !(decide (cX x r = 0))) xs k ∧ Below W.heap.size W wr) (fun i _ => n - (intOf i).toNat)
  case atStart => exact ⟨0, Nat.zero_le _, rfl, Upto.zero _ _, Below.refl _ _⟩
  case round =>
    obtain ⟨k, hk, rfl, hup, hB⟩ := hrel
    have HU := Lib.hid hup
    have HB := Lib.hid hB
    clear hup
    by_cases hkn : k < n
    · have g2 : (k : Int) < (n : Int) := by omega
      have g0 : (0 : Int) ≤ (k : Int) := by omega
      obtain ⟨b, off, x, rfl, hb, hxk, ht⟩ := (HX.out.keep hB).at hkn
      have HXK := Lib.hid hxk
      have HMEM := Lib.hid (List.mem_of_getElem? hxk)
      have hbl : b < wr.heap.size := Nat.lt_of_lt_of_le hb hB.size
      obtain ⟨d0, d1, d2, d3, d4⟩ := ht.later hbl
      have HBX2 := Lib.hid (HBX.out.below hB HBX.out.lt)
      obtain ⟨e0, e1, e2, e3, e4⟩ := (HBX2.out.five).later HBX2.out.lt
      obtain ⟨z, hz⟩ : ∃ z : Bool, z = (decide (cX x r = 0)) := ⟨_, rfl⟩
      have HZ := Lib.hid hz
      have HXO := Lib.hid (HOK.out.at hxk)
      have HCL := Lib.hid (show ∀ q' : Later wr, Calls Tryz.prog 81 #[.agg #[.string x.s, .int .i64 x.t, .int .i64 x.c, .int .i64 x.l, .string x.d], .agg #[.string r.s, .int .i64 r.t, .int .i64 r.c, .int .i64 r.l, .string r.d]] q'.val fun e w'' => e = .returned (.bool z) ∧ ∃ q2 : Later wr, w'' = q2.val from
        fun q' => later_call (by rw [hz, ← cX_is HXO.out HRO.out]; exact refone_any HXO.out HRO.out _))
      clear hxk hB ht
      cases z with
      | true =>
        clear hz
        have HR := Lib.hid (show oneL xs r = true from List.any_eq_true.2 ⟨x, HMEM.out, HZ.out.symm⟩)
        go_wp2_with fail
        refine region_later (by kernel_rfl) ?_
        repeat (go_big_quiet_step ((go_at_call 81; with_reducible exact HCL.out _)))
        refine wpQuiet_nil ?_
        rintro _ ⟨q2, rfl⟩
        have HB2 := Lib.hid (HB.out.trans (q2.below.mono HB.out.size))
        go_wp2_with fail
        go_ret
        exact ⟨by rw [HR.out]; rfl, HB0.out.trans (HB2.out.mono HB0.out.size)⟩
      | false =>
        clear hz
        have HU2 := Lib.hid (HU.out.succ HXK.out (by rw [← HZ.out]; rfl))
        go_wp2_with fail
        refine region_later (by kernel_rfl) ?_
        repeat (go_big_quiet_step ((go_at_call 81; with_reducible exact HCL.out _)))
        refine wpQuiet_nil ?_
        rintro _ ⟨q2, rfl⟩
        have HB2 := Lib.hid (HB.out.trans (q2.below.mono HB.out.size))
        go_wp2_with fail
        go_roundw
        case rel => exact ⟨k + 1, by omega, by go_num, HU2.out, HB2.out⟩
        case measure => simp [intOf]; omega
    · obtain rfl : k = n := by omega
      have g2 : ¬ ((k : Int) < (k : Int)) := by omega
      have HR := Lib.hid (show oneL xs r = false from upto_no (by rw [HN.out]; exact HU.out))
      go_wp2_with fail
      go_ret
      exact ⟨by rw [HR.out]; rfl, HB0.out.trans (HB.out.mono HB0.out.size)⟩
theorem lackX_take {a b : List Rrd} {k : Nat} {x : Rrd} (h : a[k]? = some x) : lackX (a.take (k + 1)) b = lackX (a.take k) b ++ if hasX b x then [] else [x] := by
  unfold lackX
  rw [List.take_add_one, h, List.filter_append]
  congr 1
  show List.filter _ [x] = _
  rw [List.filter_cons]
  cases hasX b x <;> rfl
set_option maxHeartbeats 8000000 in
set_option maxRecDepth 20000 in
theorem RefLacks_any (A A2 : Option Addr) (n c n2 c2 : Nat) (xs ys : List Rrd) (w : World) (hx : SeesR w w.heap.size A n xs) (hy : SeesR w w.heap.size A2 n2 ys) (hn : n ≤ 1000000) (hn2 : n2 ≤ 1000000) :
    Calls Tryz.prog 14 #[.slice A n c, .slice A2 n2 c2] w fun e w' =>
      ∃ v, e = .returned v ∧ w'.ownsRow w.heap.size 26 5 v (lackX xs ys).length (rcells (lackX xs ys)) ∧ Below w.heap.size w w' := by
  have HX := Lib.hid hx
  have HY := Lib.hid hy
  have HN := Lib.hid hx.1
  clear hx hy
  go_enter Tryz.func14, Tryz.ntmps14
  go_wp2_with fail
  go_loopw [5, 6] (fun v i wr => ∃ k : Nat, k ≤ n ∧ i = .int .i64 (k : Nat) ∧ wr.ownsRow w.heap.size 26 5 v (lackX (xs.take k) ys).length (rcells (lackX (xs.take k) ys)) ∧ Below w.heap.size w wr) (fun _ i _ => n - (intOf i).toNat)
  case atStart => exact ⟨0, Nat.zero_le _, rfl, own_nil _ _ _ _, Below.refl _ _⟩
  case round =>
    obtain ⟨k, hk, rfl, hO, hB⟩ := hrel
    have HO := Lib.hid hO
    have HB := Lib.hid hB
    clear hO hB
    by_cases hkn : k < n
    · have g2 : (k : Int) < (n : Int) := by omega
      have g0 : (0 : Int) ≤ (k : Int) := by omega
      obtain ⟨b, off, x, rfl, hb, hxk, ht⟩ := (HX.out.keep HB.out).at hkn
      have HF := Lib.hid ht
      have HBL := Lib.hid hb
      obtain ⟨x0, x1, x2, x3, x4⟩ := ht
      have HST := Lib.hid (lackX_take (b := ys) hxk)
      have HLE := Lib.hid (show (lackX (xs.take k) ys).length + 1 ≤ 1073741824 by have := lackX_len (xs.take k) ys; rw [List.length_take] at this; omega)
      clear hxk hb
      go_wp2_with fail
      refine (RefHas_any A2 n2 c2 ys x _ ((HY.out.keep HB.out).more HB.out.size) hn2).mono ?_
      obtain ⟨z, hz⟩ : ∃ z, z = hasX ys x := ⟨_, rfl⟩
      have HZ := Lib.hid hz
      rw [← hz]
      rintro e w1 ⟨rfl, hB1⟩
      have HO1 := Lib.hid (own_keep HO.out hB1)
      have HB1 := Lib.hid (HB.out.trans (hB1.mono HB.out.size))
      have HF1 := Lib.hid (HF.out.keep hB1 (Nat.lt_of_lt_of_le HBL.out HB.out.size))
      clear hB1 hz x0 x1 x2 x3 x4
      cases z with
      | true =>
        have HS2 := Lib.hid (show lackX (xs.take (k + 1)) ys = lackX (xs.take k) ys by rw [HST.out, ← HZ.out]; simp)
        go_wp2_with fail
        go_roundw
        case rel => exact ⟨k + 1, by omega, by go_num, by rw [HS2.out]; exact HO1.out, HB1.out⟩
        case measure => simp [intOf]; omega
      | false =>
        have HS2 := Lib.hid (show lackX (xs.take (k + 1)) ys = lackX (xs.take k) ys ++ [x] by rw [HST.out, ← HZ.out]; simp)
        obtain ⟨x0, x1, x2, x3, x4⟩ := HF1.out
        have HQ3 := Lib.hid (HO1.out.alloc (.cells #[.string x.s, .int .i64 x.t, .int .i64 x.c, .int .i64 x.l, .string x.d] 26))
        have HD3 := Lib.hid (show Below w.heap.size w (w1.alloc (.cells #[.string x.s, .int .i64 x.t, .int .i64 x.c, .int .i64 x.l, .string x.d] 26)) from HB1.out.alloc HB1.out.size _)
        have HA3 := Lib.hid (show w.heap.size ≤ (w1.alloc (.cells #[.string x.s, .int .i64 x.t, .int .i64 x.c, .int .i64 x.l, .string x.d] 26)).heap.size from HD3.out.size)
        go_wp2_with (at_builtin; (refine wpList_append_R rfl _ _ rfl w.heap.size _ _ (lackX (xs.take k) ys) rfl HQ3.out (w1.heap.size + 1) _ _ _ _ rfl (SeesR.one _ x) HLE.out HA3.out ?_); intro v3 w3 ho hg; (have HO3 := Lib.hid (show w3.ownsRow w.heap.size 26 5 v3 (lackX (xs.take k) ys ++ [x]).length (rcells (lackX (xs.take k) ys ++ [x])) by simpa using ho)); (have HB3 := Lib.hid (HD3.out.grown hg HA3.out (own_block_ge HQ3.out))); clear ho hg x0 x1 x2 x3 x4)
        go_roundw
        case rel => exact ⟨k + 1, by omega, by go_num, by rw [HS2.out]; exact HO3.out, HB3.out⟩
        case measure => simp [intOf]; omega
    · obtain rfl : k = n := by omega
      have g2 : ¬ ((k : Int) < (k : Int)) := by omega
      go_wp2_with fail
      go_ret
      refine ⟨_, rfl, ?_, HB.out⟩
      have := HO.out
      rwa [List.take_of_length_le (by rw [HN.out]; exact Nat.le_refl _)] at this
set_option maxHeartbeats 8000000 in
set_option maxRecDepth 20000 in
theorem rights16_any (A : Option Addr) (n c : Nat) (xs : List Rrd) (w : World) (hx : SeesR w w.heap.size A n xs) (hlow : LowL xs) (hn : n ≤ 1000000) :
    Calls Tryz.prog 17 #[.slice A n c] w fun e w' => e = .returned (.bool (xs.all fun x => okR x.toRec)) ∧ Below w.heap.size w w' := by
  have HX := Lib.hid hx
  have HN := Lib.hid hx.1
  have HLOW := Lib.hid hlow
  clear hx hlow
  go_enter Tryz.func17, Tryz.ntmps17
  go_wp2_with fail
  go_loopw [3] (fun i wr => ∃ k : Nat, k ≤ n ∧ i = .int .i64 (k : Nat) ∧ Upto (fun x => okR x.toRec) xs k ∧ Below w.heap.size w wr) (fun i _ => n - (intOf i).toNat)
  case atStart => exact ⟨0, Nat.zero_le _, rfl, Upto.zero _ _, Below.refl _ _⟩
  case round =>
    obtain ⟨k, hk, rfl, hup, hB⟩ := hrel
    have HU := Lib.hid hup
    have HB := Lib.hid hB
    clear hup hB
    by_cases hkn : k < n
    · have g2 : (k : Int) < (n : Int) := by omega
      have g0 : (0 : Int) ≤ (k : Int) := by omega
      obtain ⟨b, off, x, rfl, hb, hxk, ht⟩ := (HX.out.keep HB.out).at hkn
      obtain ⟨x0, x1, x2, x3, x4⟩ := ht
      have HXK := Lib.hid hxk
      have hm := List.mem_of_getElem? hxk
      have HMEM := Lib.hid hm
      have HL := Lib.hid (HLOW.out x hm)
      clear hxk hm
      go_wp2_with fail
      refine (RefRRight_any x.s x.d x.toRec _ (rrd_name x) (rrd_data x) (by rw [data_len]; have := HL.out; omega)).mono ?_
      obtain ⟨z, hz⟩ : ∃ z, z = okR x.toRec := ⟨_, rfl⟩
      have HZ := Lib.hid hz
      rw [← hz]
      rintro e w1 ⟨rfl, hB1⟩
      have HB1 := Lib.hid (HB.out.trans (hB1.mono HB.out.size))
      clear hB1 hz x0 x1 x2 x3 x4
      cases z with
      | true =>
        have HU2 := Lib.hid (HU.out.succ HXK.out HZ.out.symm)
        go_wp2_with fail
        go_roundw
        case rel => exact ⟨k + 1, by omega, by go_num, HU2.out, HB1.out⟩
        case measure => simp [intOf]; omega
      | false =>
        have HR := Lib.hid (show (xs.all fun x => okR x.toRec) = false from List.all_eq_false.2 ⟨x, HMEM.out, by rw [← HZ.out]; decide⟩)
        go_wp2_with fail
        go_ret
        exact ⟨by rw [HR.out]; rfl, HB1.out⟩
    · obtain rfl : k = n := by omega
      have g2 : ¬ ((k : Int) < (k : Int)) := by omega
      have HR := Lib.hid (show (xs.all fun x => okR x.toRec) = true from by have := HU.out; rw [← HN.out] at this; exact this.all)
      go_wp2_with fail
      go_ret
      exact ⟨by rw [HR.out]; rfl, HB.out⟩
end Go.Proofs.YtaijcoiepfjecaaGreat
namespace Go.Proofs.YtaijcoiepfjecaaGreat
open Go.RowKit Go.Op
set_option linter.unusedVariables false

/-- as far as k all of del can be taken away -/
def GoneTo (D del : List Rrd) (k : Nat) : Prop := ∀ i x, i < k → del[i]? = some x → x ∈ D ∧ x ∉ del.take i
theorem GoneTo.zero (D del : List Rrd) : GoneTo D del 0 := fun i x h => absurd h (Nat.not_lt_zero i)
theorem GoneTo.step {D del : List Rrd} {k : Nat} {x : Rrd} (h : GoneTo D del k) (hx : del[k]? = some x) (h1 : x ∈ D) (h2 : x ∉ del.take k) : GoneTo D del (k + 1) := by
  intro i z hi hz
  by_cases e : i = k
  · subst e
    rw [hx] at hz
    cases hz
    exact ⟨h1, h2⟩
  · exact h i z (by omega) hz
theorem take_mem {l : List Rrd} {i j : Nat} (hij : i < j) (hi : i < l.length) : l[i] ∈ l.take j := by
  refine List.mem_of_getElem? (i := i) ?_
  rw [List.getElem?_take, if_pos hij, List.getElem?_eq_getElem hi]
theorem GoneTo.all {D del : List Rrd} (h : GoneTo D del del.length) : Gone D del := by
  refine ⟨fun x hx => ?_, List.pairwise_iff_getElem.2 fun i j hi hj hij e => ?_⟩
  · obtain ⟨i, hi, e⟩ := List.getElem_of_mem hx
    exact (h i x hi (by rw [List.getElem?_eq_getElem hi, e])).1
  · have := (h j del[j] hj (List.getElem?_eq_getElem hj)).2
    rw [← e] at this
    exact this (take_mem hij hi)
theorem gone_out {D del : List Rrd} {k : Nat} {x : Rrd} (hx : del[k]? = some x) (h : x ∉ D) : ¬ Gone D del := fun g => h (g.1 x (List.mem_of_getElem? hx))
theorem gone_two {D del : List Rrd} {k : Nat} {x : Rrd} (hx : del[k]? = some x) (h : x ∈ del.take k) : ¬ Gone D del := by
  intro g
  obtain ⟨hk, e⟩ := List.getElem?_eq_some_iff.1 hx
  obtain ⟨i, hi, e2⟩ := List.getElem_of_mem h
  rw [List.length_take] at hi
  rw [List.getElem_take] at e2
  exact List.pairwise_iff_getElem.1 g.2 i k (by omega) hk (by omega) (by rw [e2, e])
/-- as far as k none of add clashes -/
def AddTo (L add : List Rrd) (k : Nat) : Prop := ∀ i x, i < k → add[i]? = some x → oneL L x = false ∧ oneL (add.take i) x = false
theorem AddTo.zero (L add : List Rrd) : AddTo L add 0 := fun i x h => absurd h (Nat.not_lt_zero i)
theorem AddTo.step {L add : List Rrd} {k : Nat} {x : Rrd} (h : AddTo L add k) (hx : add[k]? = some x) (h1 : oneL L x = false) (h2 : oneL (add.take k) x = false) : AddTo L add (k + 1) := by
  intro i z hi hz
  by_cases e : i = k
  · subst e
    rw [hx] at hz
    cases hz
    exact ⟨h1, h2⟩
  · exact h i z (by omega) hz
theorem AddTo.all {L add : List Rrd} (h : AddTo L add add.length) : Fits L add := by
  refine ⟨fun x hx => ?_, List.pairwise_iff_getElem.2 fun i j hi hj hij e => ?_⟩
  · obtain ⟨i, hi, e⟩ := List.getElem_of_mem hx
    exact (h i x hi (by rw [List.getElem?_eq_getElem hi, e])).1
  · have h1 := (h j add[j] hj (List.getElem?_eq_getElem hj)).2
    have h2 : oneL (add.take j) add[j] = true := oneL_is.2 ⟨_, take_mem hij hi, e⟩
    rw [h1] at h2
    cases h2
theorem add_out {L add : List Rrd} {k : Nat} {x : Rrd} (hx : add[k]? = some x) (h : oneL L x = true) : ¬ Fits L add := fun g => by
  have := g.1 x (List.mem_of_getElem? hx)
  rw [h] at this
  cases this
theorem add_two {L add : List Rrd} {k : Nat} {x : Rrd} (hx : add[k]? = some x) (h : oneL (add.take k) x = true) : ¬ Fits L add := by
  intro g
  obtain ⟨hk, e⟩ := List.getElem?_eq_some_iff.1 hx
  obtain ⟨y, hy, e1⟩ := oneL_is.1 h
  obtain ⟨i, hi, e2⟩ := List.getElem_of_mem hy
  rw [List.length_take] at hi
  rw [List.getElem_take] at e2
  exact List.pairwise_iff_getElem.1 g.2 i k (by omega) hk (by omega) (by rw [e2, e]; exact e1)

/-- right records do not lie in a reference's zone that has nothing -/
theorem rees_apart {w : World} {B r n : Nat} {A : Option Addr} {D : List Rrd} (h : SeesR w B A n D) (hw : Whole w r rzT #[.string ⟨#[]⟩, .slice none 0 0]) (ok : OkL D) : 0 < n → ∀ ad, A = some ad → ad.block ≠ r := by
  intro hn ad e c
  obtain ⟨b, off, x, e2, hb, hx, c0, _⟩ := h.at hn
  rw [e] at e2
  cases e2
  subst c
  have hok := (ok.at hx).some
  rw [hw.cell] at c0
  rcases (show off + 0 * 5 = 0 ∨ off + 0 * 5 = 1 ∨ 2 ≤ off + 0 * 5 by omega) with q | q | q
  all_goals first
    | (rw [q] at c0; simp at c0; exact hok c0.symm)
    | (rw [q] at c0; simp at c0)
    | (rw [Array.getElem?_eq_none (by simpa using q)] at c0; cases c0)
theorem rone_far {w w' : World} {r : Nat} {N : ByteArray} {D : List Rrd} {v : Value} (h : ZRefAt w w.heap.size N D v) (hw : Whole w r rzT #[.string ⟨#[]⟩, .slice none 0 0]) (ok : OkL D) (hg : w.grownBy w' (some r)) : ZRefAt w' w'.heap.size N D v := by
  obtain ⟨A, c, e, hs, hc⟩ := h
  exact ⟨A, c, e, (sees_far hs (Nat.le_refl _) (rees_apart hs hw ok) hg).more hg.size, hc⟩
def RApplyOut (w' : World) (N : ByteArray) (nn : List UInt8) (D del add : List Rrd) (e : Ending) : Prop :=
  (¬ Does D del add ∧ e = .returned (.tuple #[.agg #[.string ⟨#[]⟩, .slice none 0 0], .int .i64 8])) ∨ (Does D del add ∧ ZRefOut w' N nn (lackX D del ++ add) e)

/-- what New of the reference returns, in one form -/
def RNew (w' : World) (N : ByteArray) (nn : List UInt8) (xs : List Rrd) (N' : ByteArray) (A : Option Addr) (m c : Nat) : Prop :=
  (codeZ nn xs ≠ 0 ∧ N' = ⟨#[]⟩ ∧ A = none ∧ m = 0 ∧ c = 0) ∨ (codeZ nn xs = 0 ∧ N' = N ∧ m = (ofC xs).length ∧ SeesR w' w'.heap.size A m (ofC xs) ∧ InCap A m c)
theorem codeZ_cases (nn : List UInt8) (xs : List Rrd) : codeZ nn xs = 2 ∨ codeZ nn xs = 9 ∨ codeZ nn xs = 0 := by
  unfold codeZ
  split
  · split
    · split
      · exact .inr (.inr rfl)
      · exact .inr (.inl rfl)
    · exact .inl rfl
  · exact .inl rfl
theorem rnew_out {w : World} {r : Nat} {N N' : ByteArray} {nn : List UInt8} {xs : List Rrd} {A : Option Addr} {m c : Nat} {K : Int} (h : RNew w N nn xs N' A m c) (hK : K = codeZ nn xs) (hw : Whole w r rzT #[.string ⟨#[]⟩, .slice none 0 0]) (ok : OkL xs) :
    ZRefOut ((w.setCell ⟨r, 0, none⟩ (.string N')).setCell ⟨r, 1, none⟩ (.slice A m c)) N nn xs (.returned (.tuple #[.agg #[.string N', .slice A m c], .int .i64 K])) := by
  rcases h with ⟨hc, rfl, rfl, rfl, rfl⟩ | ⟨hc, rfl, rfl, hs, hcap⟩
  · rcases codeZ_cases nn xs with h | h | h
    · exact .inl ⟨h, by rw [hK, h]⟩
    · exact .inr (.inl ⟨h, by rw [hK, h]⟩)
    · exact absurd h hc
  · refine .inr (.inr ⟨hc, _, by rw [hK, hc], ?_⟩)
    exact rone_far ⟨A, c, rfl, hs, hcap⟩ hw ok.ofC (grown_trans (gset _ ⟨r, 0, none⟩ _) (gset _ ⟨r, 1, none⟩ _))
theorem RefNewU_any (A : Option Addr) (n c : Nat) (N : ByteArray) (nn : List UInt8) (xs : List Rrd) (w : World) (hN : N = mk nn) (hx : SeesR w w.heap.size A n xs) (hn : n ≤ 60) (hlow : LowL xs) :
    Calls Tryz.prog 11 #[.string N, .slice A n c] w fun e w' => (∃ N' A' m' c', e = .returned (.tuple #[.agg #[.string N', .slice A' m' c'], .int .i64 (codeZ nn xs)]) ∧ RNew w' N nn xs N' A' m' c') ∧ Below w.heap.size w w' := by
  refine (RefNew_any A n c N nn xs w hN hx hn hlow).mono ?_
  rintro e w' ⟨⟨hc, rfl⟩ | ⟨hc, rfl⟩ | ⟨hc, v, rfl, A', c', rfl, hs, hcap⟩, hB⟩
  · exact ⟨⟨_, _, _, _, by rw [hc], .inl ⟨by rw [hc]; decide, rfl, rfl, rfl, rfl⟩⟩, hB⟩
  · exact ⟨⟨_, _, _, _, by rw [hc], .inl ⟨by rw [hc]; decide, rfl, rfl, rfl, rfl⟩⟩, hB⟩
  · exact ⟨⟨_, _, _, _, by rw [hc], .inr ⟨hc, rfl, rfl, hs, hcap⟩⟩, hB⟩
set_option maxHeartbeats 32000000 in
set_option maxRecDepth 20000 in
theorem RefApply_any (N : ByteArray) (nn : List UInt8) (D del add : List Rrd) (A1 A2 A3 : Option Addr) (c1 n2 c2 n3 c3 : Nat) (w : World) (hN : N = mk nn) (h1 : SeesR w w.heap.size A1 D.length D) (h2 : SeesR w w.heap.size A2 n2 del) (h3 : SeesR w w.heap.size A3 n3 add) (q2 : InCap A2 n2 c2) (q3 : InCap A3 n3 c3) (ok : OkL D) (ok2 : OkL del) (ok3 : OkL add) (l1 : D.length ≤ 30) (l2 : n2 ≤ 30) (l3 : n3 ≤ 30) :
    Calls Tryz.prog 19 #[.agg #[.string N, .slice A1 D.length c1], .slice A2 n2 c2, .slice A3 n3 c3] w fun e w' => RApplyOut w' N nn D del add e ∧ Below w.heap.size w w' := by
  obtain ⟨m1, hm1⟩ : ∃ m, m = D.length := ⟨_, rfl⟩
  have HM1 := Lib.hid hm1
  rw [← hm1] at h1 l1 ⊢
  clear hm1
  obtain ⟨W, hW⟩ : ∃ W, W = (w.alloc (.cells #[.string N, .slice A1 m1 c1] rzT)).alloc (.cells #[.string ⟨#[]⟩, .slice none 0 0] rzT) := ⟨_, rfl⟩
  obtain ⟨g, hg⟩ : ∃ g, g = w.heap.size := ⟨_, rfl⟩
  obtain ⟨r, hr⟩ : ∃ g, g = w.heap.size + 1 := ⟨_, rfl⟩
  have HB0 := Lib.hid (show Below w.heap.size w W by rw [hW]; exact ((Below.refl _ _).alloc (Nat.le_refl _) _).alloc (by simp) _)
  have HW1 := Lib.hid (show Whole W g rzT #[.string N, .slice A1 m1 c1] by rw [hW, hg]; exact (Whole.new w _ _).alloc _)
  have HW2 := Lib.hid (show Whole W r rzT #[.string ⟨#[]⟩, .slice none 0 0] by
    rw [hW, hr]
    have := Whole.new (w.alloc (.cells #[.string N, .slice A1 m1 c1] rzT)) rzT #[.string ⟨#[]⟩, .slice none 0 0]
    rwa [World.size_alloc] at this)
  have HRL := Lib.hid (show w.heap.size ≤ r by omega)
  have HX := Lib.hid ((h1.keep HB0.out).more HB0.out.size)
  have HD := Lib.hid ((h2.keep HB0.out).more HB0.out.size)
  have HA := Lib.hid ((h3.keep HB0.out).more HB0.out.size)
  have HN := Lib.hid hN
  have HOK := Lib.hid ok
  have HOK2 := Lib.hid ok2
  have HOK3 := Lib.hid ok3
  have HLD := Lib.hid h2.1
  have HLA := Lib.hid h3.1
  have HC2 := Lib.hid q2
  have HC3 := Lib.hid q3
  have HWW := Lib.hid hW
  have HG := Lib.hid hg
  have HR := Lib.hid hr
  clear h1 h2 h3 q2 q3 hN ok ok2 ok3 hW hg hr
  go_enter Tryz.func19, Tryz.ntmps19
  go_wp2_with fail
  rw [← HWW.out, ← HR.out, ← HG.out]
  go_loopw [8] (fun i wr => ∃ k : Nat, k ≤ n2 ∧ i = .int .i64 (k : Nat) ∧ GoneTo D del k ∧ Below W.heap.size W wr) (fun i _ => n2 - (intOf i).toNat)
  case atStart => exact ⟨0, Nat.zero_le _, rfl, GoneTo.zero _ _, Below.refl _ _⟩
  case round =>
    obtain ⟨k, hk, rfl, hgt, hB⟩ := hrel
    have HGT := Lib.hid hgt
    have HB := Lib.hid hB
    have HWA := Lib.hid (HW1.out.below hB HW1.out.lt)
    have HWB := Lib.hid (HW2.out.below hB HW2.out.lt)
    clear hgt
    by_cases hkn : k < n2
    · have g2 : (k : Int) < (n2 : Int) := by omega
      have g0 : (0 : Int) ≤ (k : Int) := by omega
      have g3 : (k : Int) ≤ (c2 : Int) := by have := HC2.out.1; omega
      have g4 : (c2 : Int) ≤ 9223372036854775807 := by have := HC2.out.2.1; omega
      obtain ⟨b, off, x, rfl, hb, hxk, ht⟩ := (HD.out.keep hB).at hkn
      have HXK := Lib.hid hxk
      have hbl : b < wr.heap.size := Nat.lt_of_lt_of_le hb hB.size
      obtain ⟨d0, d1, d2, d3, d4⟩ := ht.later hbl
      have e1 : ∀ q : Later wr, q.val.cell? ⟨g, 1, none⟩ = some (.slice A1 m1 c1) := fun q => ((HWA.out.later q).cell 1).trans rfl
      obtain ⟨z1, hz1⟩ : ∃ z, z = hasX D x := ⟨_, rfl⟩
      have HZ1 := Lib.hid hz1
      obtain ⟨z2, hz2⟩ : ∃ z, z = hasX (del.take k) x := ⟨_, rfl⟩
      have HZ2 := Lib.hid hz2
      have HS1 := Lib.hid (show ∀ q : Later wr, Calls Tryz.prog 29 #[.slice A1 m1 c1, .agg #[.string x.s, .int .i64 x.t, .int .i64 x.c, .int .i64 x.l, .string x.d]] q.val fun e w'' => e = .returned (.bool z1) ∧ ∃ q2 : Later wr, w'' = q2.val from
        fun q => later_call (by rw [hz1]; exact RefHas_any A1 m1 c1 D x _ ((((HX.out.keep HB.out).more HB.out.size).keep q.below).more q.below.size) (by omega)))
      have HS2 := Lib.hid (show ∀ q : Later wr, Calls Tryz.prog 29 #[.slice (some ⟨b, off, none⟩) k c2, .agg #[.string x.s, .int .i64 x.t, .int .i64 x.c, .int .i64 x.l, .string x.d]] q.val fun e w'' => e = .returned (.bool z2) ∧ ∃ q2 : Later wr, w'' = q2.val from
        fun q => later_call (by rw [hz2]; exact RefHas_any (some ⟨b, off, none⟩) k c2 (del.take k) x _ (((((HD.out.keep HB.out).more HB.out.size).take (by omega)).keep q.below).more q.below.size) (by omega)))
      clear hxk ht hz1 hz2 hB
      cases z1 with
      | false =>
        have HNO := Lib.hid (show ¬ Does D del add from fun h => gone_out HXK.out (hasX_no.1 HZ1.out.symm) h.1)
        go_wp2_with fail
        refine region_later (by kernel_rfl) ?_
        repeat (go_big_quiet_step ((go_at_call 29; with_reducible first | exact HS1.out _ | exact HS2.out _)))
        refine wpQuiet_nil ?_
        rintro _ ⟨q5, rfl⟩
        have HB5 := Lib.hid (HB0.out.trans ((HB.out.trans (q5.below.mono HB.out.size)).mono HB0.out.size))
        have HWC := Lib.hid (HWB.out.later q5)
        obtain ⟨k0, k1⟩ : q5.val.cell? ⟨r, 0, none⟩ = some (.string ⟨#[]⟩) ∧ q5.val.cell? ⟨r, 1, none⟩ = some (.slice none 0 0) := ⟨(HWC.out.cell 0).trans rfl, (HWC.out.cell 1).trans rfl⟩
        have f0 := HWC.out.frozen 0
        have f1 := HWC.out.frozen 1
        go_wp2_with fail
        exact retR2 rfl rfl rfl rfl (twoR_put HWC.out _ _) ⟨.inl ⟨HNO.out, rfl⟩, twoR_below HB5.out HRL.out _ _⟩
      | true =>
        cases z2 with
        | true =>
          have HNO := Lib.hid (show ¬ Does D del add from fun h => gone_two HXK.out (hasX_is.1 HZ2.out.symm) h.1)
          go_wp2_with fail
          refine region_later (by kernel_rfl) ?_
          repeat (go_big_quiet_step ((go_at_call 29; with_reducible first | exact HS1.out _ | exact HS2.out _)))
          refine wpQuiet_nil ?_
          rintro _ ⟨q5, rfl⟩
          have HB5 := Lib.hid (HB0.out.trans ((HB.out.trans (q5.below.mono HB.out.size)).mono HB0.out.size))
          have HWC := Lib.hid (HWB.out.later q5)
          obtain ⟨k0, k1⟩ : q5.val.cell? ⟨r, 0, none⟩ = some (.string ⟨#[]⟩) ∧ q5.val.cell? ⟨r, 1, none⟩ = some (.slice none 0 0) := ⟨(HWC.out.cell 0).trans rfl, (HWC.out.cell 1).trans rfl⟩
          have f0 := HWC.out.frozen 0
          have f1 := HWC.out.frozen 1
          go_wp2_with fail
          exact retR2 rfl rfl rfl rfl (twoR_put HWC.out _ _) ⟨.inl ⟨HNO.out, rfl⟩, twoR_below HB5.out HRL.out _ _⟩
        | false =>
          have HGS := Lib.hid (HGT.out.step HXK.out (hasX_is.1 HZ1.out.symm) (hasX_no.1 HZ2.out.symm))
          go_wp2_with fail
          refine region_later (by kernel_rfl) ?_
          repeat (go_big_quiet_step ((go_at_call 29; with_reducible first | exact HS1.out _ | exact HS2.out _)))
          refine wpQuiet_nil ?_
          rintro _ ⟨q5, rfl⟩
          have HB5 := Lib.hid (HB.out.trans (q5.below.mono HB.out.size))
          go_wp2_with fail
          go_roundw
          case rel => exact ⟨k + 1, by omega, by go_num, HGS.out, HB5.out⟩
          case measure => simp [intOf]; omega
    · obtain rfl : k = n2 := by omega
      have g2 : ¬ ((k : Int) < (k : Int)) := by omega
      have HGO := Lib.hid (show Gone D del from GoneTo.all (by rw [HLD.out]; exact HGT.out))
      have HX1 := Lib.hid ((HX.out.keep hB).more hB.size)
      have HD1 := Lib.hid ((HD.out.keep hB).more hB.size)
      have HA1 := Lib.hid ((HA.out.keep hB).more hB.size)
      have HB1 := Lib.hid (HB0.out.trans (hB.mono HB0.out.size))
      have e1 : wr.cell? ⟨g, 1, none⟩ = some (.slice A1 m1 c1) := (HWA.out.cell 1).trans rfl
      clear hB HB HW1 HW2 HX HD HA
      go_wp2_with fail
      refine (RefLacks_any A1 A2 m1 c1 k c2 D del _ HX1.out HD1.out (by omega) (by omega)).mono ?_
      rintro e w3 ⟨v3, rfl, ho, hB⟩
      obtain ⟨A5, c5, rfl, hs5⟩ := own_L ho
      obtain ⟨L, hL⟩ : ∃ L, L = lackX D del := ⟨_, rfl⟩
      have HL := Lib.hid hL
      have hl5 := lackX_len D del
      rw [← hL] at hs5 hl5 ⊢
      obtain ⟨n5, hn5⟩ : ∃ n5, n5 = L.length := ⟨_, rfl⟩
      have HN5 := Lib.hid hn5
      have hn30 : n5 ≤ 30 := by have := HM1.out; omega
      rw [← hn5] at hs5 ⊢
      have HS5 := Lib.hid hs5.2.1
      have HOKL := Lib.hid (show OkL L by rw [hL]; exact HOK.out.lack)
      have HB3 := Lib.hid (HB1.out.trans (hB.mono HB1.out.size))
      have HA3 := Lib.hid ((HA1.out.keep hB).more hB.size)
      have HWA3 := Lib.hid (HWA.out.below hB HWA.out.lt)
      have HWB3 := Lib.hid (HWB.out.below hB HWB.out.lt)
      clear hL hl5 hn5 hs5 ho hB e1
      go_wp2_with fail
      go_loopw [10] (fun i wr => ∃ k : Nat, k ≤ n3 ∧ i = .int .i64 (k : Nat) ∧ AddTo L add k ∧ Below w3.heap.size w3 wr) (fun i _ => n3 - (intOf i).toNat)
      case atStart => exact ⟨0, Nat.zero_le _, rfl, AddTo.zero _ _, Below.refl _ _⟩
      case round =>
        obtain ⟨j, hj, rfl, hat, hB⟩ := hrel
        have HAT := Lib.hid hat
        have HB := Lib.hid hB
        have HWA4 := Lib.hid (HWA3.out.below hB HWA3.out.lt)
        have HWB4 := Lib.hid (HWB3.out.below hB HWB3.out.lt)
        clear hat
        by_cases hjn : j < n3
        · have g2 : (j : Int) < (n3 : Int) := by omega
          have g0 : (0 : Int) ≤ (j : Int) := by omega
          have g3 : (j : Int) ≤ (c3 : Int) := by have := HC3.out.1; omega
          have g4 : (c3 : Int) ≤ 9223372036854775807 := by have := HC3.out.2.1; omega
          obtain ⟨b, off, x, rfl, hb, hxk, ht⟩ := (HA3.out.keep hB).at hjn
          have HXK := Lib.hid hxk
          have HXO := Lib.hid (HOK3.out.at hxk)
          have hbl : b < wr.heap.size := Nat.lt_of_lt_of_le hb hB.size
          obtain ⟨d0, d1, d2, d3, d4⟩ := ht.later hbl
          obtain ⟨z1, hz1⟩ : ∃ z, z = oneL L x := ⟨_, rfl⟩
          have HZ1 := Lib.hid hz1
          obtain ⟨z2, hz2⟩ : ∃ z, z = oneL (add.take j) x := ⟨_, rfl⟩
          have HZ2 := Lib.hid hz2
          have HS1 := Lib.hid (show ∀ q : Later wr, Calls Tryz.prog 40 #[.slice A5 n5 c5, .agg #[.string x.s, .int .i64 x.t, .int .i64 x.c, .int .i64 x.l, .string x.d]] q.val fun e w'' => e = .returned (.bool z1) ∧ ∃ q2 : Later wr, w'' = q2.val from
            fun q => later_call (by rw [hz1]; exact RefOneL_any A5 n5 c5 L x _ ((((HS5.out.keep HB.out).more HB.out.size).keep q.below).more q.below.size) HOKL.out HXO.out (by omega)))
          have HS2 := Lib.hid (show ∀ q : Later wr, Calls Tryz.prog 40 #[.slice (some ⟨b, off, none⟩) j c3, .agg #[.string x.s, .int .i64 x.t, .int .i64 x.c, .int .i64 x.l, .string x.d]] q.val fun e w'' => e = .returned (.bool z2) ∧ ∃ q2 : Later wr, w'' = q2.val from
            fun q => later_call (by rw [hz2]; exact RefOneL_any (some ⟨b, off, none⟩) j c3 (add.take j) x _ (((((HA3.out.keep HB.out).more HB.out.size).take (by omega)).keep q.below).more q.below.size) (fun y hy => HOK3.out y (List.mem_of_mem_take hy)) HXO.out (by omega)))
          clear hxk ht hz1 hz2 hB
          cases z1 with
          | true =>
            have HNO := Lib.hid (show ¬ Does D del add from fun h => add_out (L := L) HXK.out HZ1.out.symm (by rw [HL.out]; exact h.2))
            go_wp2_with fail
            refine region_later (by kernel_rfl) ?_
            repeat (go_big_quiet_step ((go_at_call 40; with_reducible first | exact HS1.out _ | exact HS2.out _)))
            refine wpQuiet_nil ?_
            rintro _ ⟨q5, rfl⟩
            have HB5 := Lib.hid (HB3.out.trans ((HB.out.trans (q5.below.mono HB.out.size)).mono HB3.out.size))
            have HWC := Lib.hid (HWB4.out.later q5)
            obtain ⟨k0, k1⟩ : q5.val.cell? ⟨r, 0, none⟩ = some (.string ⟨#[]⟩) ∧ q5.val.cell? ⟨r, 1, none⟩ = some (.slice none 0 0) := ⟨(HWC.out.cell 0).trans rfl, (HWC.out.cell 1).trans rfl⟩
            have f0 := HWC.out.frozen 0
            have f1 := HWC.out.frozen 1
            go_wp2_with fail
            exact retR2 rfl rfl rfl rfl (twoR_put HWC.out _ _) ⟨.inl ⟨HNO.out, rfl⟩, twoR_below HB5.out HRL.out _ _⟩
          | false =>
            cases z2 with
            | true =>
              have HNO := Lib.hid (show ¬ Does D del add from fun h => add_two (L := L) HXK.out HZ2.out.symm (by rw [HL.out]; exact h.2))
              go_wp2_with fail
              refine region_later (by kernel_rfl) ?_
              repeat (go_big_quiet_step ((go_at_call 40; with_reducible first | exact HS1.out _ | exact HS2.out _)))
              refine wpQuiet_nil ?_
              rintro _ ⟨q5, rfl⟩
              have HB5 := Lib.hid (HB3.out.trans ((HB.out.trans (q5.below.mono HB.out.size)).mono HB3.out.size))
              have HWC := Lib.hid (HWB4.out.later q5)
              obtain ⟨k0, k1⟩ : q5.val.cell? ⟨r, 0, none⟩ = some (.string ⟨#[]⟩) ∧ q5.val.cell? ⟨r, 1, none⟩ = some (.slice none 0 0) := ⟨(HWC.out.cell 0).trans rfl, (HWC.out.cell 1).trans rfl⟩
              have f0 := HWC.out.frozen 0
              have f1 := HWC.out.frozen 1
              go_wp2_with fail
              exact retR2 rfl rfl rfl rfl (twoR_put HWC.out _ _) ⟨.inl ⟨HNO.out, rfl⟩, twoR_below HB5.out HRL.out _ _⟩
            | false =>
              have HAS := Lib.hid (HAT.out.step HXK.out HZ1.out.symm HZ2.out.symm)
              go_wp2_with fail
              refine region_later (by kernel_rfl) ?_
              repeat (go_big_quiet_step ((go_at_call 40; with_reducible first | exact HS1.out _ | exact HS2.out _)))
              refine wpQuiet_nil ?_
              rintro _ ⟨q5, rfl⟩
              have HB5 := Lib.hid (HB.out.trans (q5.below.mono HB.out.size))
              go_wp2_with fail
              go_roundw
              case rel => exact ⟨j + 1, by omega, by go_num, HAS.out, HB5.out⟩
              case measure => simp [intOf]; omega
        · obtain rfl : j = n3 := by omega
          have g2 : ¬ ((j : Int) < (j : Int)) := by omega
          have HDO := Lib.hid (show Does D del add from ⟨HGO.out, by rw [← HL.out]; exact AddTo.all (by rw [HLA.out]; exact HAT.out)⟩)
          have HX4 := Lib.hid ((HA3.out.keep hB).more hB.size)
          have HS4 := Lib.hid ((HS5.out.keep hB).more hB.size)
          have HB4 := Lib.hid (HB3.out.trans (hB.mono HB3.out.size))
          obtain ⟨w4, hw4⟩ : ∃ w4, w4 = wr := ⟨_, rfl⟩
          rw [← hw4] at HX4 HS4 HB4 HWA4 HWB4 ⊢
          clear hw4 hB HB
          have HOE := Lib.hid (own_keep (own_noneR w4 w4.heap.size (Nat.le_refl _)) (Below.refl _ _).drew)
          have HBE := Lib.hid (show Below w4.heap.size w4 (w4.alloc (.cells #[] 26)).drew from ((Below.refl _ _).alloc (Nat.le_refl _) _).drew)
          have e0 : ∀ w', Below w4.heap.size w4 w' → w'.cell? ⟨g, 0, none⟩ = some (.string N) := fun w' h => (h.cell HWA4.out.lt).trans ((HWA4.out.cell 0).trans rfl)
          have hll : L.length + add.length ≤ 60 := by have := HN5.out; have := HLA.out; omega
          have HLL := Lib.hid hll
          obtain ⟨K, hK⟩ : ∃ K, K = codeZ nn (L ++ add) := ⟨_, rfl⟩
          have HK := Lib.hid hK
          have HCN := Lib.hid (show ∀ (A : Option Addr) (c : Nat) (w : World), SeesR w w.heap.size A (n5 + j) (L ++ add) → Calls Tryz.prog 11 #[.string N, .slice A (n5 + j) c] w fun e w' => (∃ N' A' m' c', e = .returned (.tuple #[.agg #[.string N', .slice A' m' c'], .int .i64 K]) ∧ RNew w' N nn (L ++ add) N' A' m' c') ∧ Below w.heap.size w w' from fun A c w hx => by
            rw [hK]
            exact RefNewU_any A (n5 + j) c N nn (L ++ add) w HN.out hx (by have := HLL.out; have := HN5.out; have := HLA.out; omega) (OkL.low fun x hx => (List.mem_append.1 hx).elim (HOKL.out x) (HOK3.out x)))
          have HGR := Lib.hid (show g ≠ r by rw [HG.out, HR.out]; omega)
          have hgr : g ≠ r := HGR.out
          have hrg : r ≠ g := fun e => HGR.out e.symm
          have b0 : w4.cell? ⟨g, 0, none⟩ = some (.string N) := e0 _ (Below.refl _ _)
          have b1 : w4.drew.cell? ⟨g, 0, none⟩ = some (.string N) := e0 _ (Below.refl _ _).drew
          have b2 : (w4.alloc (.cells #[] 26)).drew.cell? ⟨g, 0, none⟩ = some (.string N) := e0 _ HBE.out
          have b3 : (w4.drew.alloc (.cells #[] 26)).cell? ⟨g, 0, none⟩ = some (.string N) := e0 _ HBE.out
          clear hK hgr
          go_wp2_with fail
          go_region_held3 (fun w' => w'.cell? ⟨g, 0, none⟩ = some (.string N)) (go_keep) (first
            | (refine step_append_R (by rfl) (.tmp 65) (.tmp 66) (by rfl) w4.heap.size (.slice (some ⟨w4.heap.size, 0, none⟩) 0 0) 0 [] (by rfl) HOE.out (by simp) w4.heap.size _ n5 _ L (by rfl) (HS4.out.keep HBE.out) n5 (Nat.zero_add _) (rcells L) (by rfl) (by omega) HBE.out.size ?_; intro v1 w6 hown1 hgrow1 hne1; have HB6 := Lib.hid (HBE.out.grown hgrow1 HBE.out.size (own_block_ge HOE.out)); have HO1 := Lib.hid hown1; have HN1 := Lib.hid hne1; have b6 := e0 w6 HB6.out; clear hown1 hgrow1 hne1)
            | (refine step_append_R (by rfl) (.tmp 67) (.tmp 68) (by rfl) w4.heap.size v1 n5 (rcells L) (by rfl) HO1.out HN1.out w4.heap.size _ j _ add (by rfl) (HX4.out.keep HB6.out) (n5 + j) rfl (rcells (L ++ add)) (by rw [rcells_append]) (by omega) HB6.out.size ?_; intro v2 w7 hown2 hgrow2 hne2; have HB7 := Lib.hid (HB6.out.grown hgrow2 HB6.out.size (own_block_ge HO1.out)); have b7 := e0 w7 HB7.out; obtain ⟨A8, c8, rfl, hs8⟩ := own_L hown2; clear hown2 hgrow2 hne2)
            | (go_at_call 11; (refine (HCN.out A8 c8 _ hs8.2.1).mono ?_; rintro e w8 ⟨⟨N', A', m', c', rfl, hr8⟩, hB8⟩; have HB8 := Lib.hid (HB7.out.trans (hB8.mono HB7.out.size)); have HR8 := Lib.hid hr8; have b8 := e0 w8 HB8.out; have HWC := Lib.hid (HWB4.out.below HB8.out HWB4.out.lt); have f0 := HWC.out.frozen 0; have f1 := HWC.out.frozen 1; obtain ⟨k0, k1⟩ : w8.cell? ⟨r, 0, none⟩ = some (.string ⟨#[]⟩) ∧ w8.cell? ⟨r, 1, none⟩ = some (.slice none 0 0) := ⟨(HWC.out.cell 0).trans rfl, (HWC.out.cell 1).trans rfl⟩; clear hr8 hB8)))
          all_goals (
            clear b0 b1 b2 b3 b6 b7 b8 e0
            go_wp2_with fail
            refine retR2 rfl rfl rfl rfl (twoR_put HWC.out _ _) ⟨.inr ⟨HDO.out, ?_⟩, twoR_below (HB4.out.trans (HB8.out.mono HB4.out.size)) HRL.out _ _⟩
            rw [← HL.out]
            exact rnew_out HR8.out HK.out HWC.out (fun x hx => (List.mem_append.1 hx).elim (HOKL.out x) (HOK3.out x)))
end Go.Proofs.YtaijcoiepfjecaaGreat
