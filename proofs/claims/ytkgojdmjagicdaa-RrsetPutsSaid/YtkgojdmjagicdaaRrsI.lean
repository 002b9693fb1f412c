/- The reference's find, Drop, Find. No statement of the seat is proved here. (written by gen_i.py) -/
import Derived.Test.YtkgojdmjagicdaaRrsG
import Derived.Test.YtkgojdmjagicdaaRrsH
import Derived.Deep.RegionHeld3
namespace Go.Proofs.Ytkgojdmjagicdaa
open Go.RowKit Go.Op

theorem idxX_step {r x : Rrd} {xs : List Rrd} {k : Nat} (hx : xs[k]? = some x) : idxX cmpX r (xs.drop k) = if cmpX x r = 0 then 0 else idxX cmpX r (xs.drop (k + 1)) + 1 := by
  obtain ⟨l1, rfl⟩ := List.getElem?_eq_some_iff.1 hx
  rw [List.drop_eq_getElem_cons l1, idxX]
/-- the place of the record that is one with r, or -1 -/
def plX (r : Rrd) (xs : List Rrd) : Int := if hitX cmpX r xs = true then (posX cmpX r xs : Nat) else -1

set_option maxHeartbeats 8000000 in
set_option maxRecDepth 20000 in
theorem Reffind_any (A : Option Addr) (n c : Nat) (xs : List Rrd) (r : Rrd) (w : World) (hx : SeesR w w.heap.size A n xs) (hok : OkL xs) (hr : OkX r) (hs : SetL cmpX xs) (hn : n ≤ 1000000) :
    Calls Try.prog 21 #[.slice A n c, .agg #[.string r.s, .int .i64 r.t, .int .i64 r.c, .int .i64 r.l, .string r.d]] w fun e w' => e = .returned (.int .i64 (plX r xs)) ∧ Below w.heap.size w w' := by
  obtain ⟨W, hW⟩ : ∃ W, W = w.alloc (.cells #[.string r.s, .int .i64 r.t, .int .i64 r.c, .int .i64 r.l, .string r.d] 24) := ⟨_, rfl⟩
  obtain ⟨g, hg⟩ : ∃ g, g = w.heap.size := ⟨_, rfl⟩
  have HB0 := Lib.hid (show Below w.heap.size w W by rw [hW]; exact (Below.refl _ _).alloc (Nat.le_refl _) _)
  have HBX := Lib.hid (show Five W g 0 r by rw [hW, hg]; exact box_five w r)
  have HGL := Lib.hid (show g < W.heap.size by rw [hW, hg]; simp)
  have HX := Lib.hid ((hx.keep HB0.out).more HB0.out.size)
  have HN := Lib.hid hx.1
  have HOK := Lib.hid hok
  have HR := Lib.hid hr
  have HI := Lib.hid (idxX_set ordX hr xs hok hs)
  have HW := Lib.hid hW
  have HG := Lib.hid hg
  clear hW hg hx hok hr hs
  go_enter Try.func21, Try.ntmps21
  go_wp2_with fail
  rw [← HW.out, ← HG.out]
  go_loopw [5] (fun i wr => ∃ k : Nat, k ≤ n ∧ i = .int .i64 (k : Nat) ∧ idxX cmpX r xs = k + idxX cmpX r (xs.drop k) ∧ Below W.heap.size W wr) (fun i _ => n - (intOf i).toNat)
  case atStart => exact ⟨0, Nat.zero_le _, rfl, by rw [List.drop_zero]; omega, Below.refl _ _⟩
  case round =>
    obtain ⟨k, hk, rfl, hI, hB⟩ := hrel
    have HJ := Lib.hid hI
    have HB := Lib.hid hB
    clear hI hB
    by_cases hkn : k < n
    · have g2 : (k : Int) < (n : Int) := by omega
      have g0 : (0 : Int) ≤ (k : Int) := by omega
      obtain ⟨b, off, x, rfl, hb, hxk, ht⟩ := (HX.out.keep HB.out).at hkn
      obtain ⟨p0, p1, p2, p3, p4⟩ := (HBX.out.keep HB.out HGL.out).later (Nat.lt_of_lt_of_le HGL.out HB.out.size)
      obtain ⟨q0, q1, q2, q3, q4⟩ := ht.later (Nat.lt_of_lt_of_le hb HB.out.size)
      have hst := idxX_step (r := r) hxk
      obtain ⟨z, hz⟩ : ∃ z, z = decide (cmpX x r = 0) := ⟨_, rfl⟩
      have HC := Lib.hid (show ∀ q : Later wr, Calls Try.prog 31 #[.agg #[.string x.s, .int .i64 x.t, .int .i64 x.c, .int .i64 x.l, .string x.d], .agg #[.string r.s, .int .i64 r.t, .int .i64 r.c, .int .i64 r.l, .string r.d]] q.val fun e w'' => e = .returned (.bool z) ∧ ∃ q' : Later wr, w'' = q'.val from
        fun q => later_call (by rw [hz]; exact refone_any (HOK.out.at hxk) HR.out _))
      clear ht hxk
      cases z with
      | true =>
        have h0 : cmpX x r = 0 := of_decide_eq_true hz.symm
        have HP := Lib.hid (show plX r xs = (k : Nat) by
          have h1 := HI.out
          rw [HJ.out, hst, if_pos h0] at h1
          unfold plX
          by_cases hh : hitX cmpX r xs = true
          · rw [if_pos hh] at h1 ⊢; omega
          · rw [if_neg hh] at h1; have := HN.out; omega)
        clear hz hst h0
        go_wp2_with fail
        refine region_later (by kernel_rfl) ?_
        repeat (go_big_quiet_step ((go_at_call 31; with_reducible exact HC.out _)))
        refine wpQuiet_nil ?_
        rintro _ ⟨r2, rfl⟩
        have HB2 := Lib.hid (HB.out.trans (r2.below.mono HB.out.size))
        clear p0 p1 p2 p3 p4 q0 q1 q2 q3 q4
        go_wp2_with fail
        go_ret
        exact ⟨by rw [HP.out]; rfl, HB0.out.trans (HB2.out.mono HB0.out.size)⟩
      | false =>
        have h0 : cmpX x r ≠ 0 := of_decide_eq_false hz.symm
        have HP := Lib.hid (show idxX cmpX r xs = (k + 1) + idxX cmpX r (xs.drop (k + 1)) by rw [HJ.out, hst, if_neg h0]; omega)
        clear hz hst h0
        go_wp2_with fail
        refine region_later (by kernel_rfl) ?_
        repeat (go_big_quiet_step ((go_at_call 31; with_reducible exact HC.out _)))
        refine wpQuiet_nil ?_
        rintro _ ⟨r2, rfl⟩
        have HB2 := Lib.hid (HB.out.trans (r2.below.mono HB.out.size))
        clear p0 p1 p2 p3 p4 q0 q1 q2 q3 q4
        go_wp2_with fail
        go_roundw
        case rel => exact ⟨k + 1, by omega, by go_num, HP.out, HB2.out⟩
        case measure => simp [intOf]; omega
    · obtain rfl : k = n := by omega
      have HP := Lib.hid (show plX r xs = -1 by
        have h1 := HI.out
        rw [HJ.out, List.drop_of_length_le (Nat.le_of_eq HN.out)] at h1
        unfold plX
        by_cases hh : hitX cmpX r xs = true
        · have h2 := hitX_lt r xs hh
          rw [if_pos hh] at h1
          have := HN.out
          simp only [idxX] at h1
          omega
        · rw [if_neg hh])
      go_wp2_with fail
      go_ret
      exact ⟨by rw [HP.out]; rfl, HB0.out.trans (HB.out.mono HB0.out.size)⟩

set_option maxHeartbeats 8000000 in
set_option maxRecDepth 20000 in
theorem RefDrop_miss (A : Option Addr) (n c : Nat) (xs : List Rrd) (r : Rrd) (w : World) (hx : SeesR w w.heap.size A n xs) (hok : OkL xs) (hr : OkX r) (hs : SetL cmpX xs) (hn : n ≤ 1000000) (hit : hitX cmpX r xs = false) :
    Calls Try.prog 12 #[.slice A n c, .agg #[.string r.s, .int .i64 r.t, .int .i64 r.c, .int .i64 r.l, .string r.d]] w fun e w' => e = .returned (.tuple #[.slice A n c, .bool false]) ∧ Below w.heap.size w w' := by
  have HB0 := Lib.hid (show Below w.heap.size w (w.alloc (.cells #[.string r.s, .int .i64 r.t, .int .i64 r.c, .int .i64 r.l, .string r.d] 24)) from (Below.refl _ _).alloc (Nat.le_refl _) _)
  obtain ⟨p0, p1, p2, p3, p4⟩ := box_five w r
  have HX := Lib.hid ((hx.keep HB0.out).more HB0.out.size)
  have HOK := Lib.hid hok
  have HR := Lib.hid hr
  have HS := Lib.hid hs
  have HP := Lib.hid (show plX r xs = -1 by unfold plX; rw [hit]; rfl)
  clear hx hok hr hs hit
  go_enter Try.func12, Try.ntmps12
  go_wp2_with fail
  refine (Reffind_any _ n _ xs r _ HX.out HOK.out HR.out HS.out hn).mono ?_
  rw [HP.out]
  rintro e w1 ⟨rfl, hB⟩
  have HB1 := Lib.hid (HB0.out.trans (hB.mono HB0.out.size))
  clear hB p0 p1 p2 p3 p4
  go_wp2_with fail
  go_ret2
  exact ⟨rfl, HB1.out⟩

set_option maxHeartbeats 8000000 in
set_option maxRecDepth 20000 in
theorem RefDrop_hit (b off n c : Nat) (xs : List Rrd) (r : Rrd) (w : World) (hx : SeesR w w.heap.size (some ⟨b, off, none⟩) n xs) (hcap : n ≤ c) (hok : OkL xs) (hr : OkX r) (hs : SetL cmpX xs) (hn : n ≤ 1000000) (hit : hitX cmpX r xs = true) :
    Calls Try.prog 12 #[.slice (some ⟨b, off, none⟩) n c, .agg #[.string r.s, .int .i64 r.t, .int .i64 r.c, .int .i64 r.l, .string r.d]] w fun e w' =>
      ∃ v, e = .returned (.tuple #[v, .bool true]) ∧ w'.ownsRow w.heap.size 24 5 v (dropX cmpX r xs).length (rcells (dropX cmpX r xs)) ∧ Below w.heap.size w w' := by
  obtain ⟨p, hp⟩ : ∃ p, p = posX cmpX r xs := ⟨_, rfl⟩
  have hpn : p < n := by have := hitX_lt r xs hit; rw [hx.1] at this; omega
  have hput : dropX cmpX r xs = xs.take p ++ xs.drop (p + 1) := by rw [dropX_is, hit, ← hp]; rfl
  have HB0 := Lib.hid (show Below w.heap.size w (w.alloc (.cells #[.string r.s, .int .i64 r.t, .int .i64 r.c, .int .i64 r.l, .string r.d] 24)) from (Below.refl _ _).alloc (Nat.le_refl _) _)
  obtain ⟨p0, p1, p2, p3, p4⟩ := box_five w r
  have HX0 := Lib.hid hx
  have HX := Lib.hid ((hx.keep HB0.out).more HB0.out.size)
  have HOK := Lib.hid hok
  have HR := Lib.hid hr
  have HS := Lib.hid hs
  have HP := Lib.hid (show plX r xs = (p : Nat) by unfold plX; rw [hit, ← hp]; rfl)
  have HPUT := Lib.hid hput
  have g0 : (0 : Int) ≤ (p : Int) := by omega
  have g1 : (p : Int) < (n : Int) := by omega
  have g2 : (p : Int) ≤ (n : Int) := by omega
  have g3 : (n : Int) ≤ (c : Int) := by omega
  have g4 : (p : Int) ≤ (c : Int) := by omega
  have g5 : (p : Int) + 1 ≤ (n : Int) := by omega
  have g6 : (0 : Int) ≤ (p : Int) + 1 := by omega
  have g7 : (p : Int) ≤ (p : Int) + 1 := by omega
  have g8 : IntKind.i64.wrap ((p : Int) + 1) = (p : Int) + 1 := by simp [IntKind.wrap, IntKind.bits, IntKind.signed]; omega
  have g9 : ((p : Int) + 1).toNat = p + 1 := by omega
  have HT := Lib.hid (show SeesR w w.heap.size (some ⟨b, off, none⟩) p (xs.take p) from HX0.out.take (by omega))
  have HLEN := Lib.hid (show (xs.take p ++ xs.drop (p + 1)).length ≤ 1073741824 by
    have := HX0.out.1
    simp
    omega)
  clear hx hok hr hs hit hp hput
  by_cases hcc : c = p + 1
  · subst hcc
    have H2 := Lib.hid (show SeesR w w.heap.size (some ⟨b, off, none⟩) (0) (xs.drop (p + 1)) from seesR_none rfl (by rw [HX0.out.1]; omega))
    go_enter Try.func12, Try.ntmps12
    go_wp2_with fail
    refine (Reffind_any _ n _ xs r _ HX.out HOK.out HR.out HS.out hn).mono ?_
    rw [HP.out]
    rintro e w1 ⟨rfl, hB⟩
    have HB1 := Lib.hid (HB0.out.trans (hB.mono HB0.out.size))
    have HOE := Lib.hid (own_keep (own_noneR w1 w.heap.size HB1.out.size) (Below.refl _ _).drew)
    have HBE := Lib.hid (show Below w.heap.size w (w1.alloc (.cells #[] 24)).drew from (HB1.out.alloc HB1.out.size _).drew)
    clear hB p0 p1 p2 p3 p4
    go_wp2_with fail
    go_region_held3 (fun _ => True) (trivial) (first
      | (refine step_append_R (by rfl) (.tmp 13) (.tmp 16) (by rfl) w.heap.size (.slice (some ⟨w1.heap.size, 0, none⟩) 0 0) 0 [] (by rfl) HOE.out (by simp) w.heap.size _ p _ (xs.take p) (by rfl) (HT.out.keep HBE.out) p (Nat.zero_add _) (rcells (xs.take p)) (by rfl) (by omega) HBE.out.size ?_; intro v1 w2 hown1 hgrow1 hne1; have HB2 := Lib.hid (HBE.out.grown hgrow1 HBE.out.size (own_block_ge HOE.out)); have HO1 := Lib.hid hown1; have HN1 := Lib.hid hne1; clear hown1 hgrow1 hne1)
      | (refine step_append_R (by rfl) (.tmp 17) (.tmp 21) (by rfl) w.heap.size v1 p (rcells (xs.take p)) (by rfl) HO1.out HN1.out w.heap.size _ (0) _ (xs.drop (p + 1)) (by rfl) (H2.out.keep HB2.out) (p + (0)) rfl (rcells (xs.take p ++ xs.drop (p + 1))) (by rw [rcells_append]) (by omega) HB2.out.size ?_; intro v2 w3 hown2 hgrow2 hne2; have HB3 := Lib.hid (HB2.out.grown hgrow2 HB2.out.size (own_block_ge HO1.out)); have HO2 := Lib.hid hown2; clear hown2 hgrow2 hne2))
    all_goals (
      have HO3 := Lib.hid (show w3.ownsRow w.heap.size 24 5 v2 (dropX cmpX r xs).length (rcells (dropX cmpX r xs)) by
        rw [HPUT.out]
        have e := HX.out.1
        have k : (xs.take p ++ xs.drop (p + 1)).length = p + (0) := by simp; omega
        rw [k]
        exact HO2.out)
      go_wp2_with fail
      go_ret2
      exact ⟨v2, rfl, HO3.out, HB3.out⟩)
  · have H2 := Lib.hid (show SeesR w w.heap.size (some ⟨b, off + (p + 1) * 5, none⟩) (n - (p + 1)) (xs.drop (p + 1)) from HX0.out.drop (by omega))
    go_enter Try.func12, Try.ntmps12
    go_wp2_with fail
    refine (Reffind_any _ n _ xs r _ HX.out HOK.out HR.out HS.out hn).mono ?_
    rw [HP.out]
    rintro e w1 ⟨rfl, hB⟩
    have HB1 := Lib.hid (HB0.out.trans (hB.mono HB0.out.size))
    have HOE := Lib.hid (own_keep (own_noneR w1 w.heap.size HB1.out.size) (Below.refl _ _).drew)
    have HBE := Lib.hid (show Below w.heap.size w (w1.alloc (.cells #[] 24)).drew from (HB1.out.alloc HB1.out.size _).drew)
    clear hB p0 p1 p2 p3 p4
    go_wp2_with fail
    go_region_held3 (fun _ => True) (trivial) (first
      | (refine step_append_R (by rfl) (.tmp 13) (.tmp 16) (by rfl) w.heap.size (.slice (some ⟨w1.heap.size, 0, none⟩) 0 0) 0 [] (by rfl) HOE.out (by simp) w.heap.size _ p _ (xs.take p) (by rfl) (HT.out.keep HBE.out) p (Nat.zero_add _) (rcells (xs.take p)) (by rfl) (by omega) HBE.out.size ?_; intro v1 w2 hown1 hgrow1 hne1; have HB2 := Lib.hid (HBE.out.grown hgrow1 HBE.out.size (own_block_ge HOE.out)); have HO1 := Lib.hid hown1; have HN1 := Lib.hid hne1; clear hown1 hgrow1 hne1)
      | (refine step_append_R (by rfl) (.tmp 17) (.tmp 21) (by rfl) w.heap.size v1 p (rcells (xs.take p)) (by rfl) HO1.out HN1.out w.heap.size _ (n - (p + 1)) _ (xs.drop (p + 1)) (by rfl) (H2.out.keep HB2.out) (p + (n - (p + 1))) rfl (rcells (xs.take p ++ xs.drop (p + 1))) (by rw [rcells_append]) (by omega) HB2.out.size ?_; intro v2 w3 hown2 hgrow2 hne2; have HB3 := Lib.hid (HB2.out.grown hgrow2 HB2.out.size (own_block_ge HO1.out)); have HO2 := Lib.hid hown2; clear hown2 hgrow2 hne2))
    all_goals (
      have HO3 := Lib.hid (show w3.ownsRow w.heap.size 24 5 v2 (dropX cmpX r xs).length (rcells (dropX cmpX r xs)) by
        rw [HPUT.out]
        have e := HX.out.1
        have k : (xs.take p ++ xs.drop (p + 1)).length = p + (n - (p + 1)) := by simp; omega
        rw [k]
        exact HO2.out)
      go_wp2_with fail
      go_ret2
      exact ⟨v2, rfl, HO3.out, HB3.out⟩)

set_option maxHeartbeats 8000000 in
set_option maxRecDepth 20000 in
theorem RefFind_any (A : Option Addr) (n c : Nat) (xs : List Rrd) (r : Rrd) (w : World) (hx : SeesR w w.heap.size A n xs) (hok : OkL xs) (hr : OkX r) (hs : SetL cmpX xs) (hn : n ≤ 1000000) :
    Calls Try.prog 13 #[.slice A n c, .agg #[.string r.s, .int .i64 r.t, .int .i64 r.c, .int .i64 r.l, .string r.d]] w fun e w' =>
      ∃ x, x = (findX cmpX r xs).getD zeroR ∧ e = .returned (.tuple #[.agg #[.string x.s, .int .i64 x.t, .int .i64 x.c, .int .i64 x.l, .string x.d], .bool (hitX cmpX r xs)]) ∧ Below w.heap.size w w' := by
  obtain ⟨W, hW⟩ : ∃ W, W = ((w.alloc (.cells #[.string r.s, .int .i64 r.t, .int .i64 r.c, .int .i64 r.l, .string r.d] 24)).alloc (.cells #[.string ⟨#[]⟩, .int .i64 0, .int .i64 0, .int .i64 0, .string ⟨#[]⟩] 24)) := ⟨_, rfl⟩
  have hsz : W.heap.size = w.heap.size + 1 + 1 := by rw [hW]; simp
  have HB0 := Lib.hid (show Below w.heap.size w W by rw [hW]; exact ((Below.refl _ _).alloc (Nat.le_refl _) _).alloc (by simp) _)
  have HBX := Lib.hid (show Five W w.heap.size 0 r by rw [hW]; exact (box_five w r).keep ((Below.refl _ _).alloc (Nat.le_refl _) _) (by simp))
  have HZ := Lib.hid (show Whole W (w.heap.size + 1) 24 #[.string ⟨#[]⟩, .int .i64 0, .int .i64 0, .int .i64 0, .string ⟨#[]⟩] by
    rw [hW]
    have h := Whole.new (w.alloc (.cells #[.string r.s, .int .i64 r.t, .int .i64 r.c, .int .i64 r.l, .string r.d] 24)) 24 #[.string ⟨#[]⟩, .int .i64 0, .int .i64 0, .int .i64 0, .string ⟨#[]⟩]
    rw [World.size_alloc] at h
    exact h)
  obtain ⟨p0, p1, p2, p3, p4⟩ := HBX.out
  have HW := Lib.hid hW
  have HX0 := Lib.hid hx
  have HX := Lib.hid ((hx.keep HB0.out).more HB0.out.size)
  have HOK := Lib.hid hok
  have HR := Lib.hid hr
  have HS := Lib.hid hs
  have HSZ := Lib.hid hsz
  have hfi := findX_is (cmp := cmpX) r xs
  clear hx hok hr hs hW hsz
  cases hit : hitX cmpX r xs with
  | false =>
    rw [hit] at hfi
    have HFI := Lib.hid (show findX cmpX r xs = none by rw [hfi]; rfl)
    have HP := Lib.hid (show plX r xs = -1 by unfold plX; rw [hit]; rfl)
    clear hfi hit
    go_enter Try.func13, Try.ntmps13
    rw [HW.out] at p0 p1 p2 p3 p4
    go_wp2_with fail
    rw [← HW.out]
    refine (Reffind_any _ n _ xs r _ HX.out HOK.out HR.out HS.out hn).mono ?_
    rw [HP.out]
    rintro e w1 ⟨rfl, hB⟩
    have HB1 := Lib.hid (HB0.out.trans (hB.mono HB0.out.size))
    have hz := HZ.out.below hB (by rw [HSZ.out]; omega)
    have hl := hz.lt
    have HZ1 := Lib.hid hz
    clear hB p0 p1 p2 p3 p4 hz
    obtain ⟨z0, z1, z2, z3, z4⟩ := rr_facts (show Whole w1 (w.heap.size + 1) rrT (rrA ⟨#[]⟩ ⟨#[]⟩ 0 0 0) from HZ1.out)
    have f0 := HZ1.out.frozen 0
    have f1 := HZ1.out.frozen 1
    have f2 := HZ1.out.frozen 2
    have f3 := HZ1.out.frozen 3
    have f4 := HZ1.out.frozen 4
    go_wp2_with fail
    refine ret52 rfl rfl rfl rfl (five_put HZ1.out _ _ _ _ _) ⟨zeroR, by rw [HFI.out]; rfl, rfl, ?_⟩
    exact HB1.out.trans ((below5 w1 (w.heap.size + 1) _ _ _ _ _).mono (by omega))
  | true =>
    rw [hit] at hfi
    obtain ⟨p, hp⟩ : ∃ p, p = posX cmpX r xs := ⟨_, rfl⟩
    have hpn : p < n := by have := hitX_lt r xs hit; rw [HX0.out.1] at this; omega
    obtain ⟨b, off, x, hA, hb, hxp, hfx⟩ := HX0.out.at hpn
    subst hA
    have HFI := Lib.hid (show findX cmpX r xs = some x by rw [hfi, if_pos rfl, ← hp, hxp])
    have HP := Lib.hid (show plX r xs = (p : Nat) by unfold plX; rw [hit, ← hp]; rfl)
    have HFX := Lib.hid hfx
    have g0 : (0 : Int) ≤ (p : Int) := by omega
    have g1 : (p : Int) < (n : Int) := by omega
    clear hxp hfx hp
    clear hfi hit
    go_enter Try.func13, Try.ntmps13
    rw [HW.out] at p0 p1 p2 p3 p4
    go_wp2_with fail
    rw [← HW.out]
    refine (Reffind_any _ n _ xs r _ HX.out HOK.out HR.out HS.out hn).mono ?_
    rw [HP.out]
    rintro e w1 ⟨rfl, hB⟩
    have HB1 := Lib.hid (HB0.out.trans (hB.mono HB0.out.size))
    have hz := HZ.out.below hB (by rw [HSZ.out]; omega)
    have hl := hz.lt
    have HZ1 := Lib.hid hz
    obtain ⟨q0, q1, q2, q3, q4⟩ := HFX.out.keep HB1.out hb
    clear hB p0 p1 p2 p3 p4 hz
    obtain ⟨z0, z1, z2, z3, z4⟩ := rr_facts (show Whole w1 (w.heap.size + 1) rrT (rrA ⟨#[]⟩ ⟨#[]⟩ 0 0 0) from HZ1.out)
    have f0 := HZ1.out.frozen 0
    have f1 := HZ1.out.frozen 1
    have f2 := HZ1.out.frozen 2
    have f3 := HZ1.out.frozen 3
    have f4 := HZ1.out.frozen 4
    go_wp2_with fail
    refine ret52 rfl rfl rfl rfl (five_put HZ1.out _ _ _ _ _) ⟨x, by rw [HFI.out]; rfl, rfl, ?_⟩
    exact HB1.out.trans ((below5 w1 (w.heap.size + 1) _ _ _ _ _).mono (by omega))
end Go.Proofs.Ytkgojdmjagicdaa
