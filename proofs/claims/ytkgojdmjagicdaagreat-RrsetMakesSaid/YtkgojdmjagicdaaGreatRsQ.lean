/- The reference's Of, in, Alike; the sets as lists under the order. No statement of the seat is proved here. -/
import Derived.Test.YtkgojdmjagicdaaGreatRsP
import Derived.Test.YtkgojdmjagicdaaGreatRrsC
namespace Go.Proofs.YtkgojdmjagicdaaGreat
open Go.RowKit Go.Op

theorem putX_c {r : Rrd} (hr : OkX r) : ∀ {l : List Rrd}, OkL l → putX cmpX r l = putX cX r l
  | [], _ => rfl
  | x :: l, h => by
    have e := cX_is (h x (by simp)) hr
    have ih := putX_c hr (l := l) (fun y hy => h y (List.mem_cons_of_mem _ hy))
    unfold putX
    rw [e, ih]
theorem SetL_c {l : List Rrd} (h : OkL l) : SetL cmpX l ↔ SetL cX l := by
  unfold SetL
  constructor
  · intro k
    refine List.Pairwise.imp_of_mem ?_ k
    intro a b ha hb e
    rw [← cX_is (h a ha) (h b hb)]; exact e
  · intro k
    refine List.Pairwise.imp_of_mem ?_ k
    intro a b ha hb e
    rw [cX_is (h a ha) (h b hb)]; exact e
theorem ofC_snoc (l : List Rrd) (x : Rrd) : ofC (l ++ [x]) = putX cX x (ofC l) := by unfold ofC; rw [List.foldl_append]; rfl
theorem ofC_mem (l : List Rrd) : ∀ y ∈ ofC l, y ∈ l := by
  have h : ∀ (l : List Rrd) (D : List Rrd), ∀ y ∈ l.foldl (fun D r => putX cX r D) D, y ∈ l ∨ y ∈ D := by
    intro l
    induction l with
    | nil => intro D y hy; exact .inr hy
    | cons x l ih =>
      intro D y hy
      rcases ih _ y hy with h | h
      · exact .inl (List.mem_cons_of_mem _ h)
      · rcases putX_mem x D y h with rfl | h
        · exact .inl (by simp)
        · exact .inr h
  intro y hy
  rcases h l [] y hy with h | h
  · exact h
  · cases h
theorem OkL.ofC {l : List Rrd} (h : OkL l) : OkL (ofC l) := fun y hy => h y (ofC_mem l y hy)
theorem ofC_set (l : List Rrd) : SetL cX (ofC l) := by
  have h : ∀ (l : List Rrd) (D : List Rrd), SetL cX D → SetL cX (l.foldl (fun D r => putX cX r D) D) := by
    intro l
    induction l with
    | nil => intro D hD; exact hD
    | cons x l ih => intro D hD; exact ih _ (putX_set ordAll trivial D (fun _ _ => trivial) hD)
  exact h l [] List.Pairwise.nil
theorem putX_len (r : Rrd) (l : List Rrd) : (putX cX r l).length ≤ l.length + 1 := by
  induction l with
  | nil => simp [putX]
  | cons x l ih =>
    unfold putX
    split
    · simp; omega
    · split
      · simp
      · simp
theorem ofC_len (l : List Rrd) : (ofC l).length ≤ l.length := by
  have h : ∀ (l : List Rrd) (D : List Rrd), (l.foldl (fun D r => putX cX r D) D).length ≤ D.length + l.length := by
    intro l
    induction l with
    | nil => intro D; simp
    | cons x l ih => intro D; have h1 := ih (putX cX x D); have h2 := putX_len x D; simp only [List.foldl_cons, List.length_cons]; omega
  have := h l []
  simpa [ofC] using this
theorem refP_ofC {r : Rrd} {l : List Rrd} (hr : OkX r) (h : OkL l) : refP cmpX r (ofC l) false = ofC (l ++ [r]) := by
  rw [ofC_snoc, refP_set ordX hr (ofC l) h.ofC ((SetL_c h.ofC).2 (ofC_set l)), putX_c hr h.ofC]

set_option maxHeartbeats 8000000 in
set_option maxRecDepth 20000 in
theorem RefOf_any (A : Option Addr) (n c : Nat) (xs : List Rrd) (w : World) (hx : SeesR w w.heap.size A n xs) (hok : OkL xs) (hn : n ≤ 100000) :
    Calls Tryz.prog 11 #[.slice A n c] w fun e w' => ∃ v, e = .returned v ∧ w'.ownsRow w.heap.size 28 5 v (ofC xs).length (rcells (ofC xs)) ∧ Below w.heap.size w w' := by
  have HX := Lib.hid hx
  have HOK := Lib.hid hok
  have HN := Lib.hid hx.1
  clear hx hok
  go_enter Tryz.func11, Tryz.ntmps11
  go_wp2_with fail
  go_loopw [3, 4] (fun v i wr => ∃ k : Nat, k ≤ n ∧ i = .int .i64 (k : Nat) ∧ wr.ownsRow w.heap.size 28 5 v (ofC (xs.take k)).length (rcells (ofC (xs.take k))) ∧ Below w.heap.size w wr) (fun _ i _ => n - (intOf i).toNat)
  case atStart => exact ⟨0, Nat.zero_le _, rfl, own_nil _ _ _ _, Below.refl _ _⟩
  case round =>
    obtain ⟨k, hk, rfl, hO, hB⟩ := hrel
    have HO := Lib.hid hO
    have HB := Lib.hid hB
    clear hO hB
    by_cases hkn : k < n
    · have g2 : (k : Int) < (n : Int) := by omega
      have g0 : (0 : Int) ≤ (k : Int) := by omega
      obtain ⟨b, off, x, rfl, hb, hxk, ht⟩ := (HX.out.keep HB.out).at hkn
      obtain ⟨x0, x1, x2, x3, x4⟩ := ht
      obtain ⟨A1, c1, ev, hs1, _⟩ := own_sees HO.out
      subst ev
      have HS1 := Lib.hid hs1
      have HXK := Lib.hid (HOK.out.at hxk)
      have hot : OkL (xs.take k) := fun y hy => HOK.out y (List.mem_of_mem_take hy)
      have HOT := Lib.hid hot
      have HST := Lib.hid (show refP cmpX x (ofC (xs.take k)) false = ofC (xs.take (k + 1)) by
        rw [refP_ofC HXK.out hot, List.take_add_one, hxk]; rfl)
      have HLN := Lib.hid (show (ofC (xs.take k)).length ≤ 1000000 by have h1 := ofC_len (xs.take k); rw [List.length_take] at h1; omega)
      clear hxk hs1 hot
      go_wp2_with fail
      refine (RefPut_any A1 _ c1 (ofC (xs.take k)) x _ HS1.out HOT.out.ofC HXK.out HLN.out).mono ?_
      rw [HST.out]
      rintro e w1 ⟨v1, rfl, ho, hB1⟩
      have HO1 := Lib.hid (own_less ho HB.out.size)
      have HB1 := Lib.hid (HB.out.trans (hB1.mono HB.out.size))
      clear ho hB1 x0 x1 x2 x3 x4
      go_wp2_with fail
      go_roundw
      case rel => exact ⟨k + 1, by omega, by go_num, HO1.out, HB1.out⟩
      case measure => simp [intOf]; omega
    · obtain rfl : k = n := by omega
      have g2 : ¬ ((k : Int) < (k : Int)) := by omega
      go_wp2_with fail
      go_ret
      refine ⟨_, rfl, ?_, HB.out⟩
      have := HO.out
      rwa [List.take_of_length_le (by rw [HN.out]; exact Nat.le_refl _)] at this

set_option maxHeartbeats 8000000 in
set_option maxRecDepth 20000 in
theorem RefIn_any (A A' : Option Addr) (n c n' c' : Nat) (xs ys : List Rrd) (w : World) (hx : SeesR w w.heap.size A n xs) (hy : SeesR w w.heap.size A' n' ys) (ox : OkL xs) (oy : OkL ys) (hn : n ≤ 1000000) (hn' : n' ≤ 1000000) :
    Calls Tryz.prog 27 #[.slice A n c, .slice A' n' c'] w fun e w' => e = .returned (.bool (inX xs ys)) ∧ Below w.heap.size w w' := by
  have HX := Lib.hid hx
  have HY := Lib.hid hy
  have HN := Lib.hid hx.1
  have HM := Lib.hid hy.1
  have HOX := Lib.hid ox
  have HOY := Lib.hid oy
  clear hx hy ox oy
  go_enter Tryz.func27, Tryz.ntmps27
  go_wp2_with fail
  go_loopw [5] (fun i wr => ∃ k : Nat, k ≤ n ∧ i = .int .i64 (k : Nat) ∧ Upto (fun x => ys.any fun y => decide (cY x y = 0)) xs k ∧ Below w.heap.size w wr) (fun i _ => n - (intOf i).toNat)
  case atStart => exact ⟨0, Nat.zero_le _, rfl, Upto.zero _ _, Below.refl _ _⟩
  case round =>
    obtain ⟨k, hk, rfl, hup, hB⟩ := hrel
    have HU := Lib.hid hup
    have HB := Lib.hid hB
    clear hup hB
    by_cases hkn : k < n
    · have g2 : (k : Int) < (n : Int) := by omega
      have g0 : (0 : Int) ≤ (k : Int) := by omega
      obtain ⟨b, off, x, rfl, hb, hxk, ht⟩ := HX.out.at hkn
      have HF := Lib.hid ht
      have HXK := Lib.hid hxk
      have HOXK := Lib.hid (HOX.out.at hxk)
      clear hxk ht
      go_wp2_with fail
      go_loopw [6, 7] (fun q i wr2 => ∃ (t : Nat) (z : Bool), t ≤ n' ∧ i = .int .i64 (t : Nat) ∧ q = .bool z ∧ z = ((ys.take t).any fun y => decide (cY x y = 0)) ∧ Below w.heap.size w wr2) (fun _ i _ => n' - (intOf i).toNat)
      case atStart => exact ⟨0, false, Nat.zero_le _, rfl, rfl, rfl, HB.out⟩
      case round =>
        obtain ⟨t, z, ht, rfl, rfl, hz, hB⟩ := hrel
        have HZ := Lib.hid hz
        have HB2 := Lib.hid hB
        clear hz hB
        by_cases htn : t < n'
        · have g3 : (t : Int) < (n' : Int) := by omega
          have g4 : (0 : Int) ≤ (t : Int) := by omega
          obtain ⟨b', off', y, rfl, hb', hyk, ht'⟩ := (HY.out.keep HB2.out).at htn
          have HST := Lib.hid (show ((ys.take (t + 1)).any fun y => decide (cY x y = 0)) = (z || decide (cY x y = 0)) by
            rw [List.take_add_one, hyk, List.any_append, ← HZ.out]; simp)
          have HOYK := Lib.hid (HOY.out.at hyk)
          have HSC := Lib.hid (same_cY HOXK.out HOYK.out)
          obtain ⟨d0, d1, d2, d3, d4⟩ := (HF.out.keep HB2.out hb).later (Nat.lt_of_lt_of_le hb HB2.out.size)
          obtain ⟨e0, e1, e2, e3, e4⟩ := ht'.later (Nat.lt_of_lt_of_le hb' HB2.out.size)
          obtain ⟨q, hq⟩ : ∃ q, q = decide (cmpX x y = 0) := ⟨_, rfl⟩
          have HQ := Lib.hid hq
          have HS := Lib.hid (show ∀ q' : Later wr, Calls Tryz.prog 46 #[.agg #[.string x.s, .int .i64 x.t, .int .i64 x.c, .int .i64 x.l, .string x.d], .agg #[.string y.s, .int .i64 y.t, .int .i64 y.c, .int .i64 y.l, .string y.d]] q'.val fun e w'' => e = .returned (.bool q) ∧ ∃ q2 : Later wr, w'' = q2.val from
            fun q' => later_call (by rw [hq]; exact refone_any HOXK.out HOYK.out _))
          clear hyk ht' hq
          cases z
          · by_cases hl : x.l = y.l
            · have gl : (x.l == y.l) = true := by rw [beq_iff_eq]; exact hl
              clear hl
              go_wp2_with fail
              refine region_later (by kernel_rfl) ?_
              repeat (go_big_quiet_step ((go_at_call 46; with_reducible exact HS.out _)))
              refine wpQuiet_nil ?_
              rintro _ ⟨q2, rfl⟩
              clear d0 d1 d2 d3 d4 e0 e1 e2 e3 e4
              go_wp2_with fail
              go_roundw
              case rel => exact ⟨t + 1, q, by omega, by go_num, rfl, by rw [HST.out, ← HSC.out, gl, HQ.out]; simp, HB2.out.trans (q2.below.mono HB2.out.size)⟩
              case measure => simp [intOf]; omega
            · have gl : (x.l == y.l) = false := by rw [beq_eq_false_iff_ne]; exact hl
              go_wp2_with fail
              refine region_later (by kernel_rfl) ?_
              repeat (go_big_quiet_step (fail))
              refine wpQuiet_nil ?_
              rintro _ ⟨q2, rfl⟩
              clear d0 d1 d2 d3 d4 e0 e1 e2 e3 e4
              go_wp2_with fail
              go_roundw
              case rel => exact ⟨t + 1, false, by omega, by go_num, rfl, by rw [HST.out, ← HSC.out, gl]; simp, HB2.out.trans (q2.below.mono HB2.out.size)⟩
              case measure => simp [intOf]; omega
          · go_wp2_with fail
            refine region_later (by kernel_rfl) ?_
            repeat (go_big_quiet_step (fail))
            refine wpQuiet_nil ?_
            rintro _ ⟨q2, rfl⟩
            clear d0 d1 d2 d3 d4 e0 e1 e2 e3 e4
            go_wp2_with fail
            go_roundw
            case rel => exact ⟨t + 1, true, by omega, by go_num, rfl, by rw [HST.out]; simp, HB2.out.trans (q2.below.mono HB2.out.size)⟩
            case measure => simp [intOf]; omega
        · obtain rfl : t = n' := by omega
          have g3 : ¬ ((t : Int) < (t : Int)) := by omega
          have HZ2 := Lib.hid (show (ys.any fun y => decide (cY x y = 0)) = z by have := HZ.out; rw [List.take_of_length_le (by rw [HM.out]; exact Nat.le_refl _)] at this; exact this.symm)
          cases z
          · have HR := Lib.hid (show inX xs ys = false from not_all HXK.out HZ2.out)
            go_wp2_with fail
            go_ret
            exact ⟨by rw [HR.out]; rfl, HB2.out⟩
          · have HU2 := Lib.hid (HU.out.succ HXK.out HZ2.out)
            go_wp2_with fail
            go_roundw
            case rel => exact ⟨k + 1, by omega, by go_num, HU2.out, HB2.out⟩
            case measure => simp [intOf]; omega
    · obtain rfl : k = n := by omega
      have g2 : ¬ ((k : Int) < (k : Int)) := by omega
      have HR := Lib.hid (show inX xs ys = true by
        have := HU.out
        rw [← HN.out] at this
        exact this.all)
      go_wp2_with fail
      go_ret
      exact ⟨by rw [HR.out]; rfl, HB.out⟩
set_option maxHeartbeats 4000000 in
theorem RefAlike_set (A A' : Option Addr) (n c n' c' : Nat) (xs ys : List Rrd) (w : World) (hx : SeesR w w.heap.size A n xs) (hy : SeesR w w.heap.size A' n' ys) (ox : OkL xs) (oy : OkL ys) (hn : n ≤ 1000000) (hn' : n' ≤ 1000000) :
    Calls Tryz.prog 13 #[.slice A n c, .slice A' n' c'] w fun e w' => e = .returned (.bool (inX xs ys && inX ys xs)) ∧ Below w.heap.size w w' := by
  have HX := Lib.hid hx
  have HY := Lib.hid hy
  have HOX := Lib.hid ox
  have HOY := Lib.hid oy
  obtain ⟨q, hq⟩ : ∃ q, q = inX xs ys := ⟨_, rfl⟩
  have HQ := Lib.hid hq
  clear hx hy ox oy hq
  go_enter Tryz.func13, Tryz.ntmps13
  go_wp2_with fail
  refine (RefIn_any A A' n c n' c' xs ys _ HX.out HY.out HOX.out HOY.out hn hn').mono ?_
  rw [← HQ.out]
  rintro e w1 ⟨rfl, hB⟩
  have HB := Lib.hid hB
  clear hB
  cases q
  · go_wp2_with fail
    go_ret
    exact ⟨by rw [← HQ.out]; rfl, HB.out⟩
  · go_wp2_with fail
    refine (RefIn_any A' A n' c' n c ys xs _ ((HY.out.keep HB.out).more HB.out.size) ((HX.out.keep HB.out).more HB.out.size) HOY.out HOX.out hn' hn).mono ?_
    rintro e w2 ⟨rfl, hB2⟩
    have HB2 := Lib.hid (HB.out.trans (hB2.mono HB.out.size))
    clear hB2
    go_wp2_with fail
    go_ret
    exact ⟨by rw [← HQ.out, Bool.true_and]; rfl, HB2.out⟩
end Go.Proofs.YtkgojdmjagicdaaGreat
