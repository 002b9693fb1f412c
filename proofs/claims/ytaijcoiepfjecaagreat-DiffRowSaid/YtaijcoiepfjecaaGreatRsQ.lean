/- RsQ: texts RsQ of our own, joined. No statement of the seat is proved here. -/
import Derived.Test.YtaijcoiepfjecaaGreatRsP
import Derived.Test.YtaijcoiepfjecaaGreatRrJ
import Derived.Test.YtaijcoiepfjecaaGreatRrA
namespace Go.Proofs.YtaijcoiepfjecaaGreat
open Go.RowKit Go.Op

theorem putX_c {r : Rrd} (hr : OkX r) : ∀ {l : List Rrd}, OkL l → putX cmpX r l = putX cX r l
  | [], _ => rfl
  | x :: l, h => by
    have e := cX_is (h x (by simp)) hr
    have ih := putX_c hr (l := l) (fun y hy => h y (List.mem_cons_of_mem _ hy))
    unfold putX
    rw [e, ih]
theorem SetL_c {l : List Rrd} (h : OkL l) : SetL cmpX l ↔ SetL cX l := by
  unfold SetL
  constructor
  · intro k
    refine List.Pairwise.imp_of_mem ?_ k
    intro a b ha hb e
    rw [← cX_is (h a ha) (h b hb)]; exact e
  · intro k
    refine List.Pairwise.imp_of_mem ?_ k
    intro a b ha hb e
    rw [cX_is (h a ha) (h b hb)]; exact e
theorem ofC_snoc (l : List Rrd) (x : Rrd) : ofC (l ++ [x]) = putX cX x (ofC l) := by unfold ofC; rw [List.foldl_append]; rfl
theorem ofC_mem (l : List Rrd) : ∀ y ∈ ofC l, y ∈ l := by
  have h : ∀ (l : List Rrd) (D : List Rrd), ∀ y ∈ l.foldl (fun D r => putX cX r D) D, y ∈ l ∨ y ∈ D := by
    intro l
    induction l with
    | nil => intro D y hy; exact .inr hy
    | cons x l ih =>
      intro D y hy
      rcases ih _ y hy with h | h
      · exact .inl (List.mem_cons_of_mem _ h)
      · rcases putX_mem x D y h with rfl | h
        · exact .inl (by simp)
        · exact .inr h
  intro y hy
  rcases h l [] y hy with h | h
  · exact h
  · cases h
theorem OkL.ofC {l : List Rrd} (h : OkL l) : OkL (ofC l) := fun y hy => h y (ofC_mem l y hy)
theorem ofC_set (l : List Rrd) : SetL cX (ofC l) := by
  have h : ∀ (l : List Rrd) (D : List Rrd), SetL cX D → SetL cX (l.foldl (fun D r => putX cX r D) D) := by
    intro l
    induction l with
    | nil => intro D hD; exact hD
    | cons x l ih => intro D hD; exact ih _ (putX_set ordAll trivial D (fun _ _ => trivial) hD)
  exact h l [] List.Pairwise.nil
theorem putX_len (r : Rrd) (l : List Rrd) : (putX cX r l).length ≤ l.length + 1 := by
  induction l with
  | nil => simp [putX]
  | cons x l ih =>
    unfold putX
    split
    · simp; omega
    · split
      · simp
      · simp
theorem ofC_len (l : List Rrd) : (ofC l).length ≤ l.length := by
  have h : ∀ (l : List Rrd) (D : List Rrd), (l.foldl (fun D r => putX cX r D) D).length ≤ D.length + l.length := by
    intro l
    induction l with
    | nil => intro D; simp
    | cons x l ih => intro D; have h1 := ih (putX cX x D); have h2 := putX_len x D; simp only [List.foldl_cons, List.length_cons]; omega
  have := h l []
  simpa [ofC] using this
theorem refP_ofC {r : Rrd} {l : List Rrd} (hr : OkX r) (h : OkL l) : refP cmpX r (ofC l) false = ofC (l ++ [r]) := by
  rw [ofC_snoc, refP_set ordX hr (ofC l) h.ofC ((SetL_c h.ofC).2 (ofC_set l)), putX_c hr h.ofC]

set_option maxHeartbeats 8000000 in
set_option maxRecDepth 20000 in
theorem RefOf_any (A : Option Addr) (n c : Nat) (xs : List Rrd) (w : World) (hx : SeesR w w.heap.size A n xs) (hok : OkL xs) (hn : n ≤ 100000) :
    Calls Tryz.prog 26 #[.slice A n c] w fun e w' => ∃ v, e = .returned v ∧ w'.ownsRow w.heap.size 26 5 v (ofC xs).length (rcells (ofC xs)) ∧ Below w.heap.size w w' := by
  have HX := Lib.hid hx
  have HOK := Lib.hid hok
  have HN := Lib.hid hx.1
  clear hx hok
  go_enter Tryz.func26, Tryz.ntmps26
  go_wp2_with fail
  go_loopw [3, 4] (fun v i wr => ∃ k : Nat, k ≤ n ∧ i = .int .i64 (k : Nat) ∧ wr.ownsRow w.heap.size 26 5 v (ofC (xs.take k)).length (rcells (ofC (xs.take k))) ∧ Below w.heap.size w wr) (fun _ i _ => n - (intOf i).toNat)
  case atStart => exact ⟨0, Nat.zero_le _, rfl, own_nil _ _ _ _, Below.refl _ _⟩
  case round =>
    obtain ⟨k, hk, rfl, hO, hB⟩ := hrel
    have HO := Lib.hid hO
    have HB := Lib.hid hB
    clear hO hB
    by_cases hkn : k < n
    · have g2 : (k : Int) < (n : Int) := by omega
      have g0 : (0 : Int) ≤ (k : Int) := by omega
      obtain ⟨b, off, x, rfl, hb, hxk, ht⟩ := (HX.out.keep HB.out).at hkn
      obtain ⟨x0, x1, x2, x3, x4⟩ := ht
      obtain ⟨A1, c1, ev, hs1, _⟩ := own_sees HO.out
      subst ev
      have HS1 := Lib.hid hs1
      have HXK := Lib.hid (HOK.out.at hxk)
      have hot : OkL (xs.take k) := fun y hy => HOK.out y (List.mem_of_mem_take hy)
      have HOT := Lib.hid hot
      have HST := Lib.hid (show refP cmpX x (ofC (xs.take k)) false = ofC (xs.take (k + 1)) by
        rw [refP_ofC HXK.out hot, List.take_add_one, hxk]; rfl)
      have HLN := Lib.hid (show (ofC (xs.take k)).length ≤ 1000000 by have h1 := ofC_len (xs.take k); rw [List.length_take] at h1; omega)
      clear hxk hs1 hot
      go_wp2_with fail
      refine (RefPut_any A1 _ c1 (ofC (xs.take k)) x _ HS1.out HOT.out.ofC HXK.out HLN.out).mono ?_
      rw [HST.out]
      rintro e w1 ⟨v1, rfl, ho, hB1⟩
      have HO1 := Lib.hid (own_less ho HB.out.size)
      have HB1 := Lib.hid (HB.out.trans (hB1.mono HB.out.size))
      clear ho hB1 x0 x1 x2 x3 x4
      go_wp2_with fail
      go_roundw
      case rel => exact ⟨k + 1, by omega, by go_num, HO1.out, HB1.out⟩
      case measure => simp [intOf]; omega
    · obtain rfl : k = n := by omega
      have g2 : ¬ ((k : Int) < (k : Int)) := by omega
      go_wp2_with fail
      go_ret
      refine ⟨_, rfl, ?_, HB.out⟩
      have := HO.out
      rwa [List.take_of_length_le (by rw [HN.out]; exact Nat.le_refl _)] at this

end Go.Proofs.YtaijcoiepfjecaaGreat
