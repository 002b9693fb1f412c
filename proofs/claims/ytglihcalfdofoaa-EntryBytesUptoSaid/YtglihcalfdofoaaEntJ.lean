/- EntryBytes. No statement of the seat is proved here. -/
import Derived.Test.YtglihcalfdofoaaEntI
namespace Go.Proofs.Ytglihcalfdofoaa
open Go.RowKit Go.Op

theorem few_is {xs ys : List Rrd} (h : fewE xs ys = true) : (∀ x ∈ xs ++ ys, x.s.size ≤ 600 ∧ x.d.size ≤ 2000) ∧ (xs ++ ys).length ≤ 30 := by
  unfold fewE at h
  rw [Bool.and_eq_true, List.all_eq_true, decide_eq_true_eq] at h
  exact ⟨fun x hx => fewR_is.1 (h.1 x hx), h.2⟩

set_option maxHeartbeats 4000000 in
set_option maxRecDepth 20000 in
theorem EntryBytes_walk (f t : Int) (A A' : Option Addr) (n c n' c' : Nat) (xs ys : List Rrd) (w : World) (h1 : SeesR w w.heap.size A n xs) (h2 : SeesR w w.heap.size A' n' ys) (hf : u32 f) (ht : u32 t) (hn : n ≤ 100000000) (hn' : n' ≤ 100000000) :
    Calls Try.prog 3 #[.agg #[.int .u32 f, .int .u32 t, .slice A n c, .slice A' n' c']] w fun e w' => e = .returned (.bool true) ∧ Below w.heap.size w w' := by
  have HB0 := Lib.hid (show Below w.heap.size w (w.alloc (.cells #[.int .u32 f, .int .u32 t, .slice A n c, .slice A' n' c'] enT)) from (Below.refl _ _).alloc (Nat.le_refl _) _)
  have HW0 := Lib.hid (Whole.new w enT (enA f t A n c A' n' c'))
  have H1 := Lib.hid h1
  have H2 := Lib.hid h2
  have HF := Lib.hid hf
  have HT := Lib.hid ht
  have HXN := Lib.hid h1.1
  have HYN := Lib.hid h2.1
  clear h1 h2 hf ht
  go_enter Try.func3, Try.ntmps3
  go_wp2_with fail
  refine (awake_any _).mono ?_
  rintro e w1 ⟨rfl, hB⟩
  have HB1 := Lib.hid (HB0.out.trans (hB.mono HB0.out.size))
  have HW1 := Lib.hid (HW0.out.below hB HW0.out.lt)
  clear hB
  obtain ⟨c0, c1, c2, c3⟩ := en_facts HW1.out
  go_wp2_with fail
  refine (Few_any f t A A' n c n' c' xs ys _ ((H1.out.keep HB1.out).more HB1.out.size) ((H2.out.keep HB1.out).more HB1.out.size) hn hn').mono ?_
  rintro e w2 ⟨rfl, hB⟩
  have HB2 := Lib.hid (HB1.out.trans (hB.mono HB1.out.size))
  have HW2 := Lib.hid (HW1.out.below hB HW1.out.lt)
  clear hB c0 c1 c2 c3
  cases hfw : fewE xs ys with
  | false =>
    clear hfw
    go_wp2_with fail
    refine (awake_any _).mono ?_
    rintro e w3 ⟨rfl, hB⟩
    have HB3 := Lib.hid (HB2.out.trans (hB.mono HB2.out.size))
    clear hB
    go_wp2_with fail
    go_ret
    exact ⟨rfl, HB3.out⟩
  | true =>
    obtain ⟨hsm, h30⟩ := few_is hfw
    have hN : n + n' ≤ 30 := by rw [List.length_append, HXN.out, HYN.out] at h30; exact h30
    have HSM := Lib.hid hsm
    clear hfw hsm h30
    obtain ⟨c0, c1, c2, c3⟩ := en_facts HW2.out
    go_wp2_with fail
    refine (EBytes_any f t A A' n c n' c' xs ys _ ((H1.out.keep HB2.out).more HB2.out.size) ((H2.out.keep HB2.out).more HB2.out.size) HF.out HT.out hN HSM.out).mono ?_
    rintro e w3 ⟨rfl, hB⟩
    have HB3 := Lib.hid (HB2.out.trans (hB.mono HB2.out.size))
    have HW3 := Lib.hid (HW2.out.below hB HW2.out.lt)
    clear hB c0 c1 c2 c3
    obtain ⟨c0, c1, c2, c3⟩ := en_facts HW3.out
    unfold bytesT
    cases hok : okE (entOf f t xs ys) with
    | false =>
      have HO := Lib.hid hok
      clear hok
      go_wp2_with fail
      refine (Formed_any f t A A' n c n' c' xs ys _ ((H1.out.keep HB3.out).more HB3.out.size) ((H2.out.keep HB3.out).more HB3.out.size) (by omega) (by omega) HSM.out).mono ?_
      rw [HO.out]
      rintro e w4 ⟨rfl, hB⟩
      have HB4 := Lib.hid (HB3.out.trans (hB.mono HB3.out.size))
      clear hB c0 c1 c2 c3
      go_wp2_with fail
      go_ret
      exact ⟨rfl, HB4.out⟩
    | true =>
      have HO := Lib.hid hok
      clear hok
      go_wp2_with fail
      refine (Formed_any f t A A' n c n' c' xs ys _ ((H1.out.keep HB3.out).more HB3.out.size) ((H2.out.keep HB3.out).more HB3.out.size) (by omega) (by omega) HSM.out).mono ?_
      rw [HO.out]
      rintro e w4 ⟨rfl, hB⟩
      have HB4 := Lib.hid (HB3.out.trans (hB.mono HB3.out.size))
      have HW4 := Lib.hid (HW3.out.below hB HW3.out.lt)
      clear hB c0 c1 c2 c3
      obtain ⟨c0, c1, c2, c3⟩ := en_facts HW4.out
      go_wp2_with fail
      refine (RBytes_any f t A A' n c n' c' xs ys _ ((H1.out.keep HB4.out).more HB4.out.size) ((H2.out.keep HB4.out).more HB4.out.size) HF.out HT.out hN HSM.out HO.out).mono ?_
      rintro e w5 ⟨rfl, hB⟩
      have HB5 := Lib.hid (HB4.out.trans (hB.mono HB4.out.size))
      clear hB c0 c1 c2 c3
      go_wp2_with fail
      go_ret
      exact ⟨rfl, HB5.out⟩
end Go.Proofs.Ytglihcalfdofoaa
