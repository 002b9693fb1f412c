/- awake, EntryOwn, EntryBytes. No statement of the seat is proved here. -/
import Derived.Test.YtglihcalfdofoaaEntG
namespace Go.Proofs.Ytglihcalfdofoaa
open Go.RowKit Go.Op

theorem sees_nilR (w : World) : SeesR w w.heap.size none 0 [] := ⟨rfl, fun h => absurd h (by omega)⟩
theorem wake_is : bytesT (entOf 1 2 [] []) = .tuple #[.string ⟨#[0, 0, 0, 1, 0, 0, 0, 2, 0, 0, 0, 0]⟩, .int .i64 0] := by
  have h1 : okE (entOf 1 2 [] []) = true := by decide
  have h2 : bytesE (entOf 1 2 [] []) = [0, 0, 0, 1, 0, 0, 0, 2, 0, 0, 0, 0] := by decide
  unfold bytesT
  rw [if_pos h1, h2]
  rfl
set_option maxHeartbeats 2000000 in
set_option maxRecDepth 20000 in
theorem awake_any (w : World) : Calls Try.prog 7 #[] w fun e w' => e = .returned (.bool true) ∧ Below w.heap.size w w' := by
  have HE := Lib.hid wake_is
  go_enter Try.func7, Try.ntmps7
  go_wp2_with fail
  refine (EBytes_any 1 2 none none 0 0 0 0 [] [] _ (sees_nilR _) (sees_nilR _) ⟨by decide, by decide⟩ ⟨by decide, by decide⟩ (by decide) (fun x hx => by cases hx)).mono ?_
  rw [HE.out]
  rintro e w1 ⟨rfl, hB⟩
  go_wp2_with fail
  go_ret
  exact ⟨rfl, hB⟩

set_option maxHeartbeats 4000000 in
set_option maxRecDepth 20000 in
theorem EntryOwn_walk (s d : ByteArray) (t c l : Int) (w : World) :
    Calls Try.prog 5 #[.agg #[.string s, .int .i64 t, .int .i64 c, .int .i64 l, .string d]] w fun e w' => e = .returned (.bool true) ∧ Below w.heap.size w w' := by
  obtain ⟨x, hx⟩ : ∃ x : Rrd, x = ⟨s, t, c, l, d⟩ := ⟨_, rfl⟩
  have HB0 := Lib.hid (show Below w.heap.size w (w.alloc (.cells #[.string s, .int .i64 t, .int .i64 c, .int .i64 l, .string d] rrT)) from (Below.refl _ _).alloc (Nat.le_refl _) _)
  have HW0 := Lib.hid (Whole.new w rrT (rrA s d t c l))
  go_enter Try.func5, Try.ntmps5
  go_wp2_with fail
  refine (awake_any _).mono ?_
  rintro e w1 ⟨rfl, hB⟩
  have HB1 := Lib.hid (HB0.out.trans (hB.mono HB0.out.size))
  have HW1 := Lib.hid (HW0.out.below hB HW0.out.lt)
  clear hB
  obtain ⟨c0, c1, c2, c3, c4⟩ := rr_facts HW1.out
  have hs2 := SeesR.one w1 x
  rw [hx, ← World.size_alloc w1 (.cells #[.string s, .int .i64 t, .int .i64 c, .int .i64 l, .string d] rrT)] at hs2
  have HS2 := Lib.hid hs2
  have HB2 := Lib.hid (HB1.out.alloc HB1.out.size (.cells #[.string s, .int .i64 t, .int .i64 c, .int .i64 l, .string d] rrT))
  have HW2 := Lib.hid (HW1.out.alloc (.cells #[.string s, .int .i64 t, .int .i64 c, .int .i64 l, .string d] rrT))
  have HX := Lib.hid hx
  clear hs2 hx
  go_wp2_with fail
  refine (Few_any 0 0 none (some ⟨w1.heap.size, 0, none⟩) 0 0 1 1 [] [⟨s, t, c, l, d⟩] _ ⟨rfl, fun h => absurd h (by omega)⟩ HS2.out (by decide) (by decide)).mono ?_
  rintro e w3 ⟨rfl, hB⟩
  have HB3 := Lib.hid (HB2.out.trans (hB.mono HB2.out.size))
  have HW3 := Lib.hid (HW2.out.below hB HW2.out.lt)
  clear hB c0 c1 c2 c3 c4
  obtain ⟨c0, c1, c2, c3, c4⟩ := rr_facts HW3.out
  have hfe : fewE [] [(⟨s, t, c, l, d⟩ : Rrd)] = fewR ⟨s, t, c, l, d⟩ := by unfold fewE; simp
  rw [hfe]
  cases hf : fewR (⟨s, t, c, l, d⟩ : Rrd) with
  | false =>
    clear hf hfe
    go_wp2_with fail
    refine (awake_any _).mono ?_
    rintro e w4 ⟨rfl, hB⟩
    have HB4 := Lib.hid (HB3.out.trans (hB.mono HB3.out.size))
    clear hB
    go_wp2_with fail
    go_ret
    exact ⟨rfl, HB4.out⟩
  | true =>
    obtain ⟨hs6, hd6⟩ := fewR_is.1 hf
    simp only at hs6 hd6
    obtain ⟨r, hr⟩ : ∃ r, r = (⟨s, t, c, l, d⟩ : Rrd).toRec := ⟨_, rfl⟩
    have hrn : s = mk r.n := by rw [hr]; exact rrd_name ⟨s, t, c, l, d⟩
    have hrd : d = mk r.d := by rw [hr]; exact rrd_data ⟨s, t, c, l, d⟩
    have hrt : r.t = t := by rw [hr]; rfl
    have hrc : r.c = c := by rw [hr]; rfl
    have hrl : r.l = l := by rw [hr]; rfl
    have hnl : r.n.length ≤ 600 := by rw [hrn, mk_size] at hs6; exact hs6
    have hdl : r.d.length ≤ 2000 := by rw [hrd, mk_size] at hd6; exact hd6
    have HRR := Lib.hid (fun (W : World) => (by have := RefRRight_any s d r W hrn hrd (by omega); rw [hrt, hrc, hrl] at this; exact this :
      Calls Try.prog 19 #[.agg #[.string s, .int .i64 t, .int .i64 c, .int .i64 l, .string d]] W fun e w' => e = .returned (.bool (okR r)) ∧ Below W.heap.size W w'))
    cases hok : okR r with
    | false =>
      have HOW := Lib.hid (fun (W : World) => (by have := Own_no s d r W hrn hrd (by omega) (by omega) hok; rw [hrt, hrc, hrl] at this; exact this :
        Calls Try.prog 18 #[.agg #[.string s, .int .i64 t, .int .i64 c, .int .i64 l, .string d]] W fun e w' => e = .returned (.tuple #[.string ⟨#[]⟩, .int .i64 2]) ∧ Below W.heap.size W w'))
      have HO := Lib.hid hok
      clear hf hfe hs6 hd6 hr hrn hrd hrt hrc hrl hok
      go_wp2_with fail
      refine (HOW.out _).mono ?_
      rintro e w4 ⟨rfl, hB⟩
      have HB4 := Lib.hid (HB3.out.trans (hB.mono HB3.out.size))
      have HW4 := HW3.out.below hB HW3.out.lt
      clear hB c0 c1 c2 c3 c4
      obtain ⟨c0, c1, c2, c3, c4⟩ := rr_facts HW4
      clear HW4
      go_wp2_with fail
      refine (HRR.out _).mono ?_
      rw [HO.out]
      rintro e w5 ⟨rfl, hB⟩
      have HB5 := Lib.hid (HB4.out.trans (hB.mono HB4.out.size))
      clear hB
      go_wp2_with fail
      go_ret
      exact ⟨rfl, HB5.out⟩
    | true =>
      have HOW := Lib.hid (fun (W : World) => (by have := Own_yes s d r W hrn hrd (by omega) hok; rw [hrt, hrc, hrl] at this; exact this :
        Calls Try.prog 18 #[.agg #[.string s, .int .i64 t, .int .i64 c, .int .i64 l, .string d]] W fun e w' => e = .returned (.tuple #[.string (mk (ownE r)), .int .i64 0]) ∧ Below W.heap.size W w'))
      have HRO := Lib.hid (fun (W : World) => (by have := RefOwn_any s d r W hrn hrd hok; rw [hrt, hrc, hrl] at this; exact this :
        Calls Try.prog 20 #[.agg #[.string s, .int .i64 t, .int .i64 c, .int .i64 l, .string d]] W fun e w' => e = .returned (.string (mk (ownE r))) ∧ Below W.heap.size W w'))
      have HO := Lib.hid hok
      clear hf hfe hs6 hd6 hr hrn hrd hrt hrc hrl hok
      go_wp2_with fail
      refine (HOW.out _).mono ?_
      rintro e w4 ⟨rfl, hB⟩
      have HB4 := Lib.hid (HB3.out.trans (hB.mono HB3.out.size))
      have HW4 := Lib.hid (HW3.out.below hB HW3.out.lt)
      clear hB c0 c1 c2 c3 c4
      obtain ⟨c0, c1, c2, c3, c4⟩ := rr_facts HW4.out
      go_wp2_with fail
      refine (HRR.out _).mono ?_
      rw [HO.out]
      rintro e w5 ⟨rfl, hB⟩
      have HB5 := Lib.hid (HB4.out.trans (hB.mono HB4.out.size))
      have HW5 := Lib.hid (HW4.out.below hB HW4.out.lt)
      clear hB c0 c1 c2 c3 c4
      obtain ⟨c0, c1, c2, c3, c4⟩ := rr_facts HW5.out
      go_wp2_with fail
      refine (HRO.out _).mono ?_
      rintro e w6 ⟨rfl, hB⟩
      have HB6 := Lib.hid (HB5.out.trans (hB.mono HB5.out.size))
      clear hB
      go_wp2_with fail
      go_ret
      exact ⟨rfl, HB6.out⟩
end Go.Proofs.Ytglihcalfdofoaa
