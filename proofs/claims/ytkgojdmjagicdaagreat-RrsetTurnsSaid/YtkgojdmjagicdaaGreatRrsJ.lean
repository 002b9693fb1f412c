/- awake; the beginning of the laws that take a list and a record. No statement of the seat is proved here. -/
import Derived.Test.YtkgojdmjagicdaaGreatRrsF
namespace Go.Proofs.YtkgojdmjagicdaaGreat
open Go.RowKit Go.Op

theorem own_sees {w : World} {base : Nat} {v : Value} {n : Nat} {xs : List Rrd} (h : w.ownsRow base 28 5 v n (rcells xs)) :
    ∃ A c, v = .slice A n c ∧ SeesR w w.heap.size A n xs ∧ InCap A n c := by
  obtain ⟨A, c, rfl, hs⟩ := SeesR.own h
  refine ⟨A, c, rfl, hs, ?_⟩
  rcases h.2 with ⟨e, hn⟩ | ⟨g, cap, cur, e, hb, hg, h1, h2, h3, h4⟩
  · obtain ⟨rfl, rfl, rfl⟩ : A = none ∧ n = 0 ∧ c = 0 := by simpa using e
    exact ⟨Nat.le_refl _, by omega, fun _ => rfl, fun ad h => by cases h⟩
  · obtain ⟨rfl, rfl⟩ : A = some ⟨g, 0, none⟩ ∧ c = cap := by simpa using e
    unfold maxLen at h2
    exact ⟨h1, by omega, fun h => (by cases h), fun ad h _ => (by cases h; rfl)⟩
def wakeR : Rrd := ⟨⟨#[1, 97, 0]⟩, 1, 1, 0, ⟨#[97, 98, 99, 100]⟩⟩
theorem wakeR_ok : OkX wakeR := by
  refine ⟨?_, by decide⟩
  have h1 : wakeR.toRec = ⟨[1, 97, 0], 1, 1, 0, [97, 98, 99, 100]⟩ := rfl
  rw [h1]
  unfold okR
  rw [name_a]
  simp only [List.length_cons, List.length_nil]
  rw [show tyd 1 1 (0 + 1 + 1 + 1 + 1) = 1 from rfl, right_abcd]
  rfl
set_option maxHeartbeats 4000000 in
set_option maxRecDepth 20000 in
theorem awake_any (w : World) : Calls Tryz.prog 5 #[] w fun e w' => e = .returned (.bool true) ∧ Below w.heap.size w w' := by
  go_enter Tryz.func5, Tryz.ntmps5
  go_wp2_with fail
  have HB0 := Lib.hid (show Below w.heap.size w (w.alloc (.cells #[.string wakeR.s, .int .i64 wakeR.t, .int .i64 wakeR.c, .int .i64 wakeR.l, .string wakeR.d] 28)) from (Below.refl _ _).alloc (Nat.le_refl _) _)
  have HBX := Lib.hid (box_five w wakeR)
  refine (Put_nil wakeR _ wakeR_ok).mono ?_
  rintro e w1 ⟨v, rfl, ho, hB⟩
  obtain ⟨A, c, rfl, hsee, _⟩ := own_sees ho
  obtain ⟨b, off, x, rfl, hb, hx0, hf⟩ := hsee.at (show 0 < 1 by omega)
  obtain rfl : wakeR = x := by simpa using hx0
  obtain ⟨q0, q1, q2, q3, q4⟩ := hf
  obtain ⟨p0, p1, p2, p3, p4⟩ := HBX.out.keep hB (by simp)
  have HB1 := Lib.hid (HB0.out.trans (hB.mono HB0.out.size))
  clear hB ho hsee hx0
  rw [Nat.zero_mul, Nat.add_zero] at q0 q1 q2 q3 q4
  have hne := rr_eql wakeR wakeR
  have hgd := fun op a b => rr_guard op a b wakeR wakeR
  rw [eqX_is.2 rfl] at hne
  unfold wakeR at *
  go_wp2_with fail
  go_quiet (fail)
  go_wp2_with fail
  go_ret
  exact ⟨rfl, below_drewN HB1.out _⟩
end Go.Proofs.YtkgojdmjagicdaaGreat
