/- Parts of the proofs of the statements of image. No statement of the seat is proved here. -/
import Derived.Test.YtnbapaimpoobkaaGreatDoorImgC
import Derived.Test.YtnbapaimpoobkaaGreatDoorImgD
import Derived.Test.YtnbapaimpoobkaaGreatDoorZonD
import Derived.Test.YtnbapaimpoobkaaGreatDoorRdK
import Derived.Test.YtnbapaimpoobkaaGreatDoorPaA
import Derived.Deep.RegionWith
import Derived.Test.YtnbapaimpoobkaaGreatDoorNaE
import Derived.Laws.Cover1
namespace Go.Proofs.YtnbapaimpoobkaaGreatDoor
open Go.RowKit Go.Op

theorem img_least : 30 < (imgB 1 [1, 97, 0] leL).length := by decide +kernel
set_option maxHeartbeats 8000000 in
set_option maxRecDepth 20000 in
theorem iawake_any (w : World) (he : Env w) : Calls Tryz.prog 8 #[] w fun e w' => e = .returned (.bool true) ∧ Below w.heap.size w w' := by
  have HE := Lib.hid he
  obtain ⟨S, hS⟩ : ∃ S, S = mk (imgB 1 [1, 97, 0] leL) := ⟨_, rfl⟩
  have hSz : (30 : Int) < (S.size : Int) := by have := img_least; rw [hS, mk_size]; omega
  have HS := Lib.hid hS
  clear he hS
  go_enter Tryz.func8, Tryz.ntmps8
  go_wp2_with fail
  refine (Least_any _).mono ?_
  rintro e w1 ⟨⟨A, c, rfl, hs⟩, hB⟩
  have HB1 := Lib.hid hB
  have HS1 := Lib.hid hs
  clear hB hs
  go_wp2_with fail
  refine (New_yes A 2 c ⟨#[1, 97, 0]⟩ [1, 97, 0] leL _ rfl (by decide) HS1.out (by decide) low_leL (by rw [name_a]; rfl) ok_leL isZ_leL).mono ?_
  rintro e w2 ⟨⟨v, rfl, hz⟩, hB⟩
  have HB2 := Lib.hid (HB1.out.trans (hB.mono HB1.out.size))
  rw [ofC_leL] at hz
  have HZ := Lib.hid hz
  obtain ⟨A2, c2', s2, rfl, hs2, hcap2, hsoa2⟩ := hz
  have hw0 := Whole.new w2 zoT #[.string ⟨#[1, 97, 0]⟩, .slice A2 leL.length c2', .string s2.s, .int .i64 s2.t, .int .i64 s2.c, .int .i64 s2.l, .string s2.d]
  have hB0 : Below w2.heap.size w2 (w2.alloc (.cells #[.string ⟨#[1, 97, 0]⟩, .slice A2 leL.length c2', .string s2.s, .int .i64 s2.t, .int .i64 s2.c, .int .i64 s2.l, .string s2.d] zoT)) := (Below.refl _ _).alloc (Nat.le_refl _) _
  obtain ⟨c0, c1, c2, c3, c4, c5, c6⟩ := zo_facts hw0
  have HZ3 := Lib.hid (HZ.out.later hB0)
  have HW3 := Lib.hid hw0
  have HB3 := Lib.hid (HB2.out.trans (hB0.mono HB2.out.size))
  clear hB hw0 hB0 hs2 hcap2 hsoa2
  rw [show leL.length = 2 from rfl] at *
  go_wp2_with fail
  refine (Lines_any ⟨#[1, 97, 0]⟩ leL _ _ HZ3.out (by decide) ok_leL (HE.out.beyond HB3.out)).mono ?_
  rintro e w4 ⟨u, rfl, ho, hB⟩
  obtain ⟨A4, c4', rfl, _⟩ := Sees.own ho
  have HZ4 := Lib.hid (HZ3.out.later hB)
  have hw := HW3.out.below hB HW3.out.lt
  have HB4 := Lib.hid (HB3.out.trans (hB.mono HB3.out.size))
  have HW4 := Lib.hid hw
  clear c0 c1 c2 c3 c4 c5 c6
  obtain ⟨c0, c1, c2, c3, c4, c5, c6⟩ := zo_facts hw
  clear hB hw ho
  rw [show leL.length = 2 from rfl] at *
  go_wp2_with fail
  refine (IBytes_any 1 ⟨#[1, 97, 0]⟩ [1, 97, 0] leL _ _ HZ4.out rfl (by decide) (by decide) (by decide) ok_leL).mono ?_
  rw [← HS.out]
  rintro e w5 ⟨rfl, hB⟩
  have HB5 := Lib.hid (HB4.out.trans (hB.mono HB4.out.size))
  clear hB
  go_wp2_with fail
  go_ret
  exact ⟨rfl, HB5.out⟩
end Go.Proofs.YtnbapaimpoobkaaGreatDoor
namespace Go.Proofs.YtnbapaimpoobkaaGreatDoor
open Go.RowKit Go.Op
set_option linter.unusedVariables false

/-! ### the reference's zones as values -/
def ZRefAt (w : World) (B : Nat) (N : ByteArray) (D : List Rrd) (v : Value) : Prop := ∃ A c, v = .agg #[.string N, .slice A D.length c] ∧ SeesR w B A D.length D ∧ InCap A D.length c
theorem ZRefAt.later {w w' : World} {N : ByteArray} {D : List Rrd} {v : Value} (h : ZRefAt w w.heap.size N D v) (hb : Below w.heap.size w w') : ZRefAt w' w'.heap.size N D v := by
  obtain ⟨A, c, e, hs, hc⟩ := h
  exact ⟨A, c, e, (hs.keep hb).more hb.size, hc⟩
end Go.Proofs.YtnbapaimpoobkaaGreatDoor
namespace Go.Proofs.YtnbapaimpoobkaaGreatDoor
open Go.RowKit Go.Op
set_option linter.unusedVariables false

theorem sees_far {w w' : World} {B r n : Nat} {A : Option Addr} {xs : List Rrd} (h : SeesR w B A n xs) (hB : B ≤ w.heap.size) (hne : 0 < n → ∀ ad, A = some ad → ad.block ≠ r) (hg : w.grownBy w' (some r)) : SeesR w' B A n xs := by
  refine ⟨h.1, fun hn => ?_⟩
  obtain ⟨b, off, e, hb, hc⟩ := h.2 hn
  refine ⟨b, off, e, hb, fun j x hx => ?_⟩
  have k : b ≠ r := hne hn ⟨b, off, none⟩ e
  obtain ⟨c0, c1, c2, c3, c4⟩ := hc j x hx
  have far : ∀ o, w'.cell? ⟨b, o, none⟩ = w.cell? ⟨b, o, none⟩ := fun o => hg.cell_far ⟨b, o, none⟩ (Nat.lt_of_lt_of_le hb hB) (fun e => k (by cases e; rfl))
  exact ⟨(far _).trans c0, (far _).trans c1, (far _).trans c2, (far _).trans c3, (far _).trans c4⟩
theorem OkX.some {x : Rrd} (h : OkX x) : x.s ≠ ⟨#[]⟩ := by
  intro e
  have h1 := h.nm
  have h2 := name_len x
  rw [e] at h2
  have h3 : nmX x = [] := List.length_eq_zero_iff.1 h2
  rw [h3, nameL_nil] at h1
  cases h1
/-- right records do not lie in a zone that has nothing -/
theorem sees_apart {w : World} {B r n : Nat} {A : Option Addr} {D : List Rrd} (h : SeesR w B A n D) (hw : Whole w r zoT zeroZ) (ok : OkL D) : 0 < n → ∀ ad, A = some ad → ad.block ≠ r := by
  intro hn ad e c
  obtain ⟨b, off, x, e2, hb, hx, c0, _⟩ := h.at hn
  rw [e] at e2
  cases e2
  subst c
  have hok := (ok.at hx).some
  rw [hw.cell] at c0
  unfold zeroZ at c0
  rcases (show off + 0 * 5 = 0 ∨ off + 0 * 5 = 1 ∨ off + 0 * 5 = 2 ∨ off + 0 * 5 = 3 ∨ off + 0 * 5 = 4 ∨ off + 0 * 5 = 5 ∨ off + 0 * 5 = 6 ∨ 7 ≤ off + 0 * 5 by omega) with q | q | q | q | q | q | q | q
  all_goals first
    | (rw [q] at c0; simp at c0; exact hok c0.symm)
    | (rw [q] at c0; simp at c0)
    | (rw [Array.getElem?_eq_none (by simpa using q)] at c0; cases c0)
/-- a zone is kept when a block of a zone that had nothing is written -/
theorem zone_far {w w' : World} {r : Nat} {N : ByteArray} {D : List Rrd} {v : Value} (h : ZoneAt w w.heap.size N D v) (hw : Whole w r zoT zeroZ) (ok : OkL D) (hg : w.grownBy w' (some r)) : ZoneAt w' w'.heap.size N D v := by
  obtain ⟨A, c, s, e, hs, hc, ht⟩ := h
  exact ⟨A, c, s, e, (sees_far hs (Nat.le_refl _) (sees_apart hs hw ok) hg).more hg.size, hc, ht⟩
theorem sev_grown (w : World) (r : Nat) (a0 a1 a2 a3 a4 a5 a6 : Value) : w.grownBy (((((((w.setCell ⟨r, 0, none⟩ a0).setCell ⟨r, 1, none⟩ a1).setCell ⟨r, 2, none⟩ a2).setCell ⟨r, 3, none⟩ a3).setCell ⟨r, 4, none⟩ a4).setCell ⟨r, 5, none⟩ a5).setCell ⟨r, 6, none⟩ a6) (some r) :=
  grown_trans (grown_trans (grown_trans (grown_trans (grown_trans (grown_trans (gset _ ⟨r, 0, none⟩ a0) (gset _ ⟨r, 1, none⟩ a1)) (gset _ ⟨r, 2, none⟩ a2)) (gset _ ⟨r, 3, none⟩ a3)) (gset _ ⟨r, 4, none⟩ a4)) (gset _ ⟨r, 5, none⟩ a5)) (gset _ ⟨r, 6, none⟩ a6)
end Go.Proofs.YtnbapaimpoobkaaGreatDoor
