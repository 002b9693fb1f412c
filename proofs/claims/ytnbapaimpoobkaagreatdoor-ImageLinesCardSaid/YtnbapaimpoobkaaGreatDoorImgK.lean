/- Parts of the proofs of the statements of image. No statement of the seat is proved here. -/
import Derived.Test.YtnbapaimpoobkaaGreatDoorZonE
namespace Go.Proofs.YtnbapaimpoobkaaGreatDoor
open Go.RowKit Go.Op
set_option linter.unusedVariables false

/-! ### the reference's zones as values -/
abbrev rzT : TypeId := 34
theorem rz_size : (Tryz.prog.info? rzT).map (·.size) = some 2 := by kernel_rfl
theorem retR2 {fn : Func} {R : Ending → World → Prop} {a : Act} {w : World} {p u r : Nat} {a0 a1 x : Value} (hf : fn.results = #[.cell p rzT, .tmp u]) (hd : a.defers = []) (hp : a.tmps.getD p undef = .pointer (some ⟨r, 0, none⟩)) (hx : a.tmps.getD u undef = x)
    (h : Whole w r rzT #[a0, a1]) (hR : R (.returned (.tuple #[.agg #[a0, a1], x])) w) : bodyPost Tryz.prog fn R .ret a w := by
  refine bodyPost_ret ?_ hd hR
  rw [results_cell_tmp hf, hp, hx]
  simp [asAddr, run_loadVar_row w r rzT _ _ (0, 0) _ h Tryz.underlying34 rfl rz_size, Result.andThen]
theorem twoR_put {w : World} {r t : Nat} {x0 x1 : Value} (h : Whole w r t #[x0, x1]) (a0 a1 : Value) : Whole ((w.setCell ⟨r, 0, none⟩ a0).setCell ⟨r, 1, none⟩ a1) r t #[a0, a1] := by
  have := (h.put 0 a0).put 1 a1
  simpa using this
theorem twoR_below {B : Nat} {a w : World} {r : Nat} (h : Below B a w) (hr : B ≤ r) (a0 a1 : Value) : Below B a ((w.setCell ⟨r, 0, none⟩ a0).setCell ⟨r, 1, none⟩ a1) := (h.setCell hr a0).setCell hr a1
theorem twoR_own {w : World} {r base n : Nat} {v : Value} {xs : List Value} {cs : Array Value} (ho : w.ownsRow base 27 5 v n xs) (h : Whole w r rzT cs) (a0 a1 : Value) :
    ((w.setCell ⟨r, 0, none⟩ a0).setCell ⟨r, 1, none⟩ a1).ownsRow base 27 5 v n xs := by
  have hne := own_apart ho h (by decide)
  exact (ho.kept (gset _ ⟨r, 0, none⟩ a0) (.inr hne)).kept (gset _ ⟨r, 1, none⟩ a1) (.inr hne)
def ZRefAt (w : World) (B : Nat) (N : ByteArray) (D : List Rrd) (v : Value) : Prop := ∃ A c, v = .agg #[.string N, .slice A D.length c] ∧ SeesR w B A D.length D ∧ InCap A D.length c
theorem ZRefAt.later {w w' : World} {N : ByteArray} {D : List Rrd} {v : Value} (h : ZRefAt w w.heap.size N D v) (hb : Below w.heap.size w w') : ZRefAt w' w'.heap.size N D v := by
  obtain ⟨A, c, e, hs, hc⟩ := h
  exact ⟨A, c, e, (hs.keep hb).more hb.size, hc⟩
def ZRefOut (w' : World) (N : ByteArray) (nn : List UInt8) (xs : List Rrd) (e : Ending) : Prop :=
  (codeZ nn xs = 2 ∧ e = .returned (.tuple #[.agg #[.string ⟨#[]⟩, .slice none 0 0], .int .i64 2])) ∨ (codeZ nn xs = 9 ∧ e = .returned (.tuple #[.agg #[.string ⟨#[]⟩, .slice none 0 0], .int .i64 9])) ∨
  (codeZ nn xs = 0 ∧ ∃ v, e = .returned (.tuple #[v, .int .i64 0]) ∧ ZRefAt w' w'.heap.size N (ofC xs) v)
set_option maxHeartbeats 8000000 in
set_option maxRecDepth 20000 in
theorem RefNew_any (A : Option Addr) (n c : Nat) (N : ByteArray) (nn : List UInt8) (xs : List Rrd) (w : World) (hN : N = mk nn) (hx : SeesR w w.heap.size A n xs) (hn : n ≤ 60000) (hlow : LowL xs) :
    Calls Tryz.prog 11 #[.string N, .slice A n c] w fun e w' => ZRefOut w' N nn xs e ∧ Below w.heap.size w w' := by
  have hw0 := Whole.new w rzT #[.string ⟨#[]⟩, .slice none 0 0]
  have hB0 : Below w.heap.size w (w.alloc (.cells #[.string ⟨#[]⟩, .slice none 0 0] rzT)) := (Below.refl _ _).alloc (Nat.le_refl _) _
  have HX0 := Lib.hid ((hx.keep hB0).more hB0.size)
  have HL := Lib.hid hx.1
  have HB0 := Lib.hid hB0
  have HW0 := Lib.hid hw0
  have HN := Lib.hid hN
  have HLOW := Lib.hid hlow
  clear hw0 hB0 hx hN hlow
  cases hr : (nameL nn).isSome with
  | false =>
    have HCD := Lib.hid (show codeZ nn xs = 2 by unfold codeZ; rw [hr]; rfl)
    have HR := Lib.hid hr
    clear hr
    go_enter Tryz.func11, Tryz.ntmps11
    go_wp2_with fail
    refine (RefRight_any N nn _ HN.out).mono ?_
    rw [HR.out]
    rintro e w1 ⟨rfl, hB⟩
    have HW1 := Lib.hid (HW0.out.below hB HW0.out.lt)
    have HB1 := Lib.hid (HB0.out.trans (hB.mono HB0.out.size))
    clear hB
    have c0 := (HW1.out.cell 0).trans rfl
    have c1 := (HW1.out.cell 1).trans rfl
    have f0 := HW1.out.frozen 0
    have f1 := HW1.out.frozen 1
    go_wp2_with fail
    exact retR2 rfl rfl rfl rfl (twoR_put HW1.out _ _) ⟨.inl ⟨HCD.out, rfl⟩, twoR_below HB1.out (Nat.le_refl _) _ _⟩
  | true =>
    have HR := Lib.hid hr
    clear hr
    go_enter Tryz.func11, Tryz.ntmps11
    go_wp2_with fail
    refine (RefRight_any N nn _ HN.out).mono ?_
    rw [HR.out]
    rintro e w1 ⟨rfl, hB⟩
    have HX1 := Lib.hid ((HX0.out.keep hB).more hB.size)
    have HW1 := Lib.hid (HW0.out.below hB HW0.out.lt)
    have HB1 := Lib.hid (HB0.out.trans (hB.mono HB0.out.size))
    clear hB
    go_wp2_with fail
    go_loopw [6] (fun i wr => ∃ k : Nat, k ≤ n ∧ i = .int .i64 (k : Nat) ∧ Upto (fun x => okR x.toRec) xs k ∧ Below w1.heap.size w1 wr) (fun i _ => n - (intOf i).toNat)
    case atStart => exact ⟨0, Nat.zero_le _, rfl, Upto.zero _ _, Below.refl _ _⟩
    case round =>
      obtain ⟨k, hk, rfl, hup, hB⟩ := hrel
      have HU := Lib.hid hup
      have HBR := Lib.hid hB
      clear hup hB
      by_cases hkn : k < n
      · have g2 : (k : Int) < (n : Int) := by omega
        have g0 : (0 : Int) ≤ (k : Int) := by omega
        obtain ⟨b, off, x, rfl, hb, hxk, ht⟩ := (HX1.out.keep HBR.out).at hkn
        obtain ⟨x0, x1, x2, x3, x4⟩ := ht
        have HXK := Lib.hid hxk
        have HD := Lib.hid (show x.toRec.d.length ≤ 65535 by rw [data_len]; have := (HLOW.out x (List.mem_of_getElem? hxk)).2; omega)
        clear hxk
        go_wp2_with fail
        refine (RefRRight_any x.s x.d x.toRec _ (rrd_name x) (rrd_data x) HD.out).mono ?_
        obtain ⟨z, hz⟩ : ∃ z, z = okR x.toRec := ⟨_, rfl⟩
        rw [← hz]
        rintro e w2 ⟨rfl, hB⟩
        have HBR2 := Lib.hid (HBR.out.trans (hB.mono HBR.out.size))
        have HZ := Lib.hid hz
        clear hB hz x0 x1 x2 x3 x4
        cases z with
        | true =>
          have HU2 := Lib.hid (HU.out.succ HXK.out HZ.out.symm)
          go_wp2_with fail
          go_roundw
          case rel => exact ⟨k + 1, by omega, by go_num, HU2.out, HBR2.out⟩
          case measure => simp [intOf]; omega
        | false =>
          have HCD := Lib.hid (show codeZ nn xs = 2 by unfold codeZ; rw [HR.out, not_all HXK.out HZ.out.symm]; rfl)
          have HW2 := Lib.hid (HW1.out.below HBR2.out HW1.out.lt)
          have HB2 := Lib.hid (HB1.out.trans (HBR2.out.mono HB1.out.size))
          have c0 := (HW2.out.cell 0).trans rfl
          have c1 := (HW2.out.cell 1).trans rfl
          have f0 := HW2.out.frozen 0
          have f1 := HW2.out.frozen 1
          go_wp2_with fail
          exact retR2 rfl rfl rfl rfl (twoR_put HW2.out _ _) ⟨.inl ⟨HCD.out, rfl⟩, twoR_below HB2.out (Nat.le_refl _) _ _⟩
      · obtain rfl : k = n := by omega
        have g2 : ¬ ((k : Int) < (k : Int)) := by omega
        have ha := HU.out
        rw [← HL.out] at ha
        have hall := ha.all
        have hok := HLOW.out.ok hall
        obtain ⟨D, hD⟩ : ∃ D, D = ofC xs := ⟨_, rfl⟩
        have hset : SetL cX D := by rw [hD]; exact ofC_set xs
        have hokD : OkL D := by rw [hD]; exact hok.ofC
        have HD := Lib.hid hD
        have HOK := Lib.hid hok
        have HOKD := Lib.hid hokD
        have HDL := Lib.hid (show D.length ≤ 60000 by rw [hD]; have := ofC_len xs; rw [HL.out] at this; omega)
        obtain ⟨z, hz⟩ : ∃ z, z = isZ nn D := ⟨_, rfl⟩
        have HRZ := Lib.hid (show refZ nn D = z by rw [hz]; exact (isZ_ref hset.keys hokD).symm)
        have HCD := Lib.hid (show codeZ nn xs = if z = true then 0 else 9 by unfold codeZ; rw [HR.out, hall, ← hD, ← hz]; rfl)
        have HX3 := Lib.hid ((HX1.out.keep HBR.out).more HBR.out.size)
        have HW3 := Lib.hid (HW1.out.below HBR.out HW1.out.lt)
        have HB3 := Lib.hid (HB1.out.trans (HBR.out.mono HB1.out.size))
        clear ha hall hok hset hokD hD hz
        go_wp2_with fail
        refine (RefOf_any A k c xs _ HX3.out HOK.out (by omega)).mono ?_
        rw [← HD.out]
        rintro e w4 ⟨v4, rfl, ho, hB⟩
        obtain ⟨A4, c4, rfl, hs4, _⟩ := own_sees ho
        have HS4 := Lib.hid hs4
        have HO4 := Lib.hid ho
        have HW4 := Lib.hid (HW3.out.below hB HW3.out.lt)
        have HB4 := Lib.hid (HB3.out.trans (hB.mono HB3.out.size))
        clear hB ho hs4
        obtain ⟨m, hm⟩ : ∃ m, m = D.length := ⟨_, rfl⟩
        rw [← hm] at HS4 HO4 HDL
        try rw [← hm]
        have HM := Lib.hid hm
        clear hm
        go_wp2_with fail
        refine (RefIsZone_any A4 m c4 N nn D _ HN.out HS4.out HOKD.out (by have := HDL.out; omega)).mono ?_
        rw [HRZ.out]
        rintro e w5 ⟨rfl, hB⟩
        have HO5 := Lib.hid (own_keep HO4.out hB)
        have HW5 := Lib.hid (HW4.out.below hB HW4.out.lt)
        have HB5 := Lib.hid (HB4.out.trans (hB.mono HB4.out.size))
        clear hB
        cases z with
        | false =>
          have c0 := (HW5.out.cell 0).trans rfl
          have c1 := (HW5.out.cell 1).trans rfl
          have f0 := HW5.out.frozen 0
          have f1 := HW5.out.frozen 1
          go_wp2_with fail
          exact retR2 rfl rfl rfl rfl (twoR_put HW5.out _ _) ⟨.inr (.inl ⟨by rw [HCD.out]; rfl, rfl⟩), twoR_below HB5.out (Nat.le_refl _) _ _⟩
        | true =>
          have c0 := (HW5.out.cell 0).trans rfl
          have c1 := (HW5.out.cell 1).trans rfl
          have f0 := HW5.out.frozen 0
          have f1 := HW5.out.frozen 1
          go_wp2_with fail
          refine retR2 rfl rfl rfl rfl (twoR_put HW5.out _ _) ⟨?_, twoR_below HB5.out (Nat.le_refl _) _ _⟩
          obtain ⟨A6, c6, e6, hs6, hcap6⟩ := own_sees (twoR_own HO5.out HW5.out (.string N) (.slice A4 m c4))
          obtain ⟨rfl, rfl⟩ : A4 = A6 ∧ c4 = c6 := by simpa using e6
          refine .inr (.inr ⟨by rw [HCD.out]; rfl, _, rfl, A4, c4, ?_⟩)
          rw [← HD.out, ← HM.out]
          exact ⟨rfl, hs6, hcap6⟩
end Go.Proofs.YtnbapaimpoobkaaGreatDoor
namespace Go.Proofs.YtnbapaimpoobkaaGreatDoor
open Go.RowKit Go.Op
set_option linter.unusedVariables false

theorem sees_far {w w' : World} {B r n : Nat} {A : Option Addr} {xs : List Rrd} (h : SeesR w B A n xs) (hB : B ≤ w.heap.size) (hne : 0 < n → ∀ ad, A = some ad → ad.block ≠ r) (hg : w.grownBy w' (some r)) : SeesR w' B A n xs := by
  refine ⟨h.1, fun hn => ?_⟩
  obtain ⟨b, off, e, hb, hc⟩ := h.2 hn
  refine ⟨b, off, e, hb, fun j x hx => ?_⟩
  have k : b ≠ r := hne hn ⟨b, off, none⟩ e
  obtain ⟨c0, c1, c2, c3, c4⟩ := hc j x hx
  have far : ∀ o, w'.cell? ⟨b, o, none⟩ = w.cell? ⟨b, o, none⟩ := fun o => hg.cell_far ⟨b, o, none⟩ (Nat.lt_of_lt_of_le hb hB) (fun e => k (by cases e; rfl))
  exact ⟨(far _).trans c0, (far _).trans c1, (far _).trans c2, (far _).trans c3, (far _).trans c4⟩
theorem OkX.some {x : Rrd} (h : OkX x) : x.s ≠ ⟨#[]⟩ := by
  intro e
  have h1 := h.nm
  have h2 := name_len x
  rw [e] at h2
  have h3 : nmX x = [] := List.length_eq_zero_iff.1 h2
  rw [h3, nameL_nil] at h1
  cases h1
/-- right records do not lie in a zone that has nothing -/
theorem sees_apart {w : World} {B r n : Nat} {A : Option Addr} {D : List Rrd} (h : SeesR w B A n D) (hw : Whole w r zoT zeroZ) (ok : OkL D) : 0 < n → ∀ ad, A = some ad → ad.block ≠ r := by
  intro hn ad e c
  obtain ⟨b, off, x, e2, hb, hx, c0, _⟩ := h.at hn
  rw [e] at e2
  cases e2
  subst c
  have hok := (ok.at hx).some
  rw [hw.cell] at c0
  unfold zeroZ at c0
  rcases (show off + 0 * 5 = 0 ∨ off + 0 * 5 = 1 ∨ off + 0 * 5 = 2 ∨ off + 0 * 5 = 3 ∨ off + 0 * 5 = 4 ∨ off + 0 * 5 = 5 ∨ off + 0 * 5 = 6 ∨ 7 ≤ off + 0 * 5 by omega) with q | q | q | q | q | q | q | q
  all_goals first
    | (rw [q] at c0; simp at c0; exact hok c0.symm)
    | (rw [q] at c0; simp at c0)
    | (rw [Array.getElem?_eq_none (by simpa using q)] at c0; cases c0)
/-- a zone is kept when a block of a zone that had nothing is written -/
theorem zone_far {w w' : World} {r : Nat} {N : ByteArray} {D : List Rrd} {v : Value} (h : ZoneAt w w.heap.size N D v) (hw : Whole w r zoT zeroZ) (ok : OkL D) (hg : w.grownBy w' (some r)) : ZoneAt w' w'.heap.size N D v := by
  obtain ⟨A, c, s, e, hs, hc, ht⟩ := h
  exact ⟨A, c, s, e, (sees_far hs (Nat.le_refl _) (sees_apart hs hw ok) hg).more hg.size, hc, ht⟩
theorem sev_grown (w : World) (r : Nat) (a0 a1 a2 a3 a4 a5 a6 : Value) : w.grownBy (((((((w.setCell ⟨r, 0, none⟩ a0).setCell ⟨r, 1, none⟩ a1).setCell ⟨r, 2, none⟩ a2).setCell ⟨r, 3, none⟩ a3).setCell ⟨r, 4, none⟩ a4).setCell ⟨r, 5, none⟩ a5).setCell ⟨r, 6, none⟩ a6) (some r) :=
  grown_trans (grown_trans (grown_trans (grown_trans (grown_trans (grown_trans (gset _ ⟨r, 0, none⟩ a0) (gset _ ⟨r, 1, none⟩ a1)) (gset _ ⟨r, 2, none⟩ a2)) (gset _ ⟨r, 3, none⟩ a3)) (gset _ ⟨r, 4, none⟩ a4)) (gset _ ⟨r, 5, none⟩ a5)) (gset _ ⟨r, 6, none⟩ a6)
/-- right records do not lie in a reference's zone that has nothing -/
theorem rees_apart {w : World} {B r n : Nat} {A : Option Addr} {D : List Rrd} (h : SeesR w B A n D) (hw : Whole w r rzT #[.string ⟨#[]⟩, .slice none 0 0]) (ok : OkL D) : 0 < n → ∀ ad, A = some ad → ad.block ≠ r := by
  intro hn ad e c
  obtain ⟨b, off, x, e2, hb, hx, c0, _⟩ := h.at hn
  rw [e] at e2
  cases e2
  subst c
  have hok := (ok.at hx).some
  rw [hw.cell] at c0
  rcases (show off + 0 * 5 = 0 ∨ off + 0 * 5 = 1 ∨ 2 ≤ off + 0 * 5 by omega) with q | q | q
  all_goals first
    | (rw [q] at c0; simp at c0; exact hok c0.symm)
    | (rw [q] at c0; simp at c0)
    | (rw [Array.getElem?_eq_none (by simpa using q)] at c0; cases c0)
theorem rone_far {w w' : World} {r : Nat} {N : ByteArray} {D : List Rrd} {v : Value} (h : ZRefAt w w.heap.size N D v) (hw : Whole w r rzT #[.string ⟨#[]⟩, .slice none 0 0]) (ok : OkL D) (hg : w.grownBy w' (some r)) : ZRefAt w' w'.heap.size N D v := by
  obtain ⟨A, c, e, hs, hc⟩ := h
  exact ⟨A, c, e, (sees_far hs (Nat.le_refl _) (rees_apart hs hw ok) hg).more hg.size, hc⟩
end Go.Proofs.YtnbapaimpoobkaaGreatDoor
