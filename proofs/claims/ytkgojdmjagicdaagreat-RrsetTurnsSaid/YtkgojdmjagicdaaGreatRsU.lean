/- The library's insertion sort on a list of names of one's own, by their order. -/
import Derived.Test.YtkgojdmjagicdaaGreatRsT
import Derived.Deep.QuietTactic
import Derived.WalkMore
namespace Go.Proofs.YtkgojdmjagicdaaGreat
open Go.RowKit

abbrev cmpF : Value := .func (.func 16) #[] #[]
theorem OkL.left {A B : List Rrd} (h : OkL (A ++ B)) : OkL A := fun x hx => h x (List.mem_append.2 (.inl hx))
theorem OkL.right {A B : List Rrd} (h : OkL (A ++ B)) : OkL B := fun x hx => h x (List.mem_append.2 (.inr hx))
theorem OkL.st {A B : List Rrd} (h : OkL A) (k : St cX A B) : OkL B := fun x hx => h x (k.mem.2 hx)
theorem grown_below {w w' : World} (h : Below w.heap.size w w') (r : Option Nat) : w.grownBy w' r := ⟨h.os, h.tape, h.output, h.size, fun k hk _ => h.block k hk⟩
theorem RowX.below {base g n c : Nat} {D : List Rrd} {w w' : World} (h : RowX base g n c D w) (hb : Below w.heap.size w w') : RowX base g n c D w' := own_keep h hb
theorem RowX.lt {base g n c : Nat} {D : List Rrd} {w : World} (h : RowX base g n c D w) : g < w.heap.size := by
  rcases h.2 with ⟨e, _⟩ | ⟨g', cap, cur, e, _, hg, _⟩
  · cases e
  · have e' : g = g' := by simp only [Value.slice.injEq, Option.some.injEq, Addr.mk.injEq] at e; exact e.1.1
    rw [e']
    exact (Array.getElem?_eq_some_iff.1 hg).1
theorem cmpC_any {x y : Rrd} (hx : OkX x) (hy : OkX y) (w : World) :
    Calls Tryz.prog 16 #[.agg #[.string x.s, .int .i64 x.t, .int .i64 x.c, .int .i64 x.l, .string x.d], .agg #[.string y.s, .int .i64 y.t, .int .i64 y.c, .int .i64 y.l, .string y.d]] w fun e w' => e = .returned (.int .i64 (cX x y)) ∧ Below w.heap.size w w' := by
  rw [← cX_is hx hy]
  exact cmp_any hx hy w

theorem ins_next {M M1 M2 A B : List Rrd} {x : Rrd} (hs : Srt cX M1) (hst : St cX M (M1 ++ x :: M2)) (hAB : M1 = A ++ B) (hB : ∀ y ∈ B, cX x y = -1) (hA : ∀ A' y, A = A' ++ [y] → cX x y ≠ -1) :
    Srt cX (A ++ x :: B) ∧ St cX M ((A ++ x :: B) ++ M2) := by
  subst hAB
  obtain ⟨h1, h2⟩ := ins_done cX_ord hs hB hA
  refine ⟨h1, hst.trans ?_⟩
  have e : A ++ B ++ x :: M2 = ((A ++ B) ++ [x]) ++ M2 := by simp
  rw [e]
  exact h2.append (St.refl M2)

set_option maxHeartbeats 4000000 in
theorem insertion_any (base g n c a b : Nat) (P M Q : List Rrd) (w : World) (ha : a = P.length) (hb : b = P.length + M.length) (hM : M ≠ []) (hN : OkL M) (hn : n ≤ 1000000) (h : RowX base g n c (P ++ M ++ Q) w) :
    Calls Tryz.prog 61 #[.slice (some ⟨g, 0, none⟩) n c, .int .i64 (a : Nat), .int .i64 (b : Nat), cmpF] w fun e w' =>
      e = .returned (.tuple #[]) ∧ ∃ M', Srt cX M' ∧ St cX M M' ∧ RowX base g n c (P ++ M' ++ Q) w' ∧ w.grownBy w' (some g) := by
  have hl := h.len
  simp only [List.length_append] at hl
  have hM0 := List.length_pos_iff.2 hM
  have hbn : b ≤ n := by omega
  have hab : a < b := by omega
  have H := Lib.hid h
  have HA := Lib.hid ha
  have HB := Lib.hid hb
  have HN := Lib.hid hN
  have HM := Lib.hid hM
  clear h hl hM hN ha hb hM0
  go_enter Tryz.func61, Tryz.ntmps61
  go_wp2_with fail
  go_loopw [8] (fun u wr => ∃ (i : Nat) (M1 M2 : List Rrd), u = .int .i64 (i : Nat) ∧ a < i ∧ i ≤ b ∧ i = P.length + M1.length ∧ Srt cX M1 ∧ St cX M (M1 ++ M2) ∧ RowX base g n c (P ++ M1 ++ M2 ++ Q) wr ∧ w.grownBy wr (some g)) (fun u _ => b - (intOf u).toNat)
  case atStart =>
    cases M with
    | nil => exact absurd rfl HM.out
    | cons x M2 => exact ⟨a + 1, [x], M2, by go_num, by omega, by omega, by have := HA.out; simp; omega, Srt.one x, St.refl _, by have := H.out; simpa using this, World.grownBy.refl _ _⟩
  case round =>
    obtain ⟨i, M1, M2, rfl, hai, hib, hi, hs, hst, hrow, hgr⟩ := hrel
    have hlen := hst.1.length_eq
    simp only [List.length_append] at hlen
    by_cases hlt : i < b
    · have g1 : (i : Int) < (b : Int) := by omega
      cases M2 with
      | nil => have := HB.out; simp at hlen; omega
      | cons x M2 =>
        have HR := Lib.hid hrow
        have HG := Lib.hid hgr
        have HI := Lib.hid hi
        have HS := Lib.hid hs
        have HST := Lib.hid hst
        have hNx : OkX x := HN.out x (hst.mem.2 (by simp))
        have hN1 : OkL M1 := fun y hy => HN.out y (hst.mem.2 (by simp [hy]))
        have HNx := Lib.hid hNx
        have HN1 := Lib.hid hN1
        clear hrow hgr hi hs hst hNx hN1 hlen
        go_wp2_with fail
        go_loopw [9] (fun u wr2 => ∃ (j : Nat) (A B : List Rrd), u = .int .i64 (j : Nat) ∧ j = P.length + A.length ∧ M1 = A ++ B ∧ (∀ y ∈ B, cX x y = -1) ∧ RowX base g n c (P ++ A ++ x :: (B ++ M2 ++ Q)) wr2 ∧ w.grownBy wr2 (some g)) (fun u _ => (intOf u).toNat)
        case atStart => exact ⟨i, M1, [], rfl, HI.out, (List.append_nil _).symm, (fun y hy => by cases hy), (by have := HR.out; simpa using this), HG.out⟩
        case round =>
          obtain ⟨j, A, B, rfl, hj, hAB, hB, hrow, hgr⟩ := hrel
          have hl := hrow.len
          simp only [List.length_append, List.length_cons] at hl
          have hjn : j < n := by omega
          have HJ := Lib.hid hj
          have HAB := Lib.hid hAB
          have HBB := Lib.hid hB
          have HR2 := Lib.hid hrow
          have HG2 := Lib.hid hgr
          clear hj hAB hB hrow hgr hl
          rcases List.eq_nil_or_concat A with h0 | ⟨A', y, h0⟩
          · have hja : j = a := by have h1 := HJ.out; rw [h0] at h1; simp at h1; have := HA.out; omega
            have g2 : ¬ (a : Int) < (j : Int) := by omega
            have g3 : decide ((a : Int) < (j : Int)) = false := decide_eq_false (by omega)
            go_wp2_with fail
            go_region
            go_wp2_with fail
            obtain ⟨k1, k2⟩ := ins_next HS.out HST.out HAB.out HBB.out (fun A' y e => by rw [h0] at e; simp at e)
            go_roundw
            case rel => exact ⟨i + 1, A ++ x :: B, M2, by go_num, by omega, by omega, by have := HI.out; rw [HAB.out] at this; simp at this ⊢; omega, k1, k2, by have := HR2.out.drew; simpa using this, grown_drew HG2.out⟩
            case measure => simp [intOf]; omega
          · have hAy : A = A' ++ [y] := by simpa using h0
            have hJ2 : j = P.length + A'.length + 1 := by have := HJ.out; rw [hAy] at this; simp at this; omega
            obtain ⟨p, hp⟩ : ∃ p, p + 1 = j := ⟨j - 1, by omega⟩
            have hrow : RowX base g n c ((P ++ A') ++ y :: ([] ++ x :: (B ++ M2 ++ Q))) wr := by have := HR2.out; rw [hAy] at this; simpa using this
            have hNy : OkX y := HN1.out y (by rw [HAB.out, hAy]; simp)
            obtain ⟨hf1, hf2, _, _, _, _⟩ := hrow.two (p := p) (q := j) (by simp; omega) (by simp; omega)
            have hlt : g < wr.heap.size := hrow.lt
            obtain ⟨d0, d1, d2, d3, d4⟩ := hf1.later hlt
            obtain ⟨e0, e1, e2, e3, e4⟩ := hf2.later hlt
            have g2 : (a : Int) < (j : Int) := by have := HA.out; omega
            have z1 : (j : Int) - 1 = (p : Int) := by omega
            have r1 : IntKind.i64.wrap (p : Int) = (p : Int) := by rw [IntKind.wrap_i64]; omega
            have hpn : p < n := by omega
            have HROW := Lib.hid hrow
            have HAY := Lib.hid hAy
            have HNy := Lib.hid hNy
            obtain ⟨v, hv⟩ : ∃ v, v = cX x y := ⟨_, rfl⟩
            have HC := Lib.hid (show ∀ q : Later wr, Calls Tryz.prog 16 #[.agg #[.string x.s, .int .i64 x.t, .int .i64 x.c, .int .i64 x.l, .string x.d], .agg #[.string y.s, .int .i64 y.t, .int .i64 y.c, .int .i64 y.l, .string y.d]] q.val fun e w'' => e = .returned (.int .i64 v) ∧ ∃ q' : Later wr, w'' = q'.val from
              fun q => later_call (by rw [hv]; exact cmpC_any HNx.out HNy.out _))
            have HV := Lib.hid hv
            have HP2 := Lib.hid (show p = (P ++ A').length by simp; omega)
            have HJ3 := Lib.hid (show j = (P ++ A').length + 1 + ([] : List Rrd).length by simp; omega)
            clear hrow hAy hNy h0 hv hJ2 hf1 hf2
            go_wp2_with fail
            refine region_later (by kernel_rfl) ?_
            repeat (go_big_quiet_step ((go_at_call 16; with_reducible exact HC.out _)))
            refine wpQuiet_nil ?_
            rintro _ ⟨q2, rfl⟩
            obtain ⟨W2, hB2⟩ := q2
            simp only []
            have hrow2 := HROW.out.below hB2
            have HG3 := Lib.hid (grown_trans HG2.out (grown_below hB2 (some g)))
            clear d0 d1 d2 d3 d4 e0 e1 e2 e3 e4
            by_cases hv : v < 0
            · obtain ⟨⟨a0, a1, a2, a3, a4⟩, ⟨b0, b1, b2, b3, b4⟩, _, _, _, _⟩ := hrow2.two (p := p) (q := j) HP2.out HJ3.out
              obtain ⟨o2, g2'⟩ := hrow2.two' (p := p) (q := j) HP2.out HJ3.out
              obtain ⟨s0, s1, s2, s3, s4⟩ := hrow2.softs (p * 5)
              obtain ⟨t0, t1, t2, t3, t4⟩ := hrow2.softs (j * 5)
              have HO2 := Lib.hid o2
              have HG4 := Lib.hid (grown_trans HG3.out g2')
              have hfar := far5 g (p := j) (q := p) (by omega)
              have n00 : (⟨g, p * 5, none⟩ : Addr) ≠ ⟨g, j * 5, none⟩ := hfar 0 0 (by decide) (by decide)
              have n01 : (⟨g, p * 5 + 1, none⟩ : Addr) ≠ ⟨g, j * 5, none⟩ := hfar 0 1 (by decide) (by decide)
              have n02 : (⟨g, p * 5 + 2, none⟩ : Addr) ≠ ⟨g, j * 5, none⟩ := hfar 0 2 (by decide) (by decide)
              have n03 : (⟨g, p * 5 + 3, none⟩ : Addr) ≠ ⟨g, j * 5, none⟩ := hfar 0 3 (by decide) (by decide)
              have n04 : (⟨g, p * 5 + 4, none⟩ : Addr) ≠ ⟨g, j * 5, none⟩ := hfar 0 4 (by decide) (by decide)
              have n10 : (⟨g, p * 5, none⟩ : Addr) ≠ ⟨g, j * 5 + 1, none⟩ := hfar 1 0 (by decide) (by decide)
              have n11 : (⟨g, p * 5 + 1, none⟩ : Addr) ≠ ⟨g, j * 5 + 1, none⟩ := hfar 1 1 (by decide) (by decide)
              have n12 : (⟨g, p * 5 + 2, none⟩ : Addr) ≠ ⟨g, j * 5 + 1, none⟩ := hfar 1 2 (by decide) (by decide)
              have n13 : (⟨g, p * 5 + 3, none⟩ : Addr) ≠ ⟨g, j * 5 + 1, none⟩ := hfar 1 3 (by decide) (by decide)
              have n14 : (⟨g, p * 5 + 4, none⟩ : Addr) ≠ ⟨g, j * 5 + 1, none⟩ := hfar 1 4 (by decide) (by decide)
              have n20 : (⟨g, p * 5, none⟩ : Addr) ≠ ⟨g, j * 5 + 2, none⟩ := hfar 2 0 (by decide) (by decide)
              have n21 : (⟨g, p * 5 + 1, none⟩ : Addr) ≠ ⟨g, j * 5 + 2, none⟩ := hfar 2 1 (by decide) (by decide)
              have n22 : (⟨g, p * 5 + 2, none⟩ : Addr) ≠ ⟨g, j * 5 + 2, none⟩ := hfar 2 2 (by decide) (by decide)
              have n23 : (⟨g, p * 5 + 3, none⟩ : Addr) ≠ ⟨g, j * 5 + 2, none⟩ := hfar 2 3 (by decide) (by decide)
              have n24 : (⟨g, p * 5 + 4, none⟩ : Addr) ≠ ⟨g, j * 5 + 2, none⟩ := hfar 2 4 (by decide) (by decide)
              have n30 : (⟨g, p * 5, none⟩ : Addr) ≠ ⟨g, j * 5 + 3, none⟩ := hfar 3 0 (by decide) (by decide)
              have n31 : (⟨g, p * 5 + 1, none⟩ : Addr) ≠ ⟨g, j * 5 + 3, none⟩ := hfar 3 1 (by decide) (by decide)
              have n32 : (⟨g, p * 5 + 2, none⟩ : Addr) ≠ ⟨g, j * 5 + 3, none⟩ := hfar 3 2 (by decide) (by decide)
              have n33 : (⟨g, p * 5 + 3, none⟩ : Addr) ≠ ⟨g, j * 5 + 3, none⟩ := hfar 3 3 (by decide) (by decide)
              have n34 : (⟨g, p * 5 + 4, none⟩ : Addr) ≠ ⟨g, j * 5 + 3, none⟩ := hfar 3 4 (by decide) (by decide)
              have n40 : (⟨g, p * 5, none⟩ : Addr) ≠ ⟨g, j * 5 + 4, none⟩ := hfar 4 0 (by decide) (by decide)
              have n41 : (⟨g, p * 5 + 1, none⟩ : Addr) ≠ ⟨g, j * 5 + 4, none⟩ := hfar 4 1 (by decide) (by decide)
              have n42 : (⟨g, p * 5 + 2, none⟩ : Addr) ≠ ⟨g, j * 5 + 4, none⟩ := hfar 4 2 (by decide) (by decide)
              have n43 : (⟨g, p * 5 + 3, none⟩ : Addr) ≠ ⟨g, j * 5 + 4, none⟩ := hfar 4 3 (by decide) (by decide)
              have n44 : (⟨g, p * 5 + 4, none⟩ : Addr) ≠ ⟨g, j * 5 + 4, none⟩ := hfar 4 4 (by decide) (by decide)
              clear hfar
              have hvm : cX x y = -1 := by
                have := HV.out
                rcases cX_ord.range x y with h | h | h <;> omega
              have HVM := Lib.hid hvm
              clear hrow2 o2 g2' hvm
              go_wp2_with fail
              go_region
              go_wp2_with fail
              go_roundw
              case rel => exact ⟨p, A', y :: B, by go_num, by have := HP2.out; simp at this; omega, by rw [HAB.out, HAY.out]; simp, by
                intro z hz
                rcases List.mem_cons.1 hz with h | h
                · subst h; exact HVM.out
                · exact HBB.out z h, by have := HO2.out.drew; simpa using this, grown_drew HG4.out⟩
              case measure => simp [intOf]; omega
            · have hnv : cX x y ≠ -1 := by have := HV.out; omega
              have hA : ∀ A'' z, A = A'' ++ [z] → cX x z ≠ -1 := by
                intro A'' z e
                rw [HAY.out] at e
                obtain ⟨_, e2⟩ := List.append_inj' e rfl
                injection e2 with e2 _
                rw [← e2]; exact hnv
              obtain ⟨k1, k2⟩ := ins_next HS.out HST.out HAB.out HBB.out hA
              have K1 := Lib.hid k1
              have K2 := Lib.hid k2
              have HR3 := Lib.hid hrow2
              clear hrow2 hnv hA k1 k2
              go_wp2_with fail
              go_roundw
              case rel => exact ⟨i + 1, A ++ x :: B, M2, by go_num, by omega, by omega, by have := HI.out; rw [HAB.out] at this; simp at this ⊢; omega, K1.out, K2.out, by have := HR3.out; rw [HAY.out]; simpa using this, HG3.out⟩
              case measure => simp [intOf]; omega
    · obtain rfl : i = b := by omega
      have g1 : ¬ ((i : Nat) : Int) < (i : Int) := by omega
      cases M2 with
      | cons x M2 => have := HB.out; simp at hlen; omega
      | nil =>
        rw [List.append_nil] at hst
        go_wp2_with fail
        go_end0
        exact ⟨rfl, M1, hs, hst, by simpa using hrow, hgr⟩
end Go.Proofs.YtkgojdmjagicdaaGreat
