/- The library's insertion sort on a list of names of one's own, by their order. -/
import Derived.Test.YtpfbieehdkonhaaDoorDotT
import Derived.Deep.QuietTactic
import Derived.WalkMore
namespace Go.Proofs.YtpfbieehdkonhaaDoor
open Go.RowKit

abbrev cmpF : Value := .func (.func 28) #[] #[]
def Nam (D : List (List UInt8)) : Prop := ∀ x ∈ D, (nameL x).isSome = true
theorem Nam.short {x : List UInt8} (h : (nameL x).isSome = true) : x.length ≤ 255 := by
  cases k : nameL x with
  | none => rw [k] at h; cases h
  | some L => exact (nameL_is k).2.2
theorem Nam.left {A B : List (List UInt8)} (h : Nam (A ++ B)) : Nam A := fun x hx => h x (List.mem_append.2 (.inl hx))
theorem Nam.right {A B : List (List UInt8)} (h : Nam (A ++ B)) : Nam B := fun x hx => h x (List.mem_append.2 (.inr hx))
theorem Nam.st {A B : List (List UInt8)} (h : Nam A) (k : St cK A B) : Nam B := fun x hx => h x (k.mem.2 hx)
theorem grown_below {w w' : World} (h : Below w.heap.size w w') (r : Option Nat) : w.grownBy w' r := ⟨h.os, h.tape, h.output, h.size, fun k hk _ => h.block k hk⟩
theorem RowD.below {base g n c : Nat} {D : List (List UInt8)} {w w' : World} (h : RowD base g n c D w) (hb : Below w.heap.size w w') : RowD base g n c D w' := own_below h hb
theorem Cmp_any (X Y : ByteArray) (x y : List UInt8) (w : World) (hX : X = mk x) (hY : Y = mk y) (h : (nameL x).isSome = true) (k : (nameL y).isSome = true) :
    Calls Tryd.prog 28 #[.string X, .string Y] w fun e w' => e = .returned (.int .i64 (cK x y)) ∧ Below w.heap.size w w' := by
  rw [← cmpN_key h k]
  have h1 := Nam.short h
  have h2 := Nam.short k
  exact Compare_any X Y x y w hX hY (by omega) (by omega)

/-- a world that comes of w by what calls make anew -/
structure Later (w : World) where
  val : World
  below : Below w.heap.size w val
instance (w : World) : Nonempty (Later w) := ⟨⟨w, Below.refl _ _⟩⟩
/-- a region that draws its order, whose operations only read and whose callees make memory of their own: walked once -/
theorem region_later {id : Nat} {Q : Exit → Act → World → Prop} {a : Act} {w : World} {l : List Oper} (hB : Region.lexB .any l.toArray = true)
    (h : wpQuiet Tryd.prog l.toArray (fun w' => ∃ p : Later w, w' = p.val) (fun a' => ∀ w', (∃ p : Later w, w' = p.val) → Q .normal a' w') l a) : (Code.region id l.toArray true).wp Tryd.prog Q a w :=
  wp_region_quiet (C := fun w' => ∃ p : Later w, w' = p.val) (by kernel_rfl) hB ⟨⟨w.drew, (Below.refl _ w).drew⟩, rfl⟩ (by simpa using h)
theorem later_call {f : FuncId} {args : Array Value} {w : World} {p : Later w} {v : Value} (h : Calls Tryd.prog f args p.val fun e w' => e = .returned v ∧ Below p.val.heap.size p.val w') :
    Calls Tryd.prog f args p.val fun e w'' => e = .returned v ∧ ∃ q : Later w, w'' = q.val :=
  h.mono fun _ w' ⟨he, hb⟩ => ⟨he, ⟨w', p.below.trans (hb.mono p.below.size)⟩, rfl⟩

theorem ins_next {M M1 M2 A B : List (List UInt8)} {x : List UInt8} (hs : Srt cK M1) (hst : St cK M (M1 ++ x :: M2)) (hAB : M1 = A ++ B) (hB : ∀ y ∈ B, cK x y = -1) (hA : ∀ A' y, A = A' ++ [y] → cK x y ≠ -1) :
    Srt cK (A ++ x :: B) ∧ St cK M ((A ++ x :: B) ++ M2) := by
  subst hAB
  obtain ⟨h1, h2⟩ := ins_done cK_ord hs hB hA
  refine ⟨h1, hst.trans ?_⟩
  have e : A ++ B ++ x :: M2 = ((A ++ B) ++ [x]) ++ M2 := by simp
  rw [e]
  exact h2.append (St.refl M2)

set_option maxHeartbeats 4000000 in
theorem insertion_any (base g n c a b : Nat) (P M Q : List (List UInt8)) (w : World) (ha : a = P.length) (hb : b = P.length + M.length) (hM : M ≠ []) (hN : Nam M) (hn : n ≤ 1000000) (h : RowD base g n c (P ++ M ++ Q) w) :
    Calls Tryd.prog 54 #[.slice (some ⟨g, 0, none⟩) n c, .int .i64 (a : Nat), .int .i64 (b : Nat), cmpF] w fun e w' =>
      e = .returned (.tuple #[]) ∧ ∃ M', Srt cK M' ∧ St cK M M' ∧ RowD base g n c (P ++ M' ++ Q) w' ∧ w.grownBy w' (some g) := by
  have hl := h.len
  simp only [List.length_append] at hl
  have hM0 := List.length_pos_iff.2 hM
  have hbn : b ≤ n := by omega
  have hab : a < b := by omega
  have H := Lib.hid h
  have HA := Lib.hid ha
  have HB := Lib.hid hb
  have HN := Lib.hid hN
  have HM := Lib.hid hM
  clear h hl hM hN ha hb hM0
  go_enter Tryd.func54, Tryd.ntmps54
  go_wp2_with fail
  go_loopw [8] (fun u wr => ∃ (i : Nat) (M1 M2 : List (List UInt8)), u = .int .i64 (i : Nat) ∧ a < i ∧ i ≤ b ∧ i = P.length + M1.length ∧ Srt cK M1 ∧ St cK M (M1 ++ M2) ∧ RowD base g n c (P ++ M1 ++ M2 ++ Q) wr ∧ w.grownBy wr (some g)) (fun u _ => b - (intOf u).toNat)
  case atStart =>
    cases M with
    | nil => exact absurd rfl HM.out
    | cons x M2 => exact ⟨a + 1, [x], M2, by go_num, by omega, by omega, by have := HA.out; simp; omega, Srt.one x, St.refl _, by have := H.out; simpa using this, World.grownBy.refl _ _⟩
  case round =>
    obtain ⟨i, M1, M2, rfl, hai, hib, hi, hs, hst, hrow, hgr⟩ := hrel
    have hlen := hst.1.length_eq
    simp only [List.length_append] at hlen
    by_cases hlt : i < b
    · have g1 : (i : Int) < (b : Int) := by omega
      cases M2 with
      | nil => have := HB.out; simp at hlen; omega
      | cons x M2 =>
        have HR := Lib.hid hrow
        have HG := Lib.hid hgr
        have HI := Lib.hid hi
        have HS := Lib.hid hs
        have HST := Lib.hid hst
        have hNx : (nameL x).isSome = true := HN.out x (hst.mem.2 (by simp))
        have hN1 : Nam M1 := fun y hy => HN.out y (hst.mem.2 (by simp [hy]))
        have HNx := Lib.hid hNx
        have HN1 := Lib.hid hN1
        clear hrow hgr hi hs hst hNx hN1 hlen
        go_wp2_with fail
        go_loopw [9] (fun u wr2 => ∃ (j : Nat) (A B : List (List UInt8)), u = .int .i64 (j : Nat) ∧ j = P.length + A.length ∧ M1 = A ++ B ∧ (∀ y ∈ B, cK x y = -1) ∧ RowD base g n c (P ++ A ++ x :: (B ++ M2 ++ Q)) wr2 ∧ w.grownBy wr2 (some g)) (fun u _ => (intOf u).toNat)
        case atStart => exact ⟨i, M1, [], rfl, HI.out, (List.append_nil _).symm, (fun y hy => by cases hy), (by have := HR.out; simpa using this), HG.out⟩
        case round =>
          obtain ⟨j, A, B, rfl, hj, hAB, hB, hrow, hgr⟩ := hrel
          have hl := hrow.len
          simp only [List.length_append, List.length_cons] at hl
          have hjn : j < n := by omega
          have HJ := Lib.hid hj
          have HAB := Lib.hid hAB
          have HBB := Lib.hid hB
          have HR2 := Lib.hid hrow
          have HG2 := Lib.hid hgr
          clear hj hAB hB hrow hgr hl
          rcases List.eq_nil_or_concat A with h0 | ⟨A', y, h0⟩
          · have hja : j = a := by have h1 := HJ.out; rw [h0] at h1; simp at h1; have := HA.out; omega
            have g2 : ¬ (a : Int) < (j : Int) := by omega
            have g3 : decide ((a : Int) < (j : Int)) = false := decide_eq_false (by omega)
            go_wp2_with fail
            go_region
            go_wp2_with fail
            obtain ⟨k1, k2⟩ := ins_next HS.out HST.out HAB.out HBB.out (fun A' y e => by rw [h0] at e; simp at e)
            go_roundw
            case rel => exact ⟨i + 1, A ++ x :: B, M2, by go_num, by omega, by omega, by have := HI.out; rw [HAB.out] at this; simp at this ⊢; omega, k1, k2, by have := HR2.out.drew; simpa using this, grown_drew HG2.out⟩
            case measure => simp [intOf]; omega
          · have hAy : A = A' ++ [y] := by simpa using h0
            have hJ2 : j = P.length + A'.length + 1 := by have := HJ.out; rw [hAy] at this; simp at this; omega
            obtain ⟨p, hp⟩ : ∃ p, p + 1 = j := ⟨j - 1, by omega⟩
            have hrow : RowD base g n c ((P ++ A') ++ y :: ([] ++ x :: (B ++ M2 ++ Q))) wr := by have := HR2.out; rw [hAy] at this; simpa using this
            have hNy : (nameL y).isSome = true := HN1.out y (by rw [HAB.out, hAy]; simp)
            obtain ⟨c1, c2, f1, f2, _, _, _, _⟩ := hrow.two (p := p) (q := j) (by simp; omega) (by simp; omega)
            have g2 : (a : Int) < (j : Int) := by have := HA.out; omega
            have z1 : (j : Int) - 1 = (p : Int) := by omega
            have r1 : IntKind.i64.wrap (p : Int) = (p : Int) := by rw [IntKind.wrap_i64]; omega
            have hpn : p < n := by omega
            have HROW := Lib.hid hrow
            have HAY := Lib.hid hAy
            have HNy := Lib.hid hNy
            obtain ⟨X, hX⟩ : ∃ X, X = mk x := ⟨_, rfl⟩
            obtain ⟨Y, hY⟩ : ∃ Y, Y = mk y := ⟨_, rfl⟩
            rw [← hY] at c1
            rw [← hX] at c2
            have HX := Lib.hid hX
            have HY := Lib.hid hY
            have hlt : g < wr.heap.size := World.block_lt_of_cell? wr _ c1
            have d1 : ∀ q : Later wr, q.val.cell? ⟨g, p, none⟩ = some (.string Y) := fun q => (q.below.cell (p := ⟨g, p, none⟩) hlt).trans c1
            have d2 : ∀ q : Later wr, q.val.cell? ⟨g, j, none⟩ = some (.string X) := fun q => (q.below.cell (p := ⟨g, j, none⟩) hlt).trans c2
            obtain ⟨v, hv⟩ : ∃ v, v = cK x y := ⟨_, rfl⟩
            have HV := Lib.hid hv
            have HP2 := Lib.hid (show p = (P ++ A').length by simp; omega)
            have HJ3 := Lib.hid (show j = (P ++ A').length + 1 + ([] : List (List UInt8)).length by simp; omega)
            clear hrow hAy hNy hX hY h0 hv hJ2 c1 c2
            go_wp2_with fail
            refine region_later (by kernel_rfl) ?_
            repeat (quiet_step ((refine later_call (v := .int .i64 v) ?_; rw [HV.out]; exact Cmp_any X Y x y _ HX.out HY.out HNx.out HNy.out)))
            refine wpQuiet_nil ?_
            rintro _ ⟨q2, rfl⟩
            obtain ⟨W2, hB2⟩ := q2
            simp only []
            have hrow2 := HROW.out.below hB2
            have HG3 := Lib.hid (grown_trans HG2.out (grown_below hB2 (some g)))
            clear d1 d2 f1 f2
            by_cases hv : v < 0
            · obtain ⟨c1, c2, f1, f2, _, _, _, _⟩ := hrow2.two (p := p) (q := j) HP2.out HJ3.out
              obtain ⟨o2, g2'⟩ := hrow2.two' (p := p) (q := j) HP2.out HJ3.out
              rw [← HX.out, ← HY.out] at o2 g2'
              rw [← HY.out] at c1
              rw [← HX.out] at c2
              have HO2 := Lib.hid o2
              have HG4 := Lib.hid (grown_trans HG3.out g2')
              have hne : (⟨g, p, none⟩ : Addr) ≠ ⟨g, j, none⟩ := by intro e; injection e with _ e _; omega
              have hvm : cK x y = -1 := by
                have := HV.out
                rcases cK_ord.range x y with h | h | h <;> omega
              have HVM := Lib.hid hvm
              clear hrow2 o2 g2' hvm
              go_wp2_with fail
              go_region
              go_wp2_with fail
              go_roundw
              case rel => exact ⟨p, A', y :: B, by go_num, by have := HP2.out; simp at this; omega, by rw [HAB.out, HAY.out]; simp, by
                intro z hz
                rcases List.mem_cons.1 hz with h | h
                · subst h; exact HVM.out
                · exact HBB.out z h, by have := HO2.out.drew; simpa using this, grown_drew HG4.out⟩
              case measure => simp [intOf]; omega
            · have hnv : cK x y ≠ -1 := by have := HV.out; omega
              have hA : ∀ A'' z, A = A'' ++ [z] → cK x z ≠ -1 := by
                intro A'' z e
                rw [HAY.out] at e
                obtain ⟨_, e2⟩ := List.append_inj' e rfl
                injection e2 with e2 _
                rw [← e2]; exact hnv
              obtain ⟨k1, k2⟩ := ins_next HS.out HST.out HAB.out HBB.out hA
              have K1 := Lib.hid k1
              have K2 := Lib.hid k2
              have HR3 := Lib.hid hrow2
              clear hrow2 hnv hA k1 k2
              go_wp2_with fail
              go_roundw
              case rel => exact ⟨i + 1, A ++ x :: B, M2, by go_num, by omega, by omega, by have := HI.out; rw [HAB.out] at this; simp at this ⊢; omega, K1.out, K2.out, by have := HR3.out; rw [HAY.out]; simpa using this, HG3.out⟩
              case measure => simp [intOf]; omega
    · obtain rfl : i = b := by omega
      have g1 : ¬ ((i : Nat) : Int) < (i : Int) := by omega
      cases M2 with
      | cons x M2 => have := HB.out; simp at hlen; omega
      | nil =>
        rw [List.append_nil] at hst
        go_wp2_with fail
        go_end0
        exact ⟨rfl, M1, hs, hst, by simpa using hrow, hgr⟩
end Go.Proofs.YtpfbieehdkonhaaDoor
