/- Parts of the proofs of the statements of image. No statement of the seat is proved here. -/
import Derived.Test.YtnbapaimpoobkaaGreatDoorRsW
namespace Go.Proofs.YtnbapaimpoobkaaGreatDoor
open Go.RowKit

theorem sym_all : ∀ N, SymN N := by
  intro N
  induction N with
  | zero =>
    intro base g n c a m b P L R Q w hN _ _ _ hL _
    have := List.length_pos_iff.2 hL
    omega
  | succ N IH =>
    intro base g n c a m b P L R Q w hN ha hm hb hL hR hs hsR hNL hNR hn h
    have l1 := List.length_pos_iff.2 hL
    have l2 := List.length_pos_iff.2 hR
    by_cases e1 : L.length = 1
    · obtain ⟨x, rfl⟩ := List.length_eq_one_iff.1 e1
      exact sym_left base g n c a m b P R Q x w ha (by simpa using hm) (by simpa using hb) hsR (hNL x (by simp)) hNR hn h
    · by_cases e2 : R.length = 1
      · obtain ⟨y, rfl⟩ := List.length_eq_one_iff.1 e2
        exact sym_right base g n c a m b P L Q y w ha hm (by simpa using hb) e1 hs (hNR y (by simp)) hNL hn h
      · by_cases e3 : (a + b) / 2 < m
        · exact sym_hi N base g n c a m b _ P L R Q w IH hN ha hm hb (by omega) (by omega) rfl e3 hs hsR hNL hNR hn h
        · exact sym_lo N base g n c a m b _ P L R Q w IH hN ha hm hb (by omega) (by omega) rfl (by omega) hs hsR hNL hNR hn h

theorem insertion_none (A : Option Addr) (n c a : Nat) (w : World) (ha : a ≤ 1000000) :
    Calls Tryz.prog 158 #[.slice A n c, .int .i64 (a : Nat), .int .i64 (a : Nat), cmpF] w fun e w' => e = .returned (.tuple #[]) ∧ w' = w := by
  have g1 : ¬ (a : Int) + 1 < (a : Int) := by omega
  go_enter Tryz.func158, Tryz.ntmps158
  go_wp2_with fail
  refine wp_loop_rounds 1 ?_
  rw [rounds_succ]
  go_wp2_with fail
  go_end0
  exact ⟨rfl, rfl⟩

/-- what the sort leaves -/
def SortedX (base g n c : Nat) (D : List Rrd) (w : World) (e : Ending) (w' : World) : Prop :=
  e = .returned (.tuple #[]) ∧ ∃ D', Srt cX D' ∧ St cX D D' ∧ RowX base g n c D' w' ∧ w.grownBy w' (some g)

theorem sort_none (A : Option Addr) (c : Nat) (w : World) :
    Calls Tryz.prog 64 #[.slice A 0 c, cmpF] w fun e w' => e = .returned (.tuple #[]) ∧ w' = w := by
  have hc : Calls Tryz.prog 118 #[.slice A 0 c, .int .i64 (0 : Nat), cmpF] w fun e w' => e = .returned (.tuple #[]) ∧ w' = w := by
    go_enter Tryz.func118, Tryz.ntmps118
    go_wp2_with fail
    refine wp_loop_rounds 1 ?_
    rw [rounds_succ]
    go_wp2_with fail
    refine (insertion_none A 0 c 0 _ (by omega)).mono ?_
    rintro e w2 ⟨rfl, rfl⟩
    go_wp2_with fail
    refine wp_loop_rounds 1 ?_
    rw [rounds_succ]
    go_wp2_with fail
    go_end0
    exact ⟨rfl, rfl⟩
  go_enter Tryz.func64, Tryz.ntmps64
  go_wp2_with fail
  refine hc.mono ?_
  rintro e w1 ⟨rfl, rfl⟩
  go_wp2_with fail
  go_end0
  exact ⟨rfl, rfl⟩
end Go.Proofs.YtnbapaimpoobkaaGreatDoor
namespace Go.Proofs.YtnbapaimpoobkaaGreatDoor
open Go.RowKit

/-- sorted piece by piece, each piece of the length s but the last, which is not longer -/
inductive Blk (s : Nat) : List Rrd → Prop
  | last {M : List Rrd} : Srt cX M → M.length ≤ s → Blk s M
  | more {M D : List Rrd} : Srt cX M → M.length = s → Blk s D → Blk s (M ++ D)
/-- the same with all pieces of the length s -/
inductive Ful (s : Nat) : List Rrd → Prop
  | nil : Ful s []
  | snoc {U M : List Rrd} : Ful s U → Srt cX M → M.length = s → Ful s (U ++ M)
theorem Ful.blk {s : Nat} {U : List Rrd} (h : Ful s U) : ∀ {V : List Rrd}, Blk s V → Blk s (U ++ V) := by
  induction h with
  | nil => intro V h; simpa using h
  | snoc hU hM hl ih => intro V h; rw [List.append_assoc]; exact ih (.more hM hl h)
theorem Blk.done {s : Nat} {V : List Rrd} (h : Blk s V) (hl : V.length ≤ s) : Srt cX V := by
  cases h with
  | last h _ => exact h
  | @more M D h e hD =>
    have : D = [] := List.eq_nil_of_length_eq_zero (by simp at hl; omega)
    subst this
    simpa using h
theorem Blk.head {s : Nat} {V : List Rrd} (h : Blk s V) (hl : s ≤ V.length) : ∃ X D, V = X ++ D ∧ Srt cX X ∧ X.length = s ∧ Blk s D := by
  cases h with
  | last h e => exact ⟨V, [], by simp, h, by omega, .last Srt.nil (Nat.zero_le _)⟩
  | @more M D h e hD => exact ⟨M, D, rfl, h, e, hD⟩
theorem Blk.two {s : Nat} {V : List Rrd} (h : Blk s V) (hl : 2 * s ≤ V.length) : ∃ X Y D, V = X ++ (Y ++ D) ∧ Srt cX X ∧ X.length = s ∧ Srt cX Y ∧ Y.length = s ∧ Blk s D := by
  obtain ⟨X, V2, rfl, h1, h2, h3⟩ := h.head (by omega)
  obtain ⟨Y, D, rfl, h4, h5, h6⟩ := h3.head (by simp at hl; omega)
  exact ⟨X, Y, D, rfl, h1, h2, h4, h5, h6⟩
theorem Blk.odd {s : Nat} {V : List Rrd} (h : Blk s V) (h1 : s < V.length) (h2 : V.length < 2 * s) : ∃ X Y, V = X ++ Y ∧ Srt cX X ∧ X.length = s ∧ Srt cX Y ∧ Y ≠ [] := by
  obtain ⟨X, Y, rfl, k1, k2, k3⟩ := h.head (by omega)
  exact ⟨X, Y, rfl, k1, k2, k3.done (by simp at h2; omega), List.length_pos_iff.1 (by simp at h1; omega)⟩
theorem St.under {A B A' B' : List Rrd} (h : St cX A A') (k : St cX B B') : St cX (A ++ B) (A' ++ B') := h.append k

/-- where the first loop stands -/
def Lp1 (base g n c : Nat) (D : List Rrd) (w : World) (a b : Value) (wr : World) : Prop :=
  ∃ (k : Nat) (U V : List Rrd), a = .int .i64 (k : Nat) ∧ b = .int .i64 ((k + 20 : Nat) : Int) ∧ U.length = k ∧ Ful 20 U ∧ St cX D (U ++ V) ∧ RowX base g n c (U ++ V) wr ∧ w.grownBy wr (some g)
/-- where the second loop stands -/
def Lp2 (base g n c : Nat) (D : List Rrd) (w : World) (s : Value) (wr : World) : Prop :=
  ∃ (z : Nat) (E : List Rrd), s = .int .i64 (z : Nat) ∧ 0 < z ∧ z ≤ 20 + 2 * n ∧ Blk z E ∧ St cX D E ∧ RowX base g n c E wr ∧ w.grownBy wr (some g)
/-- where its inner loop stands -/
def Lp3 (base g n c z : Nat) (D : List Rrd) (w : World) (a b : Value) (wr : World) : Prop :=
  ∃ (k : Nat) (U V : List Rrd), a = .int .i64 (k : Nat) ∧ b = .int .i64 ((k + 2 * z : Nat) : Int) ∧ U.length = k ∧ Ful (2 * z) U ∧ Blk z V ∧ St cX D (U ++ V) ∧ RowX base g n c (U ++ V) wr ∧ w.grownBy wr (some g)

set_option maxHeartbeats 8000000 in
set_option maxRecDepth 20000 in
theorem stable_any (base g n c : Nat) (D : List Rrd) (w : World) (hn : n ≤ 300000) (hN : OkL D) (h : RowX base g n c D w) :
    Calls Tryz.prog 118 #[.slice (some ⟨g, 0, none⟩) n c, .int .i64 (n : Nat), cmpF] w (SortedX base g n c D w) := by
  have hl := h.len
  have HL := Lib.hid hl
  have HN := Lib.hid hN
  have H := Lib.hid h
  clear hl hN h
  go_enter Tryz.func118, Tryz.ntmps118
  go_wp2_with fail
  go_loopw [7, 8] (fun a b wr => Lp1 base g n c D w a b wr) (fun a _ _ => n - (intOf a).toNat)
  case atStart => exact ⟨0, [], D, rfl, rfl, rfl, .nil, St.refl _, H.out, World.grownBy.refl _ _⟩
  case round =>
    obtain ⟨k, U, V, rfl, rfl, hU, hF, hst, hrow, hgr⟩ := hrel
    have hlen := hrow.len
    rw [List.length_append, hU] at hlen
    have hkn : k ≤ n := by omega
    have HOK := Lib.hid (HN.out.st hst)
    have HU := Lib.hid hU
    have HF := Lib.hid hF
    have HST := Lib.hid hst
    have HR := Lib.hid hrow
    have HG := Lib.hid hgr
    have HLEN := Lib.hid hlen
    clear hU hF hst hrow hgr hlen
    by_cases hb : k + 20 ≤ n
    · have g1 : ((k + 20 : Nat) : Int) ≤ (n : Int) := by omega
      obtain ⟨M, Q, hMQ, hM⟩ : ∃ M Q, V = M ++ Q ∧ M.length = 20 := ⟨V.take 20, V.drop 20, (List.take_append_drop 20 V).symm, by have := HLEN.out; rw [List.length_take]; omega⟩
      subst hMQ
      have HM := Lib.hid hM
      clear hM
      have HR1 := Lib.hid (show RowX base g n c (U ++ M ++ Q) wr by have := HR.out; rwa [← List.append_assoc] at this)
      have HNM := Lib.hid (show OkL M from HOK.out.right.left)
      have HNE := Lib.hid (show M ≠ [] from List.length_pos_iff.1 (by rw [HM.out]; omega))
      go_wp2_with fail
      refine (insertion_any base g n c k (k + 20) U M Q _ HU.out.symm (by have := HM.out; have := HU.out; omega) HNE.out HNM.out (by omega) HR1.out).mono ?_
      rintro e w1 ⟨rfl, M', k1, k2, k3, k4⟩
      have K1 := Lib.hid k1
      have K2 := Lib.hid k2
      have K3 := Lib.hid k3
      have K4 := Lib.hid (grown_trans HG.out k4)
      have LM := Lib.hid (show M'.length = 20 by rw [← k2.1.length_eq]; exact HM.out)
      clear k1 k2 k3 k4
      go_wp2_with fail
      go_roundw
      case rel =>
        refine ⟨k + 20, U ++ M', Q, by go_num, by go_num, by rw [List.length_append, HU.out, LM.out], HF.out.snoc K1.out LM.out, ?_, K3.out, K4.out⟩
        refine HST.out.trans ?_
        rw [← List.append_assoc]
        exact ((St.refl U).append K2.out).append (St.refl Q)
      case measure => simp [intOf]; omega
    · have g1 : ¬ ((k + 20 : Nat) : Int) ≤ (n : Int) := by omega
      have HX : Hid (∀ (W : World), W = wr → Calls Tryz.prog 158 #[.slice (some ⟨g, 0, none⟩) n c, .int .i64 (k : Nat), .int .i64 (n : Nat), cmpF] W fun e w' => e = .returned (.tuple #[]) ∧ ∃ E, Blk 20 E ∧ St cX D E ∧ RowX base g n c E w' ∧ w.grownBy w' (some g)) := by
        refine Lib.hid fun W hW => ?_
        subst hW
        by_cases hkn2 : k = n
        · have hV : V = [] := List.eq_nil_of_length_eq_zero (by have := HLEN.out; omega)
          subst hkn2
          refine (insertion_none (some ⟨g, 0, none⟩) k c k _ (by omega)).mono ?_
          rintro e w1 ⟨rfl, rfl⟩
          exact ⟨rfl, U ++ V, HF.out.blk (by rw [hV]; exact .last Srt.nil (Nat.zero_le _)), HST.out, HR.out, HG.out⟩
        · refine (insertion_any base g n c k n U V [] _ HU.out.symm (by have := HLEN.out; have := HU.out; omega) (List.length_pos_iff.1 (by have := HLEN.out; omega)) HOK.out.right (by omega) (by have := HR.out; simpa using this)).mono ?_
          rintro e w1 ⟨rfl, M', k1, k2, k3, k4⟩
          refine ⟨rfl, U ++ M', HF.out.blk (.last k1 (by rw [← k2.1.length_eq]; have := HLEN.out; omega)), HST.out.trans ((St.refl U).append k2), by simpa using k3, grown_trans HG.out k4⟩
      go_wp2_with fail
      refine (HX.out _ rfl).mono ?_
      rintro e w1 ⟨rfl, E, k1, k2, k3, k4⟩
      have K : Hid (Lp2 base g n c D w (.int .i64 20) w1) := Lib.hid ⟨20, E, rfl, by omega, by omega, k1, k2, k3, k4⟩
      clear k1 k2 k3 k4 HX
      go_wp2_with fail
      go_loopw [6, 7, 8] (fun s a b wr => Lp2 base g n c D w s wr) (fun s _ _ _ => n - (intOf s).toNat)
      case atStart => exact K.out
      case round =>
        obtain ⟨z, E, rfl, hz0, hz1, hB, hst, hrow, hgr⟩ := hrel
        have hlen := hrow.len
        have HB := Lib.hid hB
        have HST := Lib.hid hst
        have HR := Lib.hid hrow
        have HG := Lib.hid hgr
        have HLEN := Lib.hid hlen
        clear hB hst hrow hgr hlen
        by_cases hzn : z < n
        · have g2 : (z : Int) < (n : Int) := by omega
          go_wp2_with fail
          have HK0 : Hid (Lp3 base g n c z D w (.int .i64 0) (.int .i64 (2 * (z : Int))) wr) := Lib.hid ⟨0, [], E, rfl, by congr 1; omega, rfl, .nil, HB.out, HST.out, HR.out, HG.out⟩
          go_loopw [7, 8] (fun a b wr => Lp3 base g n c z D w a b wr) (fun a _ _ => n - (intOf a).toNat)
          case atStart => exact HK0.out
          case round =>
            obtain ⟨k, U, V, rfl, rfl, hU, hF, hV, hst, hrow, hgr⟩ := hrel
            have hlen := hrow.len
            rw [List.length_append, hU] at hlen
            have HOK := Lib.hid (HN.out.st hst)
            have HU := Lib.hid hU
            have HF := Lib.hid hF
            have HV := Lib.hid hV
            have HST := Lib.hid hst
            have HR := Lib.hid hrow
            have HG := Lib.hid hgr
            have HLEN := Lib.hid hlen
            clear hU hF hV hst hrow hgr hlen
            have hkn : k ≤ n := by have := HLEN.out; omega
            by_cases hb : k + 2 * z ≤ n
            · have g3 : ((k + 2 * z : Nat) : Int) ≤ (n : Int) := by omega
              obtain ⟨X, Y, Q, hVV, x1, x2, y1, y2, hQ⟩ := HV.out.two (by have := HLEN.out; omega)
              subst hVV
              have HX1 := Lib.hid x1
              have HX2 := Lib.hid x2
              have HY1 := Lib.hid y1
              have HY2 := Lib.hid y2
              have HQ := Lib.hid hQ
              clear x1 x2 y1 y2 hQ
              have HR1 := Lib.hid (show RowX base g n c (U ++ X ++ Y ++ Q) wr by have := HR.out; simpa using this)
              have HNX := Lib.hid (show OkL X from HOK.out.right.left)
              have HNY := Lib.hid (show OkL Y from HOK.out.right.right.left)
              have HXE := Lib.hid (show X ≠ [] from List.length_pos_iff.1 (by rw [HX2.out]; omega))
              have HYE := Lib.hid (show Y ≠ [] from List.length_pos_iff.1 (by rw [HY2.out]; omega))
              go_wp2_with fail
              refine (sym_all _ base g n c k (k + z) (k + 2 * z) U X Y Q _ (Nat.le_refl _) HU.out.symm (by rw [HX2.out, HU.out]) (by rw [HX2.out, HY2.out, HU.out]; omega) HXE.out HYE.out HX1.out HY1.out HNX.out HNY.out (by omega) HR1.out).mono ?_
              rintro e w2 ⟨rfl, M, k1, k2, k3, k4⟩
              have K1 := Lib.hid k1
              have K2 := Lib.hid k2
              have K3 := Lib.hid k3
              have K4 := Lib.hid (grown_trans HG.out k4)
              have LM := Lib.hid (show M.length = 2 * z by rw [← k2.1.length_eq, List.length_append, HX2.out, HY2.out]; omega)
              clear k1 k2 k3 k4
              go_wp2_with fail
              go_roundw
              case rel =>
                refine ⟨k + 2 * z, U ++ M, Q, by go_num, by go_num, by rw [List.length_append, HU.out, LM.out], HF.out.snoc K1.out LM.out, HQ.out, ?_, K3.out, K4.out⟩
                refine HST.out.trans ?_
                have e1 : U ++ (X ++ (Y ++ Q)) = U ++ (X ++ Y) ++ Q := by simp
                rw [e1]
                exact ((St.refl U).append K2.out).append (St.refl Q)
              case measure => simp [intOf]; omega
            · have g3 : ¬ ((k + 2 * z : Nat) : Int) ≤ (n : Int) := by omega
              by_cases hm : k + z < n
              · have g4 : ((k + z : Nat) : Int) < (n : Int) := by omega
                obtain ⟨X, Y, hVV, x1, x2, y1, y2⟩ := HV.out.odd (by have := HLEN.out; omega) (by have := HLEN.out; omega)
                subst hVV
                have HX1 := Lib.hid x1
                have HX2 := Lib.hid x2
                have HY1 := Lib.hid y1
                have HYE := Lib.hid y2
                clear x1 x2 y1 y2
                have HR1 := Lib.hid (show RowX base g n c (U ++ X ++ Y ++ []) wr by have := HR.out; simpa using this)
                have HNX := Lib.hid (show OkL X from HOK.out.right.left)
                have HNY := Lib.hid (show OkL Y from HOK.out.right.right)
                have HXE := Lib.hid (show X ≠ [] from List.length_pos_iff.1 (by rw [HX2.out]; omega))
                have HLY := Lib.hid (show n = k + z + Y.length by have := HLEN.out; rw [List.length_append, HX2.out] at this; omega)
                go_wp2_with fail
                refine (sym_all _ base g n c k (k + z) n U X Y [] _ (Nat.le_refl _) HU.out.symm (by rw [HX2.out, HU.out]) (by rw [HX2.out, HU.out]; exact HLY.out) HXE.out HYE.out HX1.out HY1.out HNX.out HNY.out (by omega) HR1.out).mono ?_
                rintro e w2 ⟨rfl, M, k1, k2, k3, k4⟩
                have K1 := Lib.hid k1
                have K2 := Lib.hid k2
                have K3 := Lib.hid (show RowX base g n c (U ++ M) w2 by simpa using k3)
                have K4 := Lib.hid (grown_trans HG.out k4)
                have LM := Lib.hid (show M.length ≤ 2 * z by rw [← k2.1.length_eq, List.length_append, HX2.out]; have := HLY.out; omega)
                clear k1 k2 k3 k4
                go_wp2_with fail
                go_roundw
                case rel => exact ⟨2 * z, U ++ M, by go_num, by omega, by omega, HF.out.blk (.last K1.out LM.out), HST.out.trans ((St.refl U).append K2.out), K3.out, K4.out⟩
                case measure => simp [intOf]; omega
              · have g4 : ¬ ((k + z : Nat) : Int) < (n : Int) := by omega
                have HSV := Lib.hid (HV.out.done (by have := HLEN.out; omega))
                go_wp2_with fail
                go_roundw
                case rel => exact ⟨2 * z, U ++ V, by go_num, by omega, by omega, HF.out.blk (.last HSV.out (by have := HLEN.out; omega)), HST.out, HR.out, HG.out⟩
                case measure => simp [intOf]; omega
        · have g2 : ¬ (z : Int) < (n : Int) := by omega
          have HSV := Lib.hid (HB.out.done (by have := HLEN.out; omega))
          go_wp2_with fail
          go_end0
          exact ⟨rfl, E, HSV.out, HST.out, HR.out, HG.out⟩

theorem sort_big (base g n c : Nat) (D : List Rrd) (w : World) (_h0 : 0 < n) (hn : n ≤ 60000) (hN : OkL D) (h : RowX base g n c D w) :
    Calls Tryz.prog 64 #[.slice (some ⟨g, 0, none⟩) n c, cmpF] w (SortedX base g n c D w) := by
  have hc := stable_any base g n c D w (by omega) hN h
  clear h hN
  go_enter Tryz.func64, Tryz.ntmps64
  go_wp2_with fail
  refine hc.mono ?_
  rintro e w1 ⟨rfl, D', k1, k2, k3, k4⟩
  have K : Hid (SortedX base g n c D w (.returned (.tuple #[])) w1) := Lib.hid ⟨rfl, D', k1, k2, k3, k4⟩
  clear k1 k2 k3 k4 hc
  go_wp2_with fail
  go_end0
  exact K.out
end Go.Proofs.YtnbapaimpoobkaaGreatDoor
