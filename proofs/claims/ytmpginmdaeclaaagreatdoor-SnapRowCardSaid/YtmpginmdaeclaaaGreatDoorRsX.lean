/- Parts of the proofs of the statements of image. No statement of the seat is proved here. -/
import Derived.Test.YtmpginmdaeclaaaGreatDoorRsW
import Derived.Test.YtmpginmdaeclaaaGreatDoorRsS
import Derived.Lib.SliceRun
import Derived.Test.YtmpginmdaeclaaaGreatDoorRrJ
import Derived.Test.YtmpginmdaeclaaaGreatDoorRrA
set_option maxHeartbeats 32000000
set_option maxRecDepth 20000
namespace Go.Proofs.YtmpginmdaeclaaaGreatDoor
open Go.RowKit
theorem sym_all : ∀ N, SymN N := by
  intro N
  induction N with
  | zero =>
    intro base g n c a m b P L R Q w hN _ _ _ hL _
    have := List.length_pos_iff.2 hL
    omega
  | succ N IH =>
    intro base g n c a m b P L R Q w hN ha hm hb hL hR hs hsR hNL hNR hn h
    have l1 := List.length_pos_iff.2 hL
    have l2 := List.length_pos_iff.2 hR
    by_cases e1 : L.length = 1
    · obtain ⟨x, rfl⟩ := List.length_eq_one_iff.1 e1
      exact sym_left base g n c a m b P R Q x w ha (by simpa using hm) (by simpa using hb) hsR (hNL x (by simp)) hNR hn h
    · by_cases e2 : R.length = 1
      · obtain ⟨y, rfl⟩ := List.length_eq_one_iff.1 e2
        exact sym_right base g n c a m b P L Q y w ha hm (by simpa using hb) e1 hs (hNR y (by simp)) hNL hn h
      · by_cases e3 : (a + b) / 2 < m
        · exact sym_hi N base g n c a m b _ P L R Q w IH hN ha hm hb (by omega) (by omega) rfl e3 hs hsR hNL hNR hn h
        · exact sym_lo N base g n c a m b _ P L R Q w IH hN ha hm hb (by omega) (by omega) rfl (by omega) hs hsR hNL hNR hn h
theorem insertion_none (A : Option Addr) (n c a : Nat) (w : World) (ha : a <= 1000000) :
    Calls Tryz.prog 219 #[.slice A n c, .int .i64 (a : Nat), .int .i64 (a : Nat), cmpF] w fun e w' => e = .returned (.tuple #[]) /\ w' = w := by
  have g1 : ¬ (a : Int) + 1 < (a : Int) := by omega
  go_enter Tryz.func219, Tryz.ntmps219
  go_wp2_with fail
  refine wp_loop_rounds 1 ?_
  rw [rounds_succ]
  go_wp2_with fail
  go_end0
  exact ⟨rfl, rfl⟩
def SortedX (base g n c : Nat) (D : List Rrd) (w : World) (e : Ending) (w' : World) : Prop :=
  e = .returned (.tuple #[]) /\ ∃ D', Srt cX D' /\ StS cX D D' /\ RowX base g n c D' w' /\ w.grownBy w' (some g)
theorem sort_none (A : Option Addr) (c : Nat) (w : World) :
    Calls Tryz.prog 125 #[.slice A 0 c, cmpF] w fun e w' => e = .returned (.tuple #[]) /\ w' = w := by
  have hc : Calls Tryz.prog 173 #[.slice A 0 c, .int .i64 (0 : Nat), cmpF] w fun e w' => e = .returned (.tuple #[]) /\ w' = w := by
    go_enter Tryz.func173, Tryz.ntmps173
    go_wp2_with fail
    refine wp_loop_rounds 1 ?_
    rw [rounds_succ]
    go_wp2_with fail
    refine (insertion_none A 0 c 0 _ (by omega)).mono ?_
    rintro e w2 ⟨rfl, rfl⟩; go_wp2_with fail
    refine wp_loop_rounds 1 ?_
    rw [rounds_succ]
    go_wp2_with fail
    go_end0
    exact ⟨rfl, rfl⟩
  go_enter Tryz.func125, Tryz.ntmps125
  go_wp2_with fail
  refine hc.mono ?_
  rintro e w1 ⟨rfl, rfl⟩
  go_wp2_with fail
  go_end0
  exact ⟨rfl, rfl⟩
end Go.Proofs.YtmpginmdaeclaaaGreatDoor
namespace Go.Proofs.YtmpginmdaeclaaaGreatDoor
open Go.RowKit
inductive Blk (s : Nat) : List Rrd -> Prop
  | last {M : List Rrd} : Srt cX M -> M.length <= s -> Blk s M
  | more {M D : List Rrd} : Srt cX M -> M.length = s -> Blk s D -> Blk s (M ++ D)
inductive Ful (s : Nat) : List Rrd -> Prop
  | nil : Ful s []
  | snoc {U M : List Rrd} : Ful s U -> Srt cX M -> M.length = s -> Ful s (U ++ M)
theorem Ful.blk {s : Nat} {U : List Rrd} (h : Ful s U) : ∀ {V : List Rrd}, Blk s V -> Blk s (U ++ V) := by
  induction h with
  | nil => intro V h; simpa using h
  | snoc hU hM hl ih => intro V h; rw [List.append_assoc]; exact ih (.more hM hl h)
theorem Blk.done {s : Nat} {V : List Rrd} (h : Blk s V) (hl : V.length <= s) : Srt cX V := by
  cases h with
  | last h _ => exact h
  | @more M D h e hD =>
    have : D = [] := List.eq_nil_of_length_eq_zero (by simp at hl; omega)
    subst this
    simpa using h
theorem Blk.head {s : Nat} {V : List Rrd} (h : Blk s V) (hl : s <= V.length) : ∃ X D, V = X ++ D /\ Srt cX X /\ X.length = s /\ Blk s D := by
  cases h with
  | last h e => exact ⟨V, [], by simp, h, by omega, .last Srt.nil (Nat.zero_le _)⟩
  | @more M D h e hD => exact ⟨M, D, rfl, h, e, hD⟩
theorem Blk.two {s : Nat} {V : List Rrd} (h : Blk s V) (hl : 2 * s <= V.length) : ∃ X Y D, V = X ++ (Y ++ D) /\ Srt cX X /\ X.length = s /\ Srt cX Y /\ Y.length = s /\ Blk s D := by
  obtain ⟨X, V2, rfl, h1, h2, h3⟩ := h.head (by omega)
  obtain ⟨Y, D, rfl, h4, h5, h6⟩ := h3.head (by simp at hl; omega)
  exact ⟨X, Y, D, rfl, h1, h2, h4, h5, h6⟩
theorem Blk.odd {s : Nat} {V : List Rrd} (h : Blk s V) (h1 : s < V.length) (h2 : V.length < 2 * s) : ∃ X Y, V = X ++ Y /\ Srt cX X /\ X.length = s /\ Srt cX Y /\ Y ≠ [] := by
  obtain ⟨X, Y, rfl, k1, k2, k3⟩ := h.head (by omega)
  exact ⟨X, Y, rfl, k1, k2, k3.done (by simp at h2; omega), List.length_pos_iff.1 (by simp at h1; omega)⟩
def Lp1 (base g n c : Nat) (D : List Rrd) (w : World) (a b : Value) (wr : World) : Prop :=
  ∃ (k : Nat) (U V : List Rrd), a = .int .i64 (k : Nat) /\ b = .int .i64 ((k + 20 : Nat) : Int) /\ U.length = k /\ Ful 20 U /\ StS cX D (U ++ V) /\ RowX base g n c (U ++ V) wr /\ w.grownBy wr (some g)
def Lp2 (base g n c : Nat) (D : List Rrd) (w : World) (s : Value) (wr : World) : Prop :=
  ∃ (z : Nat) (E : List Rrd), s = .int .i64 (z : Nat) /\ 0 < z /\ z <= 20 + 2 * n /\ Blk z E /\ StS cX D E /\ RowX base g n c E wr /\ w.grownBy wr (some g)
def Lp3 (base g n c z : Nat) (D : List Rrd) (w : World) (a b : Value) (wr : World) : Prop :=
  ∃ (k : Nat) (U V : List Rrd), a = .int .i64 (k : Nat) /\ b = .int .i64 ((k + 2 * z : Nat) : Int) /\ U.length = k /\ Ful (2 * z) U /\ Blk z V /\ StS cX D (U ++ V) /\ RowX base g n c (U ++ V) wr /\ w.grownBy wr (some g)
theorem stable_any (base g n c : Nat) (D : List Rrd) (w : World) (hn : n <= 300000) (hN : OkL D) (h : RowX base g n c D w) :
    Calls Tryz.prog 173 #[.slice (some ⟨g, 0, none⟩) n c, .int .i64 (n : Nat), cmpF] w (SortedX base g n c D w) := by
  have hl := h.len
  have HL := Ha hl
  have HN := Ha hN
  have H := Ha h
  clear hl hN h
  go_enter Tryz.func173, Tryz.ntmps173
  go_wp2_with fail
  go_loopw [7, 8] (fun a b wr => Lp1 base g n c D w a b wr) (fun a _ _ => n - (intOf a).toNat)
  case atStart => exact ⟨0, [], D, rfl, rfl, rfl, .nil, StS.refl _, H.out, World.grownBy.refl _ _⟩
  case round =>
    obtain ⟨k, U, V, rfl, rfl, hU, hF, hst, hrow, hgr⟩ := hrel
    have hlen := hrow.len
    rw [List.length_append, hU] at hlen
    have hkn : k <= n := by omega
    have HOK := Ha (HN.out.st hst)
    have HU := Ha hU
    have HF := Ha hF
    have HST := Ha hst
    have HR := Ha hrow
    have HG := Ha hgr
    have HLEN := Ha hlen
    clear hU hF hst hrow hgr hlen
    by_cases hb : k + 20 <= n
    · have g1 : ((k + 20 : Nat) : Int) <= (n : Int) := by omega
      obtain ⟨M, Q, hMQ, hM⟩ : ∃ M Q, V = M ++ Q /\ M.length = 20 := ⟨V.take 20, V.drop 20, (List.take_append_drop 20 V).symm, by have := HLEN.out; rw [List.length_take]; omega⟩
      subst hMQ; have HM := Ha hM
      clear hM; have HR1 := Ha (show RowX base g n c (U ++ M ++ Q) wr by have := HR.out; rwa [<-List.append_assoc] at this)
      have HNM := Ha (show OkL M from HOK.out.right.left)
      have HNE := Ha (show M ≠ [] from List.length_pos_iff.1 (by rw [HM.out]; omega))
      go_wp2_with fail
      refine (insertion_any base g n c k (k + 20) U M Q _ HU.out.symm (by have := HM.out; have := HU.out; omega) HNE.out HNM.out (by omega) HR1.out).mono ?_
      rintro e w1 ⟨rfl, M', k1, k2, k3, k4⟩; have K1 := Ha k1
      have K2 := Ha k2
      have K3 := Ha k3
      have K4 := Ha (grown_trans HG.out k4)
      have LM := Ha (show M'.length = 20 by rw [<-k2.1.length_eq]; exact HM.out)
      clear k1 k2 k3 k4; go_wp2_with fail
      go_roundw
      case rel =>
        refine ⟨k + 20, U ++ M', Q, by go_num, by go_num, by rw [List.length_append, HU.out, LM.out], HF.out.snoc K1.out LM.out, ?_, K3.out, K4.out⟩
        refine HST.out.trans ?_
        rw [<-List.append_assoc]
        exact ((StS.refl U).append K2.out).append (StS.refl Q)
      case measure => simp [intOf]; omega
    · have g1 : ¬ ((k + 20 : Nat) : Int) <= (n : Int) := by omega
      have HX : Hid (∀ (W : World), W = wr -> Calls Tryz.prog 219 #[.slice (some ⟨g, 0, none⟩) n c, .int .i64 (k : Nat), .int .i64 (n : Nat), cmpF] W fun e w' => e = .returned (.tuple #[]) /\ ∃ E, Blk 20 E /\ StS cX D E /\ RowX base g n c E w' /\ w.grownBy w' (some g)) := by
        refine Ha fun W hW => ?_
        subst hW
        by_cases hkn2 : k = n
        · have hV : V = [] := List.eq_nil_of_length_eq_zero (by have := HLEN.out; omega)
          subst hkn2; refine (insertion_none (some ⟨g, 0, none⟩) k c k _ (by omega)).mono ?_
          rintro e w1 ⟨rfl, rfl⟩; exact ⟨rfl, U ++ V, HF.out.blk (by rw [hV]; exact .last Srt.nil (Nat.zero_le _)), HST.out, HR.out, HG.out⟩
        · refine (insertion_any base g n c k n U V [] _ HU.out.symm (by have := HLEN.out; have := HU.out; omega) (List.length_pos_iff.1 (by have := HLEN.out; omega)) HOK.out.right (by omega) (by have := HR.out; simpa using this)).mono ?_
          rintro e w1 ⟨rfl, M', k1, k2, k3, k4⟩; refine ⟨rfl, U ++ M', HF.out.blk (.last k1 (by rw [<-k2.1.length_eq]; have := HLEN.out; omega)), HST.out.trans ((StS.refl U).append k2), by simpa using k3, grown_trans HG.out k4⟩
      go_wp2_with fail
      refine (HX.out _ rfl).mono ?_
      rintro e w1 ⟨rfl, E, k1, k2, k3, k4⟩; have K : Hid (Lp2 base g n c D w (.int .i64 20) w1) := Ha ⟨20, E, rfl, by omega, by omega, k1, k2, k3, k4⟩
      clear k1 k2 k3 k4 HX; go_wp2_with fail
      go_loopw [6, 7, 8] (fun s a b wr => Lp2 base g n c D w s wr) (fun s _ _ _ => n - (intOf s).toNat)
      case atStart => exact K.out
      case round =>
        obtain ⟨z, E, rfl, hz0, hz1, hB, hst, hrow, hgr⟩ := hrel
        have hlen := hrow.len
        have HB := Ha hB
        have HST := Ha hst
        have HR := Ha hrow
        have HG := Ha hgr
        have HLEN := Ha hlen
        clear hB hst hrow hgr hlen
        by_cases hzn : z < n
        · have g2 : (z : Int) < (n : Int) := by omega
          go_wp2_with fail
          have HK0 : Hid (Lp3 base g n c z D w (.int .i64 0) (.int .i64 (2 * (z : Int))) wr) := Ha ⟨0, [], E, rfl, by congr 1; omega, rfl, .nil, HB.out, HST.out, HR.out, HG.out⟩
          go_loopw [7, 8] (fun a b wr => Lp3 base g n c z D w a b wr) (fun a _ _ => n - (intOf a).toNat)
          case atStart => exact HK0.out
          case round =>
            obtain ⟨k, U, V, rfl, rfl, hU, hF, hV, hst, hrow, hgr⟩ := hrel
            have hlen := hrow.len
            rw [List.length_append, hU] at hlen
            have HOK := Ha (HN.out.st hst)
            have HU := Ha hU
            have HF := Ha hF
            have HV := Ha hV
            have HST := Ha hst
            have HR := Ha hrow
            have HG := Ha hgr
            have HLEN := Ha hlen
            clear hU hF hV hst hrow hgr hlen; have hkn : k <= n := by have := HLEN.out; omega
            by_cases hb : k + 2 * z <= n
            · have g3 : ((k + 2 * z : Nat) : Int) <= (n : Int) := by omega
              obtain ⟨X, Y, Q, hVV, x1, x2, y1, y2, hQ⟩ := HV.out.two (by have := HLEN.out; omega)
              subst hVV; have HX1 := Ha x1
              have HX2 := Ha x2
              have HY1 := Ha y1
              have HY2 := Ha y2
              have HQ := Ha hQ
              clear x1 x2 y1 y2 hQ; have HR1 := Ha (show RowX base g n c (U ++ X ++ Y ++ Q) wr by have := HR.out; simpa using this)
              have HNX := Ha (show OkL X from HOK.out.right.left)
              have HNY := Ha (show OkL Y from HOK.out.right.right.left)
              have HXE := Ha (show X ≠ [] from List.length_pos_iff.1 (by rw [HX2.out]; omega))
              have HYE := Ha (show Y ≠ [] from List.length_pos_iff.1 (by rw [HY2.out]; omega))
              go_wp2_with fail
              refine (sym_all _ base g n c k (k + z) (k + 2 * z) U X Y Q _ (Nat.le_refl _) HU.out.symm (by rw [HX2.out, HU.out]) (by rw [HX2.out, HY2.out, HU.out]; omega) HXE.out HYE.out HX1.out HY1.out HNX.out HNY.out (by omega) HR1.out).mono ?_
              rintro e w2 ⟨rfl, M, k1, k2, k3, k4⟩; have K1 := Ha k1
              have K2 := Ha k2
              have K3 := Ha k3
              have K4 := Ha (grown_trans HG.out k4)
              have LM := Ha (show M.length = 2 * z by rw [<-k2.1.length_eq, List.length_append, HX2.out, HY2.out]; omega)
              clear k1 k2 k3 k4; go_wp2_with fail
              go_roundw
              case rel =>
                refine ⟨k + 2 * z, U ++ M, Q, by go_num, by go_num, by rw [List.length_append, HU.out, LM.out], HF.out.snoc K1.out LM.out, HQ.out, ?_, K3.out, K4.out⟩
                refine HST.out.trans ?_
                have e1 : U ++ (X ++ (Y ++ Q)) = U ++ (X ++ Y) ++ Q := by simp
                rw [e1]
                exact ((StS.refl U).append K2.out).append (StS.refl Q)
              case measure => simp [intOf]; omega
            · have g3 : ¬ ((k + 2 * z : Nat) : Int) <= (n : Int) := by omega
              by_cases hm : k + z < n
              · have g4 : ((k + z : Nat) : Int) < (n : Int) := by omega
                obtain ⟨X, Y, hVV, x1, x2, y1, y2⟩ := HV.out.odd (by have := HLEN.out; omega) (by have := HLEN.out; omega)
                subst hVV; have HX1 := Ha x1
                have HX2 := Ha x2
                have HY1 := Ha y1
                have HYE := Ha y2
                clear x1 x2 y1 y2; have HR1 := Ha (show RowX base g n c (U ++ X ++ Y ++ []) wr by have := HR.out; simpa using this)
                have HNX := Ha (show OkL X from HOK.out.right.left)
                have HNY := Ha (show OkL Y from HOK.out.right.right)
                have HXE := Ha (show X ≠ [] from List.length_pos_iff.1 (by rw [HX2.out]; omega))
                have HLY := Ha (show n = k + z + Y.length by have := HLEN.out; rw [List.length_append, HX2.out] at this; omega)
                go_wp2_with fail
                refine (sym_all _ base g n c k (k + z) n U X Y [] _ (Nat.le_refl _) HU.out.symm (by rw [HX2.out, HU.out]) (by rw [HX2.out, HU.out]; exact HLY.out) HXE.out HYE.out HX1.out HY1.out HNX.out HNY.out (by omega) HR1.out).mono ?_
                rintro e w2 ⟨rfl, M, k1, k2, k3, k4⟩; have K1 := Ha k1
                have K2 := Ha k2
                have K3 := Ha (show RowX base g n c (U ++ M) w2 by simpa using k3)
                have K4 := Ha (grown_trans HG.out k4)
                have LM := Ha (show M.length <= 2 * z by rw [<-k2.1.length_eq, List.length_append, HX2.out]; have := HLY.out; omega)
                clear k1 k2 k3 k4; go_wp2_with fail
                go_roundw
                case rel => exact ⟨2 * z, U ++ M, by go_num, by omega, by omega, HF.out.blk (.last K1.out LM.out), HST.out.trans ((StS.refl U).append K2.out), K3.out, K4.out⟩
                case measure => simp [intOf]; omega
              · have g4 : ¬ ((k + z : Nat) : Int) < (n : Int) := by omega
                have HSV := Ha (HV.out.done (by have := HLEN.out; omega))
                go_wp2_with fail
                go_roundw
                case rel => exact ⟨2 * z, U ++ V, by go_num, by omega, by omega, HF.out.blk (.last HSV.out (by have := HLEN.out; omega)), HST.out, HR.out, HG.out⟩
                case measure => simp [intOf]; omega
        · have g2 : ¬ (z : Int) < (n : Int) := by omega
          have HSV := Ha (HB.out.done (by have := HLEN.out; omega))
          go_wp2_with fail
          go_end0
          exact ⟨rfl, E, HSV.out, HST.out, HR.out, HG.out⟩
theorem sort_big (base g n c : Nat) (D : List Rrd) (w : World) (_h0 : 0 < n) (hn : n <= 60000) (hN : OkL D) (h : RowX base g n c D w) :
    Calls Tryz.prog 125 #[.slice (some ⟨g, 0, none⟩) n c, cmpF] w (SortedX base g n c D w) := by
  have hc := stable_any base g n c D w (by omega) hN h
  clear h hN
  go_enter Tryz.func125, Tryz.ntmps125
  go_wp2_with fail
  refine hc.mono ?_
  rintro e w1 ⟨rfl, D', k1, k2, k3, k4⟩
  have K : Hid (SortedX base g n c D w (.returned (.tuple #[])) w1) := Ha ⟨rfl, D', k1, k2, k3, k4⟩
  clear k1 k2 k3 k4 hc
  go_wp2_with fail
  go_end0
  exact K.out
end Go.Proofs.YtmpginmdaeclaaaGreatDoor
namespace Go.Proofs.YtmpginmdaeclaaaGreatDoor
theorem ordAll : OrdOn cX (fun _ => True) where
  range := cX_ord.range
  flip := cX_ord.flip
  three x y z _ _ _ := cX_three x y z
def lastX : List Rrd -> List Rrd
  | [] => []
  | [x] => [x]
  | x :: y :: l => if cX x y = 0 then lastX (y :: l) else x :: lastX (y :: l)
def insS (r : Rrd) : List Rrd -> List Rrd
  | [] => [r]
  | x :: D => if cX r x = -1 then r :: x :: D else x :: insS r D
def srtX (l : List Rrd) : List Rrd := l.foldl (fun D r => insS r D) []
def ofC (l : List Rrd) : List Rrd := l.foldl (fun D r => putX cX r D) []
theorem lastX_head : ∀ (l : List Rrd) (x : Rrd), ∃ h T, lastX (x :: l) = h :: T /\ cX x h = 0
  | [], x => ⟨x, [], rfl, cX_ord.self x⟩
  | y :: l, x => by
    obtain ⟨h, T, e, k⟩ := lastX_head l y
    unfold lastX
    by_cases c : cX x y = 0
    · rw [if_pos c, e]
      exact ⟨h, T, rfl, by rw [cX_ord.same x y h c]; exact k⟩
    · rw [if_neg c]
      exact ⟨x, _, rfl, cX_ord.self x⟩
theorem putX_front {r x h : Rrd} {T : List Rrd} (hx : cX x h = 0) (hr : cX r x = -1) : putX cX r (h :: T) = r :: h :: T := by
  have h1 : cX r h = -1 := by rw [<-cX_ord.same' r hx]; exact hr
  have h2 := cX_flip h r
  unfold putX
  rw [if_neg (by omega), if_neg (by omega)]
theorem lastX_ins (r : Rrd) : ∀ D : List Rrd, Srt cX D -> lastX (insS r D) = putX cX r (lastX D)
  | [], _ => rfl
  | [x], _ => by
    unfold insS insS
    have hf := cX_flip r x
    have hg := cX_ord.range r x
    by_cases c : cX r x = -1
    · rw [if_pos c]
      simp only [lastX, putX]
      rw [if_neg (by omega), if_neg (by omega), if_neg (by omega)]
    · rw [if_neg c]
      simp only [lastX, putX]
      by_cases e : cX x r = 0
      · rw [if_pos e, if_neg (by omega), if_pos e]
      · rw [if_neg e, if_pos (by omega)]
  | x :: y :: D, hs => by
    obtain ⟨h1, h2⟩ := List.pairwise_cons.1 hs
    have ih := lastX_ins r (y :: D) h2
    have hf := cX_flip r x
    have hg := cX_ord.range r x
    by_cases c : cX r x = -1
    · have e : insS r (x :: y :: D) = r :: x :: y :: D := by rw [insS, if_pos c]
      obtain ⟨h, T, e2, k⟩ := lastX_head (y :: D) x
      rw [e, e2, putX_front k c, lastX, if_neg (by omega), e2]
    · have e : insS r (x :: y :: D) = x :: insS r (y :: D) := by rw [insS, if_neg c]
      rw [e]
      have hyx : cX y x ≠ -1 := h1 y (by simp)
      have hxy := cX_ord.range x y
      have hfy := cX_flip x y
      by_cases c2 : cX r y = -1
      · have e3 : insS r (y :: D) = r :: y :: D := by rw [insS, if_pos c2]
        obtain ⟨h, T, e4, k⟩ := lastX_head D y
        rw [e3] at ih ⊢
        have hlt : cX x y = -1 := by
          rcases hxy with q | q | q
          · exact q
          · exact absurd (by rw [cX_ord.same' r q]; exact c2) c
          · omega
        have e5 : lastX (x :: y :: D) = x :: lastX (y :: D) := by rw [lastX, if_neg (by omega)]
        rw [e5]
        have e6 : lastX (x :: r :: y :: D) = if cX x r = 0 then lastX (r :: y :: D) else x :: lastX (r :: y :: D) := by rw [lastX]
        rw [e6, ih]
        have e8 : putX cX r (x :: lastX (y :: D)) = if cX x r < 0 then x :: putX cX r (lastX (y :: D)) else if cX x r = 0 then r :: lastX (y :: D) else r :: x :: lastX (y :: D) := rfl
        rw [e8]
        by_cases q : cX x r = 0
        · rw [if_pos q, if_neg (by omega), if_pos q, e4, putX_front k c2]
        · rw [if_neg q, if_pos (by omega)]
      · have e3 : insS r (y :: D) = y :: insS r D := by rw [insS, if_neg c2]
        rw [e3] at ih ⊢
        have hyr : cX y r = -1 \/ cX y r = 0 := by
          have := cX_ord.range r y
          have := cX_flip r y
          omega
        have e6 : lastX (x :: y :: insS r D) = if cX x y = 0 then lastX (y :: insS r D) else x :: lastX (y :: insS r D) := by rw [lastX]
        have e7 : lastX (x :: y :: D) = if cX x y = 0 then lastX (y :: D) else x :: lastX (y :: D) := by rw [lastX]
        rw [e6, e7, ih]
        by_cases q : cX x y = 0
        · rw [if_pos q, if_pos q]
        · rw [if_neg q, if_neg q]
          have hlt : cX x y = -1 := by omega
          have hxr : cX x r = -1 := by
            rcases hyr with u | u
            · exact cX_ord.trans x y r hlt u
            · rw [<-cX_ord.same' x u]; exact hlt
          conv => rhs; rw [putX]
          rw [if_pos (by omega)]
theorem insS_split (r : Rrd) : ∀ D : List Rrd, Srt cX D -> ∃ A B, D = A ++ B /\ insS r D = A ++ r :: B /\ (∀ y ∈ B, cX r y = -1) /\ ∀ A' y, A = A' ++ [y] -> cX r y ≠ -1
  | [], _ => ⟨[], [], rfl, rfl, fun y h => (by cases h), fun A' y h => (by simp at h)⟩
  | x :: D, hs => by
    obtain ⟨h1, h2⟩ := List.pairwise_cons.1 hs
    by_cases c : cX r x = -1
    · refine ⟨[], x :: D, rfl, by rw [insS, if_pos c]; rfl, fun y hy => ?_, fun A' y h => (by simp at h)⟩
      rcases List.mem_cons.1 hy with rfl | hy
      · exact c
      · exact cX_ord.lt_le c (h1 y hy)
    · obtain ⟨A, B, e1, e2, e3, e4⟩ := insS_split r D h2
      refine ⟨x :: A, B, by rw [e1]; rfl, by rw [insS, if_neg c, e2]; rfl, e3, fun A' y h => ?_⟩
      cases A' with
      | nil =>
        simp only [List.nil_append, List.cons.injEq] at h
        rw [<-h.1]; exact c
      | cons z A' =>
        simp only [List.cons_append, List.cons.injEq] at h
        exact e4 A' y h.2
theorem insS_done (r : Rrd) {D l : List Rrd} (hs : Srt cX D) (h : StS cX l D) : Srt cX (insS r D) /\ StS cX (l ++ [r]) (insS r D) := by
  obtain ⟨A, B, e1, e2, e3, e4⟩ := insS_split r D hs
  subst e1
  rw [e2]
  obtain ⟨k1, k2⟩ := ins_done cX_ord hs e3 e4
  exact ⟨k1, (h.append (StS.refl [r])).trans k2⟩
theorem fold_srt : ∀ (l m D : List Rrd), Srt cX D -> StS cX m D -> Srt cX (l.foldl (fun D r => insS r D) D) /\ StS cX (m ++ l) (l.foldl (fun D r => insS r D) D) /\ lastX (l.foldl (fun D r => insS r D) D) = l.foldl (fun D r => putX cX r D) (lastX D)
  | [], m, D, hs, h => ⟨hs, by rw [List.append_nil]; exact h, rfl⟩
  | r :: l, m, D, hs, h => by
    obtain ⟨k1, k2⟩ := insS_done r hs h
    obtain ⟨h1, h2, h3⟩ := fold_srt l (m ++ [r]) (insS r D) k1 k2
    rw [lastX_ins r D hs] at h3
    refine ⟨h1, ?_, h3⟩
    rw [show m ++ r :: l = m ++ [r] ++ l by simp]
    exact h2
theorem srtX_is (l : List Rrd) : Srt cX (srtX l) /\ StS cX l (srtX l) /\ lastX (srtX l) = ofC l := by
  have h := fold_srt l [] [] Srt.nil (StS.refl [])
  exact h
theorem lastX_of {l D : List Rrd} (hs : Srt cX D) (h : StS cX l D) : lastX D = ofC l := by
  obtain ⟨h1, h2, h3⟩ := srtX_is l
  rw [Srt.unique cX_ord hs h1 (h.symm.trans h2)]
  exact h3
end Go.Proofs.YtmpginmdaeclaaaGreatDoor
namespace Go.Proofs.YtmpginmdaeclaaaGreatDoor
open Go.RowKit Go.Op
def pickL (f : Nat -> Bool) (xs : List Rrd) (k : Nat) : List Rrd := (List.range k).flatMap fun i => if f i then xs[i]?.toList else []
theorem pickL_step (f : Nat -> Bool) {xs : List Rrd} {k : Nat} {x : Rrd} (hx : xs[k]? = some x) : pickL f xs (k + 1) = pickL f xs k ++ if f k then [x] else [] := by
  unfold pickL
  rw [List.range_succ, List.flatMap_append]
  simp [hx]
theorem pickL_le (f : Nat -> Bool) (xs : List Rrd) : ∀ k, (pickL f xs k).length <= k
  | 0 => by simp [pickL]
  | k + 1 => by
    have ih := pickL_le f xs k
    cases h : xs[k]? with
    | none =>
      have e : pickL f xs (k + 1) = pickL f xs k := by unfold pickL; rw [List.range_succ, List.flatMap_append]; simp [h]
      rw [e]; omega
    | some x =>
      rw [pickL_step f h]
      split
      · simp; omega
      · simp; omega
theorem one_any {x y : Rrd} (hx : OkX x) (hy : OkX y) (w : World) :
    Calls Tryz.prog 129 #[.agg #[.string x.s, .int .i64 x.t, .int .i64 x.c, .int .i64 x.l, .string x.d], .agg #[.string y.s, .int .i64 y.t, .int .i64 y.c, .int .i64 y.l, .string y.d]] w fun e w' => e = .returned (.bool (decide (cmpX x y = 0))) /\ Below w.heap.size w w' := by
  rw [<-oneX hx hy]
  exact One_any x.s x.d y.s y.d x.toRec y.toRec w (rrd_name x) (rrd_data x) (rrd_name y) (rrd_data y) (by have := hx.name; omega) (by have := hy.name; omega) (by have := hx.data; omega) (by have := hy.data; omega)
theorem RowX.sees {base g n c : Nat} {D : List Rrd} {w : World} (h : RowX base g n c D w) : SeesR w w.heap.size (some ⟨g, 0, none⟩) n D :=
  ⟨h.len, fun _ => ⟨g, 0, rfl, h.lt, fun j x hx => by rw [Nat.zero_add]; exact h.five hx⟩⟩
theorem pick_any (fid : Nat) (p : Value) (hent : ∀ (args : Array Value) (w : World), (callFunc fid args).run Tryz.prog w = .ok (.enter fid args) w) (f : Nat -> Bool) (A : Option Addr) (n c : Nat) (xs : List Rrd) (w : World) (hx : SeesR w w.heap.size A n xs) (hn : n <= 1000000)
    (hf : ∀ (k : Nat) (wr : World), k < n -> Below w.heap.size w wr -> Calls Tryz.prog fid #[.int .i64 (k : Nat), p] wr fun e w' => e = .returned (.bool (f k)) /\ Below wr.heap.size wr w') :
    Calls Tryz.prog 127 #[.slice A n c, .func (.func fid) #[] #[p]] w fun e w' =>
      ∃ v, e = .returned v /\ w'.ownsRow w.heap.size 46 5 v (pickL f xs n).length (rcells (pickL f xs n)) /\ Below w.heap.size w w' := by
  have HX := Ha hx
  have HF := Ha hf
  have HENT := Ha hent
  clear hx hf hent
  go_enter Tryz.func127, Tryz.ntmps127
  go_wp2_with fail
  go_loopw [5, 10] (fun v i wr => ∃ k : Nat, k <= n /\ i = .int .i64 (k : Nat) /\ wr.ownsRow w.heap.size 46 5 v (pickL f xs k).length (rcells (pickL f xs k)) /\ Below w.heap.size w wr) (fun _ i _ => n - (intOf i).toNat)
  case atStart => exact ⟨0, Nat.zero_le _, rfl, own_nil _ _ _ _, Below.refl _ _⟩
  case round =>
    obtain ⟨k, hk, rfl, hO, hB⟩ := hrel
    have HO := Ha hO
    have HB := Ha hB
    clear hO hB
    by_cases hkn : k < n
    · have g2 : (k : Int) < (n : Int) := by omega
      have g0 : (0 : Int) <= (k : Int) := by omega
      obtain ⟨b, off, x, rfl, hb, hxk, ht⟩ := (HX.out.keep HB.out).at hkn
      obtain ⟨x0, x1, x2, x3, x4⟩ := ht
      have HST := Ha (pickL_step f hxk)
      obtain ⟨g, hg⟩ : ∃ g, g = wr.heap.size := ⟨_, rfl⟩
      have HBX := Ha (show Five (wr.alloc (.cells #[.string x.s, .int .i64 x.t, .int .i64 x.c, .int .i64 x.l, .string x.d] 46)) g 0 x by rw [hg]; exact box_five wr x)
      have HGL := Ha (show g < (wr.alloc (.cells #[.string x.s, .int .i64 x.t, .int .i64 x.c, .int .i64 x.l, .string x.d] 46)).heap.size by rw [hg]; simp)
      have HBA := Ha (show Below w.heap.size w (wr.alloc (.cells #[.string x.s, .int .i64 x.t, .int .i64 x.c, .int .i64 x.l, .string x.d] 46)) from HB.out.alloc HB.out.size _)
      have HOA := Ha (HO.out.alloc (.cells #[.string x.s, .int .i64 x.t, .int .i64 x.c, .int .i64 x.l, .string x.d] 46))
      have HLE := Ha (show (pickL f xs k).length + 1 <= 1073741824 by have := pickL_le f xs k; omega)
      have HGG := Ha hg
      clear hxk hg; go_wp2_with fail
      rw [<-HGG.out]
      rw [HENT.out, Oper.upon_enter]
      refine (HF.out k _ hkn HBA.out).mono ?_
      rintro e w1 ⟨rfl, hB1⟩; have HO1 := Ha (own_keep HOA.out hB1)
      have HB1 := thB HBA hB1
      have HF1 := Ha (HBX.out.keep hB1 HGL.out)
      clear hB1 x0 x1 x2 x3 x4
      cases hfk : f k with
      | false =>
        have HS2 := Ha (show pickL f xs (k + 1) = pickL f xs k by rw [HST.out, hfk]; simp)
        go_wp2_with fail
        go_roundw
        case rel => exact ⟨k + 1, by omega, by go_num, by rw [HS2.out]; exact HO1.out, HB1.out⟩
        case measure => simp [intOf]; omega
      | true =>
        have HS2 := Ha (show pickL f xs (k + 1) = pickL f xs k ++ [x] by rw [HST.out, hfk]; simp)
        obtain ⟨x0, x1, x2, x3, x4⟩ := HF1.out
        have HQ3 := Ha (HO1.out.alloc (.cells #[.string x.s, .int .i64 x.t, .int .i64 x.c, .int .i64 x.l, .string x.d] 46))
        have HD3 := Ha (show Below w.heap.size w (w1.alloc (.cells #[.string x.s, .int .i64 x.t, .int .i64 x.c, .int .i64 x.l, .string x.d] 46)) from HB1.out.alloc HB1.out.size _)
        have HA3 := Ha (show w.heap.size <= (w1.alloc (.cells #[.string x.s, .int .i64 x.t, .int .i64 x.c, .int .i64 x.l, .string x.d] 46)).heap.size from HD3.out.size)
        go_wp2_with (at_builtin; (refine wpList_append_R rfl _ _ rfl w.heap.size _ _ (pickL f xs k) rfl HQ3.out (w1.heap.size + 1) _ _ _ _ rfl (SeesR.one _ x) HLE.out HA3.out ?_); intro v3 w3 ho hg; (have HO3 := Ha (show w3.ownsRow w.heap.size 46 5 v3 (pickL f xs k ++ [x]).length (rcells (pickL f xs k ++ [x])) by simpa using ho)); (have HB3 := Ha (HD3.out.grown hg HA3.out (own_block_ge HQ3.out))); clear ho hg x0 x1 x2 x3 x4)
        go_roundw
        case rel => exact ⟨k + 1, by omega, by go_num, by rw [HS2.out]; exact HO3.out, HB3.out⟩
        case measure => simp [intOf]; omega
    · obtain rfl : k = n := by omega
      have g2 : ¬ ((k : Int) < (k : Int)) := by omega
      go_wp2_with fail
      go_ret
      exact ⟨_, rfl, HO.out, HB.out⟩
theorem pick2_any (fid : Nat) (p q : Value) (hent : ∀ (args : Array Value) (w : World), (callFunc fid args).run Tryz.prog w = .ok (.enter fid args) w) (f : Nat -> Bool) (A : Option Addr) (n c : Nat) (xs : List Rrd) (w : World) (hx : SeesR w w.heap.size A n xs) (hn : n <= 1000000)
    (hf : ∀ (k : Nat) (wr : World), k < n -> Below w.heap.size w wr -> Calls Tryz.prog fid #[.int .i64 (k : Nat), p, q] wr fun e w' => e = .returned (.bool (f k)) /\ Below wr.heap.size wr w') :
    Calls Tryz.prog 127 #[.slice A n c, .func (.func fid) #[] #[p, q]] w fun e w' =>
      ∃ v, e = .returned v /\ w'.ownsRow w.heap.size 46 5 v (pickL f xs n).length (rcells (pickL f xs n)) /\ Below w.heap.size w w' := by
  have HX := Ha hx
  have HF := Ha hf
  have HENT := Ha hent
  clear hx hf hent
  go_enter Tryz.func127, Tryz.ntmps127
  go_wp2_with fail
  go_loopw [5, 10] (fun v i wr => ∃ k : Nat, k <= n /\ i = .int .i64 (k : Nat) /\ wr.ownsRow w.heap.size 46 5 v (pickL f xs k).length (rcells (pickL f xs k)) /\ Below w.heap.size w wr) (fun _ i _ => n - (intOf i).toNat)
  case atStart => exact ⟨0, Nat.zero_le _, rfl, own_nil _ _ _ _, Below.refl _ _⟩
  case round =>
    obtain ⟨k, hk, rfl, hO, hB⟩ := hrel
    have HO := Ha hO
    have HB := Ha hB
    clear hO hB
    by_cases hkn : k < n
    · have g2 : (k : Int) < (n : Int) := by omega
      have g0 : (0 : Int) <= (k : Int) := by omega
      obtain ⟨b, off, x, rfl, hb, hxk, ht⟩ := (HX.out.keep HB.out).at hkn
      obtain ⟨x0, x1, x2, x3, x4⟩ := ht
      have HST := Ha (pickL_step f hxk)
      obtain ⟨g, hg⟩ : ∃ g, g = wr.heap.size := ⟨_, rfl⟩
      have HBX := Ha (show Five (wr.alloc (.cells #[.string x.s, .int .i64 x.t, .int .i64 x.c, .int .i64 x.l, .string x.d] 46)) g 0 x by rw [hg]; exact box_five wr x)
      have HGL := Ha (show g < (wr.alloc (.cells #[.string x.s, .int .i64 x.t, .int .i64 x.c, .int .i64 x.l, .string x.d] 46)).heap.size by rw [hg]; simp)
      have HBA := Ha (show Below w.heap.size w (wr.alloc (.cells #[.string x.s, .int .i64 x.t, .int .i64 x.c, .int .i64 x.l, .string x.d] 46)) from HB.out.alloc HB.out.size _)
      have HOA := Ha (HO.out.alloc (.cells #[.string x.s, .int .i64 x.t, .int .i64 x.c, .int .i64 x.l, .string x.d] 46))
      have HLE := Ha (show (pickL f xs k).length + 1 <= 1073741824 by have := pickL_le f xs k; omega)
      have HGG := Ha hg
      clear hxk hg; go_wp2_with fail
      rw [<-HGG.out]
      rw [HENT.out, Oper.upon_enter]
      refine (HF.out k _ hkn HBA.out).mono ?_
      rintro e w1 ⟨rfl, hB1⟩; have HO1 := Ha (own_keep HOA.out hB1)
      have HB1 := thB HBA hB1
      have HF1 := Ha (HBX.out.keep hB1 HGL.out)
      clear hB1 x0 x1 x2 x3 x4
      cases hfk : f k with
      | false =>
        have HS2 := Ha (show pickL f xs (k + 1) = pickL f xs k by rw [HST.out, hfk]; simp)
        go_wp2_with fail
        go_roundw
        case rel => exact ⟨k + 1, by omega, by go_num, by rw [HS2.out]; exact HO1.out, HB1.out⟩
        case measure => simp [intOf]; omega
      | true =>
        have HS2 := Ha (show pickL f xs (k + 1) = pickL f xs k ++ [x] by rw [HST.out, hfk]; simp)
        obtain ⟨x0, x1, x2, x3, x4⟩ := HF1.out
        have HQ3 := Ha (HO1.out.alloc (.cells #[.string x.s, .int .i64 x.t, .int .i64 x.c, .int .i64 x.l, .string x.d] 46))
        have HD3 := Ha (show Below w.heap.size w (w1.alloc (.cells #[.string x.s, .int .i64 x.t, .int .i64 x.c, .int .i64 x.l, .string x.d] 46)) from HB1.out.alloc HB1.out.size _)
        have HA3 := Ha (show w.heap.size <= (w1.alloc (.cells #[.string x.s, .int .i64 x.t, .int .i64 x.c, .int .i64 x.l, .string x.d] 46)).heap.size from HD3.out.size)
        go_wp2_with (at_builtin; (refine wpList_append_R rfl _ _ rfl w.heap.size _ _ (pickL f xs k) rfl HQ3.out (w1.heap.size + 1) _ _ _ _ rfl (SeesR.one _ x) HLE.out HA3.out ?_); intro v3 w3 ho hg; (have HO3 := Ha (show w3.ownsRow w.heap.size 46 5 v3 (pickL f xs k ++ [x]).length (rcells (pickL f xs k ++ [x])) by simpa using ho)); (have HB3 := Ha (HD3.out.grown hg HA3.out (own_block_ge HQ3.out))); clear ho hg x0 x1 x2 x3 x4)
        go_roundw
        case rel => exact ⟨k + 1, by omega, by go_num, by rw [HS2.out]; exact HO3.out, HB3.out⟩
        case measure => simp [intOf]; omega
    · obtain rfl : k = n := by omega
      have g2 : ¬ ((k : Int) < (k : Int)) := by omega
      go_wp2_with fail
      go_ret
      exact ⟨_, rfl, HO.out, HB.out⟩
def lastW (D : List Rrd) (k : Nat) : Bool := match D[k]?, D[k + 1]? with | some x, some y => !decide (cX x y = 0) | _, _ => true
theorem wanted_any (base b g n c : Nat) (D : List Rrd) (w : World) (hD : OkL D) (hrow : RowX base g n c D w) (hb : w.cell? ⟨b, 0, none⟩ = some (.slice (some ⟨g, 0, none⟩) n c)) (hn : n <= 1000000) (k : Nat) (hk : k < n) :
    Calls Tryz.prog 128 #[.int .i64 (k : Nat), .pointer (some ⟨b, 0, none⟩)] w fun e w' => e = .returned (.bool (lastW D k)) /\ Below w.heap.size w w' := by
  have hbl : ∀ q : Later w, q.val.cell? ⟨b, 0, none⟩ = some (.slice (some ⟨g, 0, none⟩) n c) := fun q => (q.below.cell (World.block_lt_of_cell? w _ hb)).trans hb
  by_cases hl : k + 1 = n
  · have z1 : (n : Int) - 1 = (k : Int) := by omega
    have g1 : ((k : Int) == (k : Int)) = true := by simp
    have HE := Ha (show lastW D k = true by
      unfold lastW; rw [List.getElem?_eq_none (show D.length <= k + 1 by rw [hrow.len]; omega)]
      split
      · rename_i h; cases h
      · rfl)
    clear hrow; go_enter Tryz.func128, Tryz.ntmps128
    go_wp2_with fail
    refine region_later (by kernel_rfl) ?_
    repeat (go_big_quiet_step (fail))
    refine wpQuiet_nil ?_
    rintro _ ⟨q2, rfl⟩; go_wp2_with fail
    go_ret
    exact ⟨by rw [HE.out]; rfl, q2.below⟩
  · obtain ⟨p, hp⟩ : ∃ p, p = n - 1 := ⟨_, rfl⟩
    obtain ⟨j, hj⟩ : ∃ j, j = k + 1 := ⟨_, rfl⟩
    have z1 : (n : Int) - 1 = (p : Int) := by omega
    have z2 : (k : Int) + 1 = (j : Int) := by omega
    have g1 : ((k : Int) == (p : Int)) = false := by rw [beq_eq_false_iff_ne]; omega
    have g2 : (k : Int) < (n : Int) := by omega
    have g3 : (j : Int) < (n : Int) := by omega
    have g4 : (0 : Int) <= (k : Int) := by omega
    have g5 : (0 : Int) <= (j : Int) := by omega
    obtain ⟨x, hx⟩ : ∃ x, D[k]? = some x := ⟨D[k]'(by rw [hrow.len]; exact hk), List.getElem?_eq_getElem _⟩
    obtain ⟨y, hy⟩ : ∃ y, D[j]? = some y := ⟨D[j]'(by rw [hrow.len]; omega), List.getElem?_eq_getElem _⟩
    obtain ⟨d0, d1, d2, d3, d4⟩ := (hrow.five hx).later hrow.lt
    obtain ⟨e0, e1, e2, e3, e4⟩ := (hrow.five hy).later hrow.lt
    have HX := Ha (hD.at hx)
    have HY := Ha (hD.at hy)
    obtain ⟨q, hq⟩ : ∃ q, q = decide (cX x y = 0) := ⟨_, rfl⟩
    have HE := Ha (show lastW D k = !q by unfold lastW; rw [hx, <-hj, hy, hq])
    have HS := Ha (show ∀ q' : Later w, Calls Tryz.prog 129 #[.agg #[.string x.s, .int .i64 x.t, .int .i64 x.c, .int .i64 x.l, .string x.d], .agg #[.string y.s, .int .i64 y.t, .int .i64 y.c, .int .i64 y.l, .string y.d]] q'.val fun e w'' => e = .returned (.bool q) /\ ∃ q2 : Later w, w'' = q2.val from
      fun q' => later_call (by rw [hq, <-cX_is HX.out HY.out]; exact one_any HX.out HY.out _))
    clear hrow hx hy hq hp hj hl; go_enter Tryz.func128, Tryz.ntmps128
    go_wp2_with fail
    refine region_later (by kernel_rfl) ?_
    repeat (go_big_quiet_step ((go_at_call 129; with_reducible exact HS.out _)))
    refine wpQuiet_nil ?_
    rintro _ ⟨q2, rfl⟩; go_wp2_with fail
    go_ret
    exact ⟨by rw [HE.out]; rfl, q2.below⟩
theorem pickL_cons (f : Nat -> Bool) (x : Rrd) (xs : List Rrd) : ∀ k, pickL f (x :: xs) (k + 1) = (if f 0 then [x] else []) ++ pickL (fun i => f (i + 1)) xs k
  | 0 => by unfold pickL; simp [List.range_succ]
  | k + 1 => by
    have ih := pickL_cons f x xs k
    unfold pickL at ih ⊢
    rw [List.range_succ, List.flatMap_append, ih, List.range_succ, List.flatMap_append]
    simp
theorem lastW_cons (x : Rrd) (xs : List Rrd) : (fun i => lastW (x :: xs) (i + 1)) = lastW xs := by
  funext i
  unfold lastW
  rw [List.getElem?_cons_succ, List.getElem?_cons_succ]
theorem pickL_last : ∀ D : List Rrd, pickL (lastW D) D D.length = lastX D
  | [] => rfl
  | [x] => by rw [List.length_singleton, pickL_cons]; simp [lastW, pickL, lastX]
  | x :: y :: D => by
    have ih := pickL_last (y :: D)
    rw [List.length_cons, pickL_cons, lastW_cons, ih]
    have e : lastW (x :: y :: D) 0 = !decide (cX x y = 0) := rfl
    rw [e, lastX]
    by_cases c : cX x y = 0
    · rw [if_pos c]; simp [c]
    · rw [if_neg c]; simp [c]
theorem Of_any (A : Option Addr) (n c : Nat) (xs : List Rrd) (w : World) (hx : SeesR w w.heap.size A n xs) (hok : OkL xs) (hn : n <= 60000) :
    Calls Tryz.prog 76 #[.slice A n c] w fun e w' => ∃ v, e = .returned v /\ w'.ownsRow w.heap.size 46 5 v (ofC xs).length (rcells (ofC xs)) /\ Below w.heap.size w w' := by
  have HX := Ha hx
  have HOK := Ha hok
  clear hx hok
  go_enter Tryz.func76, Tryz.ntmps76
  go_wp2_with fail
  refine (RClone_any A n c xs _ HX.out (by omega)).mono ?_
  rintro e w1 ⟨v, rfl, hown, hB⟩
  have HB := Ha hB
  have hv : (n = 0 /\ xs = [] /\ ∃ A0 c0, v = .slice A0 0 c0) \/ (0 < n /\ ∃ g cap, v = .slice (some ⟨g, 0, none⟩) n cap /\ w.heap.size <= g /\ RowX w.heap.size g n cap xs w1) := by
    have hxs : n = 0 -> xs = [] := fun e => List.eq_nil_of_length_eq_zero (by rw [HX.out.1, e])
    rcases hown.2 with ⟨e, e0⟩ | ⟨g, cap, cur, e, hbase, _, _, _, _⟩
    · exact .inl ⟨e0, hxs e0, none, 0, e⟩
    · rcases Nat.eq_zero_or_pos n with e0 | e0
      · exact .inl ⟨e0, hxs e0, some ⟨g, 0, none⟩, cap, by rw [e, e0]⟩
      · refine .inr ⟨e0, g, cap, e, hbase, ?_⟩
        unfold RowX; rw [<-e]; exact hown
  clear hown
  rcases hv with ⟨e0, exs, A0, c0, ev⟩ | ⟨h0, g, cap, ev, hbase, hrow⟩
  · subst e0 exs ev
    have HB1 := Ha (show Below w.heap.size w (w1.alloc (.cells #[.slice A0 0 c0] 22)) from hB.alloc hB.size _)
    clear hB; go_wp2_with fail
    refine (sort_none A0 c0 _).mono ?_
    rintro e w2 ⟨rfl, rfl⟩; go_wp2_with fail
    refine (pick_any 128 _ (enters_of Tryz.func128 (by kernel_rfl) rfl) (fun _ => true) A0 0 c0 [] _ ⟨rfl, fun h => absurd h (by omega)⟩ (by omega) (fun k wr h => absurd h (by omega))).mono ?_
    rintro e w3 ⟨v3, rfl, ho, hB3⟩; have HO3 := Ha (own_less ho HB1.out.size)
    have HB3 := thB HB1 hB3
    clear ho hB3; go_wp2_with fail
    go_ret
    exact ⟨_, rfl, HO3.out, HB3.out⟩
  · subst ev
    obtain ⟨b, hb⟩ : ∃ b, b = w1.heap.size := ⟨_, rfl⟩
    obtain ⟨W, hW⟩ : ∃ W, W = w1.alloc (.cells #[.slice (some ⟨g, 0, none⟩) n cap] 22) := ⟨_, rfl⟩
    have HBX := Ha (show W.cell? ⟨b, 0, none⟩ = some (.slice (some ⟨g, 0, none⟩) n cap) by rw [hW, hb]; exact (Whole.new w1 _ _).cell1)
    have HROW := Ha (show RowX w.heap.size g n cap xs W by rw [hW]; exact own_keep hrow ((Below.refl _ _).alloc (Nat.le_refl _) _))
    have HNE := Ha (show some b ≠ some g by rw [hb]; intro e; injection e with e; have := hrow.lt; omega)
    have HB1 := Ha (show Below w.heap.size w W by rw [hW]; exact hB.alloc hB.size _)
    have HG := Ha hbase
    have HWW := Ha hW
    have HBB := Ha hb
    clear hb hW hB hbase hrow; go_wp2_with fail
    rw [<-HWW.out, <-HBB.out]
    refine (sort_big _ g n cap xs _ h0 hn HOK.out HROW.out).mono ?_
    rintro e w2 ⟨rfl, D, hs, hst, hr2, hg2⟩; have hbx2 := hg2.cell HBX.out HNE.out
    have HP := Ha (show OkL D from fun x hx => HOK.out x (hst.mem.2 hx))
    have HS := Ha (show lastX D = ofC xs from lastX_of hs hst)
    have HR2 := Ha hr2
    have HBX2 := Ha hbx2
    have HB2 := Ha (show Below w.heap.size w w2 from HB1.out.grown hg2 HB1.out.size (fun j hj => by injection hj with hj; rw [<-hj]; exact HG.out))
    have hlen : D.length = n := hr2.len
    have HLEN := Ha hlen
    clear hs hst hr2 hg2 hlen; go_wp2_with fail
    refine (pick_any 128 _ (enters_of Tryz.func128 (by kernel_rfl) rfl) (lastW D) _ n cap D _ HR2.out.sees (by omega) (fun k wr hk hBw => wanted_any w.heap.size b g n cap D wr HP.out (HR2.out.below hBw) ((hBw.cell (World.block_lt_of_cell? w2 _ HBX2.out)).trans HBX2.out) (by omega) k hk)).mono ?_
    rintro e w3 ⟨v3, rfl, ho, hB3⟩; have ho2 : w3.ownsRow w.heap.size 46 5 v3 (ofC xs).length (rcells (ofC xs)) := by
      have h1 := own_less ho HB2.out.size
      have h2 := pickL_last D
      rw [HLEN.out, HS.out] at h2
      rw [h2] at h1
      exact h1
    have HO3 := Ha ho2
    have HB3 := thB HB2 hB3
    clear ho hB3 ho2; go_wp2_with fail
    go_ret
    exact ⟨_, rfl, HO3.out, HB3.out⟩
end Go.Proofs.YtmpginmdaeclaaaGreatDoor
namespace Go.Proofs.YtmpginmdaeclaaaGreatDoor
open Go.RowKit Go.Op
theorem putX_c {r : Rrd} (hr : OkX r) : ∀ {l : List Rrd}, OkL l -> putX cmpX r l = putX cX r l
  | [], _ => rfl
  | x :: l, h => by
    have e := cX_is (h x (by simp)) hr
    have ih := putX_c hr (l := l) (fun y hy => h y (List.mem_cons_of_mem _ hy))
    unfold putX; rw [e, ih]
theorem SetL_c {l : List Rrd} (h : OkL l) : SetL cmpX l ↔ SetL cX l := by
  unfold SetL
  constructor
  · intro k
    refine List.Pairwise.imp_of_mem ?_ k
    intro a b ha hb e
    rw [<-cX_is (h a ha) (h b hb)]; exact e
  · intro k
    refine List.Pairwise.imp_of_mem ?_ k
    intro a b ha hb e
    rw [cX_is (h a ha) (h b hb)]; exact e
theorem ofC_snoc (l : List Rrd) (x : Rrd) : ofC (l ++ [x]) = putX cX x (ofC l) := by unfold ofC; rw [List.foldl_append]; rfl
theorem ofC_mem (l : List Rrd) : ∀ y ∈ ofC l, y ∈ l := by
  have h : ∀ (l : List Rrd) (D : List Rrd), ∀ y ∈ l.foldl (fun D r => putX cX r D) D, y ∈ l \/ y ∈ D := by
    intro l
    induction l with
    | nil => intro D y hy; exact .inr hy
    | cons x l ih =>
      intro D y hy
      rcases ih _ y hy with h | h
      · exact .inl (List.mem_cons_of_mem _ h)
      · rcases putX_mem x D y h with rfl | h
        · exact .inl (by simp)
        · exact .inr h
  intro y hy
  rcases h l [] y hy with h | h
  · exact h
  · cases h
theorem OkL.ofC {l : List Rrd} (h : OkL l) : OkL (ofC l) := fun y hy => h y (ofC_mem l y hy)
theorem ofC_set (l : List Rrd) : SetL cX (ofC l) := by
  have h : ∀ (l : List Rrd) (D : List Rrd), SetL cX D -> SetL cX (l.foldl (fun D r => putX cX r D) D) := by
    intro l
    induction l with
    | nil => intro D hD; exact hD
    | cons x l ih => intro D hD; exact ih _ (putX_set ordAll trivial D (fun _ _ => trivial) hD)
  exact h l [] List.Pairwise.nil
theorem putX_len (r : Rrd) (l : List Rrd) : (putX cX r l).length <= l.length + 1 := by
  induction l with
  | nil => simp [putX]
  | cons x l ih =>
    unfold putX
    split
    · simp; omega
    · split
      · simp
      · simp
theorem ofC_len (l : List Rrd) : (ofC l).length <= l.length := by
  have h : ∀ (l : List Rrd) (D : List Rrd), (l.foldl (fun D r => putX cX r D) D).length <= D.length + l.length := by
    intro l
    induction l with
    | nil => intro D; simp
    | cons x l ih => intro D; have h1 := ih (putX cX x D); have h2 := putX_len x D; simp only [List.foldl_cons, List.length_cons]; omega
  have := h l []
  simpa [ofC] using this
theorem refP_ofC {r : Rrd} {l : List Rrd} (hr : OkX r) (h : OkL l) : refP cmpX r (ofC l) false = ofC (l ++ [r]) := by
  rw [ofC_snoc, refP_set ordX hr (ofC l) h.ofC ((SetL_c h.ofC).2 (ofC_set l)), putX_c hr h.ofC]
theorem RefOf_any (A : Option Addr) (n c : Nat) (xs : List Rrd) (w : World) (hx : SeesR w w.heap.size A n xs) (hok : OkL xs) (hn : n <= 100000) :
    Calls Tryz.prog 81 #[.slice A n c] w fun e w' => ∃ v, e = .returned v /\ w'.ownsRow w.heap.size 46 5 v (ofC xs).length (rcells (ofC xs)) /\ Below w.heap.size w w' := by
  have HX := Ha hx
  have HOK := Ha hok
  have HN := Ha hx.1
  clear hx hok
  go_enter Tryz.func81, Tryz.ntmps81
  go_wp2_with fail
  go_loopw [3, 4] (fun v i wr => ∃ k : Nat, k <= n /\ i = .int .i64 (k : Nat) /\ wr.ownsRow w.heap.size 46 5 v (ofC (xs.take k)).length (rcells (ofC (xs.take k))) /\ Below w.heap.size w wr) (fun _ i _ => n - (intOf i).toNat)
  case atStart => exact ⟨0, Nat.zero_le _, rfl, own_nil _ _ _ _, Below.refl _ _⟩
  case round =>
    obtain ⟨k, hk, rfl, hO, hB⟩ := hrel
    have HO := Ha hO
    have HB := Ha hB
    clear hO hB
    by_cases hkn : k < n
    · have g2 : (k : Int) < (n : Int) := by omega
      have g0 : (0 : Int) <= (k : Int) := by omega
      obtain ⟨b, off, x, rfl, hb, hxk, ht⟩ := (HX.out.keep HB.out).at hkn
      obtain ⟨x0, x1, x2, x3, x4⟩ := ht
      obtain ⟨A1, c1, ev, hs1, _⟩ := own_sees HO.out
      subst ev; have HS1 := Ha hs1
      have HXK := Ha (HOK.out.at hxk)
      have hot : OkL (xs.take k) := fun y hy => HOK.out y (List.mem_of_mem_take hy)
      have HOT := Ha hot
      have HST := Ha (show refP cmpX x (ofC (xs.take k)) false = ofC (xs.take (k + 1)) by
        rw [refP_ofC HXK.out hot, List.take_add_one, hxk]; rfl)
      have HLN := Ha (show (ofC (xs.take k)).length <= 1000000 by have h1 := ofC_len (xs.take k); rw [List.length_take] at h1; omega)
      clear hxk hs1 hot; go_wp2_with fail
      refine (RefPut_any A1 _ c1 (ofC (xs.take k)) x _ HS1.out HOT.out.ofC HXK.out HLN.out).mono ?_
      rw [HST.out]
      rintro e w1 ⟨v1, rfl, ho, hB1⟩; have HO1 := Ha (own_less ho HB.out.size)
      have HB1 := thB HB hB1
      clear ho hB1 x0 x1 x2 x3 x4; go_wp2_with fail
      go_roundw
      case rel => exact ⟨k + 1, by omega, by go_num, HO1.out, HB1.out⟩
      case measure => simp [intOf]; omega
    · obtain rfl : k = n := by omega
      have g2 : ¬ ((k : Int) < (k : Int)) := by omega
      go_wp2_with fail
      go_ret
      refine ⟨_, rfl, ?_, HB.out⟩
      have := HO.out
      rwa [List.take_of_length_le (by rw [HN.out]; exact Nat.le_refl _)] at this
end Go.Proofs.YtmpginmdaeclaaaGreatDoor
