/- Parts of the proofs of the statements of image. No statement of the seat is proved here. -/
import Derived.Test.YtmpginmdaeclaaaGreatDoorRdM
import Derived.Test.YtmpginmdaeclaaaGreatDoorNaJ
import Derived.Test.YtmpginmdaeclaaaGreatDoorOcD
import Derived.Test.YtmpginmdaeclaaaGreatDoorNaI
import Derived.Test.YtmpginmdaeclaaaGreatDoorRdB
import Derived.Test.YtmpginmdaeclaaaGreatDoorNaK
import Derived.Test.YtmpginmdaeclaaaGreatDoorPaA
set_option maxHeartbeats 32000000
set_option maxRecDepth 20000
namespace Go.Proofs.YtmpginmdaeclaaaGreatDoor
open Go.RowKit
def chK (k : Int) : UInt8 := if k = -1 then 110 else if k = -2 then 117 else if k = -3 then 116 else if k = -4 then 111 else if k = 16 then 104 else if k = 4 then 52 else 50
def strR (t : Int) : List UInt8 := (kindsR t).map chK
theorem RefParts_any (t : Int) (w : World) : Calls Tryz.prog 262 #[.int .i64 t] w fun en w' => en = .returned (.string (mk (strR t))) /\ w = w' := by
  have hk : t = 1 \/ t = 28 \/ t = 2 \/ t = 5 \/ t = 12 \/ t = 15 \/ t = 6 \/ t = 16 \/ t = 33 \/ (t ≠ 1 /\ t ≠ 28 /\ t ≠ 2 /\ t ≠ 5 /\ t ≠ 12 /\ t ≠ 15 /\ t ≠ 6 /\ t ≠ 16 /\ t ≠ 33) := by omega
  rcases hk with rfl | rfl | rfl | rfl | rfl | rfl | rfl | rfl | rfl | ⟨h1, h2, h3, h4, h5, h6, h7, h8, h9⟩
  case inr.inr.inr.inr.inr.inr.inr.inr.inr =>
    have e1 : (t == 1) = false := by simp [h1]
    have e2 : (t == 28) = false := by simp [h2]
    have e3 : (t == 2) = false := by simp [h3]
    have e4 : (t == 5) = false := by simp [h4]
    have e5 : (t == 12) = false := by simp [h5]
    have e6 : (t == 15) = false := by simp [h6]
    have e7 : (t == 6) = false := by simp [h7]
    have e8 : (t == 16) = false := by simp [h8]
    have e9 : (t == 33) = false := by simp [h9]
    have HP := Ha (show strR t = [111] by unfold strR kindsR; simp [h1, h2, h3, h4, h5, h6, h7, h8, h9]; rfl)
    clear h1 h2 h3 h4 h5 h6 h7 h8 h9; go_enter Tryz.func262, Tryz.ntmps262
    go_wp2
    go_ret
    exact ⟨by rw [HP.out]; rfl, rfl⟩
  all_goals (
    go_enter Tryz.func262, Tryz.ntmps262
    go_wp2
    go_ret
    exact ⟨rfl, rfl⟩)
def KindR (k : Int) : Prop := k = -1 \/ k = -2 \/ k = -3 \/ k = -4 \/ k = 16 \/ k = 4 \/ k = 2
theorem kinds_are (t : Int) : ∀ k ∈ kindsR t, KindR k := by
  unfold kindsR KindR
  repeat' split
  all_goals (intro k hk; simp at hk; omega)
theorem kinds_few (t : Int) : (kindsR t).length <= 7 := by
  unfold kindsR
  repeat' split
  all_goals simp
def outR (r : Vis × Option Nat) : List (List UInt8) := match r.2 with | some _ => r.1.map (·.2) | none => []
def RefRdLeaves (M : List UInt8) (p0 : Nat) (t : Int) (w : World) (en : Ending) (w' : World) : Prop :=
  ∃ A n c, en = .returned (.tuple #[.slice A n c, .bool (okS M M.length (kindsR t) p0)]) /\ Sees w' w'.heap.size A n (textL (outR (steps M M.length (kindsR t) p0))) /\ Below w.heap.size w w'
def RefRdOwns (M : List UInt8) (p0 : Nat) (t : Int) (w : World) (en : Ending) (w' : World) : Prop :=
  ∃ A n c, en = .returned (.tuple #[.slice A n c, .bool (okS M M.length (kindsR t) p0)]) /\ w'.ownsRow w.heap.size 9 1 (.slice A n c) n (textL (outR (steps M M.length (kindsR t) p0))) /\ Below w.heap.size w w'
def RefRdAt (M : List UInt8) (ks : List Int) (p0 : Nat) (w : World) (k p : Nat) (v : Value) (wr : World) : Prop :=
  ∃ vs : Vis, steps M M.length ks p0 = (vs ++ (steps M M.length (ks.drop k) p).1, (steps M M.length (ks.drop k) p).2) /\ wr.ownsRow w.heap.size 9 1 v vs.length (textL (vs.map (·.2))) /\ vs.length = k /\ p <= M.length /\ Below w.heap.size w wr
theorem mk_sg {S : ByteArray} {M : List UInt8} (hS : S = mk M) (p e : Nat) : S.extract p e = mk (seg M p e) := by
  rw [hS, mk_extract]; rfl
section
variable {M : List UInt8} {ks : List Int} {w : World} {t : Int} {p0 k p q : Nat} {kd : Int} {vs : Vis} {b : List UInt8} {v v2 : Value} {w2 : World}
theorem rdat_step (h1 : steps M M.length ks p0 = (vs ++ (steps M M.length (ks.drop k) p).1, (steps M M.length (ks.drop k) p).2)) (hd : ks.drop k = kd :: ks.drop (k + 1)) (hc : cutP M M.length kd p = some (b, q)) (hl : vs.length = k /\ p <= M.length /\ Part kd)
    (hown : w2.ownsRow w.heap.size 9 1 v2 (vs.length + 1) (textL (vs.map (·.2)) ++ [.string (mk b)])) (hB : Below w.heap.size w w2) : RefRdAt M ks p0 w (k + 1) q v2 w2 := by
  have hy := steps_yes (ks := ks.drop (k + 1)) hc
  rw [<-hd] at hy
  refine ⟨vs ++ [(kd, b)], by rw [h1, hy]; simp, ?_, by rw [List.length_append, hl.1]; rfl, (cut_ok hl.2.2 hl.2.1 (Nat.le_refl _) hc).2.2.1, hB⟩
  have e : textL ((vs ++ [(kd, b)]).map (·.2)) = textL (vs.map (·.2)) ++ [.string (mk b)] := by simp [textL, texts]
  rw [e, List.length_append]
  exact hown
theorem rdat_no (h1 : steps M M.length ks p0 = (vs ++ (steps M M.length (ks.drop k) p).1, (steps M M.length (ks.drop k) p).2)) (hd : ks.drop k = kd :: ks.drop (k + 1)) (hc : cutP M M.length kd p = none) : steps M M.length ks p0 = (vs, none) := by
  rw [h1, hd, steps_no hc]; simp
theorem rd_leaf_no (h : steps M M.length (kindsR t) p0 = (vs, none)) (hB : Below w.heap.size w w2) : RefRdOwns M p0 t w (.returned (.tuple #[.slice none 0 0, .bool false])) w2 := by
  refine ⟨none, 0, 0, ?_, ?_, hB⟩
  · unfold okS; rw [h]; rfl
  · rw [h]; exact World.ownsRow_nil _ _ _ _
end
theorem RefDRead_own (S0 S : ByteArray) (M : List UInt8) (p0 : Nat) (t : Int) (w : World) (hex : S0.extract 0 S.size = S) (hle : S.size <= S0.size) (hp0 : p0 <= M.length) (hS : S = mk M) (hM : M.length <= 100000) :
    Calls Tryz.prog 229 #[.string S0, .int .i64 (p0 : Nat), .int .i64 (S.size : Nat), .int .i64 t] w (RefRdOwns M p0 t w) := by
  have hSz : S.size = M.length := by rw [hS, mk_size]
  have HS := Ha hS
  have HSZ := Ha hSz
  have hs1 : S.size <= 100000 := by omega
  have hle2 : (S.size : Int) <= (S0.size : Int) := by omega
  clear hS hSz
  obtain ⟨ks, hks⟩ : ∃ ks, ks = kindsR t := ⟨_, rfl⟩
  have hkr := kinds_are t
  have hfew := kinds_few t
  rw [<-hks] at hkr hfew
  have HKR := Ha hkr
  have HKS := Ha hks
  obtain ⟨P, hP⟩ : ∃ P, P = mk (strR t) := ⟨_, rfl⟩
  have hPz : P.size = ks.length := by rw [hP, mk_size, strR, List.length_map, hks]
  obtain ⟨n, hn⟩ : ∃ n, n = ks.length := ⟨_, rfl⟩
  have hn7 : n <= 7 := by omega
  have hPn : P.size = n := by omega
  have HN := Ha hn
  have HP := Ha hP
  clear hkr hfew hks hP hPz hn
  go_enter Tryz.func229, Tryz.ntmps229
  go_wp2_with fail
  refine (RefParts_any t _).mono ?_
  rw [<-HP.out]
  rintro en w1 ⟨rfl, rfl⟩
  go_wp2_with fail
  go_loopw [1, 10, 12] (fun at' v i wr => ∃ k p : Nat, k <= n /\ at' = .int .i64 (p : Nat) /\ i = .int .i64 (k : Nat) /\ RefRdAt M ks p0 w k p v wr) (fun _ _ i _ => n - (intOf i).toNat)
  case atStart => exact ⟨0, p0, Nat.zero_le _, rfl, rfl, [], by simp, World.ownsRow_nil _ _ _ _, rfl, hp0, Below.refl _ _⟩
  case round =>
    obtain ⟨k, p, hk, rfl, rfl, vs, h1, hown, hlen, hpM, hB⟩ := hrel
    obtain ⟨A, cA, rfl, hsee⟩ := Sees.own hown
    have H1 := Ha h1
    have HO := Ha hown
    have HB := Ha hB
    by_cases hkn : k < n
    · have gk : (k : Int) < (n : Int) := by omega
      have gkP : (k : Int) < (P.size : Int) := by omega
      have hPk : k < P.size := by omega
      have hkl : k < ks.length := by have := HN.out; omega
      obtain ⟨kd, hkd⟩ : ∃ kd, kd = ks[k] := ⟨_, rfl⟩
      have hdrop : ks.drop k = kd :: ks.drop (k + 1) := by rw [hkd]; exact List.drop_eq_getElem_cons hkl
      have hkind : KindR kd := by rw [hkd]; exact HKR.out _ (List.getElem_mem hkl)
      have hpart : Part kd := by unfold KindR at hkind; unfold Part; omega
      have hPc : (P[k]'hPk).toNat = (chK kd).toNat := by
        have hk2 : k < (strR t).length := by rw [strR, List.length_map, <-HKS.out]; exact hkl
        rw [mk_get HP.out hPk hk2]
        congr 1
        simp only [strR, List.getElem_map, hkd, HKS.out]
      obtain ⟨i0, hi0, hz0, hz1, hz2⟩ := info_parts text_infoG
      have H63 : Hid (vs.length + 1 <= maxLen) := Ha (by unfold maxLen; omega)
      have H47 : Hid ((vs.length + 1) * 16 <= 140737488355328) := Ha (by omega)
      have HD := Ha hdrop
      have HLEN := Ha (⟨hlen, hpM, hpart⟩ : vs.length = k /\ p <= M.length /\ Part kd)
      clear hkd hdrop h1 hown hB hpart hsee hlen; unfold KindR at hkind
      rcases hkind with rfl | rfl | rfl | rfl | rfl | rfl | rfl
      · have hkd : (P[k]'hPk).toNat = 110 := by rw [hPc]; rfl
        clear hPc
        cases hr : readR M [] p p none with
        | none =>
          have HNO := Ha (show steps M M.length ks p0 = (vs, none) from rdat_no H1.out HD.out (by unfold cutP nm; rw [hr]; simp))
          have HR := Ha hr
          clear hr; go_wp2_with fail
          refine (RefRead_in S M p _ HS.out (by omega) hpM).mono ?_
          rw [HR.out]
          unfold readV; rintro en W2 ⟨rfl, hB2⟩; have HBX := thB HB hB2
          have HB2 := Ha hB2
          clear hB2; go_wp2_with fail
          go_ret2
          exact rd_leaf_no (by rw [<-HKS.out]; exact HNO.out) HBX.out
        | some r =>
          obtain ⟨b, q⟩ := r
          obtain ⟨_, hq1, hq2⟩ := read_name hr
          simp only at hq1 hq2
          have HR := Ha hr
          have HCUT := Ha (show cutP M M.length (-1) p = some (b, q) by unfold cutP nm; rw [hr]; simp [hq2])
          clear hr; go_wp2_with fail
          refine (RefRead_in S M p _ HS.out (by omega) hpM).mono ?_
          rw [HR.out]
          unfold readV; rintro en W2 ⟨rfl, hB2⟩; have HBX := thB HB hB2
          have HB2 := Ha hB2
          clear hB2; go_wp2_with (at_builtin; refine wpList_append_own _ rfl _ _ 68 rfl w.heap.size 9 i0 (.string ⟨#[]⟩) 1 16 Tryz.underlying68 hi0 hz0 hz1 hz2 rfl (by decide) _ _ _ rfl ((own_below HO.out HB2.out).alloc _) ⟨W2.heap.size, 0, none⟩ 1 1 [.string (mk b)] rfl rfl (news1 _ _ _) (one1 _ rfl) H63.out H47.out (by have := HB.out.size; have := HB2.out.size; simp; omega) ?_)
          intro v2 w2 hown2 hgrow _
          have HB3 := Ha (((HB.out.trans (HB2.out.mono HB.out.size)).alloc (Nat.le_trans HB.out.size HB2.out.size) _).grown hgrow (by have := HB.out.size; have := HB2.out.size; simp; omega) (fun j hj => (HO.out.lt j hj).1))
          have HST2 := Ha (rdat_step H1.out HD.out HCUT.out HLEN.out (by first | exact hown2 | (rw [<-HXE.out]; exact hown2)) HB3.out)
          clear hown2 hgrow; go_wp2_with fail
          go_roundw
          case rel => exact ⟨k + 1, _, by omega, (by first | rfl | (congr 1; have := HSZ.out; omega)), by go_num, HST2.out⟩
          case measure => simp [intOf]; omega
      · have hkd : (P[k]'hPk).toNat = 117 := by rw [hPc]; rfl
        clear hPc
        cases hr : readR M [] p p none with
        | none =>
          have HNO := Ha (show steps M M.length ks p0 = (vs, none) from rdat_no H1.out HD.out (by unfold cutP nm; rw [hr]; simp))
          have HR := Ha hr
          clear hr; go_wp2_with fail
          refine (RefRead_in S M p _ HS.out (by omega) hpM).mono ?_
          rw [HR.out]
          unfold readV; rintro en W2 ⟨rfl, hB2⟩; have HBX := thB HB hB2
          have HB2 := Ha hB2
          clear hB2; go_wp2_with fail
          go_ret2
          exact rd_leaf_no (by rw [<-HKS.out]; exact HNO.out) HBX.out
        | some r =>
          obtain ⟨b, q⟩ := r
          obtain ⟨_, hq1, hq2⟩ := read_name hr
          simp only at hq1 hq2
          have HR := Ha hr
          have hex2 := mk_sg HS.out p q
          have g4 : (p : Int) <= (q : Int) := by omega
          have g5 : (q : Int) <= (S.size : Int) := by have := HSZ.out; omega
          by_cases hb : b = seg M p q
          · have hbe : ((mk b).toList == (S.extract p q).toList) = true := by rw [hex2, hb]; simp
            have HCUT := Ha (show cutP M M.length (-2) p = some (b, q) by unfold cutP nm; rw [hr]; simp [hq2, hb])
            clear hr hb hex2; go_wp2_with fail
            refine (RefRead_in S M p _ HS.out (by omega) hpM).mono ?_
            rw [HR.out]
            unfold readV; rintro en W2 ⟨rfl, hB2⟩; have HBX := thB HB hB2
            have HB2 := Ha hB2
            clear hB2; go_wp2_with (at_builtin; refine wpList_append_own _ rfl _ _ 68 rfl w.heap.size 9 i0 (.string ⟨#[]⟩) 1 16 Tryz.underlying68 hi0 hz0 hz1 hz2 rfl (by decide) _ _ _ rfl ((own_below HO.out HB2.out).alloc _) ⟨W2.heap.size, 0, none⟩ 1 1 [.string (mk b)] rfl rfl (news1 _ _ _) (one1 _ rfl) H63.out H47.out (by have := HB.out.size; have := HB2.out.size; simp; omega) ?_)
            intro v2 w2 hown2 hgrow _
            have HB3 := Ha (((HB.out.trans (HB2.out.mono HB.out.size)).alloc (Nat.le_trans HB.out.size HB2.out.size) _).grown hgrow (by have := HB.out.size; have := HB2.out.size; simp; omega) (fun j hj => (HO.out.lt j hj).1))
            have HST2 := Ha (rdat_step H1.out HD.out HCUT.out HLEN.out (by first | exact hown2 | (rw [<-HXE.out]; exact hown2)) HB3.out)
            clear hown2 hgrow; go_wp2_with fail
            go_roundw
            case rel => exact ⟨k + 1, _, by omega, (by first | rfl | (congr 1; have := HSZ.out; omega)), by go_num, HST2.out⟩
            case measure => simp [intOf]; omega
          · have hbe : ((mk b).toList == (S.extract p q).toList) = false := by rw [hex2, mk_beq, beq_eq_false_iff_ne]; exact hb
            have HNO := Ha (show steps M M.length ks p0 = (vs, none) from rdat_no H1.out HD.out (by unfold cutP nm; rw [hr]; simp [hq2, hb]))
            clear hr hb hex2; go_wp2_with fail
            refine (RefRead_in S M p _ HS.out (by omega) hpM).mono ?_
            rw [HR.out]
            unfold readV; rintro en W2 ⟨rfl, hB2⟩; have HBX := thB HB hB2
            have HB2 := Ha hB2
            clear hB2; go_wp2_with fail
            go_ret2
            exact rd_leaf_no (by rw [<-HKS.out]; exact HNO.out) HBX.out
      · have hkd : (P[k]'hPk).toNat = 116 := by rw [hPc]; rfl
        clear hPc; have g8 : (p : Int) <= (S.size : Int) := by have := HSZ.out; omega
        obtain ⟨T, hT⟩ : ∃ T, T = S.extract p S.size := ⟨_, rfl⟩
        have hTm : T = mk (seg M p M.length) := by rw [hT, mk_sg HS.out, HSZ.out]
        have hTz : T.size <= 1073741824 := by rw [hTm, mk_size, seg_len (Nat.le_refl _)]; omega
        have hpc : pcs (seg M p M.length) = ((piecesR T 1).2 == 0 && !(piecesR T 1).1.isEmpty) := by unfold pcs; rw [hTm]
        have hc3 : cutP M M.length (-3) p = if pcs (seg M p M.length) = true then some (seg M p M.length, M.length) else none := by unfold cutP; simp
        obtain ⟨l, z, hl⟩ : ∃ l z, piecesR T 1 = (l, z) := ⟨_, _, rfl⟩
        rw [hl] at hpc
        simp only at hpc
        have HT := Ha hT
        have HTM := Ha hTm
        have HLP := Ha hl
        clear hT hTm hl
        by_cases hz : z = 0
        · subst hz
          by_cases hnil : l = []
          · subst hnil
            have HNO := Ha (show steps M M.length ks p0 = (vs, none) from rdat_no H1.out HD.out (by rw [hc3, hpc]; simp))
            clear hc3 hpc; go_wp2_with fail
            rw [<-HT.out]
            refine (RefPieces_any T 1 _ hTz).mono ?_
            unfold PiecesLeaves; rw [HLP.out]
            rintro en W2 ⟨A2, c2, rfl, _, hB2⟩; have HBX := thB HB hB2
            have HB2 := Ha hB2
            clear hB2; go_wp2_with fail
            go_ret2
            exact rd_leaf_no (by rw [<-HKS.out]; exact HNO.out) HBX.out
          · have HCUT := Ha (show cutP M M.length (-3) p = some (seg M p M.length, M.length) by rw [hc3, hpc]; simp [hnil])
            have gl : (l.length == 0) = false := by simp [hnil]
            have gl2 : ((l.length : Int) == 0) = false := by rw [beq_eq_false_iff_ne]; intro e; exact hnil (List.eq_nil_of_length_eq_zero (by omega))
            have gl3 : 0 < l.length := List.length_pos_iff.2 hnil
            have HXE := Ha (show S.extract p (p + (S.size - p)) = mk (seg M p M.length) by rw [show p + (S.size - p) = S.size by omega, mk_sg HS.out, HSZ.out])
            clear hc3 hpc hnil; go_wp2_with fail
            rw [<-HT.out]
            refine (RefPieces_any T 1 _ hTz).mono ?_
            unfold PiecesLeaves; rw [HLP.out]
            rintro en W2 ⟨A2, c2, rfl, _, hB2⟩; have HBX := thB HB hB2
            have HB2 := Ha hB2
            clear hB2; go_wp2_with (at_builtin; refine wpList_append_own _ rfl _ _ 68 rfl w.heap.size 9 i0 (.string ⟨#[]⟩) 1 16 Tryz.underlying68 hi0 hz0 hz1 hz2 rfl (by decide) _ _ _ rfl ((own_below HO.out HB2.out).alloc _) ⟨W2.heap.size, 0, none⟩ 1 1 [.string (S.extract p (p + (S.size - p)))] rfl rfl (news1 _ _ _) (one1 _ rfl) H63.out H47.out (by have := HB.out.size; have := HB2.out.size; simp; omega) ?_)
            intro v2 w2 hown2 hgrow _
            have HB3 := Ha (((HB.out.trans (HB2.out.mono HB.out.size)).alloc (Nat.le_trans HB.out.size HB2.out.size) _).grown hgrow (by have := HB.out.size; have := HB2.out.size; simp; omega) (fun j hj => (HO.out.lt j hj).1))
            have HST2 := Ha (rdat_step H1.out HD.out HCUT.out HLEN.out (by first | exact hown2 | (rw [<-HXE.out]; exact hown2)) HB3.out)
            clear hown2 hgrow; go_wp2_with fail
            go_roundw
            case rel => exact ⟨k + 1, _, by omega, (by first | rfl | (congr 1; have := HSZ.out; omega)), by go_num, HST2.out⟩
            case measure => simp [intOf]; omega
        · have HNO := Ha (show steps M M.length ks p0 = (vs, none) from rdat_no H1.out HD.out (by rw [hc3, hpc]; simp [hz]))
          have gz : (z == 0) = false := by simp [hz]
          clear hc3 hpc; go_wp2_with fail
          rw [<-HT.out]
          refine (RefPieces_any T 1 _ hTz).mono ?_
          unfold PiecesLeaves; rw [HLP.out]
          rintro en W2 ⟨A2, c2, rfl, _, hB2⟩; have HBX := thB HB hB2
          have HB2 := Ha hB2
          clear hB2; go_wp2_with fail
          go_ret2
          exact rd_leaf_no (by rw [<-HKS.out]; exact HNO.out) HBX.out
      · have hkd : (P[k]'hPk).toNat = 111 := by rw [hPc]; rfl
        have HCUT := Ha (show cutP M M.length (-4) p = some (seg M p M.length, M.length) by unfold cutP; simp)
        have g8 : (p : Int) <= (S.size : Int) := by have := HSZ.out; omega
        have HXE := Ha (show S.extract p (p + (S.size - p)) = mk (seg M p M.length) by rw [show p + (S.size - p) = S.size by omega, mk_sg HS.out, HSZ.out])
        clear hPc; obtain ⟨W2, hW2⟩ : ∃ W2, W2 = wr := ⟨_, rfl⟩
        have HB2 := Ha (show Below wr.heap.size wr W2 by rw [hW2]; exact Below.refl _ _)
        have HBX := Ha HB.out
        rw [<-hW2]
        clear hW2; go_wp2_with (at_builtin; refine wpList_append_own _ rfl _ _ 68 rfl w.heap.size 9 i0 (.string ⟨#[]⟩) 1 16 Tryz.underlying68 hi0 hz0 hz1 hz2 rfl (by decide) _ _ _ rfl ((own_below HO.out HB2.out).alloc _) ⟨W2.heap.size, 0, none⟩ 1 1 [.string (S.extract p (p + (S.size - p)))] rfl rfl (news1 _ _ _) (one1 _ rfl) H63.out H47.out (by have := HB.out.size; have := HB2.out.size; simp; omega) ?_)
        intro v2 w2 hown2 hgrow _
        have HB3 := Ha (((HB.out.trans (HB2.out.mono HB.out.size)).alloc (Nat.le_trans HB.out.size HB2.out.size) _).grown hgrow (by have := HB.out.size; have := HB2.out.size; simp; omega) (fun j hj => (HO.out.lt j hj).1))
        have HST2 := Ha (rdat_step H1.out HD.out HCUT.out HLEN.out (by first | exact hown2 | (rw [<-HXE.out]; exact hown2)) HB3.out)
        clear hown2 hgrow; go_wp2_with fail
        go_roundw
        case rel => exact ⟨k + 1, _, by omega, (by first | rfl | (congr 1; have := HSZ.out; omega)), by go_num, HST2.out⟩
        case measure => simp [intOf]; omega
      · have hkd : (P[k]'hPk).toNat = 104 := by rw [hPc]; rfl
        have hcn := cut_num (M := M) (e := M.length) (p := p) (n := 16)
        clear hPc
        by_cases hq : p + 16 <= M.length
        · rw [if_pos hq] at hcn
          have HCUT := Ha hcn
          have HXE := Ha (mk_sg HS.out p (p + 16))
          have g8 : (p : Int) + 16 <= (S.size : Int) := by have := HSZ.out; omega
          clear hcn; obtain ⟨W2, hW2⟩ : ∃ W2, W2 = wr := ⟨_, rfl⟩
          have HB2 := Ha (show Below wr.heap.size wr W2 by rw [hW2]; exact Below.refl _ _)
          have HBX := Ha HB.out
          rw [<-hW2]
          clear hW2; go_wp2_with (at_builtin; refine wpList_append_own _ rfl _ _ 68 rfl w.heap.size 9 i0 (.string ⟨#[]⟩) 1 16 Tryz.underlying68 hi0 hz0 hz1 hz2 rfl (by decide) _ _ _ rfl ((own_below HO.out HB2.out).alloc _) ⟨W2.heap.size, 0, none⟩ 1 1 [.string (S.extract p (p + 16))] rfl rfl (news1 _ _ _) (one1 _ rfl) H63.out H47.out (by have := HB.out.size; have := HB2.out.size; simp; omega) ?_)
          intro v2 w2 hown2 hgrow _
          have HB3 := Ha (((HB.out.trans (HB2.out.mono HB.out.size)).alloc (Nat.le_trans HB.out.size HB2.out.size) _).grown hgrow (by have := HB.out.size; have := HB2.out.size; simp; omega) (fun j hj => (HO.out.lt j hj).1))
          have HST2 := Ha (rdat_step H1.out HD.out HCUT.out HLEN.out (by first | exact hown2 | (rw [<-HXE.out]; exact hown2)) HB3.out)
          clear hown2 hgrow; go_wp2_with fail
          go_roundw
          case rel => exact ⟨k + 1, _, by omega, (by first | rfl | (congr 1; have := HSZ.out; omega)), by go_num, HST2.out⟩
          case measure => simp [intOf]; omega
        · rw [if_neg hq] at hcn
          have HNO := Ha (show steps M M.length ks p0 = (vs, none) from rdat_no H1.out HD.out hcn)
          have g8 : (S.size : Int) < (p : Int) + 16 := by have := HSZ.out; omega
          have HBX := Ha HB.out
          clear hcn; go_wp2_with fail
          go_ret2
          exact rd_leaf_no (by rw [<-HKS.out]; exact HNO.out) HBX.out
      · have hkd : (P[k]'hPk).toNat = 52 := by rw [hPc]; rfl
        have hcn := cut_num (M := M) (e := M.length) (p := p) (n := 4)
        clear hPc
        by_cases hq : p + 4 <= M.length
        · rw [if_pos hq] at hcn
          have HCUT := Ha hcn
          have HXE := Ha (mk_sg HS.out p (p + 4))
          have g8 : (p : Int) + 4 <= (S.size : Int) := by have := HSZ.out; omega
          clear hcn; obtain ⟨W2, hW2⟩ : ∃ W2, W2 = wr := ⟨_, rfl⟩
          have HB2 := Ha (show Below wr.heap.size wr W2 by rw [hW2]; exact Below.refl _ _)
          have HBX := Ha HB.out
          rw [<-hW2]
          clear hW2; go_wp2_with (at_builtin; refine wpList_append_own _ rfl _ _ 68 rfl w.heap.size 9 i0 (.string ⟨#[]⟩) 1 16 Tryz.underlying68 hi0 hz0 hz1 hz2 rfl (by decide) _ _ _ rfl ((own_below HO.out HB2.out).alloc _) ⟨W2.heap.size, 0, none⟩ 1 1 [.string (S.extract p (p + 4))] rfl rfl (news1 _ _ _) (one1 _ rfl) H63.out H47.out (by have := HB.out.size; have := HB2.out.size; simp; omega) ?_)
          intro v2 w2 hown2 hgrow _
          have HB3 := Ha (((HB.out.trans (HB2.out.mono HB.out.size)).alloc (Nat.le_trans HB.out.size HB2.out.size) _).grown hgrow (by have := HB.out.size; have := HB2.out.size; simp; omega) (fun j hj => (HO.out.lt j hj).1))
          have HST2 := Ha (rdat_step H1.out HD.out HCUT.out HLEN.out (by first | exact hown2 | (rw [<-HXE.out]; exact hown2)) HB3.out)
          clear hown2 hgrow; go_wp2_with fail
          go_roundw
          case rel => exact ⟨k + 1, _, by omega, (by first | rfl | (congr 1; have := HSZ.out; omega)), by go_num, HST2.out⟩
          case measure => simp [intOf]; omega
        · rw [if_neg hq] at hcn
          have HNO := Ha (show steps M M.length ks p0 = (vs, none) from rdat_no H1.out HD.out hcn)
          have g8 : (S.size : Int) < (p : Int) + 4 := by have := HSZ.out; omega
          have HBX := Ha HB.out
          clear hcn; go_wp2_with fail
          go_ret2
          exact rd_leaf_no (by rw [<-HKS.out]; exact HNO.out) HBX.out
      · have hkd : (P[k]'hPk).toNat = 50 := by rw [hPc]; rfl
        have hcn := cut_num (M := M) (e := M.length) (p := p) (n := 2)
        clear hPc
        by_cases hq : p + 2 <= M.length
        · rw [if_pos hq] at hcn
          have HCUT := Ha hcn
          have HXE := Ha (mk_sg HS.out p (p + 2))
          have g8 : (p : Int) + 2 <= (S.size : Int) := by have := HSZ.out; omega
          clear hcn; obtain ⟨W2, hW2⟩ : ∃ W2, W2 = wr := ⟨_, rfl⟩
          have HB2 := Ha (show Below wr.heap.size wr W2 by rw [hW2]; exact Below.refl _ _)
          have HBX := Ha HB.out
          rw [<-hW2]
          clear hW2; go_wp2_with (at_builtin; refine wpList_append_own _ rfl _ _ 68 rfl w.heap.size 9 i0 (.string ⟨#[]⟩) 1 16 Tryz.underlying68 hi0 hz0 hz1 hz2 rfl (by decide) _ _ _ rfl ((own_below HO.out HB2.out).alloc _) ⟨W2.heap.size, 0, none⟩ 1 1 [.string (S.extract p (p + 2))] rfl rfl (news1 _ _ _) (one1 _ rfl) H63.out H47.out (by have := HB.out.size; have := HB2.out.size; simp; omega) ?_)
          intro v2 w2 hown2 hgrow _
          have HB3 := Ha (((HB.out.trans (HB2.out.mono HB.out.size)).alloc (Nat.le_trans HB.out.size HB2.out.size) _).grown hgrow (by have := HB.out.size; have := HB2.out.size; simp; omega) (fun j hj => (HO.out.lt j hj).1))
          have HST2 := Ha (rdat_step H1.out HD.out HCUT.out HLEN.out (by first | exact hown2 | (rw [<-HXE.out]; exact hown2)) HB3.out)
          clear hown2 hgrow; go_wp2_with fail
          go_roundw
          case rel => exact ⟨k + 1, _, by omega, (by first | rfl | (congr 1; have := HSZ.out; omega)), by go_num, HST2.out⟩
          case measure => simp [intOf]; omega
        · rw [if_neg hq] at hcn
          have HNO := Ha (show steps M M.length ks p0 = (vs, none) from rdat_no H1.out HD.out hcn)
          have g8 : (S.size : Int) < (p : Int) + 2 := by have := HSZ.out; omega
          have HBX := Ha HB.out
          clear hcn; go_wp2_with fail
          go_ret2
          exact rd_leaf_no (by rw [<-HKS.out]; exact HNO.out) HBX.out
    · obtain rfl : k = n := by omega
      have hdrop : ks.drop k = [] := List.drop_eq_nil_of_le (by have := HN.out; omega)
      have HEN := Ha (show steps M M.length (kindsR t) p0 = (vs, some p) by rw [<-HKS.out, H1.out, hdrop, steps_nil]; simp)
      have hpS : (p : Int) = (S.size : Int) ↔ p = M.length := by have := HSZ.out; omega
      have HPS := Ha hpS
      clear hdrop h1 hown hB hsee hpS; go_wp2_with fail
      go_ret2
      refine ⟨A, vs.length, cA, ?_, ?_, HB.out⟩
      · unfold okS
        rw [HEN.out]
        simp
        rw [HSZ.out]
        exact nat_beq _ _
      · rw [HEN.out]
        exact HO.out
theorem RefDRead_any (S0 S : ByteArray) (M : List UInt8) (p0 : Nat) (t : Int) (w : World) (hex : S0.extract 0 S.size = S) (hle : S.size <= S0.size) (hp0 : p0 <= M.length) (hS : S = mk M) (hM : M.length <= 100000) :
    Calls Tryz.prog 229 #[.string S0, .int .i64 (p0 : Nat), .int .i64 (S.size : Nat), .int .i64 t] w (RefRdLeaves M p0 t w) := by
  refine (RefDRead_own S0 S M p0 t w hex hle hp0 hS hM).mono ?_
  rintro en w' ⟨A, n, c, rfl, ho, hB⟩
  obtain ⟨A', c', e, hs⟩ := Sees.own ho
  injection e with e1 e2 e3
  subst e1
  exact ⟨A, n, c, rfl, hs, hB⟩
end Go.Proofs.YtmpginmdaeclaaaGreatDoor
namespace Go.Proofs.YtmpginmdaeclaaaGreatDoor
open Go.RowKit
theorem flat_snoc {L : List (List UInt8)} {k : Nat} (h : k < L.length) : (L.take (k + 1)).flatten = (L.take k).flatten ++ L[k] := by
  rw [List.take_succ_eq_append_getElem h, List.flatten_append, List.flatten_singleton]
theorem flat_le (L : List (List UInt8)) (k : Nat) : (L.take k).flatten.length <= L.flatten.length := by
  conv => rhs; rw [<-List.take_append_drop k L]
  rw [List.flatten_append, List.length_append]; omega
theorem RefJoin_any (A : Option Addr) (n c B : Nat) (L : List (List UInt8)) (w : World) (h : Sees w B A n (textL L)) (hn : n <= 100) (hL : L.flatten.length <= 10000000) :
    Calls Tryz.prog 230 #[.slice A n c] w fun en w' => en = .returned (.string (mk L.flatten)) /\ w = w' := by
  have hln : L.length = n := by have := h.len; simpa [textL, texts] using this
  have H := Ha h
  have HLN := Ha hln
  clear h hln
  go_enter Tryz.func230, Tryz.ntmps230
  go_wp2_with fail
  go_loop [3, 4] (fun s i => ∃ k : Nat, k <= n /\ i = .int .i64 (k : Nat) /\ s = .string (mk (L.take k).flatten)) (fun _ i => n - (intOf i).toNat)
  case atStart => exact ⟨0, Nat.zero_le _, rfl, rfl⟩
  case round =>
    obtain ⟨k, hk, rfl, rfl⟩ := hrel
    by_cases hkn : k < n
    · have gk : (k : Int) < (n : Int) := by omega
      have hkl : k < L.length := by have := HLN.out; omega
      obtain ⟨b, off, rfl, _, hc⟩ := textL_at H.out hkn hkl
      have hsn := flat_snoc hkl
      have hle := flat_le L (k + 1)
      rw [hsn, List.length_append] at hle
      have h1 : (mk (L.take k).flatten).size + (mk L[k]).size <= 10000000 := by rw [mk_size, mk_size]; omega
      have HSN := Ha (show mk (L.take k).flatten ++ mk L[k] = mk (L.take (k + 1)).flatten by rw [mk_append, hsn])
      clear hsn hle; go_wp2
      go_round
      case rel => exact ⟨k + 1, by omega, by go_num, by rw [<-HSN.out]⟩
      case measure => simp [intOf]; omega
    · obtain rfl : k = n := by omega
      have HT := Ha (show (L.take k).flatten = L.flatten by rw [List.take_of_length_le (by have := HLN.out; omega)])
      go_wp2
      go_ret
      exact ⟨by rw [<-HT.out]; rfl, rfl⟩
theorem out_len {M : List UInt8} (hM : M.length <= 100000) (p0 : Nat) (t : Int) : (outR (steps M M.length (kindsR t) p0)).length <= 7 /\ (outR (steps M M.length (kindsR t) p0)).flatten.length <= 1000000 := by
  have h1 := steps_len (M := M) (e := M.length) (kindsR t) p0
  have h2 := kinds_few t
  have h3 : (kindsR t).length * (255 + M.length) <= 7 * 100255 := Nat.mul_le_mul h2 (by omega)
  have h4 : ∀ (ks : List Int) (p : Nat), (steps M M.length ks p).1.length <= ks.length := by
    intro ks
    induction ks with
    | nil => intro p; simp [steps_nil]
    | cons k ks ih =>
      intro p
      cases hc : cutP M M.length k p with
      | none => rw [steps_no hc]; simp
      | some r => rw [steps_yes hc]; simp; exact ih _
  have h5 := h4 (kindsR t) p0
  unfold outR
  cases (steps M M.length (kindsR t) p0).2 with
  | none => simp
  | some q =>
    simp only [List.length_map]
    refine ⟨by omega, ?_⟩
    have e : ((steps M M.length (kindsR t) p0).1.map (·.2)).flatten = cat (steps M M.length (kindsR t) p0).1 := by unfold cat; rw [List.flatMap_def]
    rw [e]; omega
def wholeA (p0 : Nat) (t : Int) (D : List UInt8) : List UInt8 := (outR (steps D D.length (kindsR t) p0)).flatten
def wholeR (t : Int) (D : List UInt8) : List UInt8 := wholeA 0 t D
def wholeC (p0 : Nat) (t : Int) (D : List UInt8) : Bool := okS D D.length (kindsR t) p0 && decide ((wholeA p0 t D).length <= 65535)
def wholeB (t : Int) (D : List UInt8) : Bool := wholeC 0 t D
theorem RefWhole_at (S0 S : ByteArray) (D : List UInt8) (p0 : Nat) (t : Int) (w : World) (hex : S0.extract 0 S.size = S) (hle : S.size <= S0.size) (hp0 : p0 <= D.length) (hS : S = mk D) (hD : D.length <= 100000) :
    Calls Tryz.prog 184 #[.string S0, .int .i64 (p0 : Nat), .int .i64 (S.size : Nat), .int .i64 t] w fun en w' => en = .returned (.tuple #[.string (mk (wholeA p0 t D)), .bool (wholeC p0 t D)]) /\ Below w.heap.size w w' := by
  obtain ⟨hl7, hlen⟩ := out_len hD p0 t
  have HS := Ha hS
  clear hS
  go_enter Tryz.func184, Tryz.ntmps184
  go_wp2_with fail
  refine (RefDRead_any S0 S D p0 t _ hex hle hp0 HS.out hD).mono ?_
  rintro en w1 ⟨A, n, c, rfl, hsee, hB⟩
  obtain ⟨L, hL⟩ : ∃ L, L = outR (steps D D.length (kindsR t) p0) := ⟨_, rfl⟩
  rw [<-hL] at hsee hl7 hlen
  have hW : wholeA p0 t D = L.flatten := by unfold wholeA; rw [hL]
  have hln : L.length = n := by have := hsee.len; simpa [textL, texts] using this
  have HSE := Ha hsee
  have HB := Ha hB
  have HW := Ha hW
  have hW2 : (mk L.flatten).size = (wholeA p0 t D).length := by rw [mk_size, hW]
  have hWB : wholeC p0 t D = (okS D D.length (kindsR t) p0 && decide ((wholeA p0 t D).length <= 65535)) := rfl
  clear hL hW hsee hB
  cases hok : okS D D.length (kindsR t) p0 with
  | false =>
    rw [hok, Bool.false_and] at hWB
    have HWB := Ha hWB
    clear hWB hok; go_wp2_with fail
    refine (RefJoin_any A n c _ L _ HSE.out (by omega) (by omega)).mono ?_
    rintro en w2 ⟨rfl, rfl⟩; go_wp2_with fail
    go_ret2
    exact ⟨by rw [HW.out, HWB.out]; rfl, HB.out⟩
  | true =>
    rw [hok, Bool.true_and] at hWB
    have HWB := Ha hWB
    clear hWB hok; go_wp2_with fail
    refine (RefJoin_any A n c _ L _ HSE.out (by omega) (by omega)).mono ?_
    rintro en w2 ⟨rfl, rfl⟩
    by_cases hle : (wholeA p0 t D).length <= 65535
    · have g1 : ((mk L.flatten).size : Int) <= 65535 := by omega
      have HLE := Ha hle
      clear hle hW2; go_wp2_with fail
      go_ret2
      exact ⟨by have h := decide_eq_true HLE.out; rw [HWB.out, h, HW.out]; rfl, HB.out⟩
    · have g1 : decide (((mk L.flatten).size : Int) <= 65535) = false := by rw [decide_eq_false_iff_not]; omega
      have HLE := Ha hle
      clear hle hW2; go_wp2_with fail
      go_ret2
      exact ⟨by have h := decide_eq_false HLE.out; rw [HWB.out, h, HW.out]; rfl, HB.out⟩
theorem RefWhole_any (S : ByteArray) (D : List UInt8) (t : Int) (w : World) (hS : S = mk D) (hD : D.length <= 100000) :
    Calls Tryz.prog 184 #[.string S, .int .i64 0, .int .i64 (S.size : Nat), .int .i64 t] w fun en w' => en = .returned (.tuple #[.string (mk (wholeR t D)), .bool (wholeB t D)]) /\ Below w.heap.size w w' :=
  RefWhole_at S S D 0 t w (by rw [hS, mk_extract, mk_size]; simp) (Nat.le_refl _) (Nat.zero_le _) hS hD
theorem right_whole {t : Int} {D : List UInt8} (hD : D.length <= 65535) : rightR t D = (wholeB t D && (wholeR t D == D)) := by
  unfold rightR wholeB wholeC
  rw [decide_eq_true hD, Bool.true_and, eqv_ok]
  cases hok : okS D D.length (partsP t) 0 with
  | false => rw [data_none hok]; rfl
  | true =>
    have hw : wholeR t D = cat (steps D D.length (partsP t) 0).1 := by
      rw [<-eqv_cat hok]
      unfold wholeR wholeA outR
      have : (steps D D.length (kindsR t) 0).2 = some D.length := by
        have := eqv_ok D D.length 0 t
        rw [hok] at this
        simpa [okS] using this
      rw [this]
      simp only
      unfold cat; rw [List.flatMap_def]
    rw [data_some hok, <-hw, Bool.true_and]
    by_cases he : wholeR t D = D
    · rw [show wholeA 0 t D = wholeR t D from rfl, he]; simp [hD]
    · have h1 : (wholeR t D == D) = false := by rw [beq_eq_false_iff_ne]; exact he
      rw [h1, Bool.and_false]
      simp [he]
theorem RefDRight_any (S : ByteArray) (D : List UInt8) (t : Int) (w : World) (hS : S = mk D) (hD : D.length <= 65535) :
    Calls Tryz.prog 138 #[.int .i64 t, .string S] w fun en w' => en = .returned (.bool (rightR t D)) /\ Below w.heap.size w w' := by
  have hR := right_whole (t := t) hD
  have HS := Ha hS
  have hbe : ((mk (wholeR t D)).toList == S.toList) = (wholeR t D == D) := by rw [hS, mk_beq]
  clear hS
  cases hb : wholeB t D with
  | false =>
    rw [hb, Bool.false_and] at hR
    have HR := Ha hR
    have HBB := Ha hb
    clear hR hb hbe; go_enter Tryz.func138, Tryz.ntmps138
    go_wp2_with fail
    refine (RefWhole_any S D t _ HS.out (by omega)).mono ?_
    rw [HBB.out]
    rintro en w1 ⟨rfl, hB⟩; go_wp2_with fail
    go_ret
    exact ⟨by rw [HR.out]; rfl, hB⟩
  | true =>
    rw [hb, Bool.true_and] at hR
    have HBB := Ha hb
    clear hb
    cases hbd : (wholeR t D == D)
    all_goals (
      rw [hbd] at hbe hR
      have HR := Ha hR
      clear hbd hR; go_enter Tryz.func138, Tryz.ntmps138
      go_wp2_with fail
      refine (RefWhole_any S D t _ HS.out (by omega)).mono ?_
      rw [HBB.out]
      rintro en w1 ⟨rfl, hB⟩; go_wp2_with fail
      go_ret
      exact ⟨by rw [HR.out]; rfl, hB⟩)
theorem vis_kinds {t : Int} {D : List UInt8} (h : rightR t D = true) : ∃ V : Vis, steps D D.length (kindsR t) 0 = (V, some D.length) /\ V.map (·.1) = kindsR t /\ outR (steps D D.length (kindsR t) 0) = V.map (·.2) /\ cat V = D /\ okS D D.length (kindsR t) 0 = true := by
  obtain ⟨_, h2, h3, _, _⟩ := right_is h
  have hok : okS D D.length (kindsR t) 0 = true := by rw [eqv_ok]; exact h2
  have hs : (steps D D.length (kindsR t) 0).2 = some D.length := by simpa [okS] using hok
  have hk : ∀ (ks : List Int) (p q : Nat), (steps D D.length ks p).2 = some q -> (steps D D.length ks p).1.map (·.1) = ks := by
    intro ks
    induction ks with
    | nil => intro p q _; rfl
    | cons k ks ih =>
      intro p q hq
      cases hc : cutP D D.length k p with
      | none => rw [steps_no hc] at hq; cases hq
      | some r =>
        rw [steps_yes hc] at hq ⊢
        rw [List.map_cons, ih _ _ hq]
  refine ⟨(steps D D.length (kindsR t) 0).1, by rw [<-hs], hk _ _ _ hs, by unfold outR; rw [hs], ?_, hok⟩
  rw [eqv_cat h2]; exact h3
def accF (V : Vis) (k : Nat) : ByteArray := mk (cat ((V.take k).map foldB1))
theorem RefDFold_any (S : ByteArray) (D : List UInt8) (t : Int) (w : World) (hS : S = mk D) (hD : D.length <= 65535) :
    Calls Tryz.prog 263 #[.int .i64 t, .string S] w fun en w' => en = .returned (.string (mk (foldD t D))) /\ Below w.heap.size w w' := by
  have HS := Ha hS
  clear hS
  cases hr : rightR t D with
  | false =>
    have HR := Ha hr
    have HF := Ha (show foldD t D = [] by unfold foldD; rw [hr]; simp)
    clear hr; go_enter Tryz.func263, Tryz.ntmps263
    go_wp2_with fail
    refine (RefDRight_any S D t _ HS.out hD).mono ?_
    rw [HR.out]
    rintro en w1 ⟨rfl, hB⟩; go_wp2_with fail
    go_ret
    exact ⟨by rw [HF.out]; rfl, hB⟩
  | true =>
    have HR := Ha hr
    obtain ⟨V, hV1, hV2, hV3, hV4, hV5⟩ := vis_kinds hr
    have hfold : foldD t D = cat (V.map foldB1) := by
      obtain ⟨_, h2, _⟩ := right_is hr
      have h := eqv_fold h2 nice_fold []
      rw [fold_fold, fold_fold, hV1] at h
      unfold foldD; rw [if_pos hr]
      simpa [visR] using h
    have hVl : V.length <= 7 := by have := kinds_few t; rw [<-hV2, List.length_map] at this; exact this
    have hcl : (cat V).length <= 65535 := by rw [hV4]; exact hD
    have HF := Ha hfold
    have HV2 := Ha hV2
    have HV3 := Ha hV3
    have HV5 := Ha hV5
    have hKV : ∀ x ∈ V, KindR x.1 := fun x hx => kinds_are t _ (by rw [<-hV2]; exact List.mem_map_of_mem hx)
    have HKV := Ha hKV
    clear hr hfold hV1 hV2 hV3 hV4 hV5 hKV; go_enter Tryz.func263, Tryz.ntmps263
    go_wp2_with fail
    refine (RefDRight_any S D t _ HS.out hD).mono ?_
    rw [HR.out]
    rintro en w1 ⟨rfl, hB⟩; have HB1 := Ha hB
    clear hB; go_wp2_with fail
    refine (RefDRead_any S S D 0 t _ (by rw [HS.out, mk_extract, mk_size]; simp) (Nat.le_refl _) (Nat.zero_le _) HS.out (by omega)).mono ?_
    rintro en w2 ⟨A, n, c, rfl, hsee, hB⟩; rw [HV3.out] at hsee
    rw [HV5.out]
    have hln : V.length = n := by have := hsee.len; simpa [textL, texts] using this
    have HLN := Ha hln
    have HSE := Ha hsee
    have HB2 := thB HB1 hB
    clear hsee hB; have hn7 : n <= 7 := by omega
    clear hln; go_wp2_with fail
    refine (RefParts_any t _).mono ?_
    rintro en w3 ⟨rfl, rfl⟩; obtain ⟨P, hP⟩ : ∃ P, P = mk (strR t) := ⟨_, rfl⟩
    rw [<-hP]
    have hPn : P.size = n := by rw [hP, mk_size, strR, List.length_map, <-HV2.out, List.length_map, HLN.out]
    have HP := Ha hP
    clear hP; go_wp2_with fail
    go_loopw [8, 9] (fun s i wr => ∃ k : Nat, k <= n /\ i = .int .i64 (k : Nat) /\ s = .string (accF V k) /\ Below w2.heap.size w2 wr) (fun _ i _ => n - (intOf i).toNat)
    case atStart => exact ⟨0, Nat.zero_le _, rfl, rfl, Below.refl _ _⟩
    case round =>
      obtain ⟨k, hk, rfl, rfl, hB⟩ := hrel
      have HB := Ha hB
      clear hB
      by_cases hkn : k < n
      · have gk : (k : Int) < (n : Int) := by omega
        have gkP : (k : Int) < (P.size : Int) := by omega
        have hPk : k < P.size := by omega
        have hkl : k < V.length := by have := HLN.out; omega
        obtain ⟨kd, b, hkd⟩ : ∃ kd b, V[k] = (kd, b) := ⟨_, _, rfl⟩
        have hkind : KindR kd := by have := HKV.out V[k] (List.getElem_mem hkl); rw [hkd] at this; exact this
        have hPc : (P[k]'hPk).toNat = (chK kd).toNat := by
          have hk2 : k < (strR t).length := by rw [strR, List.length_map, <-HV2.out, List.length_map]; exact hkl
          rw [mk_get HP.out hPk hk2]
          congr 1
          simp only [strR, List.getElem_map, <-HV2.out, hkd]
        obtain ⟨b2, off, rfl, hb2, hc⟩ := textL_at (HSE.out.below HB.out) hkn (by rw [List.length_map]; exact hkl)
        rw [List.getElem_map, hkd] at hc
        simp only at hc
        have hsn : cat ((V.take (k + 1)).map foldB1) = cat ((V.take k).map foldB1) ++ (foldB1 (kd, b)).2 := by
          rw [List.take_succ_eq_append_getElem hkl, List.map_append, cat_append, hkd]; simp [cat]
        have hcat : (cat ((V.take (k + 1)).map foldB1)).length <= 65535 := by
          have h1 := fold_len (V.take (k + 1))
          have h2 := cat_pre (V := V) (List.take_prefix (k + 1) V)
          omega
        rw [hsn, List.length_append] at hcat
        have hbl : b.length <= 65535 := by
          have h2 := cat_pre (V := V) (List.take_prefix (k + 1) V)
          rw [List.take_succ_eq_append_getElem hkl, cat_append, List.length_append, hkd] at h2
          have e : (cat [(kd, b)]).length = b.length := by simp [cat]
          omega
        unfold KindR at hkind
        rcases hkind with rfl | rfl | rfl | rfl | rfl | rfl | rfl
        · have hkc : (P[k]'hPk).toNat = 110 := by rw [hPc]; rfl
          have hf : (foldB1 (-1, b)).2 = foldL b := by unfold foldB1; simp
          rw [hf] at hsn hcat
          have h1 : (accF V k).size + (mk (foldL b)).size <= 65535 := by unfold accF; rw [mk_size, mk_size]; omega
          have HSN := Ha (show accF V k ++ mk (foldL b) = accF V (k + 1) by unfold accF; rw [mk_append, hsn])
          clear hsn hcat hf hkd hPc; go_wp2_with fail
          refine (RefFold_any (mk b) b _ rfl).mono ?_
          rintro en w4 ⟨rfl, hB4⟩; go_wp2_with fail
          go_roundw
          case rel => exact ⟨k + 1, by omega, by go_num, by rw [<-HSN.out], HB.out.trans (hB4.mono HB.out.size)⟩
          case measure => simp [intOf]; omega
        · have hkc : (P[k]'hPk).toNat = 117 := by rw [hPc]; rfl
          have hf : (foldB1 (-2, b)).2 = foldL b := by unfold foldB1; simp
          rw [hf] at hsn hcat
          have h1 : (accF V k).size + (mk (foldL b)).size <= 65535 := by unfold accF; rw [mk_size, mk_size]; omega
          have HSN := Ha (show accF V k ++ mk (foldL b) = accF V (k + 1) by unfold accF; rw [mk_append, hsn])
          clear hsn hcat hf hkd hPc; go_wp2_with fail
          refine (RefFold_any (mk b) b _ rfl).mono ?_
          rintro en w4 ⟨rfl, hB4⟩; go_wp2_with fail
          go_roundw
          case rel => exact ⟨k + 1, by omega, by go_num, by rw [<-HSN.out], HB.out.trans (hB4.mono HB.out.size)⟩
          case measure => simp [intOf]; omega
        · have hkc : (P[k]'hPk).toNat = 116 := by rw [hPc]; rfl
          have hf : (foldB1 (-3, b)).2 = b := by unfold foldB1; simp
          rw [hf] at hsn hcat
          have h1 : (accF V k).size + (mk (b)).size <= 65535 := by unfold accF; rw [mk_size, mk_size]; omega
          have HSN := Ha (show accF V k ++ mk (b) = accF V (k + 1) by unfold accF; rw [mk_append, hsn])
          clear hsn hcat hf hkd hPc; go_wp2_with fail
          go_roundw
          case rel => exact ⟨k + 1, by omega, by go_num, by rw [<-HSN.out], HB.out⟩
          case measure => simp [intOf]; omega
        · have hkc : (P[k]'hPk).toNat = 111 := by rw [hPc]; rfl
          have hf : (foldB1 (-4, b)).2 = b := by unfold foldB1; simp
          rw [hf] at hsn hcat
          have h1 : (accF V k).size + (mk (b)).size <= 65535 := by unfold accF; rw [mk_size, mk_size]; omega
          have HSN := Ha (show accF V k ++ mk (b) = accF V (k + 1) by unfold accF; rw [mk_append, hsn])
          clear hsn hcat hf hkd hPc; go_wp2_with fail
          go_roundw
          case rel => exact ⟨k + 1, by omega, by go_num, by rw [<-HSN.out], HB.out⟩
          case measure => simp [intOf]; omega
        · have hkc : (P[k]'hPk).toNat = 104 := by rw [hPc]; rfl
          have hf : (foldB1 (16, b)).2 = b := by unfold foldB1; simp
          rw [hf] at hsn hcat
          have h1 : (accF V k).size + (mk (b)).size <= 65535 := by unfold accF; rw [mk_size, mk_size]; omega
          have HSN := Ha (show accF V k ++ mk (b) = accF V (k + 1) by unfold accF; rw [mk_append, hsn])
          clear hsn hcat hf hkd hPc; go_wp2_with fail
          go_roundw
          case rel => exact ⟨k + 1, by omega, by go_num, by rw [<-HSN.out], HB.out⟩
          case measure => simp [intOf]; omega
        · have hkc : (P[k]'hPk).toNat = 52 := by rw [hPc]; rfl
          have hf : (foldB1 (4, b)).2 = b := by unfold foldB1; simp
          rw [hf] at hsn hcat
          have h1 : (accF V k).size + (mk (b)).size <= 65535 := by unfold accF; rw [mk_size, mk_size]; omega
          have HSN := Ha (show accF V k ++ mk (b) = accF V (k + 1) by unfold accF; rw [mk_append, hsn])
          clear hsn hcat hf hkd hPc; go_wp2_with fail
          go_roundw
          case rel => exact ⟨k + 1, by omega, by go_num, by rw [<-HSN.out], HB.out⟩
          case measure => simp [intOf]; omega
        · have hkc : (P[k]'hPk).toNat = 50 := by rw [hPc]; rfl
          have hf : (foldB1 (2, b)).2 = b := by unfold foldB1; simp
          rw [hf] at hsn hcat
          have h1 : (accF V k).size + (mk (b)).size <= 65535 := by unfold accF; rw [mk_size, mk_size]; omega
          have HSN := Ha (show accF V k ++ mk (b) = accF V (k + 1) by unfold accF; rw [mk_append, hsn])
          clear hsn hcat hf hkd hPc; go_wp2_with fail
          go_roundw
          case rel => exact ⟨k + 1, by omega, by go_num, by rw [<-HSN.out], HB.out⟩
          case measure => simp [intOf]; omega
      · obtain rfl : k = n := by omega
        have HT := Ha (show accF V k = mk (cat (V.map foldB1)) by unfold accF; rw [List.take_of_length_le (by have := HLN.out; omega)])
        go_wp2_with fail
        go_ret
        exact ⟨by rw [HF.out, <-HT.out]; rfl, HB2.out.trans (HB.out.mono HB2.out.size)⟩
end Go.Proofs.YtmpginmdaeclaaaGreatDoor
