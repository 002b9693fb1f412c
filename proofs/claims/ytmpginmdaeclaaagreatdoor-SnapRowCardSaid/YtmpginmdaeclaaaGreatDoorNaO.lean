/- Parts of the proofs of the statements of image. No statement of the seat is proved here. -/
import Derived.Test.YtmpginmdaeclaaaGreatDoorNaK
import Derived.Test.YtmpginmdaeclaaaGreatDoorNaE
import Derived.Laws.Cover1
set_option maxHeartbeats 32000000
set_option maxRecDepth 20000
namespace Go.Proofs.YtmpginmdaeclaaaGreatDoor
open Go.RowKit Go.Op
theorem suffix_at {M L : List (List UInt8)} (h : M.length <= L.length) : M <:+ L ↔ ∀ j, j < M.length -> L[L.length - 1 - j]? = M[M.length - 1 - j]? := by
  rw [List.suffix_iff_eq_drop]
  constructor
  · intro e j hj
    conv => rhs; rw [e]
    rw [List.getElem?_drop]
    congr 1
    have : M.length = L.length - (L.length - M.length) := by omega
    rw [List.length_drop]
    omega
  · intro h'
    apply List.ext_getElem?
    intro i
    rw [List.getElem?_drop]
    by_cases hi : i < M.length
    · have := h' (M.length - 1 - i) (by omega)
      rw [show M.length - 1 - (M.length - 1 - i) = i by omega, show L.length - 1 - (M.length - 1 - i) = L.length - M.length + i by omega] at this
      exact this.symm
    · rw [List.getElem?_eq_none (by omega), List.getElem?_eq_none (by omega)]
theorem RefUnder_any (A B : ByteArray) (a b : List UInt8) (w : World) (hA : A = mk a) (hB : B = mk b) :
    Calls Tryz.prog 141 #[.string A, .string B] w fun e w' => e = .returned (.bool (underN a b)) /\ Below w.heap.size w w' := by
  have HA := Ha hA
  have HB := Ha hB
  clear hA hB
  obtain ⟨FA, hFA⟩ : ∃ FA, FA = mk (foldL a) := ⟨_, rfl⟩
  obtain ⟨FB, hFB⟩ : ∃ FB, FB = mk (foldL b) := ⟨_, rfl⟩
  have HFA := Ha hFA
  have HFB := Ha hFB
  clear hFA hFB
  cases h : nameL a with
  | none =>
    have e0 : underN a b = false := by unfold underN; rw [h]
    have e1 : nameL (foldL a) = none := by rw [nameL_fold, h]; rfl
    rw [e0]
    have HN := Ha e1
    clear e0 e1 h; go_enter Tryz.func141, Tryz.ntmps141
    go_wp2_with fail
    refine (RefFold_any A a _ HA.out).mono ?_
    rw [<-HFA.out]
    rintro e w1 ⟨rfl, hB1⟩; go_wp2_with fail
    refine (RefLabels_no FA (foldL a) _ HFA.out HN.out).mono ?_
    rintro e w2 ⟨va, rfl, hB2⟩; have GB2 := hB1.trans (hB2.mono hB1.size)
    go_wp2_with fail
    refine (RefFold_any B b _ HB.out).mono ?_
    rw [<-HFB.out]
    rintro e w3 ⟨rfl, hB3⟩; have GB3 := GB2.trans (hB3.mono GB2.size)
    go_wp2_with fail
    refine (RefLabels_any FB (foldL b) _ HFB.out).mono ?_
    rintro e w4 ⟨vb, out, ok, rfl, _, _, hB4⟩; go_wp2_with fail
    go_ret
    exact ⟨rfl, GB3.trans (hB4.mono GB3.size)⟩
  | some L =>
    have HN := Ha (foldL_some h).2.2
    cases k : nameL b with
    | none =>
      have e0 : underN a b = false := by unfold underN; rw [h, k]
      have e1 : nameL (foldL b) = none := by rw [nameL_fold, k]; rfl
      rw [e0]
      have HM := Ha e1
      clear e0 e1 h k; go_enter Tryz.func141, Tryz.ntmps141
      go_wp2_with fail
      refine (RefFold_any A a _ HA.out).mono ?_
      rw [<-HFA.out]
      rintro e w1 ⟨rfl, hB1⟩; go_wp2_with fail
      refine (RefLabels_yes FA (foldL a) _ _ HFA.out HN.out).mono ?_
      rintro e w2 ⟨va, rfl, _, hB2⟩; have GB2 := hB1.trans (hB2.mono hB1.size)
      go_wp2_with fail
      refine (RefFold_any B b _ HB.out).mono ?_
      rw [<-HFB.out]
      rintro e w3 ⟨rfl, hB3⟩; have GB3 := GB2.trans (hB3.mono GB2.size)
      go_wp2_with fail
      refine (RefLabels_no FB (foldL b) _ HFB.out HM.out).mono ?_
      rintro e w4 ⟨vb, rfl, hB4⟩; go_wp2_with fail
      go_ret
      exact ⟨rfl, GB3.trans (hB4.mono GB3.size)⟩
    | some M =>
      have HM := Ha (foldL_some k).2.2
      have e0 : underN a b = decide ((M.map lowS) <:+ (L.map lowS)) := by unfold underN; rw [h, k]
      rw [e0]
      have hLn : (L.map lowS).length <= 255 := by rw [List.length_map]; exact name_few h
      have hMn : (M.map lowS).length <= 255 := by rw [List.length_map]; exact name_few k
      generalize L.map lowS = X at *
      generalize M.map lowS = Y at *
      obtain ⟨n, hn⟩ : ∃ n, n = X.length := ⟨_, rfl⟩
      obtain ⟨m, hm⟩ : ∃ m, m = Y.length := ⟨_, rfl⟩
      rw [<-hn] at hLn
      rw [<-hm] at hMn
      have HX := Ha hn
      have HY := Ha hm
      clear e0 h k hn hm; go_enter Tryz.func141, Tryz.ntmps141
      go_wp2_with fail
      refine (RefFold_any A a _ HA.out).mono ?_
      rw [<-HFA.out]
      rintro e w1 ⟨rfl, hB1⟩; go_wp2_with fail
      refine (RefLabels_yes FA (foldL a) X _ HFA.out HN.out).mono ?_
      rintro e w2 ⟨va, rfl, oa, hB2⟩; obtain ⟨A1, c1, rfl, sa⟩ := Sees.own oa
      rw [<-HX.out] at sa ⊢
      have GB2 := hB1.trans (hB2.mono hB1.size)
      go_wp2_with fail
      refine (RefFold_any B b _ HB.out).mono ?_
      rw [<-HFB.out]
      rintro e w3 ⟨rfl, hB3⟩; have sa3 := (sa.below hB3).more hB3.size
      have GB3 := GB2.trans (hB3.mono GB2.size)
      clear oa sa hB1 hB2 hB3 GB2; go_wp2_with fail
      refine (RefLabels_yes FB (foldL b) Y _ HFB.out HM.out).mono ?_
      rintro e w4 ⟨vb, rfl, ob, hB4⟩; obtain ⟨A2, c2, rfl, sb⟩ := Sees.own ob
      rw [<-HY.out] at sb ⊢
      have sa4 := sa3.below hB4
      have GB4 := GB3.trans (hB4.mono GB3.size)
      clear ob sa3 hB4 GB3
      by_cases hnm : n < m
      · have e0 : decide (Y <:+ X) = false := by
          simp only [decide_eq_false_iff_not]
          intro e
          have := e.length_le
          have h1 := HX.out
          have h2 := HY.out
          omega
        have HE := Ha e0
        have g : (n : Int) < (m : Int) := by omega
        clear e0 sa4 sb; go_wp2_with fail
        go_ret
        exact ⟨ret_bool HE.out.symm, GB4⟩
      · have g : ¬ (n : Int) < (m : Int) := by omega
        have HSU := Ha (suffix_at (M := Y) (L := X) (by rw [<-HX.out, <-HY.out]; omega))
        go_wp2_with fail
        go_loopw [9] (fun i wr => ∃ k : Nat, k <= m /\ i = .int .i64 k /\ (∀ j, j < k -> X[n - 1 - j]? = Y[m - 1 - j]?) /\ ∃ q, wr = w4.drewN q) (fun i _ => m - (intOf i).toNat)
        case atStart => exact ⟨0, Nat.zero_le _, rfl, fun j hj => by omega, 0, rfl⟩
        case round =>
          obtain ⟨k, hk, rfl, hr, q, rfl⟩ := hrel
          have HR := Ha hr
          clear hr
          by_cases hlt : k < m
          · obtain ⟨p, hp⟩ : ∃ p, p = n - 1 - k := ⟨_, rfl⟩
            obtain ⟨r, hr⟩ : ∃ r, r = m - 1 - k := ⟨_, rfl⟩
            have hpn : p < n := by omega
            have hrm : r < m := by omega
            have e1 : (n : Int) - 1 - (k : Int) = (p : Int) := by omega
            have e2 : (m : Int) - 1 - (k : Int) = (r : Int) := by omega
            have hpX : p < X.length := by rw [<-HX.out]; exact hpn
            have hrY : r < Y.length := by rw [<-HY.out]; exact hrm
            obtain ⟨b1, off1, rfl, _, hc1⟩ := textL_at sa4 hpn hpX
            obtain ⟨b2, off2, rfl, _, hc2⟩ := textL_at sb hrm hrY
            obtain ⟨P, hP⟩ : ∃ P, P = mk X[p] := ⟨_, rfl⟩
            obtain ⟨Q, hQ⟩ : ∃ Q, Q = mk Y[r] := ⟨_, rfl⟩
            have heq : (P.toList == Q.toList) = (X[p] == Y[r]) := by rw [hP, hQ, mk_beq]
            rw [<-hP] at hc1
            rw [<-hQ] at hc2
            have HP := Ha hp
            have HRR := Ha hr
            clear hP hQ hp hr
            by_cases hxy : X[p] = Y[r]
            · have hq : (P.toList == Q.toList) = true := by rw [heq]; simpa using hxy
              have HXY := Ha hxy
              clear heq hxy; go_wp2_with fail
              go_quiet (fail)
              go_wp2_with fail
              go_roundw
              case rel =>
                refine ⟨k + 1, by omega, by go_num, fun j hj => ?_, _, rfl⟩
                by_cases hjk : j < k
                · exact HR.out j hjk
                · obtain rfl : j = k := by omega
                  rw [<-HP.out, <-HRR.out, List.getElem?_eq_getElem hpX, List.getElem?_eq_getElem hrY, HXY.out]
              case measure => simp [intOf]; omega
            · have hq : (P.toList == Q.toList) = false := by rw [heq, beq_eq_false_iff_ne]; exact hxy
              have e0 : decide (Y <:+ X) = false := by
                simp only [decide_eq_false_iff_not]
                intro e
                have := HSU.out.1 e k (by rw [<-HY.out]; exact hlt)
                rw [<-HX.out, <-HY.out, <-HP.out, <-HRR.out, List.getElem?_eq_getElem hpX, List.getElem?_eq_getElem hrY] at this
                injection this with this
                exact hxy this
              have HE := Ha e0
              clear heq hxy e0; go_wp2_with fail
              go_quiet (fail)
              go_wp2_with fail
              go_ret
              exact ⟨ret_bool HE.out.symm, below_drewN (below_drewN GB4 _) _⟩
          · obtain rfl : k = m := by omega
            have e0 : decide (Y <:+ X) = true := by
              simp only [decide_eq_true_eq]
              refine HSU.out.2 fun j hj => ?_
              rw [<-HX.out, <-HY.out]
              exact HR.out j (by rw [HY.out]; exact hj)
            have HE := Ha e0
            clear e0; go_wp2_with fail
            go_ret
            exact ⟨ret_bool HE.out.symm, below_drewN GB4 _⟩
end Go.Proofs.YtmpginmdaeclaaaGreatDoor
namespace Go.Proofs.YtmpginmdaeclaaaGreatDoor
open Go.RowKit Go.Op
theorem cmp_end {X Y : List (List UInt8)} {k : Nat} (h1 : k <= X.length) (h2 : k <= Y.length) (h : k = X.length \/ k = Y.length) :
    cmpL (X.drop k) (Y.drop k) = if X.length < Y.length then -1 else if Y.length < X.length then 1 else 0 := by
  by_cases a1 : X.length < Y.length
  · rw [if_pos a1, List.drop_of_length_le (by omega), List.drop_eq_getElem_cons (show k < Y.length by omega)]; rfl
  · rw [if_neg a1]
    by_cases a2 : Y.length < X.length
    · have e : Y.drop k = [] := List.drop_of_length_le (by omega)
      rw [if_pos a2, e, List.drop_eq_getElem_cons (show k < X.length by omega)]; rfl
    · have e1 : X.drop k = [] := List.drop_of_length_le (by omega)
      have e2 : Y.drop k = [] := List.drop_of_length_le (by omega)
      rw [if_neg a2, e1, e2]; rfl
theorem RefCompare_any (A B : ByteArray) (a b : List UInt8) (w : World) (hA : A = mk a) (hB : B = mk b) :
    Calls Tryz.prog 231 #[.string A, .string B] w fun e w' => e = .returned (.int .i64 (cmpN a b)) /\ Below w.heap.size w w' := by
  have HA := Ha hA
  have HB := Ha hB
  clear hA hB
  obtain ⟨FA, hFA⟩ : ∃ FA, FA = mk (foldL a) := ⟨_, rfl⟩
  obtain ⟨FB, hFB⟩ : ∃ FB, FB = mk (foldL b) := ⟨_, rfl⟩
  have HFA := Ha hFA
  have HFB := Ha hFB
  clear hFA hFB
  cases h : nameL a with
  | none =>
    have e0 : cmpN a b = 0 := by unfold cmpN; rw [h]
    have e1 : nameL (foldL a) = none := by rw [nameL_fold, h]; rfl
    rw [e0]
    have HN := Ha e1
    clear e0 e1 h; go_enter Tryz.func231, Tryz.ntmps231
    go_wp2_with fail
    refine (RefFold_any A a _ HA.out).mono ?_
    rw [<-HFA.out]
    rintro e w1 ⟨rfl, hB1⟩; go_wp2_with fail
    refine (RefLabels_no FA (foldL a) _ HFA.out HN.out).mono ?_
    rintro e w2 ⟨va, rfl, hB2⟩; have GB2 := hB1.trans (hB2.mono hB1.size)
    go_wp2_with fail
    refine (RefFold_any B b _ HB.out).mono ?_
    rw [<-HFB.out]
    rintro e w3 ⟨rfl, hB3⟩; have GB3 := GB2.trans (hB3.mono GB2.size)
    go_wp2_with fail
    refine (RefLabels_any FB (foldL b) _ HFB.out).mono ?_
    rintro e w4 ⟨vb, out, ok, rfl, _, _, hB4⟩; go_wp2_with fail
    go_ret
    exact ⟨rfl, GB3.trans (hB4.mono GB3.size)⟩
  | some L =>
    have HN := Ha (foldL_some h).2.2
    cases k : nameL b with
    | none =>
      have e0 : cmpN a b = 0 := by unfold cmpN; rw [h, k]
      have e1 : nameL (foldL b) = none := by rw [nameL_fold, k]; rfl
      rw [e0]
      have HM := Ha e1
      clear e0 e1 h k; go_enter Tryz.func231, Tryz.ntmps231
      go_wp2_with fail
      refine (RefFold_any A a _ HA.out).mono ?_
      rw [<-HFA.out]
      rintro e w1 ⟨rfl, hB1⟩; go_wp2_with fail
      refine (RefLabels_yes FA (foldL a) _ _ HFA.out HN.out).mono ?_
      rintro e w2 ⟨va, rfl, _, hB2⟩; have GB2 := hB1.trans (hB2.mono hB1.size)
      go_wp2_with fail
      refine (RefFold_any B b _ HB.out).mono ?_
      rw [<-HFB.out]
      rintro e w3 ⟨rfl, hB3⟩; have GB3 := GB2.trans (hB3.mono GB2.size)
      go_wp2_with fail
      refine (RefLabels_no FB (foldL b) _ HFB.out HM.out).mono ?_
      rintro e w4 ⟨vb, rfl, hB4⟩; go_wp2_with fail
      go_ret
      exact ⟨rfl, GB3.trans (hB4.mono GB3.size)⟩
    | some M =>
      have HM := Ha (foldL_some k).2.2
      have e0 : cmpN a b = cmpL (L.map lowS).reverse (M.map lowS).reverse := by unfold cmpN; rw [h, k]
      rw [e0]
      have hLn : (L.map lowS).length <= 255 := by rw [List.length_map]; exact name_few h
      have hMn : (M.map lowS).length <= 255 := by rw [List.length_map]; exact name_few k
      generalize L.map lowS = X at *
      generalize M.map lowS = Y at *
      obtain ⟨n, hn⟩ : ∃ n, n = X.length := ⟨_, rfl⟩
      obtain ⟨m, hm⟩ : ∃ m, m = Y.length := ⟨_, rfl⟩
      rw [<-hn] at hLn
      rw [<-hm] at hMn
      have HX := Ha hn
      have HY := Ha hm
      obtain ⟨C, hC⟩ : ∃ C, C = cmpL X.reverse Y.reverse := ⟨_, rfl⟩
      rw [<-hC]
      have HC := Ha hC
      clear hC; clear e0 h k hn hm; go_enter Tryz.func231, Tryz.ntmps231
      go_wp2_with fail
      refine (RefFold_any A a _ HA.out).mono ?_
      rw [<-HFA.out]
      rintro e w1 ⟨rfl, hB1⟩; go_wp2_with fail
      refine (RefLabels_yes FA (foldL a) X _ HFA.out HN.out).mono ?_
      rintro e w2 ⟨va, rfl, oa, hB2⟩; obtain ⟨A1, c1, rfl, sa⟩ := Sees.own oa
      rw [<-HX.out] at sa ⊢
      have GB2 := hB1.trans (hB2.mono hB1.size)
      go_wp2_with fail
      refine (RefFold_any B b _ HB.out).mono ?_
      rw [<-HFB.out]
      rintro e w3 ⟨rfl, hB3⟩; have sa3 := (sa.below hB3).more hB3.size
      have GB3 := GB2.trans (hB3.mono GB2.size)
      clear oa sa hB1 hB2 hB3 GB2; go_wp2_with fail
      refine (RefLabels_yes FB (foldL b) Y _ HFB.out HM.out).mono ?_
      rintro e w4 ⟨vb, rfl, ob, hB4⟩; obtain ⟨A2, c2, rfl, sb⟩ := Sees.own ob
      rw [<-HY.out] at sb ⊢
      have sa4 := sa3.below hB4
      have GB4 := GB3.trans (hB4.mono GB3.size)
      clear ob sa3 hB4 GB3; go_wp2_with fail
      go_loopw [9] (fun i wr => ∃ j : Nat, 1 <= j /\ j <= n + 1 /\ j <= m + 1 /\ i = .int .i64 j /\ C = cmpL (X.reverse.drop (j - 1)) (Y.reverse.drop (j - 1)) /\ ∃ q, wr = w4.drewN q) (fun i _ => n + 1 - (intOf i).toNat)
      case atStart => exact ⟨1, Nat.le_refl _, by omega, by omega, rfl, HC.out, 0, rfl⟩
      case round =>
        obtain ⟨j, hj0, hjn, hjm, rfl, hr, q, rfl⟩ := hrel
        have HR := Ha hr
        clear hr
        by_cases hlt : j <= n
        · have g1 : (j : Int) <= (n : Int) := by omega
          by_cases hlt' : j <= m
          · have g2 : (j : Int) <= (m : Int) := by omega
            obtain ⟨p, hp⟩ : ∃ p, p = n - j := ⟨_, rfl⟩
            obtain ⟨r, hr⟩ : ∃ r, r = m - j := ⟨_, rfl⟩
            have hpn : p < n := by omega
            have hrm : r < m := by omega
            have e1 : (n : Int) - (j : Int) = (p : Int) := by omega
            have e2 : (m : Int) - (j : Int) = (r : Int) := by omega
            have hpX : p < X.length := by rw [<-HX.out]; exact hpn
            have hrY : r < Y.length := by rw [<-HY.out]; exact hrm
            obtain ⟨b1, off1, rfl, _, hc1⟩ := textL_at sa4 hpn hpX
            obtain ⟨b2, off2, rfl, _, hc2⟩ := textL_at sb hrm hrY
            have h1 : j - 1 < X.reverse.length := by rw [List.length_reverse, <-HX.out]; omega
            have h2 : j - 1 < Y.reverse.length := by rw [List.length_reverse, <-HY.out]; omega
            have hx : X.reverse[j - 1] = X[p] := by
              rw [List.getElem_reverse]; congr 1; have := HX.out; omega
            have hy : Y.reverse[j - 1] = Y[r] := by
              rw [List.getElem_reverse]; congr 1; have := HY.out; omega
            have hstep := cmpL_at h1 h2
            rw [hx, hy, show j - 1 + 1 = j by omega] at hstep
            obtain ⟨P, hP⟩ : ∃ P, P = mk X[p] := ⟨_, rfl⟩
            obtain ⟨Q, hQ⟩ : ∃ Q, Q = mk Y[r] := ⟨_, rfl⟩
            have hle : bytesLess P.toList Q.toList = bytesLess X[p] Y[r] := by rw [hP, hQ, mk_tl, mk_tl]
            have heq : (P.toList == Q.toList) = (X[p] == Y[r]) := by rw [hP, hQ, mk_beq]
            rw [<-hP] at hc1
            rw [<-hQ] at hc2
            have HS := Ha hstep
            clear hP hQ hp hr hx hy h1 h2 hstep
            cases hl : bytesLess X[p] Y[r]
            · rw [hl] at hle
              by_cases hxy : X[p] = Y[r]
              · have hq : (P.toList == Q.toList) = true := by rw [heq]; simpa using hxy
                have hz : cmpB X[p] Y[r] = 0 := by unfold cmpB; rw [hl, hxy, less_irrefl]; rfl
                have HZ := Ha hz
                clear heq hxy hl hz; go_wp2_with fail
                go_quiet (fail)
                go_wp2_with fail
                go_roundw
                case rel => exact ⟨j + 1, by omega, by omega, by omega, by go_num, by rw [HR.out, HS.out, if_pos HZ.out]; rfl, _, rfl⟩
                case measure => simp [intOf]; omega
              · have hq : (P.toList == Q.toList) = false := by rw [heq, beq_eq_false_iff_ne]; exact hxy
                have h3 : bytesLess Y[r] X[p] = true := by
                  cases h3 : bytesLess Y[r] X[p]
                  · exact absurd (less_total _ _ hl h3) hxy
                  · rfl
                have hz : cmpB X[p] Y[r] = 1 := by unfold cmpB; rw [hl, h3]; rfl
                have e0 : C = 1 := by rw [HR.out, HS.out, hz]; rfl
                have HE := Ha e0
                clear heq hxy hl hz h3 e0; go_wp2_with fail
                go_quiet (fail)
                go_wp2_with fail
                go_ret
                exact ⟨ret_int HE.out.symm, below_drewN GB4 _⟩
            · rw [hl] at hle
              have hz : cmpB X[p] Y[r] = -1 := by unfold cmpB; rw [hl]; rfl
              have e0 : C = -1 := by rw [HR.out, HS.out, hz]; rfl
              have HE := Ha e0
              clear heq hl hz e0; go_wp2_with fail
              go_quiet (fail)
              go_wp2_with fail
              go_ret
              exact ⟨ret_int HE.out.symm, below_drewN GB4 _⟩
          · have hend := cmp_end (X := X.reverse) (Y := Y.reverse) (k := j - 1) (by rw [List.length_reverse, <-HX.out]; omega) (by rw [List.length_reverse, <-HY.out]; omega) (.inr (by rw [List.length_reverse, <-HY.out]; omega))
            rw [List.length_reverse, List.length_reverse, <-HX.out, <-HY.out, if_neg (by omega)] at hend
            have g2 : ¬ (j : Int) <= (m : Int) := by omega
            have g3 : ¬ (n : Int) < (m : Int) := by omega
            have g4 : (m : Int) < (n : Int) := by omega
            have e0 : C = 1 := by rw [HR.out, hend, if_pos (by omega)]
            have HE := Ha e0
            clear hend e0; go_wp2_with fail
            go_ret
            exact ⟨ret_int HE.out.symm, below_drewN GB4 _⟩
        · have hend := cmp_end (X := X.reverse) (Y := Y.reverse) (k := j - 1) (by rw [List.length_reverse, <-HX.out]; omega) (by rw [List.length_reverse, <-HY.out]; omega) (.inl (by rw [List.length_reverse, <-HX.out]; omega))
          rw [List.length_reverse, List.length_reverse, <-HX.out, <-HY.out] at hend
          have g1 : ¬ (j : Int) <= (n : Int) := by omega
          by_cases hnm : n < m
          · have g3 : (n : Int) < (m : Int) := by omega
            have e0 : C = -1 := by rw [HR.out, hend, if_pos hnm]
            have HE := Ha e0
            clear hend e0; go_wp2_with fail
            go_ret
            exact ⟨ret_int HE.out.symm, below_drewN GB4 _⟩
          · have g3 : ¬ (n : Int) < (m : Int) := by omega
            have g4 : ¬ (m : Int) < (n : Int) := by omega
            have e0 : C = 0 := by rw [HR.out, hend, if_neg hnm, if_neg (by omega)]
            have HE := Ha e0
            clear hend e0; go_wp2_with fail
            go_ret
            exact ⟨ret_int HE.out.symm, below_drewN GB4 _⟩
end Go.Proofs.YtmpginmdaeclaaaGreatDoor
