/- Parts of the proofs of the statements of image. No statement of the seat is proved here. -/
import Derived.Test.YtmpginmdaeclaaaGreatDoorNaA
import Derived.Test.YtmpginmdaeclaaaGreatDoorPaA
import Derived.Laws.Cover1
set_option maxHeartbeats 32000000
set_option maxRecDepth 20000
namespace Go.Proofs.YtmpginmdaeclaaaGreatDoor
open Go.RowKit Go.Op
theorem mk_tl (a : List UInt8) : (mk a).toList = a := by rw [ByteArray.toList_eq]; simp [mk]
theorem textL_len {w : World} {B : Nat} {A : Option Addr} {n : Nat} {L : List (List UInt8)} (h : Sees w B A n (textL L)) : L.length = n := by
  have := h.len
  simpa [textL, texts] using this
theorem isNaN_any (S : ByteArray) (w : World) : Calls Tryz.prog 249 #[.string S] w fun e w' => e = .returned (.bool false) /\ w = w' := by
  have h : (S.toList == S.toList) = true := by simp
  go_enter Tryz.func249, Tryz.ntmps249
  go_wp2_with fail
  go_ret
  exact ⟨rfl, rfl⟩
def cmpB (a b : List UInt8) : Int := if bytesLess a b then -1 else if bytesLess b a then 1 else 0
theorem cmpStr_any (A B : ByteArray) (a b : List UInt8) (w : World) (hA : A = mk a) (hB : B = mk b) :
    Calls Tryz.prog 258 #[.string A, .string B] w fun e w' => e = .returned (.int .i64 (cmpB a b)) /\ w = w' := by
  have hl : bytesLess A.toList B.toList = bytesLess a b := by rw [hA, hB, mk_tl, mk_tl]
  have he : (A.toList == B.toList) = (a == b) := by rw [hA, hB, mk_beq]
  clear hA hB
  cases h1 : bytesLess a b
  · rw [h1] at hl
    by_cases h2 : a = b
    · have e : cmpB a b = 0 := by unfold cmpB; rw [h1, h2, less_irrefl]; rfl
      rw [e]
      have he' : (A.toList == B.toList) = true := by rw [he, h2]; simp
      clear e he h1 h2; go_enter Tryz.func258, Tryz.ntmps258
      go_wp2_with (go_at_call 249; refine (isNaN_any _ _).mono ?_; rintro e w' ⟨rfl, rfl⟩); go_ret
      exact ⟨rfl, rfl⟩
    · have h3 : bytesLess b a = true := by
        cases h3 : bytesLess b a
        · exact absurd (less_total a b h1 h3) h2
        · rfl
      have e : cmpB a b = 1 := by unfold cmpB; rw [h1, h3]; rfl
      rw [e]
      have he' : (A.toList == B.toList) = false := by rw [he, beq_eq_false_iff_ne]; exact h2
      clear e he h1 h2 h3; go_enter Tryz.func258, Tryz.ntmps258
      go_wp2_with (go_at_call 249; refine (isNaN_any _ _).mono ?_; rintro e w' ⟨rfl, rfl⟩); go_ret
      exact ⟨rfl, rfl⟩
  · rw [h1] at hl
    have e : cmpB a b = -1 := by unfold cmpB; rw [h1]; rfl
    rw [e]
    clear e he h1; go_enter Tryz.func258, Tryz.ntmps258
    go_wp2_with (go_at_call 249; refine (isNaN_any _ _).mono ?_; rintro e w' ⟨rfl, rfl⟩); go_ret
    exact ⟨rfl, rfl⟩
theorem cmpL_at {X Y : List (List UInt8)} {k : Nat} (h1 : k < X.length) (h2 : k < Y.length) : cmpL (X.drop k) (Y.drop k) = if cmpB X[k] Y[k] = 0 then cmpL (X.drop (k + 1)) (Y.drop (k + 1)) else cmpB X[k] Y[k] := by
  rw [List.drop_eq_getElem_cons h1, List.drop_eq_getElem_cons h2, cmpL]
  unfold cmpB
  split
  · simp
  · split <;> simp
theorem CompareL_any (A A' : Option Addr) (n n' c c' B B' : Nat) (X Y : List (List UInt8)) (w : World) (h : Sees w B A n (textL X)) (h' : Sees w B' A' n' (textL Y)) (hn : n <= 1000000) :
    Calls Tryz.prog 223 #[.slice A n c, .slice A' n' c'] w fun e w' => e = .returned (.int .i64 (cmpL X Y)) /\ w = w' := by
  have HL := Ha (textL_len h)
  have HL' := Ha (textL_len h')
  go_enter Tryz.func223, Tryz.ntmps223
  go_wp2_with fail
  go_loop [11] (fun i => ∃ k : Nat, k <= n /\ k <= n' /\ i = .int .i64 k /\ cmpL X Y = cmpL (X.drop k) (Y.drop k)) (fun i => n - (intOf i).toNat)
  case atStart => exact ⟨0, Nat.zero_le _, Nat.zero_le _, rfl, rfl⟩
  case round =>
    obtain ⟨k, hk, hk', rfl, hr⟩ := hrel
    have HR := Ha hr
    clear hr
    by_cases hlt : k < n
    · have hx : k < X.length := by have := HL.out; omega
      obtain ⟨b, off, rfl, _, hc⟩ := textL_at h hlt hx
      by_cases hlt' : k < n'
      · have hy : k < Y.length := by have := HL'.out; omega
        obtain ⟨b', off', rfl, _, hc'⟩ := textL_at h' hlt' hy
        have hstep := cmpL_at hx hy
        obtain ⟨P, hP⟩ : ∃ P, P = mk X[k] := ⟨_, rfl⟩
        obtain ⟨Q, hQ⟩ : ∃ Q, Q = mk Y[k] := ⟨_, rfl⟩
        rw [<-hP] at hc
        rw [<-hQ] at hc'
        have HP := Ha hP
        have HQ := Ha hQ
        have HS := Ha hstep
        clear hP hQ hstep
        by_cases hz : cmpB X[k] Y[k] = 0
        · have g1 : ¬ (n' : Int) <= (k : Int) := by omega
          have HZ := Ha hz
          clear hz; go_wp2_with (go_at_call 258; refine (cmpStr_any P Q _ _ _ HP.out HQ.out).mono ?_; rw [HZ.out]; rintro e w' ⟨rfl, rfl⟩); go_round
          case rel => exact ⟨k + 1, by omega, by omega, by go_num, by rw [HR.out, HS.out, if_pos HZ.out]⟩
          case measure => simp [intOf]; omega
        · have g1 : ¬ (n' : Int) <= (k : Int) := by omega
          obtain ⟨z, hzz⟩ : ∃ z, z = cmpB X[k] Y[k] := ⟨_, rfl⟩
          have g2 : (z == 0) = false := by rw [hzz, beq_eq_false_iff_ne]; exact hz
          have HZZ := Ha hzz
          have HZ := Ha hz
          clear hz hzz; go_wp2_with (go_at_call 258; refine (cmpStr_any P Q _ _ _ HP.out HQ.out).mono ?_; rw [<-HZZ.out]; rintro e w' ⟨rfl, rfl⟩); go_ret
          exact ⟨ret_int (by rw [HR.out, HS.out, if_neg HZ.out, HZZ.out]), rfl⟩
      · have g1 : (n' : Int) <= (k : Int) := by omega
        go_wp2_with fail
        go_ret
        refine ⟨ret_int ?_, rfl⟩
        have e0 : Y.drop k = [] := List.drop_of_length_le (by have := HL'.out; omega)
        rw [HR.out, List.drop_eq_getElem_cons hx, e0]
        rfl
    · obtain rfl : k = n := by omega
      have hend := HR.out
      rw [List.drop_of_length_le (by have := HL.out; omega)] at hend
      by_cases hlt' : k < n'
      · have e : cmpL X Y = -1 := by
          rw [hend, List.drop_eq_getElem_cons (by have := HL'.out; omega)]; rfl
        have HE := Ha e
        clear e hend; have g2 : (k : Int) < (n' : Int) := by omega
        go_wp2_with fail
        go_ret
        exact ⟨ret_int HE.out.symm, rfl⟩
      · have e : cmpL X Y = 0 := by
          rw [hend, List.drop_of_length_le (by have := HL'.out; omega)]; rfl
        have HE := Ha e
        clear e hend; have g2 : ¬ (k : Int) < (n' : Int) := by omega
        go_wp2_with fail
        go_ret
        exact ⟨ret_int HE.out.symm, rfl⟩
def RevAt (L Z : List (List UInt8)) (p : Nat) : Prop := Z.length = L.length /\ ∀ k, k < L.length -> Z[k]? = if k < p \/ L.length <= k + p then L[L.length - 1 - k]? else L[k]?
theorem RevAt.start (L : List (List UInt8)) : RevAt L L 0 := ⟨rfl, fun k hk => by rw [if_neg (by omega)]⟩
theorem RevAt.here {L Z : List (List UInt8)} {p : Nat} (h : RevAt L Z p) {k : Nat} (hk : k < L.length) (hz : k < Z.length) (hm : ¬ (k < p \/ L.length <= k + p)) : Z[k] = L[k] := by
  have := h.2 k hk
  rw [if_neg hm, List.getElem?_eq_getElem hz, List.getElem?_eq_getElem hk] at this
  injection this
theorem RevAt.step {L Z : List (List UInt8)} {p q : Nat} (h : RevAt L Z p) (hq : p + q + 1 = L.length) (hpq : p < q) (h1 : p < L.length) (h2 : q < L.length) : RevAt L ((Z.set p L[q]).set q L[p]) (p + 1) := by
  refine ⟨by simp [h.1], fun k hk => ?_⟩
  have hz : k < Z.length := by rw [h.1]; exact hk
  rw [List.getElem?_set, List.getElem?_set, List.length_set, h.1]
  by_cases e1 : q = k
  · subst e1
    rw [if_pos rfl, if_pos h2, if_pos (by omega), show L.length - 1 - q = p by omega, List.getElem?_eq_getElem h1]
  · by_cases e2 : p = k
    · subst e2
      rw [if_neg e1, if_pos rfl, if_pos h1, if_pos (by omega), show L.length - 1 - p = q by omega, List.getElem?_eq_getElem h2]
    · rw [if_neg e1, if_neg e2, h.2 k hk]
      by_cases e3 : k < p \/ L.length <= k + p
      · rw [if_pos e3, if_pos (by omega)]
      · rw [if_neg e3, if_neg (by omega)]
theorem RevAt.ends {L Z : List (List UInt8)} {p : Nat} (h : RevAt L Z p) (hp : L.length <= p + p + 1) : Z = L.reverse := by
  apply List.ext_getElem?
  intro k
  by_cases hk : k < L.length
  · rw [h.2 k hk, List.getElem?_reverse hk]
    split
    · rfl
    · rw [show L.length - 1 - k = k by omega]
  · rw [List.getElem?_eq_none (by rw [h.1]; omega), List.getElem?_eq_none (by simp; omega)]
theorem textL_set (Z : List (List UInt8)) (k : Nat) (x : List UInt8) : (textL Z).set k (.string (mk x)) = textL (Z.set k x) := by simp [textL, texts, List.map_set]
theorem textL_length (Z : List (List UInt8)) : (textL Z).length = Z.length := by simp [textL, texts]
theorem grown_trans {a b c : World} {r : Option Nat} (h : a.grownBy b r) (k : b.grownBy c r) : a.grownBy c r :=
  ⟨k.os.trans h.os, k.tape.trans h.tape, k.output.trans h.output, Nat.le_trans h.size k.size, fun i hi hne => (k.block i (Nat.lt_of_lt_of_le hi h.size) hne).trans (h.block i hi hne)⟩
theorem grown_drew {a b : World} {r : Option Nat} (h : a.grownBy b r) : a.grownBy b.drew r := ⟨h.os, h.tape, h.output, h.size, h.block⟩
theorem Reverse_own (v : Value) (n base : Nat) (L : List (List UInt8)) (w : World) (hown : w.ownsRow base 9 1 v n (textL L)) (hn : n <= 1000000) :
    Calls Tryz.prog 222 #[v] w fun e w' => e = .returned (.tuple #[]) /\ w'.ownsRow base 9 1 v n (textL L.reverse) /\ w.grownBy w' v.ownBlock := by
  have hl : L.length = n := by have := hown.1; simpa [textL_length] using this
  have HO : ∃ Z, w.ownsRow base 9 1 v n (textL Z) /\ RevAt L Z 0 /\ w.grownBy w v.ownBlock := ⟨L, hown, RevAt.start L, World.grownBy.refl _ _⟩
  obtain ⟨A, c, hv⟩ : ∃ A c, v = .slice A n c := by
    rcases hown.2 with ⟨rfl, rfl⟩ | ⟨g, cap, cur, rfl, _⟩
    · exact ⟨none, 0, rfl⟩
    · exact ⟨_, cap, rfl⟩
  have HL := Ha hl
  have HO' := Ha HO
  subst hv
  clear hl hown HO
  go_enter Tryz.func222, Tryz.ntmps222
  go_wp2_with fail
  go_loopw [2, 3] (fun i j wr => ∃ p : Nat, i = .int .i64 p /\ j = .int .i64 ((n : Int) - 1 - p) /\ 2 * p <= n + 1 /\ ∃ Z, wr.ownsRow base 9 1 (.slice A n c) n (textL Z) /\ RevAt L Z p /\ w.grownBy wr (Value.slice A n c).ownBlock) (fun i _ _ => n - (intOf i).toNat)
  case atStart => exact ⟨0, rfl, by simp, by omega, HO'.out⟩
  case round =>
    obtain ⟨p, rfl, rfl, hp, Z, hown, hrev, hgr⟩ := hrel
    by_cases hlt : (p : Int) < (n : Int) - 1 - p
    · obtain ⟨q, hq⟩ : ∃ q : Nat, (n : Int) - 1 - p = q := ⟨n - 1 - p, by omega⟩
      have hpq : p < q := by omega
      have hpn : p < n := by omega
      have hqn : q < n := by omega
      have h1 : p < L.length := by have := HL.out; omega
      have h2 : q < L.length := by have := HL.out; omega
      have hz1 : p < Z.length := by rw [hrev.1]; exact h1
      have hz2 : q < Z.length := by rw [hrev.1]; exact h2
      have e1 : Z[p] = L[p] := hrev.here h1 hz1 (by have := HL.out; omega)
      have e2 : Z[q] = L[q] := hrev.here h2 hz2 (by have := HL.out; omega)
      obtain ⟨g, cap, hA⟩ : ∃ g cap, Value.slice A n c = .slice (some ⟨g, 0, none⟩) n cap := by
        rcases hown.2 with ⟨h, h0⟩ | ⟨g, cap, cur, h, _⟩
        · omega
        · exact ⟨g, cap, h⟩
      injection hA with hA _ hc
      subst hA; subst hc; have c1 : wr.cell? ⟨g, p, none⟩ = some (.string (mk L[p])) := by
        rw [hown.cellAt p (by omega), <-e1]; simp [textL, texts, hz1]
      have c2 : wr.cell? ⟨g, q, none⟩ = some (.string (mk L[q])) := by
        rw [hown.cellAt q (by omega), <-e2]; simp [textL, texts, hz2]
      have f1 := hown.frozenAt p
      have f2 := hown.frozenAt q
      obtain ⟨o1, g1⟩ := hown.stored p (.string (mk L[q]))
      obtain ⟨o2, g2⟩ := o1.stored q (.string (mk L[p]))
      rw [textL_set, textL_set] at o2
      have HO2 := Ha o2
      have HG := Ha (grown_trans (grown_trans hgr g1) g2)
      have HR := Ha (hrev.step (by have := HL.out; omega) hpq h1 h2)
      obtain ⟨P, hP⟩ : ∃ P, P = mk L[p] := ⟨_, rfl⟩
      obtain ⟨Q, hQ⟩ : ∃ Q, Q = mk L[q] := ⟨_, rfl⟩
      rw [<-hP] at c1 HO2 HG
      rw [<-hQ] at c2 HO2 HG
      rw [hq]
      have HQ := Ha hq
      have hne : (⟨g, q, none⟩ : Addr) ≠ ⟨g, p, none⟩ := by intro e; injection e with _ e _; omega
      clear e1 e2 o1 o2 g1 g2 hown hgr hrev hP hQ hq hlt; go_wp2_with fail
      go_region
      go_wp2_with fail
      go_roundw
      case rel => exact ⟨p + 1, by go_num, by have := HQ.out; simp; omega, by have := HQ.out; omega, _, HO2.out, HR.out, grown_drew HG.out⟩
      case measure => simp [intOf]; omega
    · have he := hrev.ends (by have := HL.out; omega)
      rw [he] at hown
      go_wp2_with fail
      go_end0
      exact ⟨rfl, hown, hgr⟩
end Go.Proofs.YtmpginmdaeclaaaGreatDoor
namespace Go.Proofs.YtmpginmdaeclaaaGreatDoor
open Go.RowKit Go.Op
end Go.Proofs.YtmpginmdaeclaaaGreatDoor
namespace Go.Proofs.YtmpginmdaeclaaaGreatDoor
open Go.RowKit
theorem own_ne {w w' : World} {b1 b2 n m : Nat} {e : TypeId} {v u : Value} {xs ys : List Value} (h : w.ownsRow b1 e 1 v n xs) (h' : w'.ownsRow b2 e 1 u m ys) (hb : w.heap.size <= b2) : u.ownBlock = none \/ u.ownBlock ≠ v.ownBlock := by
  cases hu : u.ownBlock with
  | none => exact .inl rfl
  | some k =>
    right
    intro hv
    have h1 := (h'.lt k hu).1
    have h2 := (h.lt k hv.symm).2
    omega
theorem own_nw {w w' : World} {b1 b2 n m : Nat} {e : TypeId} {v u : Value} {xs ys : List Value} (h : w.ownsRow b1 e 1 v n xs) (h' : w'.ownsRow b2 e 1 u m ys) (hb : w.heap.size <= b2) : v.ownBlock = none \/ v.ownBlock ≠ u.ownBlock := by
  rcases own_ne h h' hb with hu | hu
  · cases hv : v.ownBlock with
    | none => exact .inl rfl
    | some k => right; rw [hu]; simp
  · exact .inr hu.symm
theorem mk_fold_empty {s : List UInt8} (h : nameL s = none) : (mk (foldL s)).toList.isEmpty = true := by rw [mk_isEmpty, foldL_none h]; rfl
theorem mk_fold_not {s : List UInt8} {L : List (List UInt8)} (h : nameL s = some L) : (mk (foldL s)).toList.isEmpty = false := by
  rw [mk_isEmpty]
  have := foldL_ne h
  cases hf : foldL s
  · exact absurd hf this
  · rfl
theorem Compare_any (A B : ByteArray) (a b : List UInt8) (w : World) (hA : A = mk a) (hB : B = mk b) (ha : a.length <= 1073741824) (hb : b.length <= 1073741824) :
    Calls Tryz.prog 175 #[.string A, .string B] w fun e w' => e = .returned (.int .i64 (cmpN a b)) /\ Below w.heap.size w w' := by
  have HA := Ha hA
  have HB := Ha hB
  clear hA hB
  obtain ⟨FA, hFA⟩ : ∃ FA, FA = mk (foldL a) := ⟨_, rfl⟩
  obtain ⟨FB, hFB⟩ : ∃ FB, FB = mk (foldL b) := ⟨_, rfl⟩
  have HFA := Ha hFA
  have HFB := Ha hFB
  clear hFA hFB
  cases h : nameL a with
  | none =>
    have e0 : cmpN a b = 0 := by unfold cmpN; rw [h]
    have g0 : FA.toList.isEmpty = true := by rw [HFA.out]; exact mk_fold_empty h
    rw [e0]
    clear e0 h; go_enter Tryz.func175, Tryz.ntmps175
    go_wp2_with fail
    refine (Fold_any A a _ HA.out ha).mono ?_
    rw [<-HFA.out]
    rintro e w1 ⟨rfl, hB1⟩; go_wp2_with fail
    refine (Fold_any B b _ HB.out hb).mono ?_
    rw [<-HFB.out]
    rintro e w2 ⟨rfl, hB2⟩; go_wp2_with fail
    go_ret
    exact ⟨rfl, hB1.trans (hB2.mono hB1.size)⟩
  | some L =>
    have g0 : FA.toList.isEmpty = false := by rw [HFA.out]; exact mk_fold_not h
    cases k : nameL b with
    | none =>
      have e0 : cmpN a b = 0 := by unfold cmpN; rw [h, k]
      have g1 : FB.toList.isEmpty = true := by rw [HFB.out]; exact mk_fold_empty k
      rw [e0]
      clear e0 h k; go_enter Tryz.func175, Tryz.ntmps175
      go_wp2_with fail
      refine (Fold_any A a _ HA.out ha).mono ?_
      rw [<-HFA.out]
      rintro e w1 ⟨rfl, hB1⟩; go_wp2_with fail
      refine (Fold_any B b _ HB.out hb).mono ?_
      rw [<-HFB.out]
      rintro e w2 ⟨rfl, hB2⟩; go_wp2_with fail
      go_ret
      exact ⟨rfl, hB1.trans (hB2.mono hB1.size)⟩
    | some M =>
      have g1 : FB.toList.isEmpty = false := by rw [HFB.out]; exact mk_fold_not k
      have e0 : cmpN a b = cmpL (L.map lowS).reverse (M.map lowS).reverse := by unfold cmpN; rw [h, k]
      rw [e0]
      have HN := Ha (foldL_some h).2.2
      have HM := Ha (foldL_some k).2.2
      have hLn : (L.map lowS).length <= 255 := by rw [List.length_map]; exact name_few h
      have hMn : (M.map lowS).length <= 255 := by rw [List.length_map]; exact name_few k
      generalize L.map lowS = X at *
      generalize M.map lowS = Y at *
      clear e0 h k; go_enter Tryz.func175, Tryz.ntmps175
      go_wp2_with fail
      refine (Fold_any A a _ HA.out ha).mono ?_
      rw [<-HFA.out]
      rintro e w1 ⟨rfl, hB1⟩; go_wp2_with fail
      refine (Fold_any B b _ HB.out hb).mono ?_
      rw [<-HFB.out]
      rintro e w2 ⟨rfl, hB2⟩; have GB2 := hB1.trans (hB2.mono hB1.size)
      clear hB1 hB2; go_wp2_with fail
      refine (labelsOf_name FA (foldL a) X _ HFA.out HN.out).mono ?_
      rintro e w3 ⟨va, rfl, oa, hB3⟩; have GB3 := GB2.trans (hB3.mono GB2.size)
      go_wp2_with fail
      refine (labelsOf_name FB (foldL b) Y _ HFB.out HM.out).mono ?_
      rintro e w4 ⟨vb, rfl, ob, hB4⟩; have GB4 := GB3.trans (hB4.mono GB3.size)
      have oa4 := own_below oa hB4
      have hne := own_ne oa ob (Nat.le_refl _)
      have hnw := own_nw oa ob (Nat.le_refl _)
      have hwa : ∀ k, va.ownBlock = some k -> w.heap.size <= k := fun k e => Nat.le_trans GB2.size (oa.lt k e).1
      have hwb : ∀ k, vb.ownBlock = some k -> w.heap.size <= k := fun k e => Nat.le_trans GB3.size (ob.lt k e).1
      clear GB2 GB3 hB3 hB4 oa; go_wp2_with fail
      refine (Reverse_own va X.length _ X _ oa4 (by omega)).mono ?_
      rintro e w5 ⟨rfl, oa5, hg5⟩; have GB5 := GB4.grown hg5 GB4.size hwa
      have ob5 := ob.kept hg5 hne
      clear oa4 ob GB4 hg5; go_wp2_with fail
      refine (Reverse_own vb Y.length _ Y _ ob5 (by omega)).mono ?_
      rintro e w6 ⟨rfl, ob6, hg6⟩; have GB6 := GB5.grown hg6 GB5.size hwb
      have oa6 := oa5.kept hg6 hnw
      obtain ⟨A1, c1, rfl, hs1⟩ := Sees.own oa6
      obtain ⟨A2, c2, rfl, hs2⟩ := Sees.own ob6
      clear oa5 ob5 GB5 hg6 hwa hwb hne hnw oa6 ob6; go_wp2_with fail
      refine (CompareL_any A1 A2 _ _ c1 c2 _ _ X.reverse Y.reverse _ hs1 hs2 (by omega)).mono ?_
      rintro e w7 ⟨rfl, rfl⟩; go_wp2_with fail
      go_ret
      exact ⟨rfl, GB6⟩
end Go.Proofs.YtmpginmdaeclaaaGreatDoor
