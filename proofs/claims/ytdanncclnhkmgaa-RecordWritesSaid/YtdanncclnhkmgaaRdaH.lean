/- The reference's join, Whole, Right, Fold. No statement of the seat is proved here. -/
import Derived.Test.YtdanncclnhkmgaaRdaG
import Derived.Test.YtdanncclnhkmgaaRdaF
import Derived.Test.YtdanncclnhkmgaaNamK
import Derived.Test.YtdanncclnhkmgaaPakN
namespace Go.Proofs.Ytdanncclnhkmgaa
open Go.RowKit

theorem flat_snoc {L : List (List UInt8)} {k : Nat} (h : k < L.length) : (L.take (k + 1)).flatten = (L.take k).flatten ++ L[k] := by
  rw [List.take_succ_eq_append_getElem h, List.flatten_append, List.flatten_singleton]
theorem flat_le (L : List (List UInt8)) (k : Nat) : (L.take k).flatten.length ≤ L.flatten.length := by
  conv => rhs; rw [← List.take_append_drop k L]
  rw [List.flatten_append, List.length_append]; omega

set_option maxHeartbeats 1000000 in
set_option maxRecDepth 20000 in
theorem RefJoin_any (A : Option Addr) (n c B : Nat) (L : List (List UInt8)) (w : World) (h : Sees w B A n (textL L)) (hn : n ≤ 100) (hL : L.flatten.length ≤ 10000000) :
    Calls Try.prog 92 #[.slice A n c] w fun en w' => en = .returned (.string (mk L.flatten)) ∧ w = w' := by
  have hln : L.length = n := by have := h.len; simpa [textL, texts] using this
  have H := Lib.hid h
  have HLN := Lib.hid hln
  clear h hln
  go_enter Try.func92, Try.ntmps92
  go_wp2_with fail
  go_loop [3, 4] (fun s i => ∃ k : Nat, k ≤ n ∧ i = .int .i64 (k : Nat) ∧ s = .string (mk (L.take k).flatten)) (fun _ i => n - (intOf i).toNat)
  case atStart => exact ⟨0, Nat.zero_le _, rfl, rfl⟩
  case round =>
    obtain ⟨k, hk, rfl, rfl⟩ := hrel
    by_cases hkn : k < n
    · have gk : (k : Int) < (n : Int) := by omega
      have hkl : k < L.length := by have := HLN.out; omega
      obtain ⟨b, off, rfl, _, hc⟩ := textL_at H.out hkn hkl
      have hsn := flat_snoc hkl
      have hle := flat_le L (k + 1)
      rw [hsn, List.length_append] at hle
      have h1 : (mk (L.take k).flatten).size + (mk L[k]).size ≤ 10000000 := by rw [mk_size, mk_size]; omega
      have HSN := Lib.hid (show mk (L.take k).flatten ++ mk L[k] = mk (L.take (k + 1)).flatten by rw [mk_append, hsn])
      clear hsn hle
      go_wp2
      go_round
      case rel => exact ⟨k + 1, by omega, by go_num, by rw [← HSN.out]⟩
      case measure => simp [intOf]; omega
    · obtain rfl : k = n := by omega
      have HT := Lib.hid (show (L.take k).flatten = L.flatten by rw [List.take_of_length_le (by have := HLN.out; omega)])
      go_wp2
      go_ret
      exact ⟨by rw [← HT.out]; rfl, rfl⟩

theorem out_len {M : List UInt8} (hM : M.length ≤ 100000) (t : Int) : (outR (steps M M.length (kindsR t) 0)).length ≤ 7 ∧ (outR (steps M M.length (kindsR t) 0)).flatten.length ≤ 1000000 := by
  have h1 := steps_len (M := M) (e := M.length) (kindsR t) 0
  have h2 := kinds_few t
  have h3 : (kindsR t).length * (255 + M.length) ≤ 7 * 100255 := Nat.mul_le_mul h2 (by omega)
  have h4 : ∀ (ks : List Int) (p : Nat), (steps M M.length ks p).1.length ≤ ks.length := by
    intro ks
    induction ks with
    | nil => intro p; simp [steps_nil]
    | cons k ks ih =>
      intro p
      cases hc : cutP M M.length k p with
      | none => rw [steps_no hc]; simp
      | some r => rw [steps_yes hc]; simp; exact ih _
  have h5 := h4 (kindsR t) 0
  unfold outR
  cases (steps M M.length (kindsR t) 0).2 with
  | none => simp
  | some q =>
    simp only [List.length_map]
    refine ⟨by omega, ?_⟩
    have e : ((steps M M.length (kindsR t) 0).1.map (·.2)).flatten = cat (steps M M.length (kindsR t) 0).1 := by unfold cat; rw [List.flatMap_def]
    rw [e]; omega
def wholeR (t : Int) (D : List UInt8) : List UInt8 := (outR (steps D D.length (kindsR t) 0)).flatten
def wholeB (t : Int) (D : List UInt8) : Bool := okS D D.length (kindsR t) 0 && decide ((wholeR t D).length ≤ 65535)

set_option maxHeartbeats 1000000 in
set_option maxRecDepth 20000 in
theorem RefWhole_any (S : ByteArray) (D : List UInt8) (t : Int) (w : World) (hS : S = mk D) (hD : D.length ≤ 100000) :
    Calls Try.prog 60 #[.string S, .int .i64 0, .int .i64 (S.size : Nat), .int .i64 t] w fun en w' => en = .returned (.tuple #[.string (mk (wholeR t D)), .bool (wholeB t D)]) ∧ Below w.heap.size w w' := by
  obtain ⟨hl7, hlen⟩ := out_len hD t
  have HS := Lib.hid hS
  clear hS
  go_enter Try.func60, Try.ntmps60
  go_wp2_with fail
  refine (RefDRead_any S D t _ HS.out hD).mono ?_
  rintro en w1 ⟨A, n, c, rfl, hsee, hB⟩
  obtain ⟨L, hL⟩ : ∃ L, L = outR (steps D D.length (kindsR t) 0) := ⟨_, rfl⟩
  rw [← hL] at hsee hl7 hlen
  have hW : wholeR t D = L.flatten := by unfold wholeR; rw [hL]
  have hln : L.length = n := by have := hsee.len; simpa [textL, texts] using this
  have HSE := Lib.hid hsee
  have HB := Lib.hid hB
  have HW := Lib.hid hW
  have hW2 : (mk L.flatten).size = (wholeR t D).length := by rw [mk_size, hW]
  have hWB : wholeB t D = (okS D D.length (kindsR t) 0 && decide ((wholeR t D).length ≤ 65535)) := rfl
  clear hL hW hsee hB
  cases hok : okS D D.length (kindsR t) 0 with
  | false =>
    rw [hok, Bool.false_and] at hWB
    have HWB := Lib.hid hWB
    clear hWB hok
    go_wp2_with fail
    refine (RefJoin_any A n c _ L _ HSE.out (by omega) (by omega)).mono ?_
    rintro en w2 ⟨rfl, rfl⟩
    go_wp2_with fail
    go_ret2
    exact ⟨by rw [HW.out, HWB.out]; rfl, HB.out⟩
  | true =>
    rw [hok, Bool.true_and] at hWB
    have HWB := Lib.hid hWB
    clear hWB hok
    go_wp2_with fail
    refine (RefJoin_any A n c _ L _ HSE.out (by omega) (by omega)).mono ?_
    rintro en w2 ⟨rfl, rfl⟩
    by_cases hle : (wholeR t D).length ≤ 65535
    · have g1 : ((mk L.flatten).size : Int) ≤ 65535 := by omega
      have HLE := Lib.hid hle
      clear hle hW2
      go_wp2_with fail
      go_ret2
      exact ⟨by have h := decide_eq_true HLE.out; rw [HWB.out, h, HW.out]; rfl, HB.out⟩
    · have g1 : decide (((mk L.flatten).size : Int) ≤ 65535) = false := by rw [decide_eq_false_iff_not]; omega
      have HLE := Lib.hid hle
      clear hle hW2
      go_wp2_with fail
      go_ret2
      exact ⟨by have h := decide_eq_false HLE.out; rw [HWB.out, h, HW.out]; rfl, HB.out⟩

theorem right_whole {t : Int} {D : List UInt8} (hD : D.length ≤ 65535) : rightR t D = (wholeB t D && (wholeR t D == D)) := by
  unfold rightR wholeB
  rw [decide_eq_true hD, Bool.true_and, eqv_ok]
  cases hok : okS D D.length (partsP t) 0 with
  | false => rw [data_none hok]; rfl
  | true =>
    have hw : wholeR t D = cat (steps D D.length (partsP t) 0).1 := by
      rw [← eqv_cat hok]
      unfold wholeR outR
      have : (steps D D.length (kindsR t) 0).2 = some D.length := by
        have := eqv_ok D D.length 0 t
        rw [hok] at this
        simpa [okS] using this
      rw [this]
      simp only
      unfold cat; rw [List.flatMap_def]
    rw [data_some hok, ← hw, Bool.true_and]
    by_cases he : wholeR t D = D
    · rw [he]; simp [hD]
    · have h1 : (wholeR t D == D) = false := by rw [beq_eq_false_iff_ne]; exact he
      rw [h1, Bool.and_false]
      simp [he]

set_option maxHeartbeats 1000000 in
set_option maxRecDepth 20000 in
theorem RefDRight_any (S : ByteArray) (D : List UInt8) (t : Int) (w : World) (hS : S = mk D) (hD : D.length ≤ 65535) :
    Calls Try.prog 30 #[.int .i64 t, .string S] w fun en w' => en = .returned (.bool (rightR t D)) ∧ Below w.heap.size w w' := by
  have hR := right_whole (t := t) hD
  have HS := Lib.hid hS
  have hbe : ((mk (wholeR t D)).toList == S.toList) = (wholeR t D == D) := by rw [hS, mk_beq]
  clear hS
  cases hb : wholeB t D with
  | false =>
    rw [hb, Bool.false_and] at hR
    have HR := Lib.hid hR
    have HBB := Lib.hid hb
    clear hR hb hbe
    go_enter Try.func30, Try.ntmps30
    go_wp2_with fail
    refine (RefWhole_any S D t _ HS.out (by omega)).mono ?_
    rw [HBB.out]
    rintro en w1 ⟨rfl, hB⟩
    go_wp2_with fail
    go_ret
    exact ⟨by rw [HR.out]; rfl, hB⟩
  | true =>
    rw [hb, Bool.true_and] at hR
    have HBB := Lib.hid hb
    clear hb
    cases hbd : (wholeR t D == D)
    all_goals (
      rw [hbd] at hbe hR
      have HR := Lib.hid hR
      clear hbd hR
      go_enter Try.func30, Try.ntmps30
      go_wp2_with fail
      refine (RefWhole_any S D t _ HS.out (by omega)).mono ?_
      rw [HBB.out]
      rintro en w1 ⟨rfl, hB⟩
      go_wp2_with fail
      go_ret
      exact ⟨by rw [HR.out]; rfl, hB⟩)

theorem vis_kinds {t : Int} {D : List UInt8} (h : rightR t D = true) : ∃ V : Vis, steps D D.length (kindsR t) 0 = (V, some D.length) ∧ V.map (·.1) = kindsR t ∧ outR (steps D D.length (kindsR t) 0) = V.map (·.2) ∧ cat V = D ∧ okS D D.length (kindsR t) 0 = true := by
  obtain ⟨_, h2, h3, _, _⟩ := right_is h
  have hok : okS D D.length (kindsR t) 0 = true := by rw [eqv_ok]; exact h2
  have hs : (steps D D.length (kindsR t) 0).2 = some D.length := by simpa [okS] using hok
  have hk : ∀ (ks : List Int) (p q : Nat), (steps D D.length ks p).2 = some q → (steps D D.length ks p).1.map (·.1) = ks := by
    intro ks
    induction ks with
    | nil => intro p q _; rfl
    | cons k ks ih =>
      intro p q hq
      cases hc : cutP D D.length k p with
      | none => rw [steps_no hc] at hq; cases hq
      | some r =>
        rw [steps_yes hc] at hq ⊢
        rw [List.map_cons, ih _ _ hq]
  refine ⟨(steps D D.length (kindsR t) 0).1, by rw [← hs], hk _ _ _ hs, by unfold outR; rw [hs], ?_, hok⟩
  rw [eqv_cat h2]; exact h3

def accF (V : Vis) (k : Nat) : ByteArray := mk (cat ((V.take k).map foldB1))
set_option maxHeartbeats 2000000 in
set_option maxRecDepth 20000 in
theorem RefDFold_any (S : ByteArray) (D : List UInt8) (t : Int) (w : World) (hS : S = mk D) (hD : D.length ≤ 65535) :
    Calls Try.prog 33 #[.int .i64 t, .string S] w fun en w' => en = .returned (.string (mk (foldD t D))) ∧ Below w.heap.size w w' := by
  have HS := Lib.hid hS
  clear hS
  cases hr : rightR t D with
  | false =>
    have HR := Lib.hid hr
    have HF := Lib.hid (show foldD t D = [] by unfold foldD; rw [hr]; simp)
    clear hr
    go_enter Try.func33, Try.ntmps33
    go_wp2_with fail
    refine (RefDRight_any S D t _ HS.out hD).mono ?_
    rw [HR.out]
    rintro en w1 ⟨rfl, hB⟩
    go_wp2_with fail
    go_ret
    exact ⟨by rw [HF.out]; rfl, hB⟩
  | true =>
    have HR := Lib.hid hr
    obtain ⟨V, hV1, hV2, hV3, hV4, hV5⟩ := vis_kinds hr
    have hfold : foldD t D = cat (V.map foldB1) := by
      obtain ⟨_, h2, _⟩ := right_is hr
      have h := eqv_fold h2 nice_fold []
      rw [fold_fold, fold_fold, hV1] at h
      unfold foldD
      rw [if_pos hr]
      simpa [visR] using h
    have hVl : V.length ≤ 7 := by have := kinds_few t; rw [← hV2, List.length_map] at this; exact this
    have hcl : (cat V).length ≤ 65535 := by rw [hV4]; exact hD
    have HF := Lib.hid hfold
    have HV2 := Lib.hid hV2
    have HV3 := Lib.hid hV3
    have HV5 := Lib.hid hV5
    have hKV : ∀ x ∈ V, KindR x.1 := fun x hx => kinds_are t _ (by rw [← hV2]; exact List.mem_map_of_mem hx)
    have HKV := Lib.hid hKV
    clear hr hfold hV1 hV2 hV3 hV4 hV5 hKV
    go_enter Try.func33, Try.ntmps33
    go_wp2_with fail
    refine (RefDRight_any S D t _ HS.out hD).mono ?_
    rw [HR.out]
    rintro en w1 ⟨rfl, hB⟩
    have HB1 := Lib.hid hB
    clear hB
    go_wp2_with fail
    refine (RefDRead_any S D t _ HS.out (by omega)).mono ?_
    rintro en w2 ⟨A, n, c, rfl, hsee, hB⟩
    rw [HV3.out] at hsee
    rw [HV5.out]
    have hln : V.length = n := by have := hsee.len; simpa [textL, texts] using this
    have HLN := Lib.hid hln
    have HSE := Lib.hid hsee
    have HB2 := Lib.hid (HB1.out.trans (hB.mono HB1.out.size))
    clear hsee hB
    have hn7 : n ≤ 7 := by omega
    clear hln
    go_wp2_with fail
    refine (RefParts_any t _).mono ?_
    rintro en w3 ⟨rfl, rfl⟩
    obtain ⟨P, hP⟩ : ∃ P, P = mk (strR t) := ⟨_, rfl⟩
    rw [← hP]
    have hPn : P.size = n := by rw [hP, mk_size, strR, List.length_map, ← HV2.out, List.length_map, HLN.out]
    have HP := Lib.hid hP
    clear hP
    go_wp2_with fail
    go_loopw [8, 9] (fun s i wr => ∃ k : Nat, k ≤ n ∧ i = .int .i64 (k : Nat) ∧ s = .string (accF V k) ∧ Below w2.heap.size w2 wr) (fun _ i _ => n - (intOf i).toNat)
    case atStart => exact ⟨0, Nat.zero_le _, rfl, rfl, Below.refl _ _⟩
    case round =>
      obtain ⟨k, hk, rfl, rfl, hB⟩ := hrel
      have HB := Lib.hid hB
      clear hB
      by_cases hkn : k < n
      · have gk : (k : Int) < (n : Int) := by omega
        have gkP : (k : Int) < (P.size : Int) := by omega
        have hPk : k < P.size := by omega
        have hkl : k < V.length := by have := HLN.out; omega
        obtain ⟨kd, b, hkd⟩ : ∃ kd b, V[k] = (kd, b) := ⟨_, _, rfl⟩
        have hkind : KindR kd := by have := HKV.out V[k] (List.getElem_mem hkl); rw [hkd] at this; exact this
        have hPc : (P[k]'hPk).toNat = (chK kd).toNat := by
          have hk2 : k < (strR t).length := by rw [strR, List.length_map, ← HV2.out, List.length_map]; exact hkl
          rw [mk_get HP.out hPk hk2]
          congr 1
          simp only [strR, List.getElem_map, ← HV2.out, hkd]
        obtain ⟨b2, off, rfl, hb2, hc⟩ := textL_at (HSE.out.below HB.out) hkn (by rw [List.length_map]; exact hkl)
        rw [List.getElem_map, hkd] at hc
        simp only at hc
        have hsn : cat ((V.take (k + 1)).map foldB1) = cat ((V.take k).map foldB1) ++ (foldB1 (kd, b)).2 := by
          rw [List.take_succ_eq_append_getElem hkl, List.map_append, cat_append, hkd]; simp [cat]
        have hcat : (cat ((V.take (k + 1)).map foldB1)).length ≤ 65535 := by
          have h1 := fold_len (V.take (k + 1))
          have h2 := cat_pre (V := V) (List.take_prefix (k + 1) V)
          omega
        rw [hsn, List.length_append] at hcat
        have hbl : b.length ≤ 65535 := by
          have h2 := cat_pre (V := V) (List.take_prefix (k + 1) V)
          rw [List.take_succ_eq_append_getElem hkl, cat_append, List.length_append, hkd] at h2
          have e : (cat [(kd, b)]).length = b.length := by simp [cat]
          omega
        unfold KindR at hkind
        rcases hkind with rfl | rfl | rfl | rfl | rfl | rfl | rfl
        · have hkc : (P[k]'hPk).toNat = 110 := by rw [hPc]; rfl
          have hf : (foldB1 (-1, b)).2 = foldL b := by unfold foldB1; simp
          rw [hf] at hsn hcat
          have h1 : (accF V k).size + (mk (foldL b)).size ≤ 65535 := by unfold accF; rw [mk_size, mk_size]; omega
          have HSN := Lib.hid (show accF V k ++ mk (foldL b) = accF V (k + 1) by unfold accF; rw [mk_append, hsn])
          clear hsn hcat hf hkd hPc
          go_wp2_with fail
          refine (RefFold_any (mk b) b _ rfl).mono ?_
          rintro en w4 ⟨rfl, hB4⟩
          go_wp2_with fail
          go_roundw
          case rel => exact ⟨k + 1, by omega, by go_num, by rw [← HSN.out], HB.out.trans (hB4.mono HB.out.size)⟩
          case measure => simp [intOf]; omega
        · have hkc : (P[k]'hPk).toNat = 117 := by rw [hPc]; rfl
          have hf : (foldB1 (-2, b)).2 = foldL b := by unfold foldB1; simp
          rw [hf] at hsn hcat
          have h1 : (accF V k).size + (mk (foldL b)).size ≤ 65535 := by unfold accF; rw [mk_size, mk_size]; omega
          have HSN := Lib.hid (show accF V k ++ mk (foldL b) = accF V (k + 1) by unfold accF; rw [mk_append, hsn])
          clear hsn hcat hf hkd hPc
          go_wp2_with fail
          refine (RefFold_any (mk b) b _ rfl).mono ?_
          rintro en w4 ⟨rfl, hB4⟩
          go_wp2_with fail
          go_roundw
          case rel => exact ⟨k + 1, by omega, by go_num, by rw [← HSN.out], HB.out.trans (hB4.mono HB.out.size)⟩
          case measure => simp [intOf]; omega
        · have hkc : (P[k]'hPk).toNat = 116 := by rw [hPc]; rfl
          have hf : (foldB1 (-3, b)).2 = b := by unfold foldB1; simp
          rw [hf] at hsn hcat
          have h1 : (accF V k).size + (mk (b)).size ≤ 65535 := by unfold accF; rw [mk_size, mk_size]; omega
          have HSN := Lib.hid (show accF V k ++ mk (b) = accF V (k + 1) by unfold accF; rw [mk_append, hsn])
          clear hsn hcat hf hkd hPc
          go_wp2_with fail
          go_roundw
          case rel => exact ⟨k + 1, by omega, by go_num, by rw [← HSN.out], HB.out⟩
          case measure => simp [intOf]; omega
        · have hkc : (P[k]'hPk).toNat = 111 := by rw [hPc]; rfl
          have hf : (foldB1 (-4, b)).2 = b := by unfold foldB1; simp
          rw [hf] at hsn hcat
          have h1 : (accF V k).size + (mk (b)).size ≤ 65535 := by unfold accF; rw [mk_size, mk_size]; omega
          have HSN := Lib.hid (show accF V k ++ mk (b) = accF V (k + 1) by unfold accF; rw [mk_append, hsn])
          clear hsn hcat hf hkd hPc
          go_wp2_with fail
          go_roundw
          case rel => exact ⟨k + 1, by omega, by go_num, by rw [← HSN.out], HB.out⟩
          case measure => simp [intOf]; omega
        · have hkc : (P[k]'hPk).toNat = 104 := by rw [hPc]; rfl
          have hf : (foldB1 (16, b)).2 = b := by unfold foldB1; simp
          rw [hf] at hsn hcat
          have h1 : (accF V k).size + (mk (b)).size ≤ 65535 := by unfold accF; rw [mk_size, mk_size]; omega
          have HSN := Lib.hid (show accF V k ++ mk (b) = accF V (k + 1) by unfold accF; rw [mk_append, hsn])
          clear hsn hcat hf hkd hPc
          go_wp2_with fail
          go_roundw
          case rel => exact ⟨k + 1, by omega, by go_num, by rw [← HSN.out], HB.out⟩
          case measure => simp [intOf]; omega
        · have hkc : (P[k]'hPk).toNat = 52 := by rw [hPc]; rfl
          have hf : (foldB1 (4, b)).2 = b := by unfold foldB1; simp
          rw [hf] at hsn hcat
          have h1 : (accF V k).size + (mk (b)).size ≤ 65535 := by unfold accF; rw [mk_size, mk_size]; omega
          have HSN := Lib.hid (show accF V k ++ mk (b) = accF V (k + 1) by unfold accF; rw [mk_append, hsn])
          clear hsn hcat hf hkd hPc
          go_wp2_with fail
          go_roundw
          case rel => exact ⟨k + 1, by omega, by go_num, by rw [← HSN.out], HB.out⟩
          case measure => simp [intOf]; omega
        · have hkc : (P[k]'hPk).toNat = 50 := by rw [hPc]; rfl
          have hf : (foldB1 (2, b)).2 = b := by unfold foldB1; simp
          rw [hf] at hsn hcat
          have h1 : (accF V k).size + (mk (b)).size ≤ 65535 := by unfold accF; rw [mk_size, mk_size]; omega
          have HSN := Lib.hid (show accF V k ++ mk (b) = accF V (k + 1) by unfold accF; rw [mk_append, hsn])
          clear hsn hcat hf hkd hPc
          go_wp2_with fail
          go_roundw
          case rel => exact ⟨k + 1, by omega, by go_num, by rw [← HSN.out], HB.out⟩
          case measure => simp [intOf]; omega
      · obtain rfl : k = n := by omega
        have HT := Lib.hid (show accF V k = mk (cat (V.map foldB1)) by unfold accF; rw [List.take_of_length_le (by have := HLN.out; omega)])
        go_wp2_with fail
        go_ret
        exact ⟨by rw [HF.out, ← HT.out]; rfl, HB2.out.trans (HB.out.mono HB2.out.size)⟩
end Go.Proofs.Ytdanncclnhkmgaa
