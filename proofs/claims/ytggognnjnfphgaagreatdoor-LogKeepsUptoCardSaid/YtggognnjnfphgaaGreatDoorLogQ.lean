/- LogNames: the decimal digits read again; the walk. No statement of the seat is proved here. -/
import Derived.Test.YtggognnjnfphgaaGreatDoorLoD
namespace Go.Proofs.YtggognnjnfphgaaGreatDoor
open Go.RowKit Go.Maps Go.Sort

def isD (c : UInt8) : Bool := decide (48 ≤ c.toNat) && decide (c.toNat ≤ 57)
def valD (l : List UInt8) : Nat := l.foldl (fun n c => n * 10 + (c.toNat - 48)) 0
theorem valD_snoc (l : List UInt8) (c : UInt8) : valD (l ++ [c]) = valD l * 10 + (c.toNat - 48) := by simp [valD]
theorem dec_big {u : Nat} (h : ¬ u < 10) : Lib.decDigits u = Lib.decDigits (u / 10) ++ [UInt8.ofNat (48 + u % 10)] := by rw [Lib.decDigits, dif_neg h]
theorem dg_nat (k : Nat) (h : k < 10) : (UInt8.ofNat (48 + k)).toNat = 48 + k := by rw [UInt8.toNat_ofNat']; omega
theorem isD_dg (k : Nat) (h : k < 10) : isD (UInt8.ofNat (48 + k)) = true := by unfold isD; rw [dg_nat k h]; simp; omega
theorem dec_facts : ∀ (n u : Nat), u ≤ n → (Lib.decDigits u).all isD = true ∧ valD (Lib.decDigits u) = u ∧ 1 ≤ (Lib.decDigits u).length ∧ ((Lib.decDigits u).head? = some 48 → u = 0) := by
  intro n
  induction n with
  | zero =>
    intro u hu
    obtain rfl : u = 0 := by omega
    rw [Lib.decDigits_one (by decide)]
    exact ⟨by decide, by decide, by decide, fun _ => rfl⟩
  | succ n ih =>
    intro u hu
    by_cases h : u < 10
    · rw [Lib.decDigits_one h]
      refine ⟨by rw [List.all_cons, isD_dg u h]; rfl, ?_, Nat.le_refl _, ?_⟩
      · show (0 * 10 + ((UInt8.ofNat (48 + u)).toNat - 48)) = u
        rw [dg_nat u h]; omega
      · intro e
        rw [List.head?_cons] at e
        injection e with e
        have := congrArg UInt8.toNat e
        rw [dg_nat u h] at this
        have e48 : (48 : UInt8).toNat = 48 := rfl
        omega
    · obtain ⟨i1, i2, i3, i4⟩ := ih (u / 10) (by omega)
      rw [dec_big h]
      refine ⟨by rw [List.all_append, i1, List.all_cons, isD_dg (u % 10) (by omega)]; rfl, ?_, by simp, ?_⟩
      · rw [valD_snoc, i2, dg_nat (u % 10) (by omega)]; omega
      · intro e
        cases hd : Lib.decDigits (u / 10) with
        | nil => rw [hd] at i3; simp at i3
        | cons c r =>
          rw [hd] at e i4
          simp at e
          have := i4 (by simp [e])
          omega
theorem byte_ofQ {S : ByteArray} {s : List UInt8} {k : Nat} (hS : S = mk s) (hk : k < S.size) : ∃ (h : k < s.length), (S[k]'hk).toNat = s[k].toNat := by
  subst hS
  exact ⟨by rw [mk_size] at hk; exact hk, rfl⟩
theorem valD_take {s : List UInt8} {k : Nat} (h : k < s.length) : valD (s.take (k + 1)) = valD (s.take k) * 10 + (s[k].toNat - 48) := by
  rw [List.take_succ_eq_append_getElem h, valD_snoc]
theorem var_below {P : Program} {w w' : World} {name : String} {v : Array Value} (h : w.var? P name = some v) (hb : Below w.heap.size w w') : w'.var? P name = some v := by
  unfold World.var? at *
  cases hg : P.globalNamed name with
  | none => simp [hg] at h
  | some g =>
    simp only [hg, Option.bind_some] at h ⊢
    have hlt : g < w.heap.size := by
      rcases Nat.lt_or_ge g w.heap.size with h' | h'
      · exact h'
      · rw [Array.getElem?_eq_none h'] at h; simp at h
    rw [hb.block g hlt]
    exact h

theorem valD_le : ∀ (n : Nat) (l : List UInt8), l.length ≤ n → ∀ k, valD (l.take k) ≤ valD l := by
  intro n
  induction n with
  | zero =>
    intro l hl k
    have : l = [] := List.eq_nil_of_length_eq_zero (by omega)
    subst this
    simp
  | succ n ih =>
    intro l hl k
    by_cases hk : l.length ≤ k
    · rw [List.take_of_length_le hk]; exact Nat.le_refl _
    · have hne : l ≠ [] := by rintro rfl; simp at hk
      have e : l = l.dropLast ++ [l.getLast hne] := (List.dropLast_concat_getLast hne).symm
      have h1 : l.take k = l.dropLast.take k := by
        conv => lhs; rw [e]
        rw [List.take_append_of_le_length (by rw [List.length_dropLast]; omega)]
      have h2 := ih l.dropLast (by rw [List.length_dropLast]; omega) k
      have h3 := valD_snoc l.dropLast (l.getLast hne)
      rw [← e] at h3
      rw [h1]
      omega
theorem digits_inj {a b : Nat} (h : Lib.decDigits a = Lib.decDigits b) : a = b := by
  have h1 := (dec_facts a a (Nat.le_refl _)).2.1
  have h2 := (dec_facts b b (Nat.le_refl _)).2.1
  rw [h, h2] at h1
  exact h1.symm
theorem name_inj {a b : Nat} (h : mk (fileL a) = mk (fileL b)) : a = b := by
  have := mk_inj h
  unfold fileL at this
  exact digits_inj (List.append_cancel_left this)
theorem names_differ {a b : Nat} (h : a ≠ b) : ((mk (fileL a)).toList == (mk (fileL b)).toList) = false := by
  rw [mk_beq, beq_eq_false_iff_ne]
  intro e
  exact h (digits_inj (by unfold fileL at e; exact List.append_cancel_left e))
def Tab (w : World) : Prop := Lib.TabIs Tryz.prog w "internal/strconv.uint64pow10" .u64 Lib.pow10Tab
theorem Tab.keep {w w' : World} (h : Tab w) (hB : Below w.heap.size w w') : Tab w' := var_below h hB
set_option maxHeartbeats 4000000 in
set_option maxRecDepth 20000 in
theorem LogNames_walk (a b : Nat) (w : World) (ha : a < 18446744073709551616) (hb : b < 18446744073709551616) (ht : Tab w) :
    Calls Tryz.prog 3 #[.int .u64 (a : Nat), .int .u64 (b : Nat)] w fun e w' => e = .returned (.bool true) ∧ Below w.heap.size w w' := by
  obtain ⟨D, hD⟩ : ∃ D, D = Lib.decDigits a := ⟨_, rfl⟩
  obtain ⟨f1, f2, f3, f4⟩ := dec_facts a a (Nat.le_refl _)
  rw [← hD] at f1 f2 f3 f4
  have hnd : D.length ≤ 20 := by
    rw [hD, Lib.decDigits_length]
    rcases Nat.eq_zero_or_pos a with h0 | h0
    · rw [h0, Lib.nDigits_small (by omega)]; omega
    · have := Lib.numDigits_eq a h0 ha; split at this <;> omega
  obtain ⟨S, hS⟩ : ∃ S, S = mk (fileL a) := ⟨_, rfl⟩
  obtain ⟨T, hT⟩ : ∃ T, T = mk (fileL b) := ⟨_, rfl⟩
  have hSf : S = mk ([108, 111, 103, 45] ++ D) := by rw [hS]; unfold fileL; rw [hD]
  have hSz : S.size = 4 + D.length := by rw [hSf, mk_size]; simp; omega
  have hpre : S.extract 0 4 = ⟨#[108, 111, 103, 45]⟩ := by rw [hSf, mk_extract]; simp [mk]
  obtain ⟨P, hP⟩ : ∃ P, P = S.extract 0 4 := ⟨_, rfl⟩
  have HPE := Lib.hid (hP.trans hpre)
  have HP := Lib.hid hP
  have HNA := Lib.hid (by have := Name_any a ha; rw [← hS] at this; exact this : ∀ W, Tab W → Calls Tryz.prog 8 #[.int .u64 (a : Nat)] W fun e w' => e = .returned (.string S) ∧ Below W.heap.size W w')
  have HNB := Lib.hid (fun (z : Int) (hz : z = (b : Nat)) => by subst hz; have := Name_any b hb; rw [← hT] at this; exact this : ∀ z : Int, z = (b : Nat) → ∀ W, Tab W → Calls Tryz.prog 8 #[.int .u64 z] W fun e w' => e = .returned (.string T) ∧ Below W.heap.size W w')
  have HTB := Lib.hid ht
  have HSF := Lib.hid hSf
  have HSZ := Lib.hid hSz
  have HALL := Lib.hid f1
  have HVAL := Lib.hid f2
  have HD0 := Lib.hid f4
  have s5 : (5 : Int) ≤ (S.size : Int) := by omega
  have s24 : (S.size : Int) ≤ 24 := by omega
  have s4 : 4 < S.size := by omega
  obtain ⟨c4, hc4⟩ : ∃ c, c = (S[4]'s4).toNat := ⟨_, rfl⟩
  have hc4' := hc4.symm
  have hc48 : c4 = 48 → a = 0 := by
    intro h
    obtain ⟨q1, q2⟩ := byte_ofQ hSf s4
    rw [hc4', h] at q2
    refine f4 ?_
    have : ([108, 111, 103, 45] ++ D)[4] = D[0]'(by omega) := by simp
    rw [this] at q2
    rw [List.head?_eq_getElem?, List.getElem?_eq_getElem (by omega)]
    congr 1
    exact UInt8.toNat_inj.1 q2.symm
  have HC48 := Lib.hid hc48
  have HTS := Lib.hid (show a = b → T = S from fun h => by rw [hT, hS, h])
  have HND := Lib.hid (show a ≠ b → ¬ S.toList = T.toList from fun h e => by
    have := names_differ h
    rw [← hS, ← hT, beq_eq_false_iff_ne] at this
    exact this e)
  have hpl : (S.extract 0 4).toList = [108, 111, 103, 45] := by rw [hpre, ByteArray.toList_eq]
  have HPL := Lib.hid hpl
  have s4a : (4 : Int) ≤ (S.size : Int) := by omega
  have s4b : (4 : Int) < (S.size : Int) := by omega
  clear hP hpre hS hT hSf hSz f1 f2 f3 f4 hD hc4 hc48 ht hpl
  go_enter Tryz.func3, Tryz.ntmps3
  go_wp2_with fail
  refine (awake_any _).mono ?_
  rintro e w1 ⟨rfl, hB⟩
  have HB1 := Lib.hid hB
  clear hB
  go_wp2_with fail
  refine (HNA.out _ (HTB.out.keep HB1.out)).mono ?_
  rintro e w2 ⟨rfl, hB⟩
  have HB2 := Lib.hid (HB1.out.trans (hB.mono HB1.out.size))
  clear hB
  have hpl := HPL.out
  by_cases hc : c4 = 48
  · subst hc
    have ha0 := HC48.out rfl
    have hz : (a : Int) = 0 := by omega
    by_cases hab : a = b
    · obtain rfl := (HTS.out hab).symm
      obtain rfl := hab
      go_wp2_with fail
      refine (HNB.out _ (by first | rfl | omega | simp_all) _ (HTB.out.keep HB2.out)).mono ?_
      rintro e w3 ⟨rfl, hB⟩
      have HB3 := Lib.hid (HB2.out.trans (hB.mono HB2.out.size))
      clear hB

      obtain ⟨W3, hW3⟩ : ∃ W, W = w3 := ⟨_, rfl⟩
      clear hW3
      go_wp2_with fail
      go_loopw [6, 7] (fun nv iv wr => ∃ j : Nat, 4 ≤ j ∧ j ≤ S.size ∧ iv = .int .i64 (j : Nat) ∧ nv = .int .u64 (valD (D.take (j - 4)) : Nat) ∧ Below w.heap.size w wr) (fun _ iv _ => S.size - (intOf iv).toNat)
      case atStart => exact ⟨4, Nat.le_refl _, by omega, rfl, by simp [valD], HB3.out⟩
      case round =>
        obtain ⟨j, hj4, hjS, rfl, rfl, hB⟩ := hrel
        have HB := Lib.hid hB
        clear hB
        obtain ⟨v, hv⟩ : ∃ v, v = valD (D.take (j - 4)) := ⟨_, rfl⟩
        rw [← hv]
        by_cases hlt : j < S.size
        · have g1 : (j : Int) < (S.size : Int) := by omega
          have g0 : (0 : Int) ≤ (j : Int) := by omega
          obtain ⟨d, hd⟩ : ∃ d, d = (S[j]'hlt).toNat := ⟨_, rfl⟩
          have hb' := hd.symm
          have hjd : j - 4 < D.length := by have := HSZ.out; omega
          have hdd : d = (D[j - 4]'hjd).toNat := by
            obtain ⟨q1, q2⟩ := byte_ofQ HSF.out hlt
            rw [hd, q2]
            congr 1
            rw [List.getElem_append_right (by simp; omega)]
            congr 1
          have hdig : 48 ≤ d ∧ d ≤ 57 := by
            have := List.all_eq_true.1 HALL.out _ (List.getElem_mem hjd)
            unfold isD at this
            rw [← hdd] at this
            simpa using this
          have hnx := valD_take hjd
          rw [← hv, ← hdd, show j - 4 + 1 = j + 1 - 4 by omega] at hnx
          have hmx := valD_le D.length D (Nat.le_refl _) (j + 1 - 4)
          rw [HVAL.out, hnx] at hmx
          have g2 : ¬ (d : Int) < 48 := by omega
          have g3 : ¬ (57 : Int) < (d : Int) := by omega
          have g4 : (v : Int) * 10 ≤ 18446744073709551615 := by omega
          have g5 : (v : Int) * 10 + ((d : Int) - 48) ≤ 18446744073709551615 := by omega
          have g6 : (0 : Int) ≤ (d : Int) - 48 := by omega
          have g7 : (d : Int) - 48 ≤ 9 := by omega
          have g8 : (j : Int) ≤ 24 := by omega
          have HNX := Lib.hid hnx
          have hdg : 48 ≤ d := hdig.1
          clear hv hd hdd hdig hnx hmx
          go_wp2_with fail
          go_roundw
          case rel => exact ⟨j + 1, by omega, by omega, by go_num, by rw [HNX.out]; congr 1; omega, HB.out⟩
          case measure => simp [intOf]; omega
        · obtain rfl : j = S.size := by omega
          have HVV := Lib.hid (show v = a by
            rw [hv, List.take_of_length_le (by have := HSZ.out; omega), HVAL.out])
          clear hv
          go_wp2_with fail
          go_ret
          refine ⟨?_, HB.out⟩
          rw [HVV.out]
          first | (simp; done) | simp [ha0]
    · have hne := HND.out hab
      have hai : ¬ (0 : Int) = (b : Int) := by omega
      have hne2 : (S.toList == T.toList) = false := by simp [hne]
      have hai2 : ((0 : Int) == (b : Int)) = false := by simp [hai]
      go_wp2_with fail
      refine (HNB.out _ (by first | rfl | omega | simp_all) _ (HTB.out.keep HB2.out)).mono ?_
      rintro e w3 ⟨rfl, hB⟩
      have HB3 := Lib.hid (HB2.out.trans (hB.mono HB2.out.size))
      clear hB

      obtain ⟨W3, hW3⟩ : ∃ W, W = w3 := ⟨_, rfl⟩
      clear hW3
      go_wp2_with fail
      go_loopw [6, 7] (fun nv iv wr => ∃ j : Nat, 4 ≤ j ∧ j ≤ S.size ∧ iv = .int .i64 (j : Nat) ∧ nv = .int .u64 (valD (D.take (j - 4)) : Nat) ∧ Below w.heap.size w wr) (fun _ iv _ => S.size - (intOf iv).toNat)
      case atStart => exact ⟨4, Nat.le_refl _, by omega, rfl, by simp [valD], HB3.out⟩
      case round =>
        obtain ⟨j, hj4, hjS, rfl, rfl, hB⟩ := hrel
        have HB := Lib.hid hB
        clear hB
        obtain ⟨v, hv⟩ : ∃ v, v = valD (D.take (j - 4)) := ⟨_, rfl⟩
        rw [← hv]
        by_cases hlt : j < S.size
        · have g1 : (j : Int) < (S.size : Int) := by omega
          have g0 : (0 : Int) ≤ (j : Int) := by omega
          obtain ⟨d, hd⟩ : ∃ d, d = (S[j]'hlt).toNat := ⟨_, rfl⟩
          have hb' := hd.symm
          have hjd : j - 4 < D.length := by have := HSZ.out; omega
          have hdd : d = (D[j - 4]'hjd).toNat := by
            obtain ⟨q1, q2⟩ := byte_ofQ HSF.out hlt
            rw [hd, q2]
            congr 1
            rw [List.getElem_append_right (by simp; omega)]
            congr 1
          have hdig : 48 ≤ d ∧ d ≤ 57 := by
            have := List.all_eq_true.1 HALL.out _ (List.getElem_mem hjd)
            unfold isD at this
            rw [← hdd] at this
            simpa using this
          have hnx := valD_take hjd
          rw [← hv, ← hdd, show j - 4 + 1 = j + 1 - 4 by omega] at hnx
          have hmx := valD_le D.length D (Nat.le_refl _) (j + 1 - 4)
          rw [HVAL.out, hnx] at hmx
          have g2 : ¬ (d : Int) < 48 := by omega
          have g3 : ¬ (57 : Int) < (d : Int) := by omega
          have g4 : (v : Int) * 10 ≤ 18446744073709551615 := by omega
          have g5 : (v : Int) * 10 + ((d : Int) - 48) ≤ 18446744073709551615 := by omega
          have g6 : (0 : Int) ≤ (d : Int) - 48 := by omega
          have g7 : (d : Int) - 48 ≤ 9 := by omega
          have g8 : (j : Int) ≤ 24 := by omega
          have HNX := Lib.hid hnx
          have hdg : 48 ≤ d := hdig.1
          clear hv hd hdd hdig hnx hmx
          go_wp2_with fail
          go_roundw
          case rel => exact ⟨j + 1, by omega, by omega, by go_num, by rw [HNX.out]; congr 1; omega, HB.out⟩
          case measure => simp [intOf]; omega
        · obtain rfl : j = S.size := by omega
          have HVV := Lib.hid (show v = a by
            rw [hv, List.take_of_length_le (by have := HSZ.out; omega), HVAL.out])
          clear hv
          go_wp2_with fail
          go_ret
          refine ⟨?_, HB.out⟩
          rw [HVV.out]
          first | (simp; done) | simp [ha0]
  · have hc0 : ¬ (c4 : Int) = 48 := by omega
    by_cases hab : a = b
    · obtain rfl := (HTS.out hab).symm
      obtain rfl := hab
      go_wp2_with fail
      refine (HNB.out _ (by first | rfl | omega | simp_all) _ (HTB.out.keep HB2.out)).mono ?_
      rintro e w3 ⟨rfl, hB⟩
      have HB3 := Lib.hid (HB2.out.trans (hB.mono HB2.out.size))
      clear hB

      obtain ⟨W3, hW3⟩ : ∃ W, W = w3 := ⟨_, rfl⟩
      clear hW3
      go_wp2_with fail
      go_loopw [6, 7] (fun nv iv wr => ∃ j : Nat, 4 ≤ j ∧ j ≤ S.size ∧ iv = .int .i64 (j : Nat) ∧ nv = .int .u64 (valD (D.take (j - 4)) : Nat) ∧ Below w.heap.size w wr) (fun _ iv _ => S.size - (intOf iv).toNat)
      case atStart => exact ⟨4, Nat.le_refl _, by omega, rfl, by simp [valD], HB3.out⟩
      case round =>
        obtain ⟨j, hj4, hjS, rfl, rfl, hB⟩ := hrel
        have HB := Lib.hid hB
        clear hB
        obtain ⟨v, hv⟩ : ∃ v, v = valD (D.take (j - 4)) := ⟨_, rfl⟩
        rw [← hv]
        by_cases hlt : j < S.size
        · have g1 : (j : Int) < (S.size : Int) := by omega
          have g0 : (0 : Int) ≤ (j : Int) := by omega
          obtain ⟨d, hd⟩ : ∃ d, d = (S[j]'hlt).toNat := ⟨_, rfl⟩
          have hb' := hd.symm
          have hjd : j - 4 < D.length := by have := HSZ.out; omega
          have hdd : d = (D[j - 4]'hjd).toNat := by
            obtain ⟨q1, q2⟩ := byte_ofQ HSF.out hlt
            rw [hd, q2]
            congr 1
            rw [List.getElem_append_right (by simp; omega)]
            congr 1
          have hdig : 48 ≤ d ∧ d ≤ 57 := by
            have := List.all_eq_true.1 HALL.out _ (List.getElem_mem hjd)
            unfold isD at this
            rw [← hdd] at this
            simpa using this
          have hnx := valD_take hjd
          rw [← hv, ← hdd, show j - 4 + 1 = j + 1 - 4 by omega] at hnx
          have hmx := valD_le D.length D (Nat.le_refl _) (j + 1 - 4)
          rw [HVAL.out, hnx] at hmx
          have g2 : ¬ (d : Int) < 48 := by omega
          have g3 : ¬ (57 : Int) < (d : Int) := by omega
          have g4 : (v : Int) * 10 ≤ 18446744073709551615 := by omega
          have g5 : (v : Int) * 10 + ((d : Int) - 48) ≤ 18446744073709551615 := by omega
          have g6 : (0 : Int) ≤ (d : Int) - 48 := by omega
          have g7 : (d : Int) - 48 ≤ 9 := by omega
          have g8 : (j : Int) ≤ 24 := by omega
          have HNX := Lib.hid hnx
          have hdg : 48 ≤ d := hdig.1
          clear hv hd hdd hdig hnx hmx
          go_wp2_with fail
          go_roundw
          case rel => exact ⟨j + 1, by omega, by omega, by go_num, by rw [HNX.out]; congr 1; omega, HB.out⟩
          case measure => simp [intOf]; omega
        · obtain rfl : j = S.size := by omega
          have HVV := Lib.hid (show v = a by
            rw [hv, List.take_of_length_le (by have := HSZ.out; omega), HVAL.out])
          clear hv
          go_wp2_with fail
          go_ret
          refine ⟨?_, HB.out⟩
          rw [HVV.out]
          first | (simp; done) | simp [ha0]
    · have hne := HND.out hab
      have hai : ¬ (a : Int) = (b : Int) := by omega
      have hne2 : (S.toList == T.toList) = false := by simp [hne]
      have hai2 : ((a : Int) == (b : Int)) = false := by simp [hai]
      go_wp2_with fail
      refine (HNB.out _ (by first | rfl | omega | simp_all) _ (HTB.out.keep HB2.out)).mono ?_
      rintro e w3 ⟨rfl, hB⟩
      have HB3 := Lib.hid (HB2.out.trans (hB.mono HB2.out.size))
      clear hB

      obtain ⟨W3, hW3⟩ : ∃ W, W = w3 := ⟨_, rfl⟩
      clear hW3
      go_wp2_with fail
      go_loopw [6, 7] (fun nv iv wr => ∃ j : Nat, 4 ≤ j ∧ j ≤ S.size ∧ iv = .int .i64 (j : Nat) ∧ nv = .int .u64 (valD (D.take (j - 4)) : Nat) ∧ Below w.heap.size w wr) (fun _ iv _ => S.size - (intOf iv).toNat)
      case atStart => exact ⟨4, Nat.le_refl _, by omega, rfl, by simp [valD], HB3.out⟩
      case round =>
        obtain ⟨j, hj4, hjS, rfl, rfl, hB⟩ := hrel
        have HB := Lib.hid hB
        clear hB
        obtain ⟨v, hv⟩ : ∃ v, v = valD (D.take (j - 4)) := ⟨_, rfl⟩
        rw [← hv]
        by_cases hlt : j < S.size
        · have g1 : (j : Int) < (S.size : Int) := by omega
          have g0 : (0 : Int) ≤ (j : Int) := by omega
          obtain ⟨d, hd⟩ : ∃ d, d = (S[j]'hlt).toNat := ⟨_, rfl⟩
          have hb' := hd.symm
          have hjd : j - 4 < D.length := by have := HSZ.out; omega
          have hdd : d = (D[j - 4]'hjd).toNat := by
            obtain ⟨q1, q2⟩ := byte_ofQ HSF.out hlt
            rw [hd, q2]
            congr 1
            rw [List.getElem_append_right (by simp; omega)]
            congr 1
          have hdig : 48 ≤ d ∧ d ≤ 57 := by
            have := List.all_eq_true.1 HALL.out _ (List.getElem_mem hjd)
            unfold isD at this
            rw [← hdd] at this
            simpa using this
          have hnx := valD_take hjd
          rw [← hv, ← hdd, show j - 4 + 1 = j + 1 - 4 by omega] at hnx
          have hmx := valD_le D.length D (Nat.le_refl _) (j + 1 - 4)
          rw [HVAL.out, hnx] at hmx
          have g2 : ¬ (d : Int) < 48 := by omega
          have g3 : ¬ (57 : Int) < (d : Int) := by omega
          have g4 : (v : Int) * 10 ≤ 18446744073709551615 := by omega
          have g5 : (v : Int) * 10 + ((d : Int) - 48) ≤ 18446744073709551615 := by omega
          have g6 : (0 : Int) ≤ (d : Int) - 48 := by omega
          have g7 : (d : Int) - 48 ≤ 9 := by omega
          have g8 : (j : Int) ≤ 24 := by omega
          have HNX := Lib.hid hnx
          have hdg : 48 ≤ d := hdig.1
          clear hv hd hdd hdig hnx hmx
          go_wp2_with fail
          go_roundw
          case rel => exact ⟨j + 1, by omega, by omega, by go_num, by rw [HNX.out]; congr 1; omega, HB.out⟩
          case measure => simp [intOf]; omega
        · obtain rfl : j = S.size := by omega
          have HVV := Lib.hid (show v = a by
            rw [hv, List.take_of_length_le (by have := HSZ.out; omega), HVAL.out])
          clear hv
          go_wp2_with fail
          go_ret
          refine ⟨?_, HB.out⟩
          rw [HVV.out]
          simp
end Go.Proofs.YtggognnjnfphgaaGreatDoor
