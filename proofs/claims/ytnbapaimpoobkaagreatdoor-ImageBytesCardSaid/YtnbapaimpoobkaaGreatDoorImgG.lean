/- Parts of the proofs of the statements of image. No statement of the seat is proved here. -/
import Derived.Test.YtnbapaimpoobkaaGreatDoorDoA
import Derived.Test.YtnbapaimpoobkaaGreatDoorNaK
import Derived.Test.YtnbapaimpoobkaaGreatDoorOcJ
import Derived.Test.YtnbapaimpoobkaaGreatDoorImgV
import Derived.Test.YtnbapaimpoobkaaGreatDoorImgL
import Derived.Test.YtnbapaimpoobkaaGreatDoorOcA
import Derived.Test.YtnbapaimpoobkaaGreatDoorImgK
import Derived.Test.YtnbapaimpoobkaaGreatDoorEntF
import Derived.Test.YtnbapaimpoobkaaGreatDoorShm
namespace Go.Proofs.YtnbapaimpoobkaaGreatDoor
open Go.RowKit
set_option maxRecDepth 20000

theorem dotAdd_zero' (W : World) (j : Nat) : (⟨W.heap.size, 0, none⟩ : Addr).add j = ⟨W.heap.size, j, none⟩ := by rw [add_flat, Nat.zero_add]
theorem ofNat_toNat {q : Int} (h0 : 0 ≤ q) (h1 : q < 256) : ((UInt8.ofNat q.toNat).toNat : Int) = q := by rw [UInt8.toNat_ofNat']; omega
theorem dotOne_new (q : Int) (W : World) (h0 : 0 ≤ q) (h1 : q < 256) :
    (convert 64 9 (.slice (some ⟨W.heap.size, 0, none⟩) 1 1)).run Tryz.prog (W.alloc (.cells #[.int .u8 q] 5)) = .ok (.string (mk [UInt8.ofNat q.toNat])) (W.alloc (.cells #[.int .u8 q] 5)) := by
  refine run_convert_bytes_back _ _ _ 5 ⟨W.heap.size, 0, none⟩ 1 [UInt8.ofNat q.toNat] Tryz.underlying64 Tryz.underlying5 Tryz.underlying9 (fun j hj => ?_)
  rw [dotAdd_zero' W j, (Whole.new W 5 _).cell]
  have hj0 : j = 0 := by simpa using hj
  subst hj0
  have e := ofNat_toNat h0 h1
  simp only [List.getElem_cons_zero]
  rw [show ((UInt8.ofNat q.toNat).toNat : Int) = q from e]; rfl
theorem dotThree_new (p q r : Int) (W : World) (p0 : 0 ≤ p) (p1 : p < 256) (q0 : 0 ≤ q) (q1 : q < 256) (r0 : 0 ≤ r) (r1 : r < 256) :
    (convert 64 9 (.slice (some ⟨W.heap.size, 0, none⟩) 3 3)).run Tryz.prog (W.alloc (.cells #[.int .u8 p, .int .u8 q, .int .u8 r] 5)) = .ok (.string (mk [UInt8.ofNat p.toNat, UInt8.ofNat q.toNat, UInt8.ofNat r.toNat])) (W.alloc (.cells #[.int .u8 p, .int .u8 q, .int .u8 r] 5)) := by
  refine run_convert_bytes_back _ _ _ 5 ⟨W.heap.size, 0, none⟩ 3 [UInt8.ofNat p.toNat, UInt8.ofNat q.toNat, UInt8.ofNat r.toNat] Tryz.underlying64 Tryz.underlying5 Tryz.underlying9 (fun j hj => ?_)
  rw [dotAdd_zero' W j, (Whole.new W 5 _).cell]
  have e1 := ofNat_toNat p0 p1
  have e2 := ofNat_toNat q0 q1
  have e3 := ofNat_toNat r0 r1
  have hj3 : j < 3 := by simpa using hj
  match j, hj3 with
  | 0, _ => simp only [List.getElem_cons_zero]; rw [show ((UInt8.ofNat p.toNat).toNat : Int) = p from e1]; rfl
  | 1, _ => simp only [List.getElem_cons_succ, List.getElem_cons_zero]; rw [show ((UInt8.ofNat q.toNat).toNat : Int) = q from e2]; rfl
  | 2, _ => simp only [List.getElem_cons_succ, List.getElem_cons_zero]; rw [show ((UInt8.ofNat r.toNat).toNat : Int) = r from e3]; rfl

theorem byteText_any (d : Nat) (c : UInt8) (w : World) (hd : d = c.toNat) :
    Calls Tryz.prog 85 #[.int .u8 (d : Nat)] w fun e w' => e = .returned (.string (mk (byteT c))) ∧ Below w.heap.size w w' := by
  have hd2 : d < 256 := by rw [hd]; exact c.toNat_lt
  by_cases h1 : d = 46 ∨ d = 92
  · rw [byteT_esc hd h1]
    have HC := Lib.hid (of_toNat hd)
    clear hd
    rcases h1 with h1 | h1
    · subst h1
      have hB := Lib.hid ((Below.refl w.heap.size w).alloc (Nat.le_refl _) (.cells #[.int .u8 46] 5))
      have hcv := dotOne_new 46 w (by omega) (by omega)
      go_enter Tryz.func85, Tryz.ntmps85
      go_wp2_with fail
      go_ret
      exact ⟨by rw [← HC.out]; rfl, hB.out⟩
    · subst h1
      have hB := Lib.hid ((Below.refl w.heap.size w).alloc (Nat.le_refl _) (.cells #[.int .u8 92] 5))
      have hcv := dotOne_new 92 w (by omega) (by omega)
      go_enter Tryz.func85, Tryz.ntmps85
      go_wp2_with fail
      go_ret
      exact ⟨by rw [← HC.out]; rfl, hB.out⟩
  · by_cases h2 : 33 ≤ d ∧ d ≤ 126
    · rw [byteT_self hd h1 h2]
      have HC := Lib.hid (of_toNat hd)
      have g1 : ((d : Int) == 46) = false := by rw [beq_eq_false_iff_ne]; omega
      have g2 : ((d : Int) == 92) = false := by rw [beq_eq_false_iff_ne]; omega
      have g3 : (32 : Int) < (d : Int) := by omega
      have g4 : (d : Int) < 127 := by omega
      clear hd h1 h2
      have hB := Lib.hid ((Below.refl w.heap.size w).alloc (Nat.le_refl _) (.cells #[.int .u8 (d : Nat)] 5))
      have hcv := dotOne_new (d : Nat) w (by omega) (by omega)
      rw [HC.out] at hcv
      go_enter Tryz.func85, Tryz.ntmps85
      go_wp2_with fail
      go_ret
      exact ⟨rfl, hB.out⟩
    · rw [byteT_dec hd h1 h2]
      have g1 : ((d : Int) == 46) = false := by rw [beq_eq_false_iff_ne]; omega
      have g2 : ((d : Int) == 92) = false := by rw [beq_eq_false_iff_ne]; omega
      clear hd h1
      have hB := Lib.hid ((Below.refl w.heap.size w).alloc (Nat.le_refl _) (.cells #[.int .u8 (48 + (d : Int) / 100), .int .u8 (48 + (d : Int) / 10 % 10), .int .u8 (48 + (d : Int) % 10)] 5))
      have hcv := dotThree_new (48 + (d : Int) / 100) (48 + (d : Int) / 10 % 10) (48 + (d : Int) % 10) w (by omega) (by omega) (by omega) (by omega) (by omega) (by omega)
      have e1 : UInt8.ofNat (48 + (d : Int) / 100).toNat = dig (d / 100) := by unfold dig; rw [show (48 + (d : Int) / 100).toNat = 48 + d / 100 % 10 by omega]
      have e2 : UInt8.ofNat (48 + (d : Int) / 10 % 10).toNat = dig (d / 10) := by unfold dig; rw [show (48 + (d : Int) / 10 % 10).toNat = 48 + d / 10 % 10 by omega]
      have e3 : UInt8.ofNat (48 + (d : Int) % 10).toNat = dig d := by unfold dig; rw [show (48 + (d : Int) % 10).toNat = 48 + d % 10 by omega]
      rw [e1, e2, e3] at hcv
      generalize dig (d / 100) = x at hcv ⊢
      generalize dig (d / 10) = y at hcv ⊢
      generalize dig d = z at hcv ⊢
      have hsz : (mk [x, y, z]).size = 3 := rfl
      obtain ⟨T, hT⟩ : ∃ T, T = mk [x, y, z] := ⟨_, rfl⟩
      have hT2 : ⟨#[92]⟩ ++ T = mk [92, x, y, z] := by rw [hT]; show mk [92] ++ mk [x, y, z] = _; rw [mk_append]; rfl
      have HT := Lib.hid hT2
      rw [← hT] at hcv hsz
      clear hT hT2 e1 e2 e3
      go_enter Tryz.func85, Tryz.ntmps85
      by_cases h3 : 33 ≤ d
      all_goals (
        first
        | (have g3 : (32 : Int) < (d : Int) := by omega
           have g4 : ¬ (d : Int) < 127 := by omega)
        | have g3 : ¬ (32 : Int) < (d : Int) := by omega
        go_wp2_with fail
        go_ret
        exact ⟨by rw [← HT.out]; rfl, hB.out⟩)

/-! ### The reference's Text -/
set_option maxHeartbeats 2000000 in
theorem dotRefText_labels (S : ByteArray) (s : List UInt8) (L : List (List UInt8)) (w : World) (hS : S = mk s) (hN : nameL s = some L) (hL : L ≠ []) :
    Calls Tryz.prog 35 #[.string S] w fun e w' => e = .returned (.string (mk (labsT L))) ∧ Below w.heap.size w w' := by
  have hlen := labsT_take_len hN
  have hfew := name_few hN
  have hgood := (nameL_is hN).2.1
  obtain ⟨n, hn⟩ : ∃ n, n = L.length := ⟨_, rfl⟩
  have hnp : 0 < n := by rw [hn]; exact List.length_pos_iff.2 hL
  have hn255 : n ≤ 255 := by omega
  have HN := Lib.hid hN
  have HS := Lib.hid hS
  have HLN := Lib.hid hlen
  have HG := Lib.hid hgood
  have HNL := Lib.hid hn
  clear hN hS hlen hgood hL hfew
  have g0 : ((n : Int) == 0) = false := by rw [beq_eq_false_iff_ne]; omega
  go_enter Tryz.func35, Tryz.ntmps35
  go_wp2_with fail
  refine (RefLabels_yes S s L _ HS.out HN.out).mono ?_
  rw [← hn]
  rintro e w1 ⟨v, rfl, hown, hB1⟩
  obtain ⟨A, c, rfl, hs⟩ := Sees.own hown
  have HB1 := Lib.hid hB1
  have HSE := Lib.hid hs
  clear hB1 hown hs hn
  go_wp2_with fail
  go_loopw [5, 6] (fun u i wr => ∃ k : Nat, k ≤ n ∧ i = .int .i64 k ∧ u = .string (mk (labsT (L.take k))) ∧ Below w1.heap.size w1 wr) (fun _ i _ => n - (intOf i).toNat)
  case atStart => exact ⟨0, Nat.zero_le _, rfl, rfl, Below.refl _ _⟩
  case round =>
    obtain ⟨k, hk, rfl, rfl, hB⟩ := hrel
    by_cases hlt : k < n
    · have hkL : k < L.length := by have := HNL.out; omega
      have g1 : (k : Int) < (n : Int) := by omega
      have hsr := HSE.out.below hB
      obtain ⟨b2, off2, rfl, hb2, _⟩ := textL_at hsr hlt hkL
      obtain ⟨x, hx⟩ : ∃ x, x = L[k] := ⟨_, rfl⟩
      have hx63 : x.length ≤ 63 := by rw [hx]; exact (HG.out _ (List.getElem_mem hkL)).2
      have hroom : (labsT (L.take k)).length ≤ 1020 := Nat.le_trans (labsT_take_le L k) HLN.out
      have hstep : labsT (L.take (k + 1)) = labsT (L.take k) ++ bytesT x ++ [46] := by rw [hx]; exact labsT_take hkL
      obtain ⟨X, hX⟩ : ∃ X, X = mk x := ⟨_, rfl⟩
      have HC : Hid (∀ W, Below w1.heap.size w1 W → W.cell? ⟨b2, off2 + k, none⟩ = some (.string X)) := fun W hW => by
        obtain ⟨b3, off3, e3, _, hc⟩ := textL_at (HSE.out.below hW) hlt hkL
        injection e3 with e3; injection e3 with e3 e4
        subst e3; subst e4
        rw [hX, hx]; exact hc
      obtain ⟨T, hT⟩ : ∃ T, T = labsT (L.take k) := ⟨_, rfl⟩
      rw [← hT] at hroom hstep ⊢
      have hXz : X.size = x.length := by rw [hX, mk_size]
      have HX := Lib.hid hX
      have HXZ := Lib.hid hXz
      have HST := Lib.hid hstep
      have HRM := Lib.hid hroom
      have HB := Lib.hid hB
      clear hx hsr hB hT hX hXz hstep hroom
      go_wp2_with fail
      go_loopw [5, 7] (fun u i wr2 => ∃ j : Nat, j ≤ X.size ∧ i = .int .i64 j ∧ u = .string (mk (T ++ bytesT (x.take j))) ∧ Below w1.heap.size w1 wr2) (fun _ i _ => X.size - (intOf i).toNat)
      case atStart => exact ⟨0, Nat.zero_le _, rfl, by simp [bytesT], HB.out⟩
      case round =>
        obtain ⟨j, hj, rfl, rfl, hB⟩ := hrel
        have hc := HC.out _ hB
        have hlU : (mk (T ++ bytesT (x.take j))).size ≤ 2000 := by rw [mk_size]; have := HRM.out; have := bytesT_take_le x j; simp; omega
        obtain ⟨U, hU⟩ : ∃ U, U = mk (T ++ bytesT (x.take j)) := ⟨_, rfl⟩
        rw [← hU] at hlU ⊢
        have HU := Lib.hid hU
        have HB3 := Lib.hid hB
        clear hB hU
        by_cases hlt2 : j < X.size
        · have hjx : j < x.length := by have := HXZ.out; omega
          have g2 : (j : Int) < (X.size : Int) := by omega
          obtain ⟨d, hd⟩ : ∃ d, d = x[j].toNat := ⟨_, rfl⟩
          have hcx : (X[j]'hlt2).toNat = d := by rw [mk_get HX.out hlt2 hjx, hd]
          obtain ⟨V, hV⟩ : ∃ V, V = mk (byteT x[j]) := ⟨_, rfl⟩
          have hVs : V.size ≤ 4 := by rw [hV, mk_size]; exact (byteT_len _).1
          have hUV : U ++ V = mk (T ++ bytesT (x.take (j + 1))) := by rw [HU.out, hV, mk_append, bytesT_take hjx, List.append_assoc]
          have HD := Lib.hid hd
          have HV := Lib.hid hV
          have HUV := Lib.hid hUV
          clear hd hV hUV
          go_wp2_with fail
          refine (byteText_any d x[j] _ HD.out).mono ?_
          rw [← HV.out]
          rintro e w2 ⟨rfl, hB2⟩
          have HHB := Lib.hid (HB3.out.trans (hB2.mono HB3.out.size))
          clear hB2
          go_wp2_with fail
          go_roundw
          case rel => exact ⟨j + 1, by omega, by go_num, by rw [← HUV.out], HHB.out⟩
          case measure => simp [intOf]; omega
        · obtain rfl : j = X.size := by omega
          have hUT : U ++ ⟨#[46]⟩ = mk (labsT (L.take (k + 1))) := by
            rw [HU.out, List.take_of_length_le (by have := HXZ.out; omega), HST.out]
            show mk _ ++ mk [46] = _
            rw [mk_append]
          have HUT := Lib.hid hUT
          clear hUT
          go_wp2_with fail
          go_roundw
          case rel => exact ⟨k + 1, by omega, by go_num, by rw [← HUT.out], HB3.out⟩
          case measure => simp [intOf]; omega
    · obtain rfl : k = n := by omega
      have hall : labsT (L.take k) = labsT L := by rw [List.take_of_length_le (by have := HNL.out; omega)]
      rw [hall]
      go_wp2_with fail
      go_ret
      exact ⟨rfl, HB1.out.trans (hB.mono HB1.out.size)⟩

theorem dotRefText_any (S : ByteArray) (s : List UInt8) (w : World) (hS : S = mk s) :
    Calls Tryz.prog 35 #[.string S] w fun e w' => e = .returned (.string (mk (textN s))) ∧ Below w.heap.size w w' := by
  cases h : nameL s with
  | none =>
    rw [textN_none h]
    have HS := Lib.hid hS
    clear hS
    go_enter Tryz.func35, Tryz.ntmps35
    go_wp2_with fail
    refine (RefLabels_no S s _ HS.out h).mono ?_
    rintro e w1 ⟨v, rfl, hB1⟩
    go_wp2_with fail
    go_ret
    exact ⟨rfl, hB1⟩
  | some L =>
    rw [textN_some h]
    by_cases hL : L = []
    · subst hL
      rw [dotT_nil]
      have HS := Lib.hid hS
      clear hS
      go_enter Tryz.func35, Tryz.ntmps35
      go_wp2_with fail
      refine (RefLabels_yes S s [] _ HS.out h).mono ?_
      rintro e w1 ⟨v, rfl, hown, hB1⟩
      obtain ⟨A, c, rfl, _⟩ := Sees.own hown
      clear hown
      go_wp2_with fail
      go_ret
      exact ⟨rfl, hB1⟩
    · rw [dotT_cons hL]
      exact dotRefText_labels S s L w hS h hL
end Go.Proofs.YtnbapaimpoobkaaGreatDoor
namespace Go.Proofs.YtnbapaimpoobkaaGreatDoor
open Go.RowKit Go.Op

theorem Decimal_int (z : Int) (w : World) (h0 : 0 ≤ z) (h1 : z < 10000000000) : Calls Tryz.prog 36 #[.int .i64 z] w fun e w' => e = .returned (.string (mk (decI z))) ∧ Below w.heap.size w w' := by
  have := Decimal_any z.toNat w (by omega)
  rwa [Int.toNat_of_nonneg h0] at this
theorem decI_len (z : Int) (h : z < 10000000000) : (decI z).length ≤ 10 := by unfold decI; exact dec_len (by omega)
set_option maxHeartbeats 8000000 in
set_option maxRecDepth 20000 in
theorem Line_any (x : Rrd) (w : World) (ht : 0 ≤ x.t ∧ x.t < 10000000000) (hc : 0 ≤ x.c ∧ x.c < 10000000000) (hl : 0 ≤ x.l ∧ x.l < 10000000000) (hd : x.toRec.d.length ≤ 70000) :
    Calls Tryz.prog 12 #[.agg #[.string x.s, .int .i64 x.t, .int .i64 x.c, .int .i64 x.l, .string x.d]] w fun e w' => e = .returned (.string (mk (lineL x))) ∧ Below w.heap.size w w' := by
  obtain ⟨s, t, c, l, d⟩ := x
  have HS := Lib.hid (rrd_name ⟨s, t, c, l, d⟩)
  have HD := Lib.hid (rrd_data ⟨s, t, c, l, d⟩)
  obtain ⟨nn, hnn⟩ : ∃ nn, nn = (Rrd.mk s t c l d).toRec.n := ⟨_, rfl⟩
  obtain ⟨dd, hdd⟩ : ∃ dd, dd = (Rrd.mk s t c l d).toRec.d := ⟨_, rfl⟩
  have hline : lineL ⟨s, t, c, l, d⟩ = lineW nn t c l dd := by rw [hnn, hdd]; rfl
  rw [← hnn] at HS
  rw [← hdd] at HD hd
  simp only at HS HD ht hc hl
  obtain ⟨t0, t1⟩ := ht
  obtain ⟨c0, c1⟩ := hc
  obtain ⟨l0, l1⟩ := hl
  obtain ⟨X1, hX1⟩ : ∃ X, X = mk (textN nn) := ⟨_, rfl⟩
  obtain ⟨X2, hX2⟩ : ∃ X, X = mk (decI t) := ⟨_, rfl⟩
  obtain ⟨X3, hX3⟩ : ∃ X, X = mk (decI c) := ⟨_, rfl⟩
  obtain ⟨X4, hX4⟩ : ∃ X, X = mk (decI l) := ⟨_, rfl⟩
  obtain ⟨X5, hX5⟩ : ∃ X, X = mk (hexL dd) := ⟨_, rfl⟩
  have z1 : X1.size ≤ 1020 := by rw [hX1, mk_size]; exact textN_len nn
  have z2 : X2.size ≤ 10 := by rw [hX2, mk_size]; exact decI_len t t1
  have z3 : X3.size ≤ 10 := by rw [hX3, mk_size]; exact decI_len c c1
  have z4 : X4.size ≤ 10 := by rw [hX4, mk_size]; exact decI_len l l1
  have z5 : X5.size ≤ 140000 := by rw [hX5, mk_size, hexL_len]; omega
  have HE := Lib.hid (show X1 ++ ⟨#[32]⟩ ++ X2 ++ ⟨#[32]⟩ ++ X3 ++ ⟨#[32]⟩ ++ X4 ++ ⟨#[32]⟩ ++ X5 = mk (lineL ⟨s, t, c, l, d⟩) by
    rw [hline, hX1, hX2, hX3, hX4, hX5, show (⟨#[32]⟩ : ByteArray) = mk [blk] from rfl]
    simp only [mk_append]
    unfold lineW
    simp)
  obtain ⟨W, hW⟩ : ∃ W, W = w.alloc (.cells #[.string s, .int .i64 t, .int .i64 c, .int .i64 l, .string d] 27) := ⟨_, rfl⟩
  obtain ⟨g, hg⟩ : ∃ g, g = w.heap.size := ⟨_, rfl⟩
  have HB0 := Lib.hid (show Below w.heap.size w W by rw [hW]; exact (Below.refl _ _).alloc (Nat.le_refl _) _)
  have HWh := Lib.hid (show Whole W g 27 #[.string s, .int .i64 t, .int .i64 c, .int .i64 l, .string d] by rw [hW, hg]; exact Whole.new w _ _)
  have HM1 := Lib.hid (show ∀ (q : Later W), Calls Tryz.prog 35 #[.string s] q.val fun e w'' => e = .returned (.string X1) ∧ ∃ q' : Later W, w'' = q'.val from fun q => later_call (by rw [hX1]; exact dotRefText_any s nn q.val HS.out))
  have HM2 := Lib.hid (show ∀ (q : Later W), Calls Tryz.prog 36 #[.int .i64 t] q.val fun e w'' => e = .returned (.string X2) ∧ ∃ q' : Later W, w'' = q'.val from fun q => later_call (by rw [hX2]; exact Decimal_int t q.val t0 t1))
  have HM3 := Lib.hid (show ∀ (q : Later W), Calls Tryz.prog 36 #[.int .i64 c] q.val fun e w'' => e = .returned (.string X3) ∧ ∃ q' : Later W, w'' = q'.val from fun q => later_call (by rw [hX3]; exact Decimal_int c q.val c0 c1))
  have HM4 := Lib.hid (show ∀ (q : Later W), Calls Tryz.prog 36 #[.int .i64 l] q.val fun e w'' => e = .returned (.string X4) ∧ ∃ q' : Later W, w'' = q'.val from fun q => later_call (by rw [hX4]; exact Decimal_int l q.val l0 l1))
  have HM5 := Lib.hid (show ∀ (q : Later W), Calls Tryz.prog 37 #[.string d] q.val fun e w'' => e = .returned (.string X5) ∧ ∃ q' : Later W, w'' = q'.val from fun q => later_call (by rw [hX5]; exact Hex_any d dd q.val HD.out (by omega)))
  have d0 : ∀ q : Later W, q.val.cell? ⟨g, 0, none⟩ = some (.string s) := fun q => (HWh.out.later q).cell 0
  have d1 : ∀ q : Later W, q.val.cell? ⟨g, 1, none⟩ = some (.int .i64 t) := fun q => (HWh.out.later q).cell 1
  have d2 : ∀ q : Later W, q.val.cell? ⟨g, 2, none⟩ = some (.int .i64 c) := fun q => (HWh.out.later q).cell 2
  have d3 : ∀ q : Later W, q.val.cell? ⟨g, 3, none⟩ = some (.int .i64 l) := fun q => (HWh.out.later q).cell 3
  have d4 : ∀ q : Later W, q.val.cell? ⟨g, 4, none⟩ = some (.string d) := fun q => (HWh.out.later q).cell 4
  have HWW := Lib.hid hW
  have HG := Lib.hid hg
  clear hW hg hnn hdd hline t0 t1 c0 c1 l0 l1 hX1 hX2 hX3 hX4 hX5 hd
  go_enter Tryz.func12, Tryz.ntmps12
  go_wp2_with fail
  rw [← HWW.out, ← HG.out]
  refine region_later (by kernel_rfl) ?_
  repeat (go_big_quiet_step ((first
    | (go_at_call 35; with_reducible exact HM1.out _)
    | (go_at_call 36; with_reducible exact HM2.out _)
    | (go_at_call 36; with_reducible exact HM3.out _)
    | (go_at_call 36; with_reducible exact HM4.out _)
    | (go_at_call 37; with_reducible exact HM5.out _))))
  refine wpQuiet_nil ?_
  rintro _ ⟨q2, rfl⟩
  obtain ⟨V, hB⟩ := q2
  simp only []
  have HB1 := Lib.hid (HB0.out.trans (hB.mono HB0.out.size))
  clear hB d0 d1 d2 d3 d4
  go_wp2_with fail
  go_ret
  exact ⟨by rw [← HE.out]; rfl, HB1.out⟩

set_option maxHeartbeats 8000000 in
set_option maxRecDepth 20000 in
theorem RIBytes_any (g : Nat) (N : ByteArray) (nn : List UInt8) (D : List Rrd) (z : Value) (w : World) (hz : ZRefAt w w.heap.size N D z) (hN : N = mk nn) (hg : g < 18446744073709551616) (hn : nn.length ≤ 60000) (hD : D.length ≤ 30) (hok : ∀ x ∈ D, okR x.toRec = true) (hsm : ∀ x ∈ D, x.s.size ≤ 600 ∧ x.d.size ≤ 2000) :
    Calls Tryz.prog 14 #[.int .u64 (g : Nat), z] w fun e w' => e = .returned (.string (mk (imgB g nn D))) ∧ Below w.heap.size w w' := by
  obtain ⟨A, c, rfl, hs, _⟩ := hz
  obtain ⟨m, hm⟩ : ∃ m, m = D.length := ⟨_, rfl⟩
  have hrl : (rowE ((D.map Rrd.toRec).map ownE)).length ≤ D.length * 2269 := by
    have h1 := rowE_len 2265 ((D.map Rrd.toRec).map ownE) (fun y hy => by
      obtain ⟨r, hr, rfl⟩ := List.mem_map.1 hy
      obtain ⟨x, hx, rfl⟩ := List.mem_map.1 hr
      have h2 := own_len (hok x hx)
      have h3 := (hsm x hx).2
      rw [rrd_data x, mk_size] at h3
      omega)
    simpa using h1
  obtain ⟨X1, hX1⟩ : ∃ X, X = mk (be g 8) := ⟨_, rfl⟩
  obtain ⟨X2, hX2⟩ : ∃ X, X = mk (be nn.length 2) := ⟨_, rfl⟩
  obtain ⟨X4, hX4⟩ : ∃ X, X = mk (rowE ((D.map Rrd.toRec).map ownE)) := ⟨_, rfl⟩
  have z1 : X1.size = 8 := by rw [hX1, mk_size, be_length]
  have z2 : X2.size = 2 := by rw [hX2, mk_size, be_length]
  have z3 : N.size ≤ 60000 := by rw [hN, mk_size]; exact hn
  have z4 : X4.size ≤ 68070 := by rw [hX4, mk_size]; omega
  have HE := Lib.hid (show X1 ++ X2 ++ N ++ X4 = mk (imgB g nn D) by
    rw [hX1, hX2, hX4, hN, mk_append, mk_append, mk_append]
    unfold imgB headI
    simp only [List.append_assoc])
  have hNs : N.size = nn.length := by rw [hN, mk_size]
  rw [← hm] at hs hD ⊢
  obtain ⟨W, hW⟩ : ∃ W, W = w.alloc (.cells #[.string N, .slice A m c] rzT) := ⟨_, rfl⟩
  obtain ⟨b, hb⟩ : ∃ b, b = w.heap.size := ⟨_, rfl⟩
  have HB0 := Lib.hid (show Below w.heap.size w W by rw [hW]; exact (Below.refl _ _).alloc (Nat.le_refl _) _)
  have HWh := Lib.hid (show Whole W b rzT #[.string N, .slice A m c] by rw [hW, hb]; exact Whole.new w _ _)
  have HX := Lib.hid ((hs.keep HB0.out).more HB0.out.size)
  have HM1 := Lib.hid (show ∀ (q : Later W), Calls Tryz.prog 41 #[.int .u64 (g : Nat), .int .i64 8] q.val fun e w'' => e = .returned (.string X1) ∧ ∃ q' : Later W, w'' = q'.val from fun q => later_call (by rw [hX1]; exact RefBytes_any g 8 q.val (by omega) (by omega)))
  have HM2 := Lib.hid (show ∀ (q : Later W), Calls Tryz.prog 41 #[.int .u64 (N.size : Nat), .int .i64 2] q.val fun e w'' => e = .returned (.string X2) ∧ ∃ q' : Later W, w'' = q'.val from fun q => later_call (by rw [hX2, hNs]; exact RefBytes_any nn.length 2 q.val (by omega) (by omega)))
  have HM4 := Lib.hid (show ∀ (q : Later W), Calls Tryz.prog 42 #[.slice A m c] q.val fun e w'' => e = .returned (.string X4) ∧ ∃ q' : Later W, w'' = q'.val from fun q => later_call (by rw [hX4]; exact RefPieces17_any A m c D q.val ((HX.out.keep q.below).more q.below.size) hD hok hsm))
  have u2 : IntKind.u64.wrap (N.size : Int) = (N.size : Int) := by rw [IntKind.wrap_u64]; omega
  have d0 : ∀ q : Later W, q.val.cell? ⟨b, 0, none⟩ = some (.string N) := fun q => (HWh.out.later q).cell 0
  have d1 : ∀ q : Later W, q.val.cell? ⟨b, 1, none⟩ = some (.slice A m c) := fun q => (HWh.out.later q).cell 1
  have HWW := Lib.hid hW
  have HBB := Lib.hid hb
  have HNS := Lib.hid hNs
  clear hW hb hm hs hok hsm hrl hX1 hX2 hX4 hN hNs hg hn
  go_enter Tryz.func14, Tryz.ntmps14
  go_wp2_with fail
  rw [← HWW.out, ← HBB.out]
  refine region_later (by kernel_rfl) ?_
  repeat (go_big_quiet_step ((first
    | (go_at_call 41; with_reducible exact HM1.out _)
    | (go_at_call 41; with_reducible exact HM2.out _)
    | (go_at_call 42; with_reducible exact HM4.out _))))
  refine wpQuiet_nil ?_
  rintro _ ⟨q2, rfl⟩
  obtain ⟨V, hB⟩ := q2
  simp only []
  have HB1 := Lib.hid (HB0.out.trans (hB.mono HB0.out.size))
  clear hB d0 d1
  go_wp2_with fail
  go_ret
  exact ⟨by rw [← HE.out]; rfl, HB1.out⟩
end Go.Proofs.YtnbapaimpoobkaaGreatDoor
