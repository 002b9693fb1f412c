/- The reference's byteText and Text. -/
import Derived.Test.YtpfbieehdkonhaaDoorDotB
import Derived.Test.YtpfbieehdkonhaaDoorNamK
import Derived.Test.YtpfbieehdkonhaaDoorFrame
namespace Go.Proofs.YtpfbieehdkonhaaDoor
open Go.RowKit

theorem add_zero' (W : World) (j : Nat) : (⟨W.heap.size, 0, none⟩ : Addr).add j = ⟨W.heap.size, j, none⟩ := by rw [add_flat, Nat.zero_add]
theorem ofNat_toNat {q : Int} (h0 : 0 ≤ q) (h1 : q < 256) : ((UInt8.ofNat q.toNat).toNat : Int) = q := by rw [UInt8.toNat_ofNat']; omega
theorem one_new (q : Int) (W : World) (h0 : 0 ≤ q) (h1 : q < 256) :
    (convert 38 9 (.slice (some ⟨W.heap.size, 0, none⟩) 1 1)).run Tryd.prog (W.alloc (.cells #[.int .u8 q] 5)) = .ok (.string (mk [UInt8.ofNat q.toNat])) (W.alloc (.cells #[.int .u8 q] 5)) := by
  refine run_convert_bytes_back _ _ _ 5 ⟨W.heap.size, 0, none⟩ 1 [UInt8.ofNat q.toNat] Tryd.underlying38 Tryd.underlying5 Tryd.underlying9 (fun j hj => ?_)
  rw [add_zero' W j, (Whole.new W 5 _).cell]
  have hj0 : j = 0 := by simpa using hj
  subst hj0
  have e := ofNat_toNat h0 h1
  simp only [List.getElem_cons_zero]
  rw [show ((UInt8.ofNat q.toNat).toNat : Int) = q from e]; rfl
theorem three_new (p q r : Int) (W : World) (p0 : 0 ≤ p) (p1 : p < 256) (q0 : 0 ≤ q) (q1 : q < 256) (r0 : 0 ≤ r) (r1 : r < 256) :
    (convert 38 9 (.slice (some ⟨W.heap.size, 0, none⟩) 3 3)).run Tryd.prog (W.alloc (.cells #[.int .u8 p, .int .u8 q, .int .u8 r] 5)) = .ok (.string (mk [UInt8.ofNat p.toNat, UInt8.ofNat q.toNat, UInt8.ofNat r.toNat])) (W.alloc (.cells #[.int .u8 p, .int .u8 q, .int .u8 r] 5)) := by
  refine run_convert_bytes_back _ _ _ 5 ⟨W.heap.size, 0, none⟩ 3 [UInt8.ofNat p.toNat, UInt8.ofNat q.toNat, UInt8.ofNat r.toNat] Tryd.underlying38 Tryd.underlying5 Tryd.underlying9 (fun j hj => ?_)
  rw [add_zero' W j, (Whole.new W 5 _).cell]
  have e1 := ofNat_toNat p0 p1
  have e2 := ofNat_toNat q0 q1
  have e3 := ofNat_toNat r0 r1
  have hj3 : j < 3 := by simpa using hj
  match j, hj3 with
  | 0, _ => simp only [List.getElem_cons_zero]; rw [show ((UInt8.ofNat p.toNat).toNat : Int) = p from e1]; rfl
  | 1, _ => simp only [List.getElem_cons_succ, List.getElem_cons_zero]; rw [show ((UInt8.ofNat q.toNat).toNat : Int) = q from e2]; rfl
  | 2, _ => simp only [List.getElem_cons_succ, List.getElem_cons_zero]; rw [show ((UInt8.ofNat r.toNat).toNat : Int) = r from e3]; rfl

theorem byteText_any (d : Nat) (c : UInt8) (w : World) (hd : d = c.toNat) :
    Calls Tryd.prog 22 #[.int .u8 (d : Nat)] w fun e w' => e = .returned (.string (mk (byteT c))) ∧ Below w.heap.size w w' := by
  have hd2 : d < 256 := by rw [hd]; exact c.toNat_lt
  by_cases h1 : d = 46 ∨ d = 92
  · rw [byteT_esc hd h1]
    have HC := Lib.hid (of_toNat hd)
    clear hd
    rcases h1 with h1 | h1
    · subst h1
      have hB := Lib.hid ((Below.refl w.heap.size w).alloc (Nat.le_refl _) (.cells #[.int .u8 46] 5))
      have hcv := one_new 46 w (by omega) (by omega)
      go_enter Tryd.func22, Tryd.ntmps22
      go_wp2_with fail
      go_ret
      exact ⟨by rw [← HC.out]; rfl, hB.out⟩
    · subst h1
      have hB := Lib.hid ((Below.refl w.heap.size w).alloc (Nat.le_refl _) (.cells #[.int .u8 92] 5))
      have hcv := one_new 92 w (by omega) (by omega)
      go_enter Tryd.func22, Tryd.ntmps22
      go_wp2_with fail
      go_ret
      exact ⟨by rw [← HC.out]; rfl, hB.out⟩
  · by_cases h2 : 33 ≤ d ∧ d ≤ 126
    · rw [byteT_self hd h1 h2]
      have HC := Lib.hid (of_toNat hd)
      have g1 : ((d : Int) == 46) = false := by rw [beq_eq_false_iff_ne]; omega
      have g2 : ((d : Int) == 92) = false := by rw [beq_eq_false_iff_ne]; omega
      have g3 : (32 : Int) < (d : Int) := by omega
      have g4 : (d : Int) < 127 := by omega
      clear hd h1 h2
      have hB := Lib.hid ((Below.refl w.heap.size w).alloc (Nat.le_refl _) (.cells #[.int .u8 (d : Nat)] 5))
      have hcv := one_new (d : Nat) w (by omega) (by omega)
      rw [HC.out] at hcv
      go_enter Tryd.func22, Tryd.ntmps22
      go_wp2_with fail
      go_ret
      exact ⟨rfl, hB.out⟩
    · rw [byteT_dec hd h1 h2]
      have g1 : ((d : Int) == 46) = false := by rw [beq_eq_false_iff_ne]; omega
      have g2 : ((d : Int) == 92) = false := by rw [beq_eq_false_iff_ne]; omega
      clear hd h1
      have hB := Lib.hid ((Below.refl w.heap.size w).alloc (Nat.le_refl _) (.cells #[.int .u8 (48 + (d : Int) / 100), .int .u8 (48 + (d : Int) / 10 % 10), .int .u8 (48 + (d : Int) % 10)] 5))
      have hcv := three_new (48 + (d : Int) / 100) (48 + (d : Int) / 10 % 10) (48 + (d : Int) % 10) w (by omega) (by omega) (by omega) (by omega) (by omega) (by omega)
      have e1 : UInt8.ofNat (48 + (d : Int) / 100).toNat = dig (d / 100) := by unfold dig; rw [show (48 + (d : Int) / 100).toNat = 48 + d / 100 % 10 by omega]
      have e2 : UInt8.ofNat (48 + (d : Int) / 10 % 10).toNat = dig (d / 10) := by unfold dig; rw [show (48 + (d : Int) / 10 % 10).toNat = 48 + d / 10 % 10 by omega]
      have e3 : UInt8.ofNat (48 + (d : Int) % 10).toNat = dig d := by unfold dig; rw [show (48 + (d : Int) % 10).toNat = 48 + d % 10 by omega]
      rw [e1, e2, e3] at hcv
      generalize dig (d / 100) = x at hcv ⊢
      generalize dig (d / 10) = y at hcv ⊢
      generalize dig d = z at hcv ⊢
      have hsz : (mk [x, y, z]).size = 3 := rfl
      obtain ⟨T, hT⟩ : ∃ T, T = mk [x, y, z] := ⟨_, rfl⟩
      have hT2 : ⟨#[92]⟩ ++ T = mk [92, x, y, z] := by rw [hT]; show mk [92] ++ mk [x, y, z] = _; rw [mk_append]; rfl
      have HT := Lib.hid hT2
      rw [← hT] at hcv hsz
      clear hT hT2 e1 e2 e3
      go_enter Tryd.func22, Tryd.ntmps22
      by_cases h3 : 33 ≤ d
      all_goals (
        first
        | (have g3 : (32 : Int) < (d : Int) := by omega
           have g4 : ¬ (d : Int) < 127 := by omega)
        | have g3 : ¬ (32 : Int) < (d : Int) := by omega
        go_wp2_with fail
        go_ret
        exact ⟨by rw [← HT.out]; rfl, hB.out⟩)

/-! ### The reference's Text -/
set_option maxHeartbeats 2000000 in
theorem RefText_labels (S : ByteArray) (s : List UInt8) (L : List (List UInt8)) (w : World) (hS : S = mk s) (hN : nameL s = some L) (hL : L ≠ []) :
    Calls Tryd.prog 10 #[.string S] w fun e w' => e = .returned (.string (mk (labsT L))) ∧ Below w.heap.size w w' := by
  have hlen := labsT_take_len hN
  have hfew := name_few hN
  have hgood := (nameL_is hN).2.1
  obtain ⟨n, hn⟩ : ∃ n, n = L.length := ⟨_, rfl⟩
  have hnp : 0 < n := by rw [hn]; exact List.length_pos_iff.2 hL
  have hn255 : n ≤ 255 := by omega
  have HN := Lib.hid hN
  have HS := Lib.hid hS
  have HLN := Lib.hid hlen
  have HG := Lib.hid hgood
  have HNL := Lib.hid hn
  clear hN hS hlen hgood hL hfew
  have g0 : ((n : Int) == 0) = false := by rw [beq_eq_false_iff_ne]; omega
  go_enter Tryd.func10, Tryd.ntmps10
  go_wp2_with fail
  refine (RefLabels_yes S s L _ HS.out HN.out).mono ?_
  rw [← hn]
  rintro e w1 ⟨v, rfl, hown, hB1⟩
  obtain ⟨A, c, rfl, hs⟩ := Sees.own hown
  have HB1 := Lib.hid hB1
  have HSE := Lib.hid hs
  clear hB1 hown hs hn
  go_wp2_with fail
  go_loopw [5, 6] (fun u i wr => ∃ k : Nat, k ≤ n ∧ i = .int .i64 k ∧ u = .string (mk (labsT (L.take k))) ∧ Below w1.heap.size w1 wr) (fun _ i _ => n - (intOf i).toNat)
  case atStart => exact ⟨0, Nat.zero_le _, rfl, rfl, Below.refl _ _⟩
  case round =>
    obtain ⟨k, hk, rfl, rfl, hB⟩ := hrel
    by_cases hlt : k < n
    · have hkL : k < L.length := by have := HNL.out; omega
      have g1 : (k : Int) < (n : Int) := by omega
      have hsr := HSE.out.below hB
      obtain ⟨b2, off2, rfl, hb2, _⟩ := textL_at hsr hlt hkL
      obtain ⟨x, hx⟩ : ∃ x, x = L[k] := ⟨_, rfl⟩
      have hx63 : x.length ≤ 63 := by rw [hx]; exact (HG.out _ (List.getElem_mem hkL)).2
      have hroom : (labsT (L.take k)).length ≤ 1020 := Nat.le_trans (labsT_take_le L k) HLN.out
      have hstep : labsT (L.take (k + 1)) = labsT (L.take k) ++ bytesT x ++ [46] := by rw [hx]; exact labsT_take hkL
      obtain ⟨X, hX⟩ : ∃ X, X = mk x := ⟨_, rfl⟩
      have HC : Hid (∀ W, Below w1.heap.size w1 W → W.cell? ⟨b2, off2 + k, none⟩ = some (.string X)) := fun W hW => by
        obtain ⟨b3, off3, e3, _, hc⟩ := textL_at (HSE.out.below hW) hlt hkL
        injection e3 with e3; injection e3 with e3 e4
        subst e3; subst e4
        rw [hX, hx]; exact hc
      obtain ⟨T, hT⟩ : ∃ T, T = labsT (L.take k) := ⟨_, rfl⟩
      rw [← hT] at hroom hstep ⊢
      have hXz : X.size = x.length := by rw [hX, mk_size]
      have HX := Lib.hid hX
      have HXZ := Lib.hid hXz
      have HST := Lib.hid hstep
      have HRM := Lib.hid hroom
      have HB := Lib.hid hB
      clear hx hsr hB hT hX hXz hstep hroom
      go_wp2_with fail
      go_loopw [5, 7] (fun u i wr2 => ∃ j : Nat, j ≤ X.size ∧ i = .int .i64 j ∧ u = .string (mk (T ++ bytesT (x.take j))) ∧ Below w1.heap.size w1 wr2) (fun _ i _ => X.size - (intOf i).toNat)
      case atStart => exact ⟨0, Nat.zero_le _, rfl, by simp [bytesT], HB.out⟩
      case round =>
        obtain ⟨j, hj, rfl, rfl, hB⟩ := hrel
        have hc := HC.out _ hB
        have hlU : (mk (T ++ bytesT (x.take j))).size ≤ 2000 := by rw [mk_size]; have := HRM.out; have := bytesT_take_le x j; simp; omega
        obtain ⟨U, hU⟩ : ∃ U, U = mk (T ++ bytesT (x.take j)) := ⟨_, rfl⟩
        rw [← hU] at hlU ⊢
        have HU := Lib.hid hU
        have HB3 := Lib.hid hB
        clear hB hU
        by_cases hlt2 : j < X.size
        · have hjx : j < x.length := by have := HXZ.out; omega
          have g2 : (j : Int) < (X.size : Int) := by omega
          obtain ⟨d, hd⟩ : ∃ d, d = x[j].toNat := ⟨_, rfl⟩
          have hcx : (X[j]'hlt2).toNat = d := by rw [mk_get HX.out hlt2 hjx, hd]
          obtain ⟨V, hV⟩ : ∃ V, V = mk (byteT x[j]) := ⟨_, rfl⟩
          have hVs : V.size ≤ 4 := by rw [hV, mk_size]; exact (byteT_len _).1
          have hUV : U ++ V = mk (T ++ bytesT (x.take (j + 1))) := by rw [HU.out, hV, mk_append, bytesT_take hjx, List.append_assoc]
          have HD := Lib.hid hd
          have HV := Lib.hid hV
          have HUV := Lib.hid hUV
          clear hd hV hUV
          go_wp2_with fail
          refine (byteText_any d x[j] _ HD.out).mono ?_
          rw [← HV.out]
          rintro e w2 ⟨rfl, hB2⟩
          have HHB := Lib.hid (HB3.out.trans (hB2.mono HB3.out.size))
          clear hB2
          go_wp2_with fail
          go_roundw
          case rel => exact ⟨j + 1, by omega, by go_num, by rw [← HUV.out], HHB.out⟩
          case measure => simp [intOf]; omega
        · obtain rfl : j = X.size := by omega
          have hUT : U ++ ⟨#[46]⟩ = mk (labsT (L.take (k + 1))) := by
            rw [HU.out, List.take_of_length_le (by have := HXZ.out; omega), HST.out]
            show mk _ ++ mk [46] = _
            rw [mk_append]
          have HUT := Lib.hid hUT
          clear hUT
          go_wp2_with fail
          go_roundw
          case rel => exact ⟨k + 1, by omega, by go_num, by rw [← HUT.out], HB3.out⟩
          case measure => simp [intOf]; omega
    · obtain rfl : k = n := by omega
      have hall : labsT (L.take k) = labsT L := by rw [List.take_of_length_le (by have := HNL.out; omega)]
      rw [hall]
      go_wp2_with fail
      go_ret
      exact ⟨rfl, HB1.out.trans (hB.mono HB1.out.size)⟩

theorem RefText_any (S : ByteArray) (s : List UInt8) (w : World) (hS : S = mk s) :
    Calls Tryd.prog 10 #[.string S] w fun e w' => e = .returned (.string (mk (textN s))) ∧ Below w.heap.size w w' := by
  cases h : nameL s with
  | none =>
    rw [textN_none h]
    have HS := Lib.hid hS
    clear hS
    go_enter Tryd.func10, Tryd.ntmps10
    go_wp2_with fail
    refine (RefLabels_no S s _ HS.out h).mono ?_
    rintro e w1 ⟨v, rfl, hB1⟩
    go_wp2_with fail
    go_ret
    exact ⟨rfl, hB1⟩
  | some L =>
    rw [textN_some h]
    by_cases hL : L = []
    · subst hL
      rw [dotT_nil]
      have HS := Lib.hid hS
      clear hS
      go_enter Tryd.func10, Tryd.ntmps10
      go_wp2_with fail
      refine (RefLabels_yes S s [] _ HS.out h).mono ?_
      rintro e w1 ⟨v, rfl, hown, hB1⟩
      obtain ⟨A, c, rfl, _⟩ := Sees.own hown
      clear hown
      go_wp2_with fail
      go_ret
      exact ⟨rfl, hB1⟩
    · rw [dotT_cons hL]
      exact RefText_labels S s L w hS h hL
end Go.Proofs.YtpfbieehdkonhaaDoor
