/- The reference's Read; the laws DottedReads and DottedBack, walked. -/
import Derived.Test.YtpfbieehdkonhaaDoorDotG
import Derived.Test.YtpfbieehdkonhaaDoorDotF
import Derived.Test.YtpfbieehdkonhaaDoorDotD
namespace Go.Proofs.YtpfbieehdkonhaaDoor
open Go.RowKit

set_option maxHeartbeats 4000000 in
theorem RefRead_any (S : ByteArray) (s : List UInt8) (w : World) (hS : S = mk s) (hb : s.length ≤ 1200) :
    Calls Tryd.prog 12 #[.string S] w fun e w' => e = .returned (.tuple #[.string (mk (readN s).1), .int .i64 (readN s).2]) ∧ Below w.heap.size w w' := by
  have hsz : S.size = s.length := by rw [hS, mk_size]
  have hS1 : S.size ≤ 1200 := by omega
  have HS := Lib.hid hS
  have HSZ := Lib.hid hsz
  by_cases hr : s = [46]
  · have g1 : (S.toList == [46]) = true := by rw [hS, mk_is, hr]; rfl
    have hrd : readN s = ([0], 0) := by unfold readN readL; rw [if_pos hr]; rfl
    rw [hrd]
    clear hS hr hrd hsz
    go_enter Tryd.func12, Tryd.ntmps12
    go_wp2_with fail
    go_ret2
    exact ⟨rfl, Below.refl _ _⟩
  · have g1 : (S.toList == [46]) = false := by rw [hS, mk_is]; simpa using hr
    have hrd : readL s = rd [] [] s := by unfold readL; rw [if_neg hr]
    obtain ⟨O, hO⟩ : ∃ O, O = readN s := ⟨_, rfl⟩
    rw [← hO]
    have HR := Lib.hid hO
    have HRL := Lib.hid hrd
    clear hS hr hrd hsz hO
    go_enter Tryd.func12, Tryd.ntmps12
    go_wp2_with fail
    go_loopw [4, 5, 6] (fun v u j wr => ∃ (L : List (List UInt8)) (n : Nat) (lab : List UInt8) (i : Nat), n = L.length ∧ j = .int .i64 (i : Nat) ∧ i ≤ S.size ∧ u = .string (mk lab) ∧ wr.ownsRow w.heap.size 9 1 v n (textL L) ∧ rd [] [] s = rd L lab (s.drop i) ∧ n ≤ i ∧ lab.length ≤ i ∧ Below w.heap.size w wr) (fun _ _ j _ => S.size - (intOf j).toNat)
    case atStart => exact ⟨[], 0, [], 0, rfl, rfl, Nat.zero_le _, rfl, World.ownsRow_nil _ _ _ _, rfl, Nat.le_refl _, Nat.le_refl _, Below.refl _ _⟩
    case round =>
      obtain ⟨L, n, lab, i, hn, rfl, hi, rfl, hown, hrd, hni, hlab, hB⟩ := hrel
      obtain ⟨Y, hY⟩ : ∃ Y, Y = mk lab := ⟨_, rfl⟩
      rw [← hY]
      have hYz : Y.size ≤ 1200 := by rw [hY, mk_size]; omega
      have HY := Lib.hid hY
      have HN := Lib.hid hn
      have HO := Lib.hid hown
      have HRD := Lib.hid hrd
      have HB := Lib.hid hB
      clear hY hn hown hrd hB
      by_cases hlt : i < S.size
      · have g2 : (i : Int) < (S.size : Int) := by omega
        have his : i < s.length := by have := HSZ.out; omega
        have hdrop : s.drop i = s[i] :: s.drop (i + 1) := List.drop_eq_getElem_cons his
        obtain ⟨c, hc⟩ : ∃ c, c = s[i] := ⟨_, rfl⟩
        rw [← hc] at hdrop
        obtain ⟨d, hd⟩ : ∃ d, d = c.toNat := ⟨_, rfl⟩
        have hcx : (S[i]'hlt).toNat = d := by rw [mk_get HS.out hlt his, hd, hc]
        have HDR := Lib.hid hdrop
        have HD := Lib.hid hd
        clear hc hdrop hd
        by_cases h46 : d = 46
        · have g3 : ((d : Int) == 46) = true := by rw [beq_iff_eq]; omega
          have h46c : c.toNat = 46 := by rw [← HD.out]; exact h46
          by_cases hl0 : lab = []
          · have g4 : Y.toList.isEmpty = true := by rw [HY.out, mk_isEmpty, hl0]; rfl
            have hno : rd [] [] s = none := by rw [HRD.out, HDR.out, rd_dot h46c, if_pos hl0]
            have hO2 : O = ([], 2) := by rw [HR.out]; unfold readN; rw [HRL.out, hno]
            subst hO2
            clear h46 h46c hl0 hno
            go_wp2_with fail
            go_ret2
            exact ⟨rfl, HB.out⟩
          · have g4 : Y.toList.isEmpty = false := by
              rw [HY.out, mk_isEmpty]
              cases lab with
              | nil => exact absurd rfl hl0
              | cons _ _ => rfl
            have HST := Lib.hid (show rd [] [] s = rd (L ++ [lab]) [] (s.drop (i + 1)) by rw [HRD.out, HDR.out, rd_dot h46c, if_neg hl0])
            have H63 : Hid (n + 1 ≤ maxLen) := Lib.hid (by unfold maxLen; omega)
            have H47 : Hid ((n + 1) * 16 ≤ 140737488355328) := Lib.hid (by omega)
            obtain ⟨i0, hi0, hz0, hz1, hz2⟩ := info_parts text_info
            clear h46 h46c hl0
            go_wp2_with (at_builtin; refine wpList_append_own _ rfl _ _ 28 rfl w.heap.size 9 i0 (.string ⟨#[]⟩) 1 16 Tryd.underlying28 hi0 hz0 hz1 hz2 rfl (by decide) _ _ _ rfl (HO.out.alloc _) ⟨wr.heap.size, 0, none⟩ 1 1 [.string Y] rfl rfl (news1 _ _ _) (one1 _ rfl) H63.out H47.out (by have := HB.out.size; simp; omega) ?_; intro v2 w2 hown2 hgrow _)
            have hown3 : w2.ownsRow w.heap.size 9 1 v2 (n + 1) (textL (L ++ [lab])) := by
              rw [textL_snoc, ← HY.out]; simpa using hown2
            have HO3 := Lib.hid hown3
            have HB2 := Lib.hid ((HB.out.alloc HB.out.size _).grown hgrow (by have := HB.out.size; simp; omega) (fun j hj => (HO.out.lt j hj).1))
            clear hown2 hown3 hgrow
            go_wp2_with fail
            go_roundw
            case rel => exact ⟨L ++ [lab], n + 1, [], i + 1, by simp [HN.out], by go_num, by omega, rfl, HO3.out, HST.out, by omega, by simp, HB2.out⟩
            case measure => simp [intOf]; omega
        · have g3 : ((d : Int) == 46) = false := by rw [beq_eq_false_iff_ne]; omega
          have hne : c.toNat ≠ 46 := by rw [← HD.out]; exact h46
          clear h46
          go_wp2_with fail
          refine (one_any S s i _ HS.out hlt (by omega)).mono ?_
          rintro e w1 ⟨hE, rfl⟩
          rcases hE with ⟨hk, rfl⟩ | ⟨b, t, m, hk, hm, rfl, hdm, him⟩
          · rw [HDR.out] at hk
            have hno : rd [] [] s = none := by rw [HRD.out, HDR.out, rd_bad hne hk]
            have hO2 : O = ([], 2) := by rw [HR.out]; unfold readN; rw [HRL.out, hno]
            subst hO2
            clear hk hne hno
            go_wp2_with fail
            go_ret2
            exact ⟨rfl, HB.out⟩
          · rw [HDR.out] at hk
            have HST := Lib.hid (show rd [] [] s = rd L (lab ++ [b]) (s.drop (i + m)) by rw [HRD.out, HDR.out, rd_byte hne hk, hdm])
            have gm : ((m : Int) == 0) = false := by rw [beq_eq_false_iff_ne]; omega
            have hb256 := b.toNat_lt
            have hcv := one_new (b.toNat : Nat) wr (by omega) (by omega)
            rw [of_toNat (c := b) rfl] at hcv
            have hYb : Y ++ mk [b] = mk (lab ++ [b]) := by rw [HY.out, mk_append]
            obtain ⟨V, hV⟩ : ∃ V, V = mk [b] := ⟨_, rfl⟩
            have hVz : V.size = 1 := by rw [hV]; rfl
            rw [← hV] at hcv hYb
            have HYB := Lib.hid hYb
            have him2 : i + m ≤ S.size := by have := HSZ.out; omega
            have HB2 := Lib.hid (HB.out.alloc HB.out.size (.cells #[.int .u8 (b.toNat : Nat)] 5))
            have HO2 := Lib.hid (HO.out.alloc (.cells #[.int .u8 (b.toNat : Nat)] 5))
            clear hk hne hYb hV hdm him
            go_wp2_with fail
            go_roundw
            case rel => exact ⟨L, n, lab ++ [b], i + m, HN.out, by go_num, him2, by rw [← HYB.out], HO2.out, HST.out, by omega, by simp; omega, HB2.out⟩
            case measure => simp [intOf]; omega
      · obtain rfl : i = S.size := by omega
        have hdrop : s.drop S.size = [] := List.drop_of_length_le (by have := HSZ.out; omega)
        rw [hdrop] at HRD
        have g2 : ¬ ((S.size : Nat) : Int) < (S.size : Int) := by omega
        obtain ⟨A, cp, rfl, hs⟩ := Sees.own HO.out
        clear hdrop
        by_cases hl0 : lab = []
        · have g4 : Y.toList.isEmpty = true := by rw [HY.out, mk_isEmpty, hl0]; rfl
          by_cases hn0 : n = 0
          · have g5 : ((n : Int) == 0) = true := by rw [beq_iff_eq]; omega
            have hL : L = [] := List.eq_nil_of_length_eq_zero (by rw [← HN.out]; exact hn0)
            have hno : rd [] [] s = none := by rw [HRD.out, rd_nil, if_pos (.inr hL)]
            have hO2 : O = ([], 2) := by rw [HR.out]; unfold readN; rw [HRL.out, hno]
            subst hO2
            clear hl0 hn0 hL hno hs
            go_wp2_with fail
            go_ret2
            exact ⟨rfl, HB.out⟩
          · have g5 : ((n : Int) == 0) = false := by rw [beq_eq_false_iff_ne]; omega
            have hL : ¬ L = [] := by intro e; rw [e] at HN; exact hn0 HN.out
            have hyes : readL s = some L := by rw [HRL.out, HRD.out, rd_nil, if_neg (by rintro (h | h); exact h hl0; exact hL h)]
            have hO2 : O = ofN L := by rw [HR.out]; unfold readN; rw [hyes]
            obtain ⟨h1, h2⟩ := readL_small hyes
            have hx : ∀ y ∈ L, y.length ≤ 100000 := fun y hy => by have := h2 y hy; omega
            have hn : n ≤ 1000 := by have := HN.out; omega
            have HX := Lib.hid hx
            have HO2 := Lib.hid hO2
            clear hl0 hn0 hL hyes hO2 h1 h2 hx
            go_wp2_with fail
            refine (RefOf_any A n cp L _ hs hn HX.out).mono ?_
            rw [← HO2.out]
            rintro e w2 ⟨rfl, hB2⟩
            go_wp2_with fail
            go_ret2
            exact ⟨rfl, HB.out.trans (hB2.mono HB.out.size)⟩
        · have g4 : Y.toList.isEmpty = false := by
            rw [HY.out, mk_isEmpty]
            cases lab with
            | nil => exact absurd rfl hl0
            | cons _ _ => rfl
          have hno : rd [] [] s = none := by rw [HRD.out, rd_nil, if_pos (.inl hl0)]
          have hO2 : O = ([], 2) := by rw [HR.out]; unfold readN; rw [HRL.out, hno]
          subst hO2
          clear hl0 hno hs
          go_wp2_with fail
          go_ret2
          exact ⟨rfl, HB.out⟩
end Go.Proofs.YtpfbieehdkonhaaDoor
