/- Name. No statement of the seat is proved here. -/
import Derived.Test.YtdanncclnhkmgaaPakB
import Derived.Test.YtdanncclnhkmgaaNamI
namespace Go.Proofs.Ytdanncclnhkmgaa
open Go.RowKit Go.Maps

/-- a row that was made behind the packer stands while the packer turns -/
theorem Kp.row {b m : Nat} {v v' : Value} {w w' : World} {base e size n : Nat} {x : Value} {xs : List Value} (h : Kp b m v v' w w') (ho : w.ownsRow base e size x n xs) (hb : b < base) (hm : m < base) (hv : ∀ g, v.ownBlock = some g → g < base) : w'.ownsRow base e size x n xs := by
  refine ⟨ho.1, ?_⟩
  rcases ho.2 with h2 | ⟨g, cap, cur, hx, hg, hh, r⟩
  · exact .inl h2
  · have hl : g < w.heap.size := (Array.getElem?_eq_some_iff.1 hh).1
    refine .inr ⟨g, cap, cur, hx, hg, ?_, r⟩
    rw [h.block g hl (by omega) (by omega) (fun e => by have := hv g e; omega)]
    exact hh

theorem textL_at {w : World} {B : Nat} {A : Option Addr} {n : Nat} {L : List (List UInt8)} (h : Sees w B A n (textL L)) {k : Nat} (hk : k < n) (hx : k < L.length) :
    ∃ b off, A = some ⟨b, off, none⟩ ∧ b < B ∧ w.cell? ⟨b, off + k, none⟩ = some (.string (mk L[k])) := by
  obtain ⟨b, off, e, hb, hc⟩ := texts_at h hk
  refine ⟨b, off, e, hb, ?_⟩
  rw [hc]
  simp [List.getD, hx]
theorem name_few {s : List UInt8} {L : List (List UInt8)} (h : nameL s = some L) : L.length ≤ 255 := by
  obtain ⟨he, hg, hl⟩ := nameL_is h
  have := pairs_len s
  rw [show pairs s = prs L by rw [he, pairs_enc hg], (labV_prs L).2] at this
  omega
theorem learn_lt {K : Kn} {r : List UInt8} {p : Nat} (h : ∀ r t, K r = some t → t < 16384) : ∀ r' t, learnK K r p r' = some t → t < 16384 := by
  intro r' t ht
  rcases learn_is ht with h' | ⟨_, rfl, h'⟩
  · exact h _ _ h'
  · exact h'

section
variable {B b m c : Nat} {w w' : World} {v v' : Value} {l : List UInt8} {K : Kn}
theorem Name_no (h : Pk B w b m v l K c) (S : ByteArray) (s : List UInt8) (may : Bool) (hS : S = mk s) (hs : s.length ≤ 1073741824) (hN : nameL s = none) :
    Calls Try.prog 43 #[pkP b, .string S, .bool may] w fun e w' => e = .returned (.int .i64 2) ∧ Pk B w' b m v l K c ∧ Kp b m v v w w' := by
  have HH := Lib.hid h
  have HS := Lib.hid hS
  clear h hS
  go_enter Try.func43, Try.ntmps43
  go_wp2_with fail
  refine (Labels_no S s _ HS.out hs hN).mono ?_
  rintro e w1 ⟨rfl, hB1⟩
  go_wp2_with fail
  go_ret
  exact ⟨rfl, HH.out.same hB1, .of_below hB1⟩

def NameAt (B : Nat) (w1 : World) (b m : Nat) (v : Value) (l : List UInt8) (K : Kn) (L : List (List UInt8)) (may : Bool) (k : Nat) (wr : World) : Prop :=
  ∃ v' l' K', Pk B wr b m v' l' K' l'.length ∧ Kp b m v v' w1 wr ∧ putL may L l K = putL may (L.drop k) l' K' ∧ (∀ r t, K' r = some t → t < 16384) ∧ l'.length + (enc (L.drop k)).length ≤ l.length + (enc L).length

set_option maxHeartbeats 2000000 in
set_option maxRecDepth 20000 in
theorem Name_yes (h : Pk B w b m v l K l.length) (S : ByteArray) (s : List UInt8) (L : List (List UInt8)) (may : Bool) (hS : S = mk s) (hN : nameL s = some L) (hl : l.length ≤ 900000) (hBw : B ≤ w.heap.size) (hK : ∀ r t, K r = some t → t < 16384) :
    Calls Try.prog 43 #[pkP b, .string S, .bool may] w fun e w' => e = .returned (.int .i64 0) ∧
      ∃ v', Pk B w' b m v' (putL may L l K).1 (putL may L l K).2 (putL may L l K).1.length ∧ Kp b m v v' w w' := by
  obtain ⟨hse, hgood, hlen⟩ := nameL_is hN
  obtain ⟨n, hn⟩ : ∃ n, n = L.length := ⟨_, rfl⟩
  have hb0 := h.blt
  have hm0 := h.mlt
  have hv0 : ∀ g, v.ownBlock = some g → g < w.heap.size := fun g hg => (h.vlt g hg).2
  have HH := Lib.hid h
  have HS := Lib.hid hS
  have HN := Lib.hid hN
  have HSE := Lib.hid hse
  have HG := Lib.hid hgood
  have HK := Lib.hid hK
  have HV := Lib.hid hv0
  have HNL := Lib.hid hn
  have hsz : S.size ≤ 255 := by rw [hS, mk_size]; exact hlen
  have HSZ := Lib.hid hsz
  clear h hS hN hse hgood hK hv0 hsz
  go_enter Try.func43, Try.ntmps43
  go_wp2_with fail
  refine (Labels_yes S s L _ HS.out HN.out).mono ?_
  rw [← hn]
  rintro e w1 ⟨x, rfl, hown, hB1⟩
  obtain ⟨A, cA, rfl, hsee⟩ := Sees.own hown
  clear hsee
  have HO := Lib.hid hown
  have HB1 := Lib.hid hB1
  clear hown hB1 hn
  go_wp2_with fail
  refine (sclone_any S _ (by have := HSZ.out; omega)).mono ?_
  rintro e w2 ⟨rfl, hB2⟩
  have HP := Lib.hid ((HH.out.same HB1.out).same hB2)
  have HO2 := Lib.hid (own_below HO.out hB2)
  have HK2 := Lib.hid ((Kp.of_below (b := b) (m := m) (v := v) HB1.out).to hB2)
  have hBw2 : B ≤ w2.heap.size := Nat.le_trans hBw HK2.out.size
  clear hB2
  have hn255 : n ≤ 255 := by rw [HNL.out]; exact name_few HN.out
  go_wp2_with fail
  go_loopw [9, 27] (fun r i wr => ∃ k : Nat, k ≤ n ∧ i = .int .i64 k ∧ r = .string (mk (enc (L.drop k))) ∧ NameAt B w2 b m v l K L may k wr) (fun _ i _ => n - (intOf i).toNat)
  case atStart => exact ⟨0, Nat.zero_le _, rfl, by rw [HS.out, HSE.out]; rfl, v, l, K, HP.out, .refl _ _ _ _, rfl, HK.out, by simp⟩
  case round =>
    obtain ⟨k, hk, rfl, rfl, v', l', K', hpk, hkp, hput, hlt, hroom⟩ := hrel
    have HP' := Lib.hid hpk
    have HKP' := Lib.hid hkp
    have HPUT := Lib.hid hput
    have HLT := Lib.hid hlt
    have hBwr : B ≤ wr.heap.size := Nat.le_trans hBw2 hkp.size
    clear hpk hkp hput hlt
    by_cases hkn : k < n
    · have hkL : k < L.length := by have := HNL.out; omega
      have g1 : (k : Int) < (n : Int) := by omega
      obtain ⟨x, hx⟩ : ∃ x, x = L[k] := ⟨_, rfl⟩
      have hdrop : L.drop k = x :: L.drop (k + 1) := by rw [hx]; exact List.drop_eq_getElem_cons hkL
      have hgx := HG.out x (by rw [hx]; exact List.getElem_mem hkL)
      have hel := enc_len_cons x (L.drop (k + 1))
      have hcell : ∃ b2 off2, A = some ⟨b2, off2, none⟩ ∧ wr.cell? ⟨b2, off2 + k, none⟩ = some (.string (mk x)) := by
        have hrow := HKP'.out.row HO2.out hb0 hm0 HV.out
        obtain ⟨A', c', e, hsee⟩ := Sees.own hrow
        injection e with e1 e2 e3
        subst e1
        obtain ⟨b2, off2, e, _, hc⟩ := textL_at hsee hkn hkL
        exact ⟨b2, off2, e, by rw [hc, hx]⟩
      obtain ⟨b2, off2, rfl, hc⟩ := hcell
      have hel2 : (enc (x :: L.drop (k + 1))).length ≤ 255 := by
        have e1 : (enc L).length = s.length := by rw [HSE.out]
        have e2 : enc L = labs (L.take k) ++ enc (L.drop k) := by
          unfold enc; rw [← List.append_assoc, ← labs_append, List.take_append_drop]
        rw [e2, List.length_append, hdrop] at e1
        omega
      rw [hdrop] at hroom
      obtain ⟨R, hR⟩ : ∃ R, R = enc (x :: L.drop (k + 1)) := ⟨_, rfl⟩
      have hRS : mk (enc (L.drop k)) = mk R := by rw [hdrop, hR]
      rw [hRS]
      obtain ⟨T, hT⟩ : ∃ T, T = mk R := ⟨_, rfl⟩
      rw [← hT]
      have HT := Lib.hid hT
      have HR := Lib.hid hR
      have HD := Lib.hid hdrop
      have hTz : T.size = x.length + 1 + (enc (L.drop (k + 1))).length := by rw [hT, mk_size, hR, hel]
      have hRl : R.length ≤ 255 := by rw [hR]; exact hel2
      have hll : l'.length ≤ 901000 := by
        have : (enc L).length ≤ 255 := by rw [← HSE.out]; exact hlen
        omega
      have hlook := pk_look HP'.out hT (by omega)
      have c2 := HP'.out.cell2
      clear hx hdrop hT hR hRS
      cases hkk : knownK may K' R with
      | some t =>
        obtain ⟨rfl, hkr⟩ := known_some hkk
        rw [hkr] at hlook
        have hpt : putL true (L.drop k) l' K' = (l' ++ ptrB t, K') := by
          rw [HD.out, put_ptr (t := t)]
          show K' _ = _
          rw [← HR.out]; exact hkr
        have HPT := Lib.hid (HPUT.out.trans hpt)
        have ht := HLT.out _ _ hkr
        clear hpt hkk hkr
        go_wp2_with fail
        refine (point_any HP'.out t ht (by omega) hBwr).mono ?_
        rintro e w3 ⟨rfl, v3, h3, h4⟩
        go_wp2_with fail
        go_ret
        refine ⟨rfl, v3, ?_, HK2.out.trans (HKP'.out.trans h4)⟩
        rw [HPT.out]
        exact h3.more (by simp)
      | none =>
        have hpo : putL may (L.drop k) l' K' = putL may (L.drop (k + 1)) (l' ++ lab x) (learnK K' R l'.length) := by
          rw [HD.out, put_on (by rw [← HR.out]; exact hkk), ← HR.out]
        have HPO := Lib.hid (HPUT.out.trans hpo)
        have hkr : (K' R).isSome = false ∨ ((K' R).isSome = true ∧ may = false) := by
          unfold knownK at hkk
          cases may
          · cases (K' R).isSome <;> simp
          · rw [if_pos rfl] at hkk; rw [hkk]; exact .inl rfl
        have g2 : ((x.length : Nat) : Int) + 1 ≤ (T.size : Int) := by omega
        have g3 : (1 : Int) + (x.length : Int) ≤ (T.size : Int) := by omega
        have hms := mk_size x
        have hRx : R = lab x ++ enc (L.drop (k + 1)) := by rw [HR.out, enc_cons]
        have hcut1 : (T.extract 0 (1 + x.length)).data.toList = lab x := by
          rw [HT.out, mk_extract, hRx, List.take_left' (by rw [lab_len]; omega), List.drop_zero]; rfl
        have hcut1s : (T.extract 0 (1 + x.length)).size = x.length + 1 := by
          rw [HT.out, mk_extract, mk_size, hRx, List.take_left' (by rw [lab_len]; omega), List.drop_zero, lab_len]
        have hcut2 : T.extract (1 + x.length) T.size = mk (enc (L.drop (k + 1))) := by
          rw [HT.out, mk_extract, mk_size, List.take_length, hRx, List.drop_left' (by rw [lab_len]; omega)]
        have HC1 := Lib.hid hcut1
        have HC1s := Lib.hid hcut1s
        have HC2 := Lib.hid hcut2
        clear hpo hkk hRx hcut1 hcut1s hcut2
        rcases hkr with hkr | ⟨hkr, rfl⟩
        all_goals (
          rw [hkr] at hlook
          go_wp2_with fail
          refine (learn_any HP'.out T R HT.out (by omega) (by omega)).mono ?_
          rintro e w3 ⟨rfl, h3, h4⟩
          have H3 := Lib.hid h3
          have H4 := Lib.hid h4
          clear h3 h4
          go_wp2_with fail
          refine (Raw_any H3.out _ (by rw [HC1s.out]; omega) (Nat.le_trans hBwr H4.out.size)).mono ?_
          rw [HC1.out]
          rintro e w4 ⟨rfl, v4, h5, h6⟩
          have H5 := Lib.hid (h5.more (c' := (l' ++ lab x).length) (by rw [List.length_append, lab_len]; omega))
          have H6 := Lib.hid (HKP'.out.trans (H4.out.trans h6))
          clear h5 h6
          go_wp2_with fail
          go_roundw
          case rel =>
            refine ⟨k + 1, by omega, by go_num, by rw [← hTz, HC2.out], v4, _, _, H5.out, H6.out, HPO.out, learn_lt HLT.out, ?_⟩
            rw [List.length_append, lab_len]; omega
          case measure => simp [intOf]; omega)
    · obtain rfl : k = n := by omega
      have hnil : L.drop k = [] := List.drop_eq_nil_of_le (by rw [HNL.out]; exact Nat.le_refl _)
      have hpt : putL may (L.drop k) l' K' = (l' ++ [0], K') := by rw [hnil]; rfl
      have HPT := Lib.hid (HPUT.out.trans hpt)
      have hll : l'.length ≤ 901000 := by
        have : (enc L).length ≤ 255 := by rw [← HSE.out]; exact hlen
        omega
      have hz : (⟨#[0]⟩ : ByteArray).size = 1 := rfl
      clear hnil hpt
      go_wp2_with fail
      refine (Raw_any HP'.out _ (by show l'.length + 1 ≤ 1000000000; omega) hBwr).mono ?_
      rintro e w3 ⟨rfl, v3, h3, h4⟩
      go_wp2_with fail
      go_ret
      refine ⟨rfl, v3, ?_, HK2.out.trans (HKP'.out.trans h4)⟩
      rw [HPT.out]
      exact h3.more (by simp)
end
end Go.Proofs.Ytdanncclnhkmgaa
