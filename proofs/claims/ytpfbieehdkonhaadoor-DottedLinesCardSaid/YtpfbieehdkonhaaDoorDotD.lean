/- awake; the laws DottedTexts and DottedJoins, walked. -/
import Derived.Test.YtpfbieehdkonhaaDoorDotC
namespace Go.Proofs.YtpfbieehdkonhaaDoor
open Go.RowKit

def www : List UInt8 := [3, 119, 119, 119, 0]
theorem www_name : nameL www = some [[119, 119, 119]] := by
  have := nameL_enc (L := [[119, 119, 119]]) (fun x hx => by rw [List.mem_singleton] at hx; subst hx; exact ⟨by simp, by simp⟩) (by decide)
  exact this
theorem www_text : textN www = [119, 119, 119, 46] := by rw [textN_some www_name]; rfl
theorem awake_any (w : World) (hw : Wts w) : Calls Tryd.prog 8 #[] w fun e w' => e = .returned (.bool true) ∧ Below w.heap.size w w' := by
  obtain ⟨Z, hZ⟩ : ∃ Z, Z = mk (textN www) := ⟨_, rfl⟩
  have hz : (Z.toList == [119, 119, 119, 46]) = true := by rw [hZ, mk_is, www_text]; rfl
  have HZ := Lib.hid hZ
  have HW := Lib.hid hw
  clear hZ hw
  go_enter Tryd.func8, Tryd.ntmps8
  go_wp2_with fail
  refine (Text_any ⟨#[3, 119, 119, 119, 0]⟩ www _ rfl (by decide) HW.out).mono ?_
  rw [← HZ.out]
  rintro e w1 ⟨rfl, hB1⟩
  go_wp2_with fail
  go_ret
  exact ⟨rfl, hB1⟩

/-! ### DottedTexts -/
theorem texts_far (S : ByteArray) (w : World) (hw : Wts w) (h : 400 < S.size) :
    Calls Tryd.prog 3 #[.string S] w fun e w' => e = .returned (.bool true) ∧ Below w.heap.size w w' := by
  have g1 : (400 : Int) < (S.size : Int) := by omega
  have HW := Lib.hid hw
  clear h hw
  go_enter Tryd.func3, Tryd.ntmps3
  go_wp2_with fail
  refine (awake_any _ HW.out).mono ?_
  rintro e w1 ⟨rfl, hB1⟩
  have HW1 := Lib.hid (HW.out.beyond hB1)
  go_wp2_with fail
  refine (awake_any _ HW1.out).mono ?_
  rintro e w2 ⟨rfl, hB2⟩
  go_wp2_with fail
  go_ret
  exact ⟨rfl, hB1.trans (hB2.mono hB1.size)⟩
theorem texts_near (S : ByteArray) (s : List UInt8) (w : World) (HS : Hid (S = mk s)) (hw : Wts w) (h : ¬ 400 < S.size) :
    Calls Tryd.prog 3 #[.string S] w fun e w' => e = .returned (.bool true) ∧ Below w.heap.size w w' := by
  have g1 : ¬ (400 : Int) < (S.size : Int) := by omega
  have hl : s.length ≤ 1073741824 := by have := congrArg ByteArray.size HS.out; rw [mk_size] at this; omega
  obtain ⟨Z, hZ⟩ : ∃ Z, Z = mk (textN s) := ⟨_, rfl⟩
  have HZ := Lib.hid hZ
  have HW := Lib.hid hw
  clear h hw hZ
  go_enter Tryd.func3, Tryd.ntmps3
  go_wp2_with fail
  refine (awake_any _ HW.out).mono ?_
  rintro e w1 ⟨rfl, hB1⟩
  have HW1 := Lib.hid (HW.out.beyond hB1)
  go_wp2_with fail
  refine (Text_any S s _ HS.out hl HW1.out).mono ?_
  rw [← HZ.out]
  rintro e w2 ⟨rfl, hB2⟩
  have GB2 := hB1.trans (hB2.mono hB1.size)
  go_wp2_with fail
  refine (RefText_any S s _ HS.out).mono ?_
  rw [← HZ.out]
  rintro e w3 ⟨rfl, hB3⟩
  have GB3 := GB2.trans (hB3.mono GB2.size)
  go_wp2_with fail
  go_ret
  exact ⟨rfl, GB3⟩
theorem DottedTexts_walk (S : ByteArray) (w : World) (_h : S.size ≤ maxLen) (hw : Wts w) :
    Calls Tryd.prog 3 #[.string S] w fun e w' => e = .returned (.bool true) ∧ Below w.heap.size w w' := by
  obtain ⟨s, hS⟩ := mk_of S
  by_cases h1 : 400 < S.size
  · exact texts_far S w hw h1
  · exact texts_near S s w hS hw h1

/-! ### DottedJoins -/
/-- an argument for which the law says nothing -/
theorem joins_out (X S : ByteArray) (s : List UInt8) (w : World) (HS : Hid (S = mk s)) (hw : Wts w) (h : nameL s = none ∨ X.size = 0 ∨ 63 < X.size) :
    Calls Tryd.prog 7 #[.string X, .string S] w fun e w' => e = .returned (.bool true) ∧ Below w.heap.size w w' := by
  have HW := Lib.hid hw
  have H := Lib.hid h
  obtain ⟨r, hr⟩ : ∃ r, r = (nameL s).isSome := ⟨_, rfl⟩
  have HR := Lib.hid hr
  clear h hw hr
  go_enter Tryd.func7, Tryd.ntmps7
  go_wp2_with fail
  refine (awake_any _ HW.out).mono ?_
  rintro e w1 ⟨rfl, hB1⟩
  have HW1 := Lib.hid (HW.out.beyond hB1)
  go_wp2_with fail
  refine (RefRight_any S s _ HS.out).mono ?_
  rw [← HR.out]
  rintro e w2 ⟨rfl, hB2⟩
  have HW2 := Lib.hid (HW1.out.beyond hB2)
  have GB2 := hB1.trans (hB2.mono hB1.size)
  cases r with
  | false =>
    go_wp2_with fail
    refine (awake_any _ HW2.out).mono ?_
    rintro e w3 ⟨rfl, hB3⟩
    go_wp2_with fail
    go_ret
    exact ⟨rfl, GB2.trans (hB3.mono GB2.size)⟩
  | true =>
    have h : X.size = 0 ∨ 63 < X.size := by
      rcases H.out with h | h
      · have := HR.out; rw [h] at this; cases this
      · exact h
    by_cases h0 : X.size = 0
    · have g0 : ((X.size : Int) == 0) = true := by rw [beq_iff_eq]; omega
      clear h
      go_wp2_with fail
      refine (awake_any _ HW2.out).mono ?_
      rintro e w3 ⟨rfl, hB3⟩
      go_wp2_with fail
      go_ret
      exact ⟨rfl, GB2.trans (hB3.mono GB2.size)⟩
    · have g0 : ((X.size : Int) == 0) = false := by rw [beq_eq_false_iff_ne]; omega
      have g1 : (63 : Int) < (X.size : Int) := by omega
      clear h
      go_wp2_with fail
      refine (awake_any _ HW2.out).mono ?_
      rintro e w3 ⟨rfl, hB3⟩
      go_wp2_with fail
      go_ret
      exact ⟨rfl, GB2.trans (hB3.mono GB2.size)⟩

theorem good_one {x : List UInt8} (h0 : x ≠ []) (h1 : x.length ≤ 63) : Good [x] := by
  intro y hy; rw [List.mem_singleton] at hy; subst hy; exact ⟨h0, h1⟩
theorem enc_one_len {x : List UInt8} (h1 : x.length ≤ 63) : (enc [x]).length ≤ 255 := by rw [enc_cons, enc_nil]; simp [lab_len]; omega
theorem text_one {x : List UInt8} (h0 : x ≠ []) (h1 : x.length ≤ 63) : textN (enc [x]) = labT x := by
  rw [textN_some (nameL_enc (good_one h0 h1) (enc_one_len h1)), dotT_cons (by simp), labsT_cons, labsT_nil, List.append_nil]
/-- the text of a label before a name -/
theorem joins_math {x : List UInt8} {s : List UInt8} {L : List (List UInt8)} (h0 : x ≠ []) (h1 : x.length ≤ 63) (hN : nameL s = some L) :
    ofN [x] = (enc [x], 0) ∧ ((ofN (x :: L)).2 = 3 ∨ ((ofN (x :: L)).2 = 0 ∧ ((s == [0]) = true → textN (ofN (x :: L)).1 = textN (enc [x])) ∧ ((s == [0]) = false → textN (ofN (x :: L)).1 = textN (enc [x]) ++ textN s))) := by
  obtain ⟨he, hg, hl⟩ := nameL_is hN
  refine ⟨ofN_good (good_one h0 h1) (enc_one_len h1), ?_⟩
  have hG : Good (x :: L) := by
    intro y hy
    rcases List.mem_cons.1 hy with h | h
    · subst h; exact ⟨h0, h1⟩
    · exact hg y h
  by_cases hlen : (enc (x :: L)).length ≤ 255
  · right
    rw [ofN_good hG hlen]
    have ht : textN (enc (x :: L)) = labT x ++ labsT L := by
      rw [textN_some (nameL_enc hG hlen), dotT_cons (by simp), labsT_cons]
    refine ⟨rfl, fun h => ?_, fun h => ?_⟩
    · have hs : s = [0] := by simpa using h
      have hL : L = [] := by
        have : nameL [0] = some [] := nameL_enc (L := []) (fun y hy => by cases hy) (by decide)
        rw [← hs, hN] at this
        injection this
      subst hL
      rw [ht]
    · have hL : L ≠ [] := by
        intro hL; subst hL
        rw [he] at h; exact absurd h (by decide)
      rw [ht, text_one h0 h1, textN_some hN, dotT_cons hL]
  · left
    unfold ofN
    rw [if_neg (fun hm => (hG _ hm).1 rfl), if_pos (.inr (by omega))]

set_option maxHeartbeats 2000000 in
theorem joins_in (X S : ByteArray) (x s : List UInt8) (L : List (List UInt8)) (w : World) (HX : Hid (X = mk x)) (HS : Hid (S = mk s)) (hw : Wts w) (hN : nameL s = some L) (h0 : ¬ X.size = 0) (h1 : ¬ 63 < X.size) :
    Calls Tryd.prog 7 #[.string X, .string S] w fun e w' => e = .returned (.bool true) ∧ Below w.heap.size w w' := by
  have hXs : X.size = x.length := by rw [HX.out, mk_size]
  have hx0 : x ≠ [] := by intro e; rw [e] at hXs; exact h0 hXs
  have hx1 : x.length ≤ 63 := by omega
  have g0 : ((X.size : Int) == 0) = false := by rw [beq_eq_false_iff_ne]; omega
  have g1 : ¬ (63 : Int) < (X.size : Int) := by omega
  obtain ⟨m1, m2⟩ := joins_math hx0 hx1 hN
  have hg := (nameL_is hN).2.1
  have hs : s.length ≤ 1073741824 := by have := (nameL_is hN).2.2; omega
  have hLn := name_few hN
  have hLx : ∀ y ∈ x :: L, y.length ≤ 100000 := by
    intro y hy
    rcases List.mem_cons.1 hy with hy | hy
    · subst hy; omega
    · have := (hg y hy).2; omega
  have hL1 : ∀ y ∈ [x], y.length ≤ 100000 := by intro y hy; rw [List.mem_singleton] at hy; subst hy; omega
  have hr : (nameL s).isSome = true := by rw [hN]; rfl
  obtain ⟨q, hq⟩ : ∃ q, q = (s == [0]) := ⟨_, rfl⟩
  have hroot : (S.toList == [0]) = q := by rw [HS.out, mk_is, hq]
  have ow : (enc [x]).length ≤ 1073741824 := by have := enc_one_len hx1; omega
  obtain ⟨E, hE⟩ : ∃ E, E = enc [x] := ⟨_, rfl⟩
  obtain ⟨O, hO⟩ : ∃ O, O = ofN (x :: L) := ⟨_, rfl⟩
  rw [← hE] at m1 m2 ow
  rw [← hO, ← hq] at m2
  have hO1 : O.1.length ≤ 1073741824 := by
    rw [hO]; unfold ofN
    split
    · simp
    · split
      · simp
      · rename_i h; have : ¬ 255 < (enc (x :: L)).length := fun h' => h (.inr h'); show (enc (x :: L)).length ≤ _; omega
  have HN := Lib.hid hN
  have HW := Lib.hid hw
  have HR := Lib.hid hr
  have HLX := Lib.hid hLx
  have HL1 := Lib.hid hL1
  have M1 := Lib.hid m1
  have M2 := Lib.hid m2
  have HO := Lib.hid hO
  obtain ⟨O1, o⟩ := O
  obtain ⟨P, hP⟩ : ∃ P, P = mk O1 := ⟨_, rfl⟩
  obtain ⟨Q, hQ⟩ : ∃ Q, Q = mk E := ⟨_, rfl⟩
  obtain ⟨TP, hTP⟩ : ∃ T, T = mk (textN O1) := ⟨_, rfl⟩
  obtain ⟨TQ, hTQ⟩ : ∃ T, T = mk (textN E) := ⟨_, rfl⟩
  obtain ⟨TS, hTS⟩ : ∃ T, T = mk (textN s) := ⟨_, rfl⟩
  have zq : TQ.size ≤ 1020 := by rw [hTQ, mk_size]; exact textN_len _
  have zs : TS.size ≤ 1020 := by rw [hTS, mk_size]; exact textN_len _
  have HP := Lib.hid hP
  have HQ := Lib.hid hQ
  have HTP := Lib.hid hTP
  have HTQ := Lib.hid hTQ
  have HTS := Lib.hid hTS
  clear hN hw hr hLx hL1 m1 m2 hO hq hg hx0 hx1 h0 h1 hXs hE hP hQ hTP hTQ hTS
  go_enter Tryd.func7, Tryd.ntmps7
  go_wp2_with fail
  refine (awake_any _ HW.out).mono ?_
  rintro e w1 ⟨rfl, hB1⟩
  have HW1 := Lib.hid (HW.out.beyond hB1)
  go_wp2_with fail
  refine (RefRight_any S s _ HS.out).mono ?_
  rw [HR.out]
  rintro e w2 ⟨rfl, hB2⟩
  have HW2 := Lib.hid (HW1.out.beyond hB2)
  have GB2 := hB1.trans (hB2.mono hB1.size)
  clear hB1 hB2
  go_wp2_with fail
  refine (RefLabels_yes S s L _ HS.out HN.out).mono ?_
  rintro e w5 ⟨v, rfl, hown, hB5⟩
  have HW5 := Lib.hid (HW2.out.beyond hB5)
  obtain ⟨A, c, rfl, hs⟩ := Sees.own hown
  have GB5 := GB2.trans (hB5.mono GB2.size)
  clear GB2 hB5
  have HSEE := Lib.hid (hs.below ((Below.refl w5.heap.size w5).alloc (Nat.le_refl _) (.cells #[.string X] 9)))
  clear hown hs
  go_wp2_with (at_builtin; refine append_seen rfl _ _ rfl w5.heap.size (.slice (some ⟨w5.heap.size, 0, none⟩) 1 1) 1 [.string X] rfl (own_one w5 _ _ (Nat.le_refl _)) (by simp) _ A L.length c (L.map mk) rfl HSEE.out (1 + L.length) rfl (textL (x :: L)) (by rw [HX.out]; rfl) (by omega) (by simp) ?_; intro v1 w2 hown2 hgrow2 hne2; have hB2 : Below w5.heap.size w5 w2 := ((Below.refl w5.heap.size w5).alloc (Nat.le_refl _) _).grown hgrow2 (by simp) (fun z hz => by simp [Value.ownBlock] at hz; omega); obtain ⟨A2, c2, rfl, hs2⟩ := Sees.own hown2; have HB2 := Lib.hid hB2; clear hown2 hgrow2 hne2 hB2)
  refine (RefOf_any A2 (1 + L.length) c2 (x :: L) _ hs2 (by omega) HLX.out).mono ?_
  rw [← HO.out]
  simp only
  rw [← HP.out]
  rintro e w3 ⟨rfl, hB3⟩
  have GB6 := GB5.trans (HB2.out.mono GB5.size)
  have GB7 := GB6.trans (hB3.mono GB6.size)
  have HW7 := Lib.hid ((HW5.out.beyond HB2.out).beyond hB3)
  clear GB5 GB6 hB3 hs2
  have hone := Sees.own (own_one w3 w3.heap.size (.string X) (Nat.le_refl _))
  obtain ⟨A4, c4, e4, hs4⟩ := hone
  injection e4 with e4 _ e5
  subst e4; subst e5
  have hs5 : Sees (w3.alloc (.cells #[.string X] 9)) (w3.alloc (.cells #[.string X] 9)).heap.size (some ⟨w3.heap.size, 0, none⟩) 1 (textL [x]) := by rw [HX.out] at hs4 ⊢; exact hs4
  have HS5 := Lib.hid hs5
  have HB4 := Lib.hid ((Below.refl w3.heap.size w3).alloc (Nat.le_refl _) (.cells #[.string X] 9))
  clear hs4 hs5
  go_wp2_with fail
  refine (RefOf_any _ 1 1 [x] _ HS5.out (by omega) HL1.out).mono ?_
  rw [M1.out]
  simp only
  rw [← HQ.out]
  rintro e w6 ⟨rfl, hB6⟩
  have GB8 := GB7.trans ((HB4.out.trans (hB6.mono HB4.out.size)).mono GB7.size)
  have HW8 := Lib.hid ((HW7.out.beyond HB4.out).beyond hB6)
  clear GB7 hB6
  rcases M2.out with rfl | ⟨rfl, m2, m3⟩
  · go_wp2_with fail
    go_ret
    exact ⟨rfl, GB8⟩
  · cases q with
    | true =>
      have hpq : TP = TQ := by rw [HTP.out, HTQ.out, m2 rfl]
      have HPQ := Lib.hid hpq
      clear m2 m3 hpq
      go_wp2_with fail
      refine (Text_any P O1 _ HP.out hO1 HW8.out).mono ?_
      rw [← HTP.out]
      rintro e w7 ⟨rfl, hB7⟩
      have GB9 := GB8.trans (hB7.mono GB8.size)
      have HW9 := Lib.hid (HW8.out.beyond hB7)
      clear GB8 hB7
      go_wp2_with fail
      refine (Text_any Q E _ HQ.out ow HW9.out).mono ?_
      rw [← HTQ.out, HPQ.out]
      rintro e w8 ⟨rfl, hB8⟩
      have GB10 := GB9.trans (hB8.mono GB9.size)
      clear GB9 hB8
      go_wp2_with fail
      go_ret
      exact ⟨rfl, GB10⟩
    | false =>
      have hpq : TP = TQ ++ TS := by rw [HTP.out, HTQ.out, HTS.out, m3 rfl, mk_append]
      have HPQ := Lib.hid hpq
      clear m2 m3 hpq
      go_wp2_with fail
      refine (Text_any P O1 _ HP.out hO1 HW8.out).mono ?_
      rw [← HTP.out]
      rintro e w7 ⟨rfl, hB7⟩
      have GB9 := GB8.trans (hB7.mono GB8.size)
      have HW9 := Lib.hid (HW8.out.beyond hB7)
      clear GB8 hB7
      go_wp2_with fail
      refine (Text_any Q E _ HQ.out ow HW9.out).mono ?_
      rw [← HTQ.out]
      rintro e w8 ⟨rfl, hB8⟩
      have GB10 := GB9.trans (hB8.mono GB9.size)
      have HW10 := Lib.hid (HW9.out.beyond hB8)
      clear GB9 hB8
      go_wp2_with fail
      refine (Text_any S s _ HS.out hs HW10.out).mono ?_
      rw [← HTS.out, HPQ.out]
      rintro e w9 ⟨rfl, hB9⟩
      have GB11 := GB10.trans (hB9.mono GB10.size)
      clear GB10 hB9
      go_wp2_with fail
      go_ret
      exact ⟨rfl, GB11⟩
theorem DottedJoins_walk (X S : ByteArray) (w : World) (_h : X.size ≤ maxLen) (_h2 : S.size ≤ maxLen) (hw : Wts w) :
    Calls Tryd.prog 7 #[.string X, .string S] w fun e w' => e = .returned (.bool true) ∧ Below w.heap.size w w' := by
  obtain ⟨x, hX⟩ := mk_of X
  obtain ⟨s, hS⟩ := mk_of S
  cases hN : nameL s with
  | none => exact joins_out X S s w hS hw (.inl hN)
  | some L =>
    by_cases h0 : X.size = 0
    · exact joins_out X S s w hS hw (.inr (.inl h0))
    · by_cases h1 : 63 < X.size
      · exact joins_out X S s w hS hw (.inr (.inr h1))
      · exact joins_in X S x s L w hX hS hw hN h0 h1
end Go.Proofs.YtpfbieehdkonhaaDoor
