/- The laws NameTells and NameLabels, walked. -/
import Derived.Test.YtfmpoibcchiakaaNamP
import Derived.Test.YtfmpoibcchiakaaFrame
namespace Go.Proofs.Ytfmpoibcchiakaa
open Go.RowKit

/-! ### NameTells -/
theorem tells_far (S : ByteArray) (w : World) (h : 600 < S.size) :
    Calls Try.prog 4 #[.string S] w fun e w' => e = .returned (.bool true) ∧ Below w.heap.size w w' := by
  have g1 : (600 : Int) < (S.size : Int) := by omega
  go_enter Try.func4, Try.ntmps4
  go_wp2_with fail
  refine (awake_any _).mono ?_
  rintro e w1 ⟨rfl, hB1⟩
  go_wp2_with fail
  refine (awake_any _).mono ?_
  rintro e w2 ⟨rfl, hB2⟩
  go_wp2_with fail
  go_ret
  exact ⟨rfl, hB1.trans (hB2.mono hB1.size)⟩

set_option maxHeartbeats 2000000 in
theorem tells_near (S P F T : ByteArray) (s : List UInt8) (pk u : Bool) (tk : Int) (w : World) (HS : Hid (S = mk s)) (h : ¬ 600 < S.size)
    (HP : Hid (mk (parentN s).1 = P)) (HPK : Hid ((parentN s).2 = pk)) (HF : Hid (mk (foldL s) = F)) (HU : Hid (wildN s = u)) (HT : Hid (mk (starN s).1 = T)) (HTK : Hid ((starN s).2 = tk)) :
    Calls Try.prog 4 #[.string S] w fun e w' => e = .returned (.bool true) ∧ Below w.heap.size w w' := by
  have g1 : ¬ (600 : Int) < (S.size : Int) := by omega
  have hb : s.length ≤ 1073741824 := by rw [HS.out, mk_size] at h; omega
  go_enter Try.func4, Try.ntmps4
  go_wp2_with fail
  refine (awake_any _).mono ?_
  rintro e w1 ⟨rfl, hB1⟩
  go_wp2_with fail
  refine (Parent_any S s _ HS.out hb).mono ?_
  rw [HP.out, HPK.out]
  rintro e w2 ⟨rfl, hB2⟩
  have GB2 := hB1.trans (hB2.mono hB1.size)
  clear hB1 hB2
  go_wp2_with fail
  refine (RefParent_any S s _ HS.out).mono ?_
  rw [HP.out, HPK.out]
  rintro e w3 ⟨rfl, hB3⟩
  have GB3 := GB2.trans (hB3.mono GB2.size)
  clear GB2 hB3
  go_wp2_with fail
  refine (Star_any S s _ HS.out hb).mono ?_
  rw [HT.out, HTK.out]
  rintro e w4 ⟨rfl, hB4⟩
  have GB4 := GB3.trans (hB4.mono GB3.size)
  clear GB3 hB4
  cases hN : nameL s with
  | none =>
    have e1 : T = ⟨#[]⟩ := by rw [← HT.out]; unfold starN; rw [hN]; rfl
    have e2 : tk = 2 := by rw [← HTK.out]; unfold starN; rw [hN]
    subst e1; subst e2
    have HN := Lib.hid hN
    clear hN
    go_wp2_with fail
    refine (RefLabels_no S s _ HS.out HN.out).mono ?_
    rintro e w5 ⟨v, rfl, hB5⟩
    have GB5 := GB4.trans (hB5.mono GB4.size)
    clear GB4 hB5
    go_wp2_with fail
    refine (Fold_any S s _ HS.out hb).mono ?_
    rw [HF.out]
    rintro e w6 ⟨rfl, hB6⟩
    have GB6 := GB5.trans (hB6.mono GB5.size)
    clear GB5 hB6
    go_wp2_with fail
    refine (RefFold_any S s _ HS.out).mono ?_
    rw [HF.out]
    rintro e w7 ⟨rfl, hB7⟩
    have GB7 := GB6.trans (hB7.mono GB6.size)
    clear GB6 hB7
    go_wp2_with fail
    refine (Wild_any S s _ HS.out hb).mono ?_
    rw [HU.out]
    rintro e w8 ⟨rfl, hB8⟩
    have GB8 := GB7.trans (hB8.mono GB7.size)
    clear GB7 hB8
    go_wp2_with fail
    refine (RefWild_any S s _ HS.out).mono ?_
    rw [HU.out]
    rintro e w9 ⟨rfl, hB9⟩
    have GB9 := GB8.trans (hB9.mono GB8.size)
    clear GB8 hB9
    go_wp2_with fail
    go_ret
    exact ⟨rfl, GB9⟩
  | some L =>
    have hst : starN s = ofN ([42] :: L) := by unfold starN; rw [hN]
    have e1 : mk (ofN ([42] :: L)).1 = T := by rw [← hst]; exact HT.out
    have e2 : (ofN ([42] :: L)).2 = tk := by rw [← hst]; exact HTK.out
    have hg := (nameL_is hN).2.1
    have hLn := name_few hN
    have hLx : ∀ x ∈ [42] :: L, x.length ≤ 100000 := by
      intro x hx
      rcases List.mem_cons.1 hx with hx | hx
      · subst hx; simp
      · have := (hg x hx).2; omega
    have HN := Lib.hid hN
    have HLX := Lib.hid hLx
    have HE1 := Lib.hid e1
    have HE2 := Lib.hid e2
    clear hN hLx hst e1 e2 hg
    go_wp2_with fail
    refine (RefLabels_yes S s L _ HS.out HN.out).mono ?_
    rintro e w5 ⟨v, rfl, hown, hB5⟩
    obtain ⟨A, c, rfl, hs⟩ := Sees.own hown
    have GB5 := GB4.trans (hB5.mono GB4.size)
    clear GB4 hB5
    have HSEE := Lib.hid (hs.below ((Below.refl w5.heap.size w5).alloc (Nat.le_refl _) (.cells #[.string ⟨#[42]⟩] 9)))
    clear hown hs
    go_wp2_with (at_builtin; refine append_seen rfl _ _ rfl w5.heap.size (.slice (some ⟨w5.heap.size, 0, none⟩) 1 1) 1 [.string ⟨#[42]⟩] rfl (own_one w5 _ _ (Nat.le_refl _)) (by simp) _ A L.length c (L.map mk) rfl HSEE.out (1 + L.length) rfl (textL ([42] :: L)) rfl (by omega) (by simp) ?_; intro v1 w2 hown2 hgrow2 hne2; have hB2 : Below w5.heap.size w5 w2 := ((Below.refl w5.heap.size w5).alloc (Nat.le_refl _) _).grown hgrow2 (by simp) (fun z hz => by simp [Value.ownBlock] at hz; omega); obtain ⟨A2, c2, rfl, hs2⟩ := Sees.own hown2; have HB2 := Lib.hid hB2; clear hown2 hgrow2 hne2 hB2)
    refine (RefOf_any A2 (1 + L.length) c2 ([42] :: L) _ hs2 (by omega) HLX.out).mono ?_
    rw [HE1.out, HE2.out]
    rintro e w3 ⟨rfl, hB3⟩
    have GB6 := GB5.trans (HB2.out.mono GB5.size)
    have GB7 := GB6.trans (hB3.mono GB6.size)
    clear GB5 GB6 hB3 hs2
    go_wp2_with fail
    refine (Fold_any S s _ HS.out hb).mono ?_
    rw [HF.out]
    rintro e w6 ⟨rfl, hB6⟩
    have GB8 := GB7.trans (hB6.mono GB7.size)
    clear GB7 hB6
    go_wp2_with fail
    refine (RefFold_any S s _ HS.out).mono ?_
    rw [HF.out]
    rintro e w7 ⟨rfl, hB7⟩
    have GB9 := GB8.trans (hB7.mono GB8.size)
    clear GB8 hB7
    go_wp2_with fail
    refine (Wild_any S s _ HS.out hb).mono ?_
    rw [HU.out]
    rintro e w8 ⟨rfl, hB8⟩
    have GB10 := GB9.trans (hB8.mono GB9.size)
    clear GB9 hB8
    go_wp2_with fail
    refine (RefWild_any S s _ HS.out).mono ?_
    rw [HU.out]
    rintro e w9 ⟨rfl, hB9⟩
    have GB11 := GB10.trans (hB9.mono GB10.size)
    clear GB10 hB9
    go_wp2_with fail
    go_ret
    exact ⟨rfl, GB11⟩
theorem NameTells_walk (S : ByteArray) (w : World) (_h : S.size ≤ maxLen) :
    Calls Try.prog 4 #[.string S] w fun e w' => e = .returned (.bool true) ∧ Below w.heap.size w w' := by
  obtain ⟨s, hS⟩ := mk_of S
  by_cases h1 : 600 < S.size
  · exact tells_far S w h1
  · exact tells_near S _ _ _ s _ _ _ w hS h1 (Lib.hid rfl) (Lib.hid rfl) (Lib.hid rfl) (Lib.hid rfl) (Lib.hid rfl) (Lib.hid rfl)

/-! ### NameLabels -/
theorem mks_of : ∀ l : List ByteArray, ∃ xs : List (List UInt8), l = xs.map mk := by
  intro l
  induction l with
  | nil => exact ⟨[], rfl⟩
  | cons s l ih =>
    obtain ⟨xs, rfl⟩ := ih
    obtain ⟨x, rfl⟩ := mk_of s
    exact ⟨x :: xs, rfl⟩
theorem labels_far (S : ByteArray) (A : Option Addr) (n c : Nat) (w : World) (h : 600 < S.size ∨ 140 < n) :
    Calls Try.prog 3 #[.string S, .slice A n c] w fun e w' => e = .returned (.bool true) ∧ Below w.heap.size w w' := by
  by_cases h1 : 600 < S.size
  · have g1 : (600 : Int) < (S.size : Int) := by omega
    clear h
    go_enter Try.func3, Try.ntmps3
    go_wp2_with fail
    refine (awake_any _).mono ?_
    rintro e w1 ⟨rfl, hB1⟩
    go_wp2_with fail
    refine (awake_any _).mono ?_
    rintro e w2 ⟨rfl, hB2⟩
    go_wp2_with fail
    go_ret
    exact ⟨rfl, hB1.trans (hB2.mono hB1.size)⟩
  · have g1 : ¬ (600 : Int) < (S.size : Int) := by omega
    have g2 : (140 : Int) < (n : Int) := by omega
    clear h
    go_enter Try.func3, Try.ntmps3
    go_wp2_with fail
    refine (awake_any _).mono ?_
    rintro e w1 ⟨rfl, hB1⟩
    go_wp2_with fail
    refine (awake_any _).mono ?_
    rintro e w2 ⟨rfl, hB2⟩
    go_wp2_with fail
    go_ret
    exact ⟨rfl, hB1.trans (hB2.mono hB1.size)⟩

def Less (k : Nat) (L : List (List UInt8)) : Prop := ∀ x ∈ L.take k, x.length ≤ 70
theorem Less.start (L : List (List UInt8)) : Less 0 L := fun x hx => by simp at hx
theorem Less.step {k : Nat} {L : List (List UInt8)} (h : Less k L) (hk : k < L.length) (hx : L[k].length ≤ 70) : Less (k + 1) L := by
  intro x hm
  rw [List.take_succ_eq_append_getElem hk, List.mem_append, List.mem_singleton] at hm
  rcases hm with hm | hm
  · exact h x hm
  · subst hm; exact hx
theorem Less.all {k : Nat} {L : List (List UInt8)} (h : Less k L) (hk : L.length ≤ k) : ∀ x ∈ L, x.length ≤ 100000 := by
  intro x hx
  have := h x (by rw [List.take_of_length_le hk]; exact hx)
  omega

set_option maxHeartbeats 2000000 in
theorem labels_near (S O : ByteArray) (s : List UInt8) (A : Option Addr) (n c : Nat) (L : List (List UInt8)) (ok : Int) (w : World) (HS : Hid (S = mk s)) (h : ¬ 600 < S.size) (h2 : ¬ 140 < n) (hL : Sees w w.heap.size A n (textL L))
    (HO : Hid (mk (ofN L).1 = O)) (HOK : Hid ((ofN L).2 = ok)) :
    Calls Try.prog 3 #[.string S, .slice A n c] w fun e w' => e = .returned (.bool true) ∧ Below w.heap.size w w' := by
  have g1 : ¬ (600 : Int) < (S.size : Int) := by omega
  have g2 : ¬ (140 : Int) < (n : Int) := by omega
  have hb : s.length ≤ 1073741824 := by rw [HS.out, mk_size] at h; omega
  have HLN := Lib.hid (textL_len hL)
  go_enter Try.func3, Try.ntmps3
  go_wp2_with fail
  refine (awake_any _).mono ?_
  rintro e w1 ⟨rfl, hB1⟩
  go_wp2_with fail
  go_loop [5] (fun i => ∃ k : Nat, k ≤ n ∧ i = .int .i64 k ∧ Less k L) (fun i => n - (intOf i).toNat)
  case atStart => exact ⟨0, Nat.zero_le _, rfl, Less.start L⟩
  case round =>
    obtain ⟨k, hk, rfl, hr⟩ := hrel
    have HR := Lib.hid hr
    clear hr
    by_cases hlt : k < n
    · have hx : k < L.length := by have := HLN.out; omega
      obtain ⟨b, off, rfl, _, hc⟩ := textL_at (hL.below hB1) hlt hx
      obtain ⟨X, hX⟩ : ∃ X, X = mk L[k] := ⟨_, rfl⟩
      have hXs : X.size = L[k].length := by rw [hX, mk_size]
      rw [← hX] at hc
      have HXs := Lib.hid hXs
      clear hX hXs
      by_cases hbig : 70 < X.size
      · have g3 : (70 : Int) < (X.size : Int) := by omega
        go_wp2_with fail
        go_ret
        exact ⟨rfl, hB1⟩
      · have g3 : ¬ (70 : Int) < (X.size : Int) := by omega
        go_wp2_with fail
        go_round
        case rel => exact ⟨k + 1, by omega, by go_num, HR.out.step hx (by have := HXs.out; omega)⟩
        case measure => simp [intOf]; omega
    · obtain rfl : k = n := by omega
      have HX := Lib.hid (HR.out.all (by have := HLN.out; omega))
      clear HR
      cases hN : nameL s with
      | none =>
        have HN := Lib.hid hN
        have hno : (nameL s).isSome = false := by rw [hN]; rfl
        clear hN
        go_wp2_with fail
        refine (Labels_no S s _ HS.out hb HN.out).mono ?_
        rintro e w2 ⟨rfl, hB2⟩
        have GB2 := hB1.trans (hB2.mono hB1.size)
        clear hB1 hB2
        go_wp2_with fail
        refine (RefLabels_no S s _ HS.out HN.out).mono ?_
        rintro e w3 ⟨v, rfl, hB3⟩
        have GB3 := GB2.trans (hB3.mono GB2.size)
        clear GB2 hB3
        go_wp2_with fail
        refine (Of_any A k c L _ ((hL.below GB3).more GB3.size) (by omega) HX.out).mono ?_
        rw [HO.out, HOK.out]
        rintro e w4 ⟨rfl, hB4⟩
        have GB4 := GB3.trans (hB4.mono GB3.size)
        clear GB3 hB4
        go_wp2_with fail
        refine (RefOf_any A k c L _ ((hL.below GB4).more GB4.size) (by omega) HX.out).mono ?_
        rw [HO.out, HOK.out]
        rintro e w5 ⟨rfl, hB5⟩
        have GB5 := GB4.trans (hB5.mono GB4.size)
        clear GB4 hB5
        go_wp2_with fail
        refine (Right_any S s _ HS.out hb).mono ?_
        rw [hno]
        rintro e w6 ⟨rfl, hB6⟩
        have GB6 := GB5.trans (hB6.mono GB5.size)
        clear GB5 hB6
        go_wp2_with fail
        go_ret
        exact ⟨rfl, GB6⟩
      | some M =>
        have HN := Lib.hid hN
        have hyes : (nameL s).isSome = true := by rw [hN]; rfl
        have hMn := name_few hN
        clear hN
        go_wp2_with fail
        refine (Labels_yes S s M _ HS.out HN.out).mono ?_
        rintro e w2 ⟨v, rfl, own2, hB2⟩
        obtain ⟨A2, c2, rfl, hs2⟩ := Sees.own own2
        have GB2 := hB1.trans (hB2.mono hB1.size)
        clear hB1 hB2 own2
        go_wp2_with fail
        refine (RefLabels_yes S s M _ HS.out HN.out).mono ?_
        rintro e w3 ⟨v, rfl, own3, hB3⟩
        obtain ⟨A3, c3, rfl, hs3⟩ := Sees.own own3
        have GB3 := GB2.trans (hB3.mono GB2.size)
        have hs23 := (hs2.below hB3).more hB3.size
        clear GB2 hB3 own3 hs2
        go_wp2_with fail
        refine (Of_any A k c L _ ((hL.below GB3).more GB3.size) (by omega) HX.out).mono ?_
        rw [HO.out, HOK.out]
        rintro e w4 ⟨rfl, hB4⟩
        have GB4 := GB3.trans (hB4.mono GB3.size)
        have hs24 := (hs23.below hB4).more hB4.size
        have hs34 := (hs3.below hB4).more hB4.size
        clear GB3 hB4 hs23 hs3
        go_wp2_with fail
        refine (RefOf_any A k c L _ ((hL.below GB4).more GB4.size) (by omega) HX.out).mono ?_
        rw [HO.out, HOK.out]
        rintro e w5 ⟨rfl, hB5⟩
        have GB5 := GB4.trans (hB5.mono GB4.size)
        have hs25 := hs24.below hB5
        have hs35 := hs34.below hB5
        clear GB4 hB5 hs24 hs34
        go_wp2_with fail
        refine (Texts_yes A2 A3 M.length c2 c3 _ _ (M.map mk) _ hs25 hs35 (by omega)).mono ?_
        rintro e w6 ⟨rfl, m6, rfl⟩
        have GB6 := below_drewN GB5 m6
        generalize w5.drewN m6 = w6 at GB6 ⊢
        clear GB5 hs25 hs35
        go_wp2_with fail
        refine (Right_any S s _ HS.out hb).mono ?_
        rw [hyes]
        rintro e w7 ⟨rfl, hB7⟩
        have GB7 := GB6.trans (hB7.mono GB6.size)
        clear GB6 hB7
        go_wp2_with fail
        go_ret
        exact ⟨rfl, GB7⟩
theorem NameLabels_walk (S : ByteArray) (A : Option Addr) (n c : Nat) (zs : List ByteArray) (w : World) (_h : S.size ≤ maxLen) (hz : InTexts w A n c zs) :
    Calls Try.prog 3 #[.string S, .slice A n c] w fun e w' => e = .returned (.bool true) ∧ Below w.heap.size w w' := by
  obtain ⟨s, hS⟩ := mk_of S
  obtain ⟨L, rfl⟩ := mks_of zs
  by_cases h1 : 600 < S.size
  · exact labels_far S A n c w (.inl h1)
  by_cases h2 : 140 < n
  · exact labels_far S A n c w (.inr h2)
  exact labels_near S _ s A n c L _ w hS h1 h2 hz.1 (Lib.hid rfl) (Lib.hid rfl)
end Go.Proofs.Ytfmpoibcchiakaa
