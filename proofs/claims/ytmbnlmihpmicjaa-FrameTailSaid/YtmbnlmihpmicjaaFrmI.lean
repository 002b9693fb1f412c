/- The law FrameTail, walked: whatever the strings, it returns true and writes nothing that was there. -/
import Derived.Test.YtmbnlmihpmicjaaFrmG
import Derived.Deep.AppendSrc
namespace Go.Proofs.Ytmbnlmihpmicjaa
open Go.RowKit

/-- strings appended to a row of one's own that is not nil, nil or not themselves -/
theorem append_seen {w : World} {ops : Array Oper} {rest : List Oper} {o : Oper} {a : Act} {Q : Exit → Act → World → Prop} (hgd : o.guard = none) (s x : Operand)
    (ho : o.op = .call { callee := .builtin .append, args := #[s, x], argTypes := #[31, 31] }) (base : Nat) (v : Value) (n : Nat) (xs : List Value) (hs : a.eval s = v) (hown : w.ownsRow base 9 1 v n xs) (hv : v ≠ .slice none 0 0)
    (B : Nat) (A : Option Addr) (m c : Nat) (zs : List ByteArray) (hx : a.eval x = .slice A m c) (hr : Sees w B A m (texts zs)) (N : Nat) (hN : n + m = N) (ys : List Value) (hys : xs ++ texts zs = ys) (h63 : N ≤ 1073741824) (hbase : base ≤ w.heap.size)
    (h : ∀ v' w', w'.ownsRow base 9 1 v' N ys → w.grownBy w' v.ownBlock → v' ≠ .slice none 0 0 → wpList Try.prog ops Q rest (a.put o.dst v') w') : wpList Try.prog ops Q (o :: rest) a w := by
  subst hN
  subst hys
  obtain ⟨i, hi, hz0, hz1, hz2⟩ := info_parts text_info
  rcases A with _ | ad
  · have hm : m = 0 := by
      rcases Nat.eq_zero_or_pos m with h0 | h0
      · exact h0
      · obtain ⟨b, off, e, _⟩ := hr.addr h0
        cases e
    subst hm
    have hn : texts zs = [] := List.eq_nil_of_length_eq_zero hr.len
    rw [hn, List.append_nil] at h
    refine wpList_plain hgd fun K hK => ?_
    rcases hown.2 with ⟨rfl, _⟩ | ⟨g, cap, cur, rfl, _, _, hnc, _⟩
    · exact absurd rfl hv
    · have hrun := run_append_room_src (P := Try.prog) w 31 31 o.type 9 i Try.underlying31 hi g 0 n cap (.slice none 0 c) 0 [] (Src.ofNil w Try.underlying31 c) (by omega) (by simp) (by simp)
      have hsame : w.setCells g (0 + n * i.size) [] = w := rfl
      rw [hsame] at hrun
      unfold Oper.wp
      simp [execOp, ho, resolve, invoke, builtin, hs, hx, hrun, Result.andThen]
      exact hK _ _ (h _ _ hown (World.grownBy.refl w _) hv)
  · have hcells : ∀ j u, (texts zs)[j]? = some u → w.cell? (ad.add j) = some u := by
      intro j u hu
      have hj : j < (texts zs).length := (List.getElem?_eq_some_iff.1 hu).1
      obtain ⟨b, off, e, _, hc⟩ := hr.addr (by have := hr.len; omega)
      injection e with e
      subst e
      rw [add_flat]
      exact hc j u hu
    refine wpList_append_own _ hgd s x 31 ho base 9 i (.string ⟨#[]⟩) 1 16 Try.underlying31 hi hz0 hz1 hz2 rfl (by decide) v n xs hs hown ad m c (texts zs) hx (by rw [hr.len]; omega) hcells ?_ (by unfold maxLen; omega) (by omega) hbase ?_
    · intro u hu
      simp only [texts, List.mem_map] at hu
      obtain ⟨z, _, rfl⟩ := hu
      rfl
    · intro v' w' h1 h2 h3
      exact h v' w' h1 h2 fun e => hv (h3.1 e).1
theorem own_none (w : World) (base : Nat) (e : TypeId) (hb : base ≤ w.heap.size) : (w.alloc (.cells #[] e)).ownsRow base e 1 (.slice (some ⟨w.heap.size, 0, none⟩) 0 0) 0 [] :=
  ⟨rfl, .inr ⟨w.heap.size, 0, #[], rfl, hb, heap_alloc_new w _, Nat.le_refl _, Nat.zero_le _, rfl, rfl⟩⟩

theorem tail_big (A : Option Addr) (n c : Nat) (t : ByteArray) (w : World) (h1 : 20 < n) :
    Calls Try.prog 7 #[.slice A n c, .string t] w fun e w' => e = .returned (.bool true) ∧ Below w.heap.size w w' := by
  have g1 : (20 : Int) < (n : Int) := by omega
  go_enter Try.func7, Try.ntmps7
  go_wp2_with fail
  refine (awake_any _).mono ?_
  rintro e w1 ⟨rfl, hB1⟩
  go_wp2_with fail
  refine (awake_any _).mono ?_
  rintro e w2 ⟨rfl, hB2⟩
  go_wp2_with fail
  go_ret
  exact ⟨rfl, hB1.trans (hB2.mono hB1.size)⟩

theorem tail_long (A : Option Addr) (n c : Nat) (t : ByteArray) (w : World) (h1 : ¬ 20 < n) (h2 : 500 < t.size) :
    Calls Try.prog 7 #[.slice A n c, .string t] w fun e w' => e = .returned (.bool true) ∧ Below w.heap.size w w' := by
  have g1 : ¬ (20 : Int) < (n : Int) := by omega
  have g0 : (500 : Int) < (t.size : Int) := by omega
  go_enter Try.func7, Try.ntmps7
  go_wp2_with fail
  refine (awake_any _).mono ?_
  rintro e w1 ⟨rfl, hB1⟩
  go_wp2_with fail
  refine (awake_any _).mono ?_
  rintro e w2 ⟨rfl, hB2⟩
  go_wp2_with fail
  go_ret
  exact ⟨rfl, hB1.trans (hB2.mono hB1.size)⟩

set_option maxHeartbeats 1000000 in
theorem tail_small (A : Option Addr) (n c : Nat) (t : ByteArray) (xs : List (List UInt8)) (w : World) (h : Sees w w.heap.size A n (texts (xs.map mk))) (h1 : ¬ 20 < n) (h2 : ¬ 500 < t.size) :
    Calls Try.prog 7 #[.slice A n c, .string t] w fun e w' => e = .returned (.bool true) ∧ Below w.heap.size w w' := by
  have g1 : ¬ (20 : Int) < (n : Int) := by omega
  have g0 : ¬ (500 : Int) < (t.size : Int) := by omega
  have HL : Hid (xs.length = n) := Lib.hid (show xs.length = n by simpa [texts] using h.len)
  go_enter Try.func7, Try.ntmps7
  go_wp2_with fail
  refine (awake_any _).mono ?_
  rintro e w1 ⟨rfl, hB1⟩
  go_wp2_with fail
  go_loopw [5, 6] (fun b i wr => ∃ k S, k ≤ n ∧ i = .int .i64 (k : Nat) ∧ b = .string S ∧ RowAt xs k S ∧ Below w.heap.size w wr) (fun _ i _ => n - (intOf i).toNat)
  case atStart => exact ⟨0, ⟨#[]⟩, Nat.zero_le _, rfl, rfl, RowAt.start xs, hB1⟩
  case round =>
    obtain ⟨k, S, hk, rfl, rfl, hR, GB⟩ := hrel
    have hSz := hR.size (by omega)
    have HR := Lib.hid hR
    clear hR
    by_cases hlt : k < n
    · have h3 : k < xs.length := by have := HL.out; omega
      obtain ⟨b, off, rfl, hbB, hc⟩ := mks_at (h.below GB) hlt h3
      obtain ⟨X, hX⟩ : ∃ X, X = mk xs[k] := ⟨_, rfl⟩
      have hXs : X.size = xs[k].length := by rw [hX, mk_size]
      obtain ⟨F, hF⟩ : ∃ F, F = mk (frameL xs[k]) := ⟨_, rfl⟩
      have hFz : F.size ≤ 8 + X.size := by rw [hF, mk_size, frameL_len, hXs]; exact Nat.le_refl _
      rw [← hX] at hc
      have HX := Lib.hid hX
      have HXs := Lib.hid hXs
      have HF := Lib.hid hF
      clear hX hXs hF
      by_cases hbig : 100 < X.size
      · have g2 : (100 : Int) < (X.size : Int) := by omega
        go_wp2_with fail
        go_ret
        exact ⟨rfl, GB⟩
      · have g2 : ¬ (100 : Int) < (X.size : Int) := by omega
        go_wp2_with fail
        refine (Frame_at X xs[k] _ HX.out (by have := HXs.out; omega)).mono ?_
        rw [← HF.out]
        rintro e w2 ⟨rfl, hB2⟩
        go_wp2_with fail
        go_roundw
        case rel => exact ⟨k + 1, S ++ F, by omega, by go_num, rfl, by rw [HF.out]; exact HR.out.step h3 (by have := HXs.out; omega), GB.trans (hB2.mono GB.size)⟩
        case measure => simp [intOf]; omega
    · obtain rfl : k = n := by omega
      obtain ⟨hS, hall⟩ := HR.out.whole (by have := HL.out; omega)
      obtain ⟨l, hl⟩ := mk_of t
      have hsc := scan_row l xs hall
      have hz : (rowF xs).length = S.size := by rw [hS, mk_size]
      obtain ⟨ms, q, hmq⟩ : ∃ ms q, scanL l = (ms, q) := ⟨_, _, rfl⟩
      have hms := scanL_len l
      have hll : l.length = t.size := by rw [hl, mk_size]
      rw [hmq] at hsc hms
      rw [hz] at hsc
      have hST : S ++ t = mk (rowF xs ++ l) := by rw [hS, hl, mk_append]
      have hlen1 : (rowF xs ++ l).length ≤ 1073741824 := by rw [List.length_append, hz, hll]; omega
      have hlen2 : l.length ≤ 1073741824 := by omega
      have hlen3 : k + ms.length ≤ 1073741824 := by have := hms.1; simp at this; omega
      have hlen4 : (xs ++ ms).length = k + ms.length := by rw [List.length_append, HL.out]
      have hql : q ≤ 500 := by have := hms.2; simp at this; omega
      have HSC := Lib.hid hsc
      have HMQ := Lib.hid hmq
      have HST := Lib.hid hST
      have HL1 := Lib.hid hlen1
      have HL2 := Lib.hid hlen2
      have HL3 := Lib.hid hlen3
      have HL4 := Lib.hid hlen4
      have HTL := Lib.hid hl
      obtain ⟨j, hj⟩ : ∃ j, j = ms.length := ⟨_, rfl⟩
      have HJ := Lib.hid hj
      rw [← hj] at HL3 HL4
      have HH := Lib.hid h
      have GBH := Lib.hid GB
      clear hS hall hl hsc hz hmq hms hll hST hlen1 hlen2 hlen3 hlen4 hj GB hB1 h
      go_wp2_with fail
      refine (Scan_any (S ++ t) _ _ HST.out HL1.out).mono ?_
      unfold ScanLeaves
      rw [HSC.out]
      simp only
      rw [HL4.out]
      rintro e w4 ⟨A4, c4, rfl, hs4, hB4⟩
      have GB4 := GBH.out.trans (hB4.mono GBH.out.size)
      have HS4 := Lib.hid hs4
      clear hs4 hB4
      go_wp2_with fail
      refine (Scan_any t l _ HTL.out HL2.out).mono ?_
      unfold ScanLeaves
      rw [HMQ.out]
      simp only
      rw [← HJ.out]
      rintro e w5 ⟨A5, c5, rfl, hs5, hB5⟩
      have GB5 := GB4.trans (hB5.mono GB4.size)
      have HS5 := Lib.hid hs5
      have HS4' := Lib.hid ((HS4.out.below hB5).more hB5.size)
      clear hs5 hB5 GB4
      have HI := Lib.hid (HH.out.below (GB5.alloc GB5.size (.cells #[] 9)))
      go_wp2_with (first
        | (at_builtin; refine append_seen rfl (.tmp 62) (.tmp 63) rfl w5.heap.size (.slice (some ⟨w5.heap.size, 0, none⟩) 0 0) 0 [] rfl (own_none w5 _ _ (Nat.le_refl _)) (by simp) _ A k c (xs.map mk) rfl HI.out k (Nat.zero_add k) (texts (xs.map mk)) rfl (by have := HL3.out; omega) (by simp) ?_; intro v1 w1 hown1 hgrow1 hne1; have hB51 : Below w5.heap.size w5 w1 := ((Below.refl w5.heap.size w5).alloc (Nat.le_refl _) _).grown hgrow1 (by simp) (fun z hz => by simp [Value.ownBlock] at hz; omega); have HB51 := Lib.hid hB51; clear hB51 hgrow1; have HO1 := Lib.hid hown1; clear hown1; have HN1 := Lib.hid hne1; clear hne1)
        | (at_builtin; refine append_seen rfl (.tmp 64) (.tmp 65) rfl w5.heap.size v1 k (texts (xs.map mk)) rfl HO1.out HN1.out _ A5 j c5 (ms.map mk) rfl (HS5.out.below HB51.out) (k + j) rfl (texts ((xs ++ ms).map mk)) (by simp [texts]) HL3.out HB51.out.size ?_; intro v2 w2 hown2 hgrow2 _; have hB52 : Below w5.heap.size w5 w2 := HB51.out.grown hgrow2 HB51.out.size (fun z hz => (HO1.out.lt z hz).1); obtain ⟨A2, c2, rfl, hs2⟩ := Sees.own hown2; have HB52 := Lib.hid hB52; have HS2 := Lib.hid hs2; clear hown2 hgrow2 hB52 hs2))
      refine (Texts_yes A4 A2 _ _ _ _ _ ((xs ++ ms).map mk) _ (HS4'.out.below HB52.out) HS2.out HL3.out).mono ?_
      rintro e w7 ⟨rfl, m7, rfl⟩
      have GB7 := below_drewN (GB5.trans (HB52.out.mono GB5.size)) m7
      generalize w2.drewN m7 = w7 at GB7 ⊢
      go_wp2_with fail
      go_ret
      exact ⟨rfl, GB7⟩

theorem FrameTail_walk (A : Option Addr) (n c : Nat) (zs : List ByteArray) (t : ByteArray) (w : World) (h : InTexts w A n c zs) (_ht : t.size ≤ maxLen) :
    Calls Try.prog 7 #[.slice A n c, .string t] w fun e w' => e = .returned (.bool true) ∧ Below w.heap.size w w' := by
  obtain ⟨xs, rfl⟩ := mks_of zs
  by_cases h1 : 20 < n
  · exact tail_big A n c t w h1
  by_cases h2 : 500 < t.size
  · exact tail_long A n c t w h1 h2
  · exact tail_small A n c t xs w h.1 h1 h2
end Go.Proofs.Ytmbnlmihpmicjaa
