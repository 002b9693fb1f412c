/- ZoneTypes and ZoneTurns. No statement of the seat is proved here. (written by gen_t.py) -/
import Derived.Test.YtkmmbbcmpjkmkaaZonD
namespace Go.Proofs.Ytkmmbbcmpjkmkaa
open Go.RowKit Go.Op
set_option linter.unusedVariables false

theorem turn_mem {l : List Rrd} {k : Nat} {x : Rrd} : x ∈ l.drop k ++ l.take k ↔ x ∈ l := by
  have e : l.take k ++ l.drop k = l := List.take_append_drop k l
  conv => rhs; rw [← e]
  rw [List.mem_append, List.mem_append]
  exact Or.comm
theorem turn_at {l : List Rrd} {m v i : Nat} {x : Rrd} (hm : l.length = m) (hi : i < m) (hx : l[(i + v) % m]? = some x) : (l.drop (v % m) ++ l.take (v % m))[i]? = some x := by
  have hk : v % m < m := Nat.mod_lt _ (by omega)
  have e0 : (i + v) % m = (i + v % m) % m := by rw [Nat.add_mod, Nat.mod_eq_of_lt hi]
  rw [e0] at hx
  generalize v % m = k at hk hx ⊢
  by_cases h : i < m - k
  · rw [List.getElem?_append_left (by rw [List.length_drop, hm]; exact h), List.getElem?_drop, ← hx]
    congr 1
    rw [Nat.mod_eq_of_lt (by omega)]
    omega
  · rw [List.getElem?_append_right (by rw [List.length_drop, hm]; omega), List.length_drop, hm, List.getElem?_take, if_pos (by omega), ← hx]
    congr 1
    rw [Nat.mod_eq_sub_mod (by omega), Nat.mod_eq_of_lt (by omega)]
    omega
theorem u8_is {a : Int} (h : (Lit.int .u8 a).wf = true) : ∃ v : Nat, a = (v : Int) ∧ v < 256 := by
  have h2 : 0 ≤ a ∧ a ≤ 255 := by simpa [Lit.wf, IntKind.min, IntKind.max, IntKind.bits, IntKind.signed] using h
  exact ⟨a.toNat, by omega, by omega⟩
set_option maxHeartbeats 16000000 in
set_option maxRecDepth 20000 in
theorem ZoneTypes_walk (t : Int) (w : World) : Calls Try.prog 3 #[.int .i64 t] w fun e w' => e = .returned (.bool true) ∧ Below w.heap.size w w' := by
  obtain ⟨z, hz⟩ : ∃ z, z = dataT t := ⟨_, rfl⟩
  have HZ := Lib.hid hz
  clear hz
  have hzz : (z == z) = true := by simp
  go_enter Try.func3, Try.ntmps3
  go_wp2_with fail
  refine (zawake_any _).mono ?_
  rintro e w1 ⟨rfl, hB⟩
  have HB := Lib.hid hB
  clear hB
  go_wp2_with fail
  refine (DataType_any t _).mono ?_
  rw [← HZ.out]
  rintro e w2 ⟨rfl, rfl⟩
  go_wp2_with fail
  refine (RefDataType_any t _).mono ?_
  rw [← HZ.out]
  rintro e w2 ⟨rfl, rfl⟩
  go_wp2_with fail
  go_ret
  exact ⟨by first | rfl | simp, HB.out⟩
theorem isZ_two {nn : List UInt8} {D : List Rrd} (h : isZ nn D = true) : 2 ≤ D.length := by
  have h0 := h
  unfold isZ at h
  rw [Bool.and_eq_true, Bool.and_eq_true, Bool.and_eq_true, Bool.and_eq_true, decide_eq_true_eq, decide_eq_true_eq, decide_eq_true_eq] at h
  obtain ⟨s, hs⟩ := isZ_soa h0
  have hsm : s ∈ typX 6 D := by rw [hs]; simp
  obtain ⟨y, hy⟩ := List.exists_mem_of_length_pos h.2.2.2.1
  obtain ⟨m1, m2⟩ := typX_mem.1 hsm
  obtain ⟨m3, m4⟩ := typX_mem.1 hy
  have m5 := (atX_mem.1 m3).1
  match D, m1, m5 with
  | [x], m1, m5 =>
    simp at m1 m5
    rw [← m5] at m1
    rw [m1] at m2
    omega
  | x :: y :: l, _, _ => simp
theorem putX_in {D : List Rrd} (h : SetL cX D) {x : Rrd} (hx : x ∈ D) : putX cX x D = D := by
  induction D with
  | nil => cases hx
  | cons y D ih =>
    obtain ⟨h1, h2⟩ := List.pairwise_cons.1 h
    unfold putX
    rcases List.mem_cons.1 hx with rfl | hx
    · have e : cX x x = 0 := cX_ord.self x
      rw [if_neg (by omega), if_pos e]
    · have e := h1 x hx
      rw [if_pos (by omega), ih h2 hx]
theorem ofC_self' {l : List Rrd} (h : SetL cX l) : ofC l = l := by
  have hs : Srt cX l := by
    refine List.Pairwise.imp ?_ h
    intro a b e
    have := cX_flip a b
    omega
  have hl : ∀ l : List Rrd, SetL cX l → lastX l = l := by
    intro l
    induction l with
    | nil => intro _; rfl
    | cons x l ih =>
      intro h
      cases l with
      | nil => rfl
      | cons y l =>
        obtain ⟨h1, h2⟩ := List.pairwise_cons.1 h
        have e := h1 y (by simp)
        rw [lastX, if_neg (by omega), ih h2]
  rw [← lastX_of hs (St.refl l), hl l h]
theorem ofC_more {D : List Rrd} (h : SetL cX D) : ∀ T : List Rrd, (∀ x ∈ T, x ∈ D) → ofC (D ++ T) = D := by
  intro T hT
  have h0 : T.foldl (fun D r => putX cX r D) D = D := by
    induction T with
    | nil => rfl
    | cons x T ih =>
      rw [List.foldl_cons, putX_in h (hT x (by simp)), ih (fun y hy => hT y (List.mem_cons_of_mem _ hy))]
  have h1 : ofC (D ++ T) = T.foldl (fun D r => putX cX r D) (ofC D) := by unfold ofC; rw [List.foldl_append]
  rw [h1, ofC_self' h, h0]
set_option maxHeartbeats 16000000 in
set_option maxRecDepth 20000 in
theorem ZoneTurns_walk (N : ByteArray) (A : Option Addr) (n c : Nat) (xs : List Rrd) (by0 : Int) (w : World) (hx : SeesR w w.heap.size A n xs) (h63 : n ≤ 9223372036854775807) (hby : (Lit.int .u8 by0).wf = true) :
    Calls Try.prog 4 #[.string N, .slice A n c, .int .u8 by0] w fun e w' => e = .returned (.bool true) ∧ Below w.heap.size w w' := by
  obtain ⟨v, rfl, hv⟩ := u8_is hby
  obtain ⟨nn, hnn⟩ : ∃ nn, N = mk nn := ⟨_, (mk_toList N).symm⟩
  have HN := Lib.hid hnn
  have HX := Lib.hid hx
  have HLX := Lib.hid hx.1
  have q1 : IntKind.i64.wrap (v : Int) = (v : Int) := by rw [IntKind.wrap_i64]; omega
  clear hx hby hnn
  cases hf : fewL xs with
  | false =>
    have HF := Lib.hid hf
    clear hf
    go_enter Try.func4, Try.ntmps4
    go_wp2_with fail
    refine (zawake_any _).mono ?_
    rintro e w1 ⟨rfl, hB⟩
    have HX1 := Lib.hid ((HX.out.keep hB).more hB.size)
    have HB1 := Lib.hid hB
    clear hB
    go_wp2_with fail
    refine (Few_any A n c xs _ HX1.out h63).mono ?_
    rw [HF.out]
    rintro e w2 ⟨rfl, hB⟩
    have HB2 := Lib.hid (HB1.out.trans (hB.mono HB1.out.size))
    clear hB
    go_wp2_with fail
    refine (zawake_any _).mono ?_
    rintro e w3 ⟨rfl, hB⟩
    have HB3 := Lib.hid (HB2.out.trans (hB.mono HB2.out.size))
    clear hB
    go_wp2_with fail
    go_ret
    exact ⟨rfl, HB3.out⟩
  | true =>
    obtain ⟨h30, hlow⟩ := fewL_is hf
    have hn30 : n ≤ 30 := by have := HLX.out; omega
    have HLOW := Lib.hid hlow
    have HF := Lib.hid hf
    clear hf hlow h30
    go_enter Try.func4, Try.ntmps4
    go_wp2_with fail
    refine (zawake_any _).mono ?_
    rintro e w1 ⟨rfl, hB⟩
    have HX1 := Lib.hid ((HX.out.keep hB).more hB.size)
    have HB1 := Lib.hid hB
    clear hB
    go_wp2_with fail
    refine (Few_any A n c xs _ HX1.out h63).mono ?_
    rw [HF.out]
    rintro e w2 ⟨rfl, hB⟩
    have HX2 := Lib.hid ((HX1.out.keep hB).more hB.size)
    have HB2 := Lib.hid (HB1.out.trans (hB.mono HB1.out.size))
    clear hB
    go_wp2_with fail
    refine (ZNew_any A n c N nn xs _ HN.out HX2.out (by omega) HLOW.out).mono ?_
    rintro e w3 ⟨h, hB⟩
    have HB3 := Lib.hid (HB2.out.trans (hB.mono HB2.out.size))
    clear hB
    rcases h with ⟨_, rfl⟩ | ⟨_, rfl⟩ | ⟨hcode, z, rfl, hz⟩
    · unfold zeroZ
      go_wp2_with fail
      go_ret
      exact ⟨rfl, HB3.out.alloc HB3.out.size _⟩
    · unfold zeroZ
      go_wp2_with fail
      go_ret
      exact ⟨rfl, HB3.out.alloc HB3.out.size _⟩
    · obtain ⟨hname, hall, hisz⟩ := codeZ_zero hcode
      have hok := HLOW.out.ok hall
      obtain ⟨D, hD⟩ : ∃ D, D = ofC xs := ⟨_, rfl⟩
      have hset : SetL cX D := by rw [hD]; exact ofC_set xs
      have hokD : OkL D := by rw [hD]; exact hok.ofC
      have hDl : D.length ≤ 30 := by rw [hD]; have := ofC_len xs; have := HLX.out; omega
      rw [← hD] at hz hisz
      have h2 := isZ_two hisz
      have HNAME := Lib.hid hname
      have HISZ := Lib.hid hisz
      have HSET := Lib.hid hset
      have HOKD := Lib.hid hokD
      have HZ3 := Lib.hid hz
      obtain ⟨A3, c3', s3, rfl, _, _, _⟩ := hz
      clear hcode hname hall hisz hok hD hset hokD
      have hw0 := Whole.new w3 zoT #[.string N, .slice A3 D.length c3', .string s3.s, .int .i64 s3.t, .int .i64 s3.c, .int .i64 s3.l, .string s3.d]
      have hB0 : Below w3.heap.size w3 (w3.alloc (.cells #[.string N, .slice A3 D.length c3', .string s3.s, .int .i64 s3.t, .int .i64 s3.c, .int .i64 s3.l, .string s3.d] zoT)) := (Below.refl _ _).alloc (Nat.le_refl _) _
      obtain ⟨c0, c1, c2, c3, c4, c5, c6⟩ := zo_facts hw0
      have HZ4 := Lib.hid (HZ3.out.later hB0)
      have HB4 := Lib.hid (HB3.out.trans (hB0.mono HB3.out.size))
      clear hw0 hB0
      go_wp2_with fail
      refine (All_any N D _ _ HZ4.out (by omega)).mono ?_
      rintro e w5 ⟨u, rfl, ho, hB⟩
      obtain ⟨A5, c5', rfl, hs5, _⟩ := own_sees ho
      have HB5 := Lib.hid (HB4.out.trans (hB.mono HB4.out.size))
      have HS5 := Lib.hid hs5
      clear hB ho hs5 c0 c1 c2 c3 c4 c5 c6
      obtain ⟨m, hm⟩ : ∃ m, m = D.length := ⟨_, rfl⟩
      rw [← hm] at HS5 hDl h2 ⊢
      have HM := Lib.hid hm
      obtain ⟨T, hT⟩ : ∃ T, T = D.drop (v % m) ++ D.take (v % m) := ⟨_, rfl⟩
      have HT := Lib.hid hT
      have HLT := Lib.hid (show T.length = m by rw [hT, List.length_append, List.length_drop, List.length_take, ← hm]; omega)
      have HO0 := Lib.hid (own_noneR w5 w5.heap.size (Nat.le_refl _))
      have HBE := Lib.hid (show Below w5.heap.size w5 (w5.alloc (.cells #[] 27)) from (Below.refl _ _).alloc (Nat.le_refl _) _)
      have HS6 := Lib.hid (HS5.out.keep HBE.out)
      have HNL := Lib.hid (show 0 + m ≤ 1073741824 by omega)
      clear hT hm
      go_wp2_with (at_builtin; (refine wpList_append_R rfl _ _ rfl w5.heap.size _ 0 [] rfl HO0.out w5.heap.size _ _ _ _ rfl HS6.out HNL.out HBE.out.size ?_); intro v6 w6 ho hg)
      rw [Nat.zero_add, List.nil_append] at ho
      have HO6 := Lib.hid ho
      have HB6 := Lib.hid (HBE.out.grown hg HBE.out.size (own_block_ge HO0.out))
      clear ho hg
      go_wp2_with fail
      go_loopw [10, 11] (fun s i wr => ∃ k : Nat, k ≤ m ∧ i = .int .i64 (k : Nat) ∧ wr.ownsRow w5.heap.size 27 5 s (m + k) (rcells (D ++ T.take k)) ∧ Below w5.heap.size w5 wr) (fun _ i _ => m - (intOf i).toNat)
      case atStart => exact ⟨0, Nat.zero_le _, rfl, by rw [List.take_zero, List.append_nil]; exact HO6.out, HB6.out⟩
      case round =>
        obtain ⟨k, hk, rfl, hO, hB⟩ := hrel
        have HO := Lib.hid hO
        have HB := Lib.hid hB
        clear hO hB
        by_cases hkm : k < m
        · have g2 : (k : Int) < (m : Int) := by omega
          have g0 : (0 : Int) ≤ (k : Int) := by omega
          have hjm : (k + v) % m < m := Nat.mod_lt _ (by omega)
          have g3 : ((k : Int) + (v : Int)) % (m : Int) < (m : Int) := Int.emod_lt_of_pos _ (by omega)
          have g4 : (0 : Int) ≤ ((k : Int) + (v : Int)) % (m : Int) := Int.emod_nonneg _ (by omega)
          obtain ⟨b, off, x, rfl, hb, hxk, ht⟩ := (HS5.out.keep HB.out).at hjm
          obtain ⟨x0, x1, x2, x3, x4⟩ := ht
          have HST := Lib.hid (show D ++ T.take (k + 1) = (D ++ T.take k) ++ [x] by
            rw [List.append_assoc, List.take_add_one, HT.out, turn_at HM.out.symm hkm hxk]; rfl)
          have HQ3 := Lib.hid (HO.out.alloc (.cells #[.string x.s, .int .i64 x.t, .int .i64 x.c, .int .i64 x.l, .string x.d] 27))
          have HD3 := Lib.hid (show Below w5.heap.size w5 (wr.alloc (.cells #[.string x.s, .int .i64 x.t, .int .i64 x.c, .int .i64 x.l, .string x.d] 27)) from HB.out.alloc HB.out.size _)
          have HA3 := Lib.hid (show w5.heap.size ≤ (wr.alloc (.cells #[.string x.s, .int .i64 x.t, .int .i64 x.c, .int .i64 x.l, .string x.d] 27)).heap.size from HD3.out.size)
          have HLE := Lib.hid (show m + k + 1 ≤ 1073741824 by omega)
          clear hxk
          go_wp2_with (at_builtin; (refine wpList_append_R rfl _ _ rfl w5.heap.size _ _ (D ++ T.take k) rfl HQ3.out (wr.heap.size + 1) _ _ _ _ rfl (SeesR.one _ x) HLE.out HA3.out ?_); intro v3 w7 ho hg; (have HO7 := Lib.hid (show w7.ownsRow w5.heap.size 27 5 v3 (m + k + 1) (rcells (D ++ T.take (k + 1))) by rw [HST.out]; exact ho)); (have HB7 := Lib.hid (HD3.out.grown hg HA3.out (own_block_ge HQ3.out))); clear ho hg x0 x1 x2 x3 x4)
          go_roundw
          case rel => exact ⟨k + 1, by omega, by go_num, HO7.out, HB7.out⟩
          case measure => simp [intOf]; omega
        · obtain rfl : k = m := by omega
          have g2 : ¬ ((k : Int) < (k : Int)) := by omega
          have hT1 : T.take k = T := List.take_of_length_le (by rw [HLT.out]; exact Nat.le_refl _)
          have hO := HO.out
          rw [hT1] at hO
          obtain ⟨A7, c7', ev, hs7, _⟩ := own_sees hO
          subst ev
          have HS7 := Lib.hid hs7
          have HB7 := Lib.hid (HB5.out.trans (HB.out.mono HB5.out.size))
          have HK7 := Lib.hid ((HS5.out.keep HB.out).more HB.out.size)
          have hTm : ∀ x ∈ T, x ∈ D := fun x hx => by rw [HT.out] at hx; exact turn_mem.1 hx
          have HOKB := Lib.hid (show OkL (D ++ T) from fun x hx => (List.mem_append.1 hx).elim (HOKD.out x) (fun h => HOKD.out x (hTm x h)))
          have HOF := Lib.hid (show ofC (D ++ T) = D from ofC_more HSET.out T hTm)
          have HCODE := Lib.hid (show codeZ nn (D ++ T) = 0 by unfold codeZ; rw [HNAME.out, HOKB.out.all, HOF.out, HISZ.out]; rfl)
          have HSM := Lib.hid (show sameX D D = true from sameX_is.2 rfl)
          have g7 : (k : Int) ≥ 2 := by omega
          clear hO hT1 hs7 hTm
          go_wp2_with fail
          refine (ZNew_any A7 (k + k) c7' N nn (D ++ T) _ HN.out HS7.out (by omega) HOKB.out.low).mono ?_
          rintro e w8 ⟨h, hB⟩
          have HB8 := Lib.hid (HB7.out.trans (hB.mono HB7.out.size))
          have HK8 := Lib.hid ((HK7.out.keep hB).more hB.size)
          clear hB
          rcases h with ⟨hc, _⟩ | ⟨hc, _⟩ | ⟨_, z8, rfl, hz8⟩
          · rw [HCODE.out] at hc; cases hc
          · rw [HCODE.out] at hc; cases hc
          · rw [HOF.out] at hz8
            have HZ8 := Lib.hid hz8
            obtain ⟨A8, c8', s8, rfl, _, _, _⟩ := hz8
            have hw0 := Whole.new w8 zoT #[.string N, .slice A8 D.length c8', .string s8.s, .int .i64 s8.t, .int .i64 s8.c, .int .i64 s8.l, .string s8.d]
            have hB0 : Below w8.heap.size w8 (w8.alloc (.cells #[.string N, .slice A8 D.length c8', .string s8.s, .int .i64 s8.t, .int .i64 s8.c, .int .i64 s8.l, .string s8.d] zoT)) := (Below.refl _ _).alloc (Nat.le_refl _) _
            obtain ⟨c0, c1, c2, c3, c4, c5, c6⟩ := zo_facts hw0
            have HZ9 := Lib.hid (HZ8.out.later hB0)
            have HB9 := Lib.hid (HB8.out.trans (hB0.mono HB8.out.size))
            have HK9 := Lib.hid ((HK8.out.keep hB0).more hB0.size)
            clear hw0 hB0
            go_wp2_with fail
            refine (All_any N D _ _ HZ9.out (by have := HM.out; omega)).mono ?_
            rintro e w10 ⟨u10, rfl, ho, hB⟩
            obtain ⟨A10, c10', rfl, hs10, _⟩ := own_sees ho
            have HB10 := Lib.hid (HB9.out.trans (hB.mono HB9.out.size))
            have HK10 := Lib.hid ((HK9.out.keep hB).more hB.size)
            have HS10 := Lib.hid hs10
            clear hB ho hs10 c0 c1 c2 c3 c4 c5 c6
            go_wp2_with fail
            refine (Same_any A10 A5 D.length c10' k c5' D D _ HS10.out HK10.out (by have := HM.out; omega)).mono ?_
            rw [HSM.out]
            rintro e w11 ⟨rfl, hB⟩
            have HB11 := Lib.hid (HB10.out.trans (hB.mono HB10.out.size))
            clear hB
            go_wp2_with fail
            go_ret
            exact ⟨rfl, HB11.out⟩
end Go.Proofs.Ytkmmbbcmpjkmkaa
