/- Parts of the proofs of the statements of image. No statement of the seat is proved here. -/
import Derived.Test.YtnbapaimpoobkaaGreatDoorImgK
import Derived.Test.YtnbapaimpoobkaaGreatDoorImgT
import Derived.Deep.RegionHeld3
namespace Go.Proofs.YtnbapaimpoobkaaGreatDoor
open Go.RowKit Go.Op
set_option linter.unusedVariables false

set_option maxHeartbeats 32000000 in
set_option maxRecDepth 20000 in
theorem ImageTurns_walk (N : ByteArray) (A : Option Addr) (n c : Nat) (xs : List Rrd) (by0 : Int) (w : World) (hx : SeesR w w.heap.size A n xs) (h63 : n ≤ 9223372036854775807) (hby : (Lit.int .u8 by0).wf = true) (he : EnvL w) :
    Calls Tryz.prog 7 #[.string N, .slice A n c, .int .u8 by0] w fun e w' => e = .returned (.bool true) ∧ Below w.heap.size w w' := by
  obtain ⟨nn, hnn⟩ : ∃ nn, N = mk nn := ⟨_, (mk_toList N).symm⟩
  have HN := Lib.hid hnn
  have HX := Lib.hid hx
  have HLX := Lib.hid hx.1
  have HE := Lib.hid he
  obtain ⟨v, rfl, hv⟩ := u8_is hby
  obtain ⟨q, hq⟩ : ∃ q, q = v % 3 := ⟨_, rfl⟩
  have q1 : IntKind.i64.wrap (v : Int) = (v : Int) := by rw [IntKind.wrap_i64]; omega
  have q2 : IntKind.i64.wrap (q : Int) = (q : Int) := by rw [IntKind.wrap_i64]; omega
  have q3 : (v : Int) % 3 = (q : Int) := by omega
  have q4 : q ≤ 2 := by omega
  clear hx hnn he hby hq
  cases hf : fewL xs with
  | false =>
    have HF := Lib.hid hf
    clear hf
    go_enter Tryz.func7, Tryz.ntmps7
    go_wp2_with fail
    refine (iawake_any _ HE.out.env).mono ?_
    rintro e w1 ⟨rfl, hB⟩
    have HX1 := Lib.hid ((HX.out.keep hB).more hB.size)
    have HB1 := Lib.hid hB
    clear hB
    go_wp2_with fail
    refine (Few_any A n c xs _ HX1.out h63).mono ?_
    rw [HF.out]
    rintro e w2 ⟨rfl, hB⟩
    have HB2 := Lib.hid (HB1.out.trans (hB.mono HB1.out.size))
    clear hB
    go_wp2_with fail
    refine (iawake_any _ (HE.out.beyond HB2.out).env).mono ?_
    rintro e w3 ⟨rfl, hB⟩
    have HB3 := Lib.hid (HB2.out.trans (hB.mono HB2.out.size))
    clear hB
    go_wp2_with fail
    go_ret
    exact ⟨rfl, HB3.out⟩
  | true =>
    obtain ⟨h30, hlow⟩ := fewL_is hf
    have hn30 : n ≤ 30 := by have := HLX.out; omega
    have HSM := Lib.hid (few_small hf)
    have HLOW := Lib.hid hlow
    have HF := Lib.hid hf
    clear hf hlow h30
    go_enter Tryz.func7, Tryz.ntmps7
    go_wp2_with fail
    refine (iawake_any _ HE.out.env).mono ?_
    rintro e w1 ⟨rfl, hB⟩
    have HX1 := Lib.hid ((HX.out.keep hB).more hB.size)
    have HB1 := Lib.hid hB
    clear hB
    go_wp2_with fail
    refine (Few_any A n c xs _ HX1.out h63).mono ?_
    rw [HF.out]
    rintro e w2 ⟨rfl, hB⟩
    have HX2 := Lib.hid ((HX1.out.keep hB).more hB.size)
    have HB2 := Lib.hid (HB1.out.trans (hB.mono HB1.out.size))
    clear hB
    go_wp2_with fail
    refine (ZNew_any A n c N nn xs _ HN.out HX2.out (by omega) HLOW.out).mono ?_
    rintro e w3 ⟨h, hB⟩
    have HB3 := Lib.hid (HB2.out.trans (hB.mono HB2.out.size))
    clear hB
    rcases h with ⟨_, rfl⟩ | ⟨_, rfl⟩ | ⟨hcode, z, rfl, hz⟩
    · unfold zeroZ
      go_wp2_with fail
      go_ret
      exact ⟨rfl, HB3.out.alloc HB3.out.size _⟩
    · unfold zeroZ
      go_wp2_with fail
      go_ret
      exact ⟨rfl, HB3.out.alloc HB3.out.size _⟩
    · obtain ⟨hname, hall, hisz⟩ := codeZ_zero hcode
      have hok := HLOW.out.ok hall
      obtain ⟨D, hD⟩ : ∃ D, D = ofC xs := ⟨_, rfl⟩
      have hset : SetL cX D := by rw [hD]; exact ofC_set xs
      have hokD : OkL D := by rw [hD]; exact hok.ofC
      have hDl : D.length ≤ 30 := by rw [hD]; have := ofC_len xs; have := HLX.out; omega
      have hdD : ∀ x ∈ D, x.d.size ≤ 2000 := fun x hx => (HSM.out x (ofC_mem xs x (by rw [← hD]; exact hx))).2
      rw [← hD] at hz hisz
      have hnl := name_short hname
      have hokr : ∀ x ∈ D, okR x.toRec = true := fun x hx => (hokD x hx).1
      have h2 := isZ_two hisz
      have HNAME := Lib.hid hname
      have HISZ := Lib.hid hisz
      have HSET := Lib.hid hset
      have HOKD := Lib.hid hokD
      have HDD := Lib.hid hdD
      have HZ3 := Lib.hid hz
      obtain ⟨A3, c3, s3, rfl, _, _, _⟩ := hz
      clear hcode hname hall hisz hok hD hset hokD hdD hnl hokr
      obtain ⟨W3, hW3⟩ : ∃ W, W = w3.alloc (.cells #[.string N, .slice A3 D.length c3, .string s3.s, .int .i64 s3.t, .int .i64 s3.c, .int .i64 s3.l, .string s3.d] zoT) := ⟨_, rfl⟩
      obtain ⟨g3, hg3⟩ : ∃ g, g = w3.heap.size := ⟨_, rfl⟩
      have hb : Below w3.heap.size w3 W3 := by rw [hW3]; exact (Below.refl _ _).alloc (Nat.le_refl _) _
      have HV3 := Lib.hid (show Whole W3 g3 zoT #[.string N, .slice A3 D.length c3, .string s3.s, .int .i64 s3.t, .int .i64 s3.c, .int .i64 s3.l, .string s3.d] by rw [hW3, hg3]; exact Whole.new _ _ _)
      have HZ4 := Lib.hid (HZ3.out.later hb)
      have HB4 := Lib.hid (HB3.out.trans (hb.mono HB3.out.size))
      have HWW3 := Lib.hid hW3
      have HG3 := Lib.hid hg3
      clear hb hW3 hg3
      obtain ⟨d0, d1, d2, d3, d4, d5, d6⟩ := zo_facts HV3.out
      go_wp2_with fail
      rw [← HWW3.out, ← HG3.out]
      go_wp2_with fail
      refine (Lines_any N D _ _ HZ4.out (by omega) HOKD.out (HE.out.beyond HB4.out).env).mono ?_
      rintro e w5 ⟨u, rfl, ho, hB⟩
      have HV5 := Lib.hid (HV3.out.below hB HV3.out.lt)
      have HZ5 := Lib.hid (HZ4.out.later hB)
      have HB5 := Lib.hid (HB4.out.trans (hB.mono HB4.out.size))
      obtain ⟨A5, c5, rfl, hs5⟩ := Sees.own ho
      have HS5 := Lib.hid hs5
      clear hB ho hs5 d0 d1 d2 d3 d4 d5 d6
      obtain ⟨d0, d1, d2, d3, d4, d5, d6⟩ := zo_facts HV5.out
      go_wp2_with fail
      refine (All_any N D _ _ HZ5.out (by omega)).mono ?_
      rintro e w6 ⟨u, rfl, ho, hB⟩
      obtain ⟨A6, c6, rfl, _, _⟩ := own_sees ho
      have HV6 := Lib.hid (HV5.out.below hB HV5.out.lt)
      have HZ6 := Lib.hid (HZ5.out.later hB)
      have HB6 := Lib.hid (HB5.out.trans (hB.mono HB5.out.size))
      have HS6 := Lib.hid ((HS5.out.below hB).more hB.size)
      clear hB ho d0 d1 d2 d3 d4 d5 d6
      obtain ⟨m, hm⟩ : ∃ m, m = D.length := ⟨_, rfl⟩
      rw [← hm] at HS6 hDl h2 ⊢
      have HM := Lib.hid hm
      have g0 : ((m : Int) != (m : Int)) = false := by simp
      have g1 : ((m : Int) == 0) = false := by rw [beq_eq_false_iff_ne]; omega
      clear hm
      go_wp2_with fail
      go_loopw [10, 11] (fun s i wr => ∃ k : Nat, k ≤ m + q ∧ i = .int .i64 (k : Nat) ∧ wr.ownsRow w6.heap.size 9 1 s k (texts ((turnL D v k).map lineS)) ∧ Below w6.heap.size w6 wr) (fun _ i _ => m + q - (intOf i).toNat)
      case atStart => exact ⟨0, Nat.zero_le _, rfl, World.ownsRow_nil _ _ _ _, Below.refl _ _⟩
      case round =>
        obtain ⟨k, hk, rfl, hO, hB⟩ := hrel
        have HO := Lib.hid hO
        have HB := Lib.hid hB
        clear hO hB
        by_cases hkm : k < m + q
        · have g2 : (k : Int) < (m : Int) + (q : Int) := by omega
          have g7 : (0 : Int) ≤ (k : Int) := by omega
          have hjm : (k + v) % m < m := Nat.mod_lt _ (by omega)
          have g3 : ((k : Int) + (v : Int)) % (m : Int) < (m : Int) := Int.emod_lt_of_pos _ (by omega)
          have g4 : (0 : Int) ≤ ((k : Int) + (v : Int)) % (m : Int) := Int.emod_nonneg _ (by omega)
          obtain ⟨b, off, rfl, hb, hc⟩ := texts_at (HS6.out.below HB.out) hjm
          have hjl : (k + v) % m < D.length := by rw [← HM.out]; exact hjm
          obtain ⟨x, hx⟩ : ∃ x, x = D[(k + v) % m] := ⟨_, rfl⟩
          have hxk : D[(k + v) % D.length]? = some x := by rw [← HM.out, hx]; exact List.getElem?_eq_getElem hjl
          have hg : (D.map lineS).getD ((k + v) % m) ByteArray.empty = lineS x := by rw [hx]; simp [List.getD, hjl]
          rw [hg] at hc
          have HTK := Lib.hid (show texts ((turnL D v (k + 1)).map lineS) = texts ((turnL D v k).map lineS) ++ [.string (lineS x)] by rw [turnL_succ D v k hxk]; simp [texts])
          obtain ⟨i0, hi0, hz0, hz1, hz2⟩ := info_parts text_info
          have H63 : Hid (k + 1 ≤ maxLen) := Lib.hid (by unfold maxLen; omega)
          have H47 : Hid ((k + 1) * 16 ≤ 140737488355328) := Lib.hid (by omega)
          clear hjl hx hxk hg
          go_wp2_with (at_builtin; refine wpList_append_own _ rfl _ _ 37 rfl w6.heap.size 9 i0 (.string ⟨#[]⟩) 1 16 Tryz.underlying37 hi0 hz0 hz1 hz2 rfl (by decide) _ _ _ rfl (HO.out.alloc _) ⟨wr.heap.size, 0, none⟩ 1 1 [.string (lineS x)] rfl rfl (news1 _ _ _) (one1 _ rfl) H63.out H47.out (by have := HB.out.size; simp; omega) ?_; intro v2 w2 hown2 hgrow _)
          have HO3 := Lib.hid (show w2.ownsRow w6.heap.size 9 1 v2 (k + 1) (texts ((turnL D v (k + 1)).map lineS)) by rw [HTK.out]; exact hown2)
          have HB2' := Lib.hid ((HB.out.alloc HB.out.size (.cells #[.string (lineS x)] 9)).grown hgrow (by have := HB.out.size; simp; omega) (fun j hj => (HO.out.lt j hj).1))
          clear hown2 hgrow
          go_wp2_with fail
          go_roundw
          case rel => exact ⟨k + 1, by omega, by go_num, HO3.out, HB2'.out⟩
          case measure => simp [intOf]; omega
        · obtain rfl : k = m + q := by omega
          have g2 : ¬ (((m + q : Nat) : Int) < (m : Int) + (q : Int)) := by omega
          obtain ⟨A7, c7, rfl, hs7⟩ := Sees.own HO.out
          have h0D : 0 < D.length := by rw [← HM.out]; omega
          obtain ⟨T, hT⟩ : ∃ T, T = turnL D v (m + q) := ⟨_, rfl⟩
          rw [← hT] at hs7
          have hTin : ∀ x ∈ T, x ∈ D := by rw [hT]; exact turnL_in h0D
          have hTall : ∀ x ∈ D, x ∈ T := by rw [hT]; exact turnL_all (by rw [← HM.out]; omega)
          have hTok : OkL T := fun x hx => HOKD.out x (hTin x hx)
          have HOF := Lib.hid (show ofC T = D from ofC_cover HSET.out hTin hTall)
          have HCODE := Lib.hid (show codeZ nn T = 0 by unfold codeZ; rw [HNAME.out, hTok.all, HOF.out, HISZ.out]; rfl)
          have HRL := Lib.hid (recsL_lines T hTok)
          have HLN := Lib.hid (show ∀ s ∈ T.map lineL, s.length ≤ 60000 from fun s hs => by obtain ⟨x, hx, rfl⟩ := List.mem_map.1 hs; exact lineL_len (hTok x hx) (HDD.out x (hTin x hx)))
          have HS7 := Lib.hid (show Sees wr wr.heap.size A7 (m + q) (texts ((T.map lineL).map mk)) by rw [List.map_map]; exact hs7)
          have HB7 := Lib.hid (HB6.out.trans (HB.out.mono HB6.out.size))
          have HV7 := Lib.hid (HV6.out.below HB.out HV6.out.lt)
          have HZ7 := Lib.hid (HZ6.out.later HB.out)
          clear hT hTin hTall hTok hs7 h0D
          go_wp2_with fail
          refine (IRead_any N nn A7 (m + q) c7 (T.map lineL) _ HN.out HS7.out (by omega) HLN.out (HE.out.beyond HB7.out)).mono ?_
          rintro e w8 ⟨h, hB⟩
          unfold ReadOut at h
          rw [HRL.out] at h
          simp only at h
          unfold NewOut at h
          rw [HCODE.out, HOF.out] at h
          rcases h with ⟨h, _⟩ | ⟨h, _⟩ | ⟨_, z8, rfl, hz8⟩
          · cases h
          · cases h
          have HV8 := Lib.hid (HV7.out.below hB HV7.out.lt)
          have HZ8 := Lib.hid (HZ7.out.later hB)
          have HB8 := Lib.hid (HB7.out.trans (hB.mono HB7.out.size))
          have HY8 := Lib.hid hz8
          obtain ⟨A8, c8, s8, rfl, _, _, _⟩ := hz8
          clear hB
          obtain ⟨W8, hW8⟩ : ∃ W, W = w8.alloc (.cells #[.string N, .slice A8 D.length c8, .string s8.s, .int .i64 s8.t, .int .i64 s8.c, .int .i64 s8.l, .string s8.d] zoT) := ⟨_, rfl⟩
          obtain ⟨g8, hg8⟩ : ∃ g, g = w8.heap.size := ⟨_, rfl⟩
          have hb : Below w8.heap.size w8 W8 := by rw [hW8]; exact (Below.refl _ _).alloc (Nat.le_refl _) _
          have HU9 := Lib.hid (show Whole W8 g8 zoT #[.string N, .slice A8 D.length c8, .string s8.s, .int .i64 s8.t, .int .i64 s8.c, .int .i64 s8.l, .string s8.d] by rw [hW8, hg8]; exact Whole.new _ _ _)
          have HY9 := Lib.hid (HY8.out.later hb)
          have HV9 := Lib.hid (HV8.out.below hb HV8.out.lt)
          have HZ9 := Lib.hid (HZ8.out.later hb)
          have HB9 := Lib.hid (HB8.out.trans (hb.mono HB8.out.size))
          have HWW8 := Lib.hid hW8
          have HG8 := Lib.hid hg8
          clear hb hW8 hg8
          go_wp2_with fail
          rw [← HWW8.out, ← HG8.out]
          have HSMa := Lib.hid (show sameX D D = true from sameX_is.2 rfl)
          have hb1 : Below W8.heap.size W8 W8.drew := (Below.refl _ _).drew
          have ka0 : ∀ w' : World, Below W8.heap.size W8 w' → w'.cell? ⟨g3, 0, none⟩ = some (.string N) := fun w' h => (h.cell (HV9.out.lt)).trans ((HV9.out.cell 0).trans rfl)
          have ka1 : ∀ w' : World, Below W8.heap.size W8 w' → w'.cell? ⟨g3, 1, none⟩ = some (.slice A3 D.length c3) := fun w' h => (h.cell (HV9.out.lt)).trans ((HV9.out.cell 1).trans rfl)
          have ka2 : ∀ w' : World, Below W8.heap.size W8 w' → w'.cell? ⟨g3, 2, none⟩ = some (.string s3.s) := fun w' h => (h.cell (HV9.out.lt)).trans ((HV9.out.cell 2).trans rfl)
          have ka3 : ∀ w' : World, Below W8.heap.size W8 w' → w'.cell? ⟨g3, 3, none⟩ = some (.int .i64 s3.t) := fun w' h => (h.cell (HV9.out.lt)).trans ((HV9.out.cell 3).trans rfl)
          have ka4 : ∀ w' : World, Below W8.heap.size W8 w' → w'.cell? ⟨g3, 4, none⟩ = some (.int .i64 s3.c) := fun w' h => (h.cell (HV9.out.lt)).trans ((HV9.out.cell 4).trans rfl)
          have ka5 : ∀ w' : World, Below W8.heap.size W8 w' → w'.cell? ⟨g3, 5, none⟩ = some (.int .i64 s3.l) := fun w' h => (h.cell (HV9.out.lt)).trans ((HV9.out.cell 5).trans rfl)
          have ka6 : ∀ w' : World, Below W8.heap.size W8 w' → w'.cell? ⟨g3, 6, none⟩ = some (.string s3.d) := fun w' h => (h.cell (HV9.out.lt)).trans ((HV9.out.cell 6).trans rfl)
          have kx0 : ∀ w' : World, Below W8.heap.size W8 w' → w'.cell? ⟨g8, 0, none⟩ = some (.string N) := fun w' h => (h.cell (HU9.out.lt)).trans ((HU9.out.cell 0).trans rfl)
          have kx1 : ∀ w' : World, Below W8.heap.size W8 w' → w'.cell? ⟨g8, 1, none⟩ = some (.slice A8 D.length c8) := fun w' h => (h.cell (HU9.out.lt)).trans ((HU9.out.cell 1).trans rfl)
          have kx2 : ∀ w' : World, Below W8.heap.size W8 w' → w'.cell? ⟨g8, 2, none⟩ = some (.string s8.s) := fun w' h => (h.cell (HU9.out.lt)).trans ((HU9.out.cell 2).trans rfl)
          have kx3 : ∀ w' : World, Below W8.heap.size W8 w' → w'.cell? ⟨g8, 3, none⟩ = some (.int .i64 s8.t) := fun w' h => (h.cell (HU9.out.lt)).trans ((HU9.out.cell 3).trans rfl)
          have kx4 : ∀ w' : World, Below W8.heap.size W8 w' → w'.cell? ⟨g8, 4, none⟩ = some (.int .i64 s8.c) := fun w' h => (h.cell (HU9.out.lt)).trans ((HU9.out.cell 4).trans rfl)
          have kx5 : ∀ w' : World, Below W8.heap.size W8 w' → w'.cell? ⟨g8, 5, none⟩ = some (.int .i64 s8.l) := fun w' h => (h.cell (HU9.out.lt)).trans ((HU9.out.cell 5).trans rfl)
          have kx6 : ∀ w' : World, Below W8.heap.size W8 w' → w'.cell? ⟨g8, 6, none⟩ = some (.string s8.d) := fun w' h => (h.cell (HU9.out.lt)).trans ((HU9.out.cell 6).trans rfl)
          go_region_held3 (fun w' => Below W8.heap.size W8 w') (go_keep) (first
            | (go_at_call 20; (refine (Same_any Q1 Q2 D.length o1 D.length o2 D D _ ((hs1.keep hB2).more hB2.size) hs2 (by have := HM.out; omega)).mono ?_; rw [HSMa.out]; rintro e u3 ⟨rfl, hB3⟩; have hT3 : Below W8.heap.size W8 u3 := hT2.trans (hB3.mono hT2.size)))
            | (go_at_call 21; (refine (All_any N D _ _ (HZ9.out.later hT1) (by have := HM.out; omega)).mono ?_; rintro e u2 ⟨v2, rfl, ho2, hB2⟩; obtain ⟨Q2, o2, rfl, hs2, _⟩ := own_sees ho2; have hT2 : Below W8.heap.size W8 u2 := hT1.trans (hB2.mono hT1.size)))
            | (go_at_call 21; (refine (All_any N D _ _ (HY9.out.later hb1) (by have := HM.out; omega)).mono ?_; rintro e u1 ⟨v1, rfl, ho1, hB1⟩; obtain ⟨Q1, o1, rfl, hs1, _⟩ := own_sees ho1; have hT1 : Below W8.heap.size W8 u1 := hb1.trans (hB1.mono hb1.size))))
          all_goals (
            have HBE := Lib.hid (HB9.out.trans (hT3.mono HB9.out.size))
            go_wp2_with fail
            go_ret
            exact ⟨rfl, HBE.out⟩)
end Go.Proofs.YtnbapaimpoobkaaGreatDoor
