/- Parts of the proofs of the statements of image. No statement of the seat is proved here. -/
import Derived.Test.YtnbapaimpoobkaaGreatDoorImgL
import Derived.Test.YtnbapaimpoobkaaGreatDoorImgG
import Derived.Test.YtnbapaimpoobkaaGreatDoorImgX
import Derived.Deep.RegionHeld3
namespace Go.Proofs.YtnbapaimpoobkaaGreatDoor
open Go.RowKit Go.Op
set_option linter.unusedVariables false

theorem Texts_yes (A A' : Option Addr) (n c c' B B' : Nat) (zs : List ByteArray) (w : World) (h : Sees w B A n (texts zs)) (h' : Sees w B' A' n (texts zs)) (hn : n ≤ 1073741824) :
    Calls Tryz.prog 15 #[.slice A n c, .slice A' n c'] w fun e w' => e = .returned (.bool true) ∧ ∃ m, w' = w.drewN m := by
  have hnn : ((n : Int) != (n : Int)) = false := by simp
  go_enter Tryz.func15, Tryz.ntmps15
  go_wp2_with fail
  go_loopw [5] (fun i wr => ∃ k : Nat, k ≤ n ∧ i = .int .i64 k ∧ ∃ m, wr = w.drewN m) (fun i _ => n - (intOf i).toNat)
  case atStart => exact ⟨0, Nat.zero_le _, rfl, 0, rfl⟩
  case round =>
    obtain ⟨k, hk, rfl, m, rfl⟩ := hrel
    by_cases hlt : k < n
    · obtain ⟨b, off, rfl, _, hc⟩ := texts_at h hlt
      obtain ⟨b', off', rfl, _, hc'⟩ := texts_at h' hlt
      have hi : (k : Int) < (n : Int) := by omega
      have hi0 : (0 : Int) ≤ (k : Int) := by omega
      go_wp2_with fail
      go_quiet (fail)
      go_wp2_with fail
      go_roundw
      case rel => exact ⟨k + 1, by omega, by go_num, _, rfl⟩
      case measure => simp [intOf]; omega
    · obtain rfl : k = n := by omega
      go_wp2_with fail
      go_ret
      exact ⟨rfl, _, rfl⟩
set_option maxHeartbeats 32000000 in
set_option maxRecDepth 20000 in
theorem ImageBytes_walk (N : ByteArray) (A : Option Addr) (n c : Nat) (xs : List Rrd) (g : Nat) (w : World) (hx : SeesR w w.heap.size A n xs) (h63 : n ≤ 9223372036854775807) (hg : g < 18446744073709551616) (he : Env w) :
    Calls Tryz.prog 3 #[.string N, .slice A n c, .int .u64 (g : Nat)] w fun e w' => e = .returned (.bool true) ∧ Below w.heap.size w w' := by
  obtain ⟨nn, hnn⟩ : ∃ nn, N = mk nn := ⟨_, (mk_toList N).symm⟩
  have HN := Lib.hid hnn
  have HX := Lib.hid hx
  have HLX := Lib.hid hx.1
  have HE := Lib.hid he
  have HG := Lib.hid hg
  clear hx hnn he hg
  cases hf : fewL xs with
  | false =>
    have HF := Lib.hid hf
    clear hf
    go_enter Tryz.func3, Tryz.ntmps3
    go_wp2_with fail
    refine (iawake_any _ HE.out).mono ?_
    rintro e w1 ⟨rfl, hB⟩
    have HX1 := Lib.hid ((HX.out.keep hB).more hB.size)
    have HB1 := Lib.hid hB
    clear hB
    go_wp2_with fail
    refine (Few_any A n c xs _ HX1.out h63).mono ?_
    rw [HF.out]
    rintro e w2 ⟨rfl, hB⟩
    have HB2 := Lib.hid (HB1.out.trans (hB.mono HB1.out.size))
    clear hB
    go_wp2_with fail
    refine (iawake_any _ (HE.out.beyond HB2.out)).mono ?_
    rintro e w3 ⟨rfl, hB⟩
    have HB3 := Lib.hid (HB2.out.trans (hB.mono HB2.out.size))
    clear hB
    go_wp2_with fail
    go_ret
    exact ⟨rfl, HB3.out⟩
  | true =>
    obtain ⟨h30, hlow⟩ := fewL_is hf
    have hn30 : n ≤ 30 := by have := HLX.out; omega
    have HSM := Lib.hid (few_small hf)
    have HLOW := Lib.hid hlow
    have HF := Lib.hid hf
    clear hf hlow h30
    go_enter Tryz.func3, Tryz.ntmps3
    go_wp2_with fail
    refine (iawake_any _ HE.out).mono ?_
    rintro e w1 ⟨rfl, hB⟩
    have HX1 := Lib.hid ((HX.out.keep hB).more hB.size)
    have HB1 := Lib.hid hB
    clear hB
    go_wp2_with fail
    refine (Few_any A n c xs _ HX1.out h63).mono ?_
    rw [HF.out]
    rintro e w2 ⟨rfl, hB⟩
    have HX2 := Lib.hid ((HX1.out.keep hB).more hB.size)
    have HB2 := Lib.hid (HB1.out.trans (hB.mono HB1.out.size))
    clear hB
    go_wp2_with fail
    refine (ZNew_any A n c N nn xs _ HN.out HX2.out (by omega) HLOW.out).mono ?_
    rintro e w3 ⟨h, hB⟩
    have HX3 := Lib.hid ((HX2.out.keep hB).more hB.size)
    have HB3 := Lib.hid (HB2.out.trans (hB.mono HB2.out.size))
    clear hB
    rcases h with ⟨hcode, rfl⟩ | ⟨hcode, rfl⟩ | ⟨hcode, z, rfl, hz⟩
    · have HC := Lib.hid hcode
      clear hcode
      unfold zeroZ
      have hb4 : Below w3.heap.size w3 (w3.alloc (.cells #[.string ⟨#[]⟩, .slice none 0 0, .string ⟨#[]⟩, .int .i64 0, .int .i64 0, .int .i64 0, .string ⟨#[]⟩] zoT)) := (Below.refl _ _).alloc (Nat.le_refl _) _
      have HB4 := Lib.hid (HB3.out.trans (hb4.mono HB3.out.size))
      have HX4 := Lib.hid ((HX3.out.keep hb4).more hb4.size)
      clear hb4
      go_wp2_with fail
      refine (RefNew_any A n c N nn xs _ HN.out HX4.out (by omega) HLOW.out).mono ?_
      rintro e w5 ⟨h, hB⟩
      have HB5 := Lib.hid (HB4.out.trans (hB.mono HB4.out.size))
      clear hB
      rcases h with ⟨h, rfl⟩ | ⟨h, _⟩ | ⟨h, _⟩
      · clear h
        go_wp2_with fail
        go_ret
        exact ⟨rfl, HB5.out.alloc HB5.out.size _⟩
      · rw [HC.out] at h; cases h
      · rw [HC.out] at h; cases h
    · have HC := Lib.hid hcode
      clear hcode
      unfold zeroZ
      have hb4 : Below w3.heap.size w3 (w3.alloc (.cells #[.string ⟨#[]⟩, .slice none 0 0, .string ⟨#[]⟩, .int .i64 0, .int .i64 0, .int .i64 0, .string ⟨#[]⟩] zoT)) := (Below.refl _ _).alloc (Nat.le_refl _) _
      have HB4 := Lib.hid (HB3.out.trans (hb4.mono HB3.out.size))
      have HX4 := Lib.hid ((HX3.out.keep hb4).more hb4.size)
      clear hb4
      go_wp2_with fail
      refine (RefNew_any A n c N nn xs _ HN.out HX4.out (by omega) HLOW.out).mono ?_
      rintro e w5 ⟨h, hB⟩
      have HB5 := Lib.hid (HB4.out.trans (hB.mono HB4.out.size))
      clear hB
      rcases h with ⟨h, _⟩ | ⟨h, rfl⟩ | ⟨h, _⟩
      · rw [HC.out] at h; cases h
      · clear h
        go_wp2_with fail
        go_ret
        exact ⟨rfl, HB5.out.alloc HB5.out.size _⟩
      · rw [HC.out] at h; cases h
    · obtain ⟨hname, hall, hisz⟩ := codeZ_zero hcode
      have hok := HLOW.out.ok hall
      obtain ⟨D, hD⟩ : ∃ D, D = ofC xs := ⟨_, rfl⟩
      have hokD : OkL D := by rw [hD]; exact hok.ofC
      have hDl : D.length ≤ 30 := by rw [hD]; have := ofC_len xs; have := HLX.out; omega
      have hdD : ∀ x ∈ D, x.s.size ≤ 600 ∧ x.d.size ≤ 2000 := fun x hx => HSM.out x (ofC_mem xs x (by rw [← hD]; exact hx))
      rw [← hD] at hz
      have hnl := name_short hname
      have HC := Lib.hid hcode
      have HNL := Lib.hid hnl
      have HOKD := Lib.hid hokD
      have HOKR := Lib.hid (show ∀ x ∈ D, okR x.toRec = true from fun x hx => (hokD x hx).1)
      have HDD := Lib.hid hdD
      have HD := Lib.hid hD
      have HZ3 := Lib.hid hz
      obtain ⟨Bv, hBv⟩ : ∃ Bv, Bv = mk (imgB g nn D) := ⟨_, rfl⟩
      have HBV := Lib.hid hBv
      obtain ⟨A3, c3, s3, rfl, _, _, _⟩ := hz
      clear hcode hname hall hisz hok hD hokD hdD hnl hBv
      obtain ⟨W3, hW3⟩ : ∃ W, W = w3.alloc (.cells #[.string N, .slice A3 D.length c3, .string s3.s, .int .i64 s3.t, .int .i64 s3.c, .int .i64 s3.l, .string s3.d] zoT) := ⟨_, rfl⟩
      obtain ⟨g3, hg3⟩ : ∃ g, g = w3.heap.size := ⟨_, rfl⟩
      have hb : Below w3.heap.size w3 W3 := by rw [hW3]; exact (Below.refl _ _).alloc (Nat.le_refl _) _
      have HV4 := Lib.hid (show Whole W3 g3 zoT #[.string N, .slice A3 D.length c3, .string s3.s, .int .i64 s3.t, .int .i64 s3.c, .int .i64 s3.l, .string s3.d] by rw [hW3, hg3]; exact Whole.new _ _ _)
      have HZ4 := Lib.hid (HZ3.out.later hb)
      have HX4 := Lib.hid ((HX3.out.keep hb).more hb.size)
      have HB4 := Lib.hid (HB3.out.trans (hb.mono HB3.out.size))
      have HWW3 := Lib.hid hW3
      have HG3 := Lib.hid hg3
      clear hb hW3 hg3
      go_wp2_with fail
      rw [← HWW3.out, ← HG3.out]
      refine (RefNew_any A n c N nn xs _ HN.out HX4.out (by omega) HLOW.out).mono ?_
      rintro e w4 ⟨h, hB⟩
      unfold ZRefOut at h
      rw [HC.out, ← HD.out] at h
      rcases h with ⟨h, _⟩ | ⟨h, _⟩ | ⟨_, v4, rfl, hz4⟩
      · cases h
      · cases h
      have HV5 := Lib.hid (HV4.out.below hB HV4.out.lt)
      have HZ5 := Lib.hid (HZ4.out.later hB)
      have HB5 := Lib.hid (HB4.out.trans (hB.mono HB4.out.size))
      obtain ⟨A4, c4, rfl, hr4, hcap4⟩ := hz4
      have HCAP := Lib.hid hcap4
      have HR5 := Lib.hid hr4
      clear hB hr4 hcap4
      obtain ⟨m, hm⟩ : ∃ m, m = D.length := ⟨_, rfl⟩
      rw [← hm] at HR5 HCAP hDl ⊢
      have HM := Lib.hid hm
      clear hm
      obtain ⟨W5, hW5⟩ : ∃ W, W = w4.alloc (.cells #[.string N, .slice A4 m c4] rzT) := ⟨_, rfl⟩
      obtain ⟨g5, hg5⟩ : ∃ g, g = w4.heap.size := ⟨_, rfl⟩
      have hb : Below w4.heap.size w4 W5 := by rw [hW5]; exact (Below.refl _ _).alloc (Nat.le_refl _) _
      have HU6 := Lib.hid (show Whole W5 g5 rzT #[.string N, .slice A4 m c4] by rw [hW5, hg5]; exact Whole.new _ _ _)
      have HV6 := Lib.hid (HV5.out.below hb HV5.out.lt)
      have HZ6 := Lib.hid (HZ5.out.later hb)
      have HR6 := Lib.hid ((HR5.out.keep hb).more hb.size)
      have HB6 := Lib.hid (HB5.out.trans (hb.mono HB5.out.size))
      have HWW5 := Lib.hid hW5
      have HG5 := Lib.hid hg5
      clear hb hW5 hg5
      go_wp2_with fail
      rw [← HWW5.out, ← HG5.out]
      go_loopw [11, 12] (fun s i wr => ∃ k : Nat, k ≤ m ∧ i = .int .i64 (k : Nat) ∧ wr.ownsRow W5.heap.size 9 1 s k (texts ((D.take k).map lineS)) ∧ Below W5.heap.size W5 wr) (fun _ i _ => m - (intOf i).toNat)
      case atStart => exact ⟨0, Nat.zero_le _, rfl, World.ownsRow_nil _ _ _ _, Below.refl _ _⟩
      case round =>
        obtain ⟨k, hk, rfl, hO, hB⟩ := hrel
        have HO := Lib.hid hO
        have HB := Lib.hid hB
        have HU7 := Lib.hid (HU6.out.below hB HU6.out.lt)
        clear hO hB
        obtain ⟨e0, e1⟩ : wr.cell? ⟨g5, 0, none⟩ = some (.string N) ∧ wr.cell? ⟨g5, 1, none⟩ = some (.slice A4 m c4) := ⟨(HU7.out.cell 0).trans rfl, (HU7.out.cell 1).trans rfl⟩
        by_cases hkm : k < m
        · have g2 : (k : Int) < (m : Int) := by omega
          have g0 : (0 : Int) ≤ (k : Int) := by omega
          obtain ⟨b, off, x, rfl, hb, hxk, hx5⟩ := (HR6.out.keep HB.out).at hkm
          obtain ⟨n1, n2, n3, n4, n5⟩ := ok_nums (HOKD.out x (List.mem_of_getElem? hxk))
          have HLO := Lib.hid (fun (W' : World) => Line_any x W' n1 n2 n3 n5)
          have HTK := Lib.hid (show texts ((D.take (k + 1)).map lineS) = texts ((D.take k).map lineS) ++ [.string (lineS x)] by rw [List.take_add_one, hxk]; simp [texts])
          obtain ⟨x0, x1, x2, x3, x4⟩ := hx5
          obtain ⟨i0, hi0, hz0, hz1, hz2⟩ := info_parts text_info
          have H63 : Hid (k + 1 ≤ maxLen) := Lib.hid (by unfold maxLen; omega)
          have H47 : Hid ((k + 1) * 16 ≤ 140737488355328) := Lib.hid (by omega)
          clear hxk n1 n2 n3 n4 n5
          go_wp2_with fail
          refine (HLO.out _).mono ?_
          rintro e w6 ⟨rfl, hB6⟩
          have HB6' := Lib.hid (HB.out.trans (hB6.mono HB.out.size))
          have HO6 := Lib.hid (own_below HO.out hB6)
          clear hB6 x0 x1 x2 x3 x4 e0 e1
          go_wp2_with (at_builtin; refine wpList_append_own _ rfl _ _ 37 rfl W5.heap.size 9 i0 (.string ⟨#[]⟩) 1 16 Tryz.underlying37 hi0 hz0 hz1 hz2 rfl (by decide) _ _ _ rfl (HO6.out.alloc _) ⟨w6.heap.size, 0, none⟩ 1 1 [.string (mk (lineL x))] rfl rfl (news1 _ _ _) (one1 _ rfl) H63.out H47.out (by have := HB6'.out.size; simp; omega) ?_; intro v2 w2 hown2 hgrow _)
          have HO3 := Lib.hid (show w2.ownsRow W5.heap.size 9 1 v2 (k + 1) (texts ((D.take (k + 1)).map lineS)) by rw [HTK.out]; exact hown2)
          have HB2' := Lib.hid ((HB6'.out.alloc HB6'.out.size (.cells #[.string (mk (lineL x))] 9)).grown hgrow (by have := HB6'.out.size; simp; omega) (fun j hj => (HO6.out.lt j hj).1))
          clear hown2 hgrow
          go_roundw
          case rel => exact ⟨k + 1, by omega, by go_num, HO3.out, HB2'.out⟩
          case measure => simp [intOf]; omega
        · obtain rfl : k = m := by omega
          obtain ⟨A7, c7, rfl, hs7⟩ := Sees.own HO.out
          have hTE : D.take k = D := by rw [HM.out, List.take_length]
          rw [hTE] at hs7
          have HS7 := Lib.hid hs7
          have HV7 := Lib.hid (HV6.out.below HB.out HV6.out.lt)
          have HZ7 := Lib.hid (HZ6.out.later HB.out)
          have HR7 := Lib.hid ((HR6.out.keep HB.out).more HB.out.size)
          have HB7 := Lib.hid (HB6.out.trans (HB.out.mono HB6.out.size))
          have HE7 := Lib.hid (HE.out.beyond HB7.out)
          have hcap := HCAP.out
          clear hTE hs7
          have g2 : ¬ ((k : Int) < (k : Int)) := by omega
          go_wp2_with fail
          have hb1 : Below wr.heap.size wr wr.drew := (Below.refl _ _).drew
          have ka0 : ∀ w' : World, Below wr.heap.size wr w' → w'.cell? ⟨g3, 0, none⟩ = some (.string N) := fun w' h => (h.cell (HV7.out.lt)).trans ((HV7.out.cell 0).trans rfl)
          have ka1 : ∀ w' : World, Below wr.heap.size wr w' → w'.cell? ⟨g3, 1, none⟩ = some (.slice A3 D.length c3) := fun w' h => (h.cell (HV7.out.lt)).trans ((HV7.out.cell 1).trans rfl)
          have ka2 : ∀ w' : World, Below wr.heap.size wr w' → w'.cell? ⟨g3, 2, none⟩ = some (.string s3.s) := fun w' h => (h.cell (HV7.out.lt)).trans ((HV7.out.cell 2).trans rfl)
          have ka3 : ∀ w' : World, Below wr.heap.size wr w' → w'.cell? ⟨g3, 3, none⟩ = some (.int .i64 s3.t) := fun w' h => (h.cell (HV7.out.lt)).trans ((HV7.out.cell 3).trans rfl)
          have ka4 : ∀ w' : World, Below wr.heap.size wr w' → w'.cell? ⟨g3, 4, none⟩ = some (.int .i64 s3.c) := fun w' h => (h.cell (HV7.out.lt)).trans ((HV7.out.cell 4).trans rfl)
          have ka5 : ∀ w' : World, Below wr.heap.size wr w' → w'.cell? ⟨g3, 5, none⟩ = some (.int .i64 s3.l) := fun w' h => (h.cell (HV7.out.lt)).trans ((HV7.out.cell 5).trans rfl)
          have ka6 : ∀ w' : World, Below wr.heap.size wr w' → w'.cell? ⟨g3, 6, none⟩ = some (.string s3.d) := fun w' h => (h.cell (HV7.out.lt)).trans ((HV7.out.cell 6).trans rfl)
          have kx0 : ∀ w' : World, Below wr.heap.size wr w' → w'.cell? ⟨g5, 0, none⟩ = some (.string N) := fun w' h => (h.cell (HU7.out.lt)).trans ((HU7.out.cell 0).trans rfl)
          have kx1 : ∀ w' : World, Below wr.heap.size wr w' → w'.cell? ⟨g5, 1, none⟩ = some (.slice A4 k c4) := fun w' h => (h.cell (HU7.out.lt)).trans ((HU7.out.cell 1).trans rfl)
          go_region_held3 (fun w' => Below wr.heap.size wr w') (go_keep) (first
            | (go_at_call 15; (refine (Texts_yes Q1 A7 k o1 c7 _ _ (D.map lineS) _ hs3 ((HS7.out.below hT3).more hT3.size) (by omega)).mono ?_; rintro e u4 ⟨rfl, mm, rfl⟩; have hT4 : Below wr.heap.size wr (u3.drewN mm) := below_drewN hT3 mm))
            | (go_at_call 16; (refine (Lines_any N D _ _ (HZ7.out.later hT2) (by have := HM.out; omega) HOKD.out (HE7.out.beyond hT2)).mono ?_; rw [← HM.out]; rintro e u3 ⟨v3, rfl, ho3, hB3⟩; obtain ⟨Q1, o1, rfl, hs3⟩ := Sees.own ho3; have hT3 : Below wr.heap.size wr u3 := hT2.trans (hB3.mono hT2.size)))
            | (go_at_call 14; (refine (RIBytes_any g N nn D _ _ ⟨A4, c4, by rw [← HM.out], by rw [← HM.out]; exact (HR7.out.keep hT1).more hT1.size, by rw [← HM.out]; exact hcap⟩ HN.out HG.out (by have := HNL.out; omega) (by have := HM.out; omega) HOKR.out HDD.out).mono ?_; rw [← HBV.out]; rintro e u2 ⟨rfl, hB2⟩; have hT2 : Below wr.heap.size wr u2 := hT1.trans (hB2.mono hT1.size)))
            | (go_at_call 13; (refine (IBytes_any g N nn D _ _ (HZ7.out.later hb1) HN.out HG.out (by have := HNL.out; omega) (by have := HM.out; omega) HOKD.out).mono ?_; rw [← HBV.out]; rintro e u1 ⟨rfl, hB1⟩; have hT1 : Below wr.heap.size wr u1 := hb1.trans (hB1.mono hb1.size))))
          all_goals (
            have HBE := Lib.hid (HB7.out.trans (hT4.mono HB7.out.size))
            go_wp2_with fail
            go_ret
            exact ⟨rfl, HBE.out⟩)
end Go.Proofs.YtnbapaimpoobkaaGreatDoor
