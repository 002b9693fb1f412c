/- Parts of the proofs of the statements of image. No statement of the seat is proved here. -/
import Derived.Test.YtmpginmdaeclaaaGreatDoorZoC
import Derived.Test.YtmpginmdaeclaaaGreatDoorNaO
set_option maxHeartbeats 32000000
set_option maxRecDepth 20000
namespace Go.Proofs.YtmpginmdaeclaaaGreatDoor
open Go.RowKit Go.Op
set_option linter.unusedVariables false
theorem filter_take {p : Rrd -> Bool} {xs : List Rrd} {k : Nat} {x : Rrd} (hx : xs[k]? = some x) : (xs.take (k + 1)).filter p = (xs.take k).filter p ++ if p x = true then [x] else [] := by
  rw [List.take_add_one, hx, List.filter_append]
  congr 1
  simp [List.filter_cons]
theorem filter_le {p : Rrd -> Bool} {xs : List Rrd} (k : Nat) : ((xs.take k).filter p).length <= k := by
  have h1 := List.length_filter_le p (xs.take k)
  have h2 := List.length_take_le k xs
  omega
theorem RefTyped_any (A : Option Addr) (n c : Nat) (xs : List Rrd) (t : Int) (w : World) (hx : SeesR w w.heap.size A n xs) (hn : n <= 1000000) :
    Calls Tryz.prog 144 #[.slice A n c, .int .i64 t] w fun e w' => ∃ v, e = .returned v /\ w'.ownsRow w.heap.size 46 5 v (xs.filter fun x => decide (x.t = t)).length (rcells (xs.filter fun x => decide (x.t = t))) /\ Below w.heap.size w w' := by
  obtain ⟨p, hp⟩ : ∃ p : Rrd -> Bool, p = fun x => decide (x.t = t) := ⟨_, rfl⟩
  have HP := Ha (show ∀ x, p x = decide (x.t = t) from fun x => by rw [hp])
  rw [<-hp]
  have HX := Ha hx
  have HN := Ha hx.1
  clear hx hp
  go_enter Tryz.func144, Tryz.ntmps144
  go_wp2_with fail
  go_loopw [5, 6] (fun v i wr => ∃ k : Nat, k <= n /\ i = .int .i64 (k : Nat) /\ wr.ownsRow w.heap.size 46 5 v ((xs.take k).filter p).length (rcells ((xs.take k).filter p)) /\ Below w.heap.size w wr) (fun _ i _ => n - (intOf i).toNat)
  case atStart => exact ⟨0, Nat.zero_le _, rfl, own_nil _ _ _ _, Below.refl _ _⟩
  case round =>
    obtain ⟨k, hk, rfl, hO, hB⟩ := hrel
    have HO := Ha hO
    have HB := Ha hB
    clear hO hB
    by_cases hkn : k < n
    · have g2 : (k : Int) < (n : Int) := by omega
      have g0 : (0 : Int) <= (k : Int) := by omega
      obtain ⟨b, off, x, rfl, hb, hxk, ht⟩ := (HX.out.keep HB.out).at hkn
      have HF := Ha ht
      obtain ⟨x0, x1, x2, x3, x4⟩ := ht
      have HST := Ha (filter_take (p := p) hxk)
      have HLE := Ha (show ((xs.take k).filter p).length + 1 <= 1073741824 by have := filter_le (p := p) (xs := xs) k; omega)
      clear hxk
      by_cases ht : x.t = t
      · have gt : (x.t == t) = true := by rw [beq_iff_eq]; exact ht
        have HPX := Ha (show p x = true by rw [HP.out, decide_eq_true ht])
        clear ht; have HS2 := Ha (show (xs.take (k + 1)).filter p = (xs.take k).filter p ++ [x] by rw [HST.out, HPX.out]; rfl)
        have HO3 := Ha (HO.out.alloc (.cells #[.string x.s, .int .i64 x.t, .int .i64 x.c, .int .i64 x.l, .string x.d] 46))
        have HD3 := Ha (show Below w.heap.size w (wr.alloc (.cells #[.string x.s, .int .i64 x.t, .int .i64 x.c, .int .i64 x.l, .string x.d] 46)) from HB.out.alloc HB.out.size _)
        have HA3 := Ha (show w.heap.size <= (wr.alloc (.cells #[.string x.s, .int .i64 x.t, .int .i64 x.c, .int .i64 x.l, .string x.d] 46)).heap.size from HD3.out.size)
        go_wp2_with (at_builtin; (refine wpList_append_R rfl _ _ rfl w.heap.size _ _ ((xs.take k).filter p) rfl HO3.out (wr.heap.size + 1) _ _ _ _ rfl (SeesR.one _ x) HLE.out HA3.out ?_); intro v3 w3 ho hg; (have HO4 := Ha (show w3.ownsRow w.heap.size 46 5 v3 ((xs.take k).filter p ++ [x]).length (rcells ((xs.take k).filter p ++ [x])) by simpa using ho)); (have HB4 := Ha (HD3.out.grown hg HA3.out (own_block_ge HO3.out))); clear ho hg x0 x1 x2 x3 x4)
        go_roundw
        case rel => exact ⟨k + 1, by omega, by go_num, by rw [HS2.out]; exact HO4.out, HB4.out⟩
        case measure => simp [intOf]; omega
      · have gt : (x.t == t) = false := by rw [beq_eq_false_iff_ne]; exact ht
        have HPX := Ha (show p x = false by rw [HP.out, decide_eq_false ht])
        clear ht; have HS2 := Ha (show (xs.take (k + 1)).filter p = (xs.take k).filter p by rw [HST.out, HPX.out]; simp)
        go_wp2_with fail
        go_roundw
        case rel => exact ⟨k + 1, by omega, by go_num, by rw [HS2.out]; exact HO.out, HB.out⟩
        case measure => simp [intOf]; omega
    · obtain rfl : k = n := by omega
      have g2 : ¬ ((k : Int) < (k : Int)) := by omega
      have hO := HO.out
      rw [List.take_of_length_le (by rw [HN.out]; exact Nat.le_refl _)] at hO
      have HO2 := Ha hO
      clear hO; go_wp2_with fail
      go_ret
      exact ⟨_, rfl, HO2.out, HB.out⟩
theorem RefAt_any (A : Option Addr) (n c : Nat) (xs : List Rrd) (M : ByteArray) (nn : List UInt8) (w : World) (hx : SeesR w w.heap.size A n xs) (hn : n <= 1000000) (hM : M = mk nn) :
    Calls Tryz.prog 143 #[.slice A n c, .string M] w fun e w' => ∃ v, e = .returned v /\ w'.ownsRow w.heap.size 46 5 v (xs.filter fun x => alikeN (nmX x) nn).length (rcells (xs.filter fun x => alikeN (nmX x) nn)) /\ Below w.heap.size w w' := by
  obtain ⟨p, hp⟩ : ∃ p : Rrd -> Bool, p = fun x => alikeN (nmX x) nn := ⟨_, rfl⟩
  have HP := Ha (show ∀ x, p x = alikeN (nmX x) nn from fun x => by rw [hp])
  rw [<-hp]
  have HX := Ha hx
  have HN := Ha hx.1
  have HM := Ha hM
  clear hM
  clear hx hp
  go_enter Tryz.func143, Tryz.ntmps143
  go_wp2_with fail
  go_loopw [5, 6] (fun v i wr => ∃ k : Nat, k <= n /\ i = .int .i64 (k : Nat) /\ wr.ownsRow w.heap.size 46 5 v ((xs.take k).filter p).length (rcells ((xs.take k).filter p)) /\ Below w.heap.size w wr) (fun _ i _ => n - (intOf i).toNat)
  case atStart => exact ⟨0, Nat.zero_le _, rfl, own_nil _ _ _ _, Below.refl _ _⟩
  case round =>
    obtain ⟨k, hk, rfl, hO, hB⟩ := hrel
    have HO := Ha hO
    have HB := Ha hB
    clear hO hB
    by_cases hkn : k < n
    · have g2 : (k : Int) < (n : Int) := by omega
      have g0 : (0 : Int) <= (k : Int) := by omega
      obtain ⟨b, off, x, rfl, hb, hxk, ht⟩ := (HX.out.keep HB.out).at hkn
      have HF := Ha ht
      obtain ⟨x0, x1, x2, x3, x4⟩ := ht
      have HST := Ha (filter_take (p := p) hxk)
      have HLE := Ha (show ((xs.take k).filter p).length + 1 <= 1073741824 by have := filter_le (p := p) (xs := xs) k; omega)
      have hpx := HP.out x
      clear hxk; go_wp2_with fail
      refine (RefAlike_any x.s M (nmX x) nn _ (rrd_name x) HM.out).mono ?_
      rw [<-hpx]
      obtain ⟨z, hz⟩ : ∃ z, z = p x := ⟨_, rfl⟩
      have HPX := Ha hz.symm
      rw [<-hz]
      rintro e w1 ⟨rfl, hB1⟩; obtain ⟨x0, x1, x2, x3, x4⟩ := HF.out.keep hB1 (Nat.lt_of_lt_of_le hb HB.out.size)
      have HO1 := Ha (own_keep HO.out hB1)
      have HB1 := thB HB hB1
      clear hB1 hpx hz
      cases z with
      | true =>
        have HS2 := Ha (show (xs.take (k + 1)).filter p = (xs.take k).filter p ++ [x] by rw [HST.out, HPX.out]; rfl)
        have HO3 := Ha (HO1.out.alloc (.cells #[.string x.s, .int .i64 x.t, .int .i64 x.c, .int .i64 x.l, .string x.d] 46))
        have HD3 := Ha (show Below w.heap.size w (w1.alloc (.cells #[.string x.s, .int .i64 x.t, .int .i64 x.c, .int .i64 x.l, .string x.d] 46)) from HB1.out.alloc HB1.out.size _)
        have HA3 := Ha (show w.heap.size <= (w1.alloc (.cells #[.string x.s, .int .i64 x.t, .int .i64 x.c, .int .i64 x.l, .string x.d] 46)).heap.size from HD3.out.size)
        go_wp2_with (at_builtin; (refine wpList_append_R rfl _ _ rfl w.heap.size _ _ ((xs.take k).filter p) rfl HO3.out (w1.heap.size + 1) _ _ _ _ rfl (SeesR.one _ x) HLE.out HA3.out ?_); intro v3 w3 ho hg; (have HO4 := Ha (show w3.ownsRow w.heap.size 46 5 v3 ((xs.take k).filter p ++ [x]).length (rcells ((xs.take k).filter p ++ [x])) by simpa using ho)); (have HB4 := Ha (HD3.out.grown hg HA3.out (own_block_ge HO3.out))); clear ho hg x0 x1 x2 x3 x4)
        go_roundw
        case rel => exact ⟨k + 1, by omega, by go_num, by rw [HS2.out]; exact HO4.out, HB4.out⟩
        case measure => simp [intOf]; omega
      | false =>
        have HS2 := Ha (show (xs.take (k + 1)).filter p = (xs.take k).filter p by rw [HST.out, HPX.out]; simp)
        go_wp2_with fail
        go_roundw
        case rel => exact ⟨k + 1, by omega, by go_num, by rw [HS2.out]; exact HO1.out, HB1.out⟩
        case measure => simp [intOf]; omega
    · obtain rfl : k = n := by omega
      have g2 : ¬ ((k : Int) < (k : Int)) := by omega
      have hO := HO.out
      rw [List.take_of_length_le (by rw [HN.out]; exact Nat.le_refl _)] at hO
      have HO2 := Ha hO
      clear hO; go_wp2_with fail
      go_ret
      exact ⟨_, rfl, HO2.out, HB.out⟩
theorem RefSet_any (A : Option Addr) (n c : Nat) (N : ByteArray) (nn : List UInt8) (M : ByteArray) (D : List Rrd) (t : Int) (w : World) (hM : M = mk nn) (hx : SeesR w w.heap.size A n D) (hn : n <= 1000000) :
    Calls Tryz.prog 145 #[.agg #[.string N, .slice A n c], .string M, .int .i64 t] w fun e w' => ∃ v, e = .returned v /\ w'.ownsRow w.heap.size 46 5 v (typX t (atX nn D)).length (rcells (typX t (atX nn D))) /\ Below w.heap.size w w' := by
  have hw0 := Whole.new w 52 #[.string N, .slice A n c]
  have hB0 : Below w.heap.size w (w.alloc (.cells #[.string N, .slice A n c] 52)) := (Below.refl _ _).alloc (Nat.le_refl _) _
  have c0 := (hw0.cell 0).trans rfl
  have c1 := (hw0.cell 1).trans rfl
  have HX := Ha ((hx.keep hB0).more hB0.size)
  have HL := Ha hx.1
  have HB0 := Ha hB0
  have HM := Ha hM
  obtain ⟨Z, hZ⟩ : ∃ Z, Z = atX nn D := ⟨_, rfl⟩
  obtain ⟨Y, hY⟩ : ∃ Y, Y = typX t Z := ⟨_, rfl⟩
  rw [show typX t (atX nn D) = Y by rw [hY, hZ]]
  have HZ := Ha hZ
  have HY := Ha hY
  have hZl : Z.length <= 1000000 := by rw [hZ]; have := atX_len nn D; have := HL.out; omega
  clear hw0 hB0 hx hM hZ hY
  go_enter Tryz.func145, Tryz.ntmps145
  go_wp2_with fail
  refine (RefAt_any A n c D M nn _ HX.out hn HM.out).mono ?_
  rw [show (D.filter fun y => alikeN (nmX y) nn) = Z from HZ.out.symm]
  rintro e w1 ⟨v1, rfl, ho1, hB1⟩
  obtain ⟨A1, c1', rfl, hs1, _⟩ := own_sees ho1
  have HS1 := Ha hs1
  have HB1 := thB HB0 hB1
  clear hB1 ho1 hs1 c0 c1
  go_wp2_with fail
  refine (RefTyped_any A1 Z.length c1' Z t _ HS1.out hZl).mono ?_
  rw [show (Z.filter fun y => decide (y.t = t)) = Y from HY.out.symm]
  rintro e w2 ⟨v2, rfl, ho2, hB2⟩
  have HO2 := Ha (own_less ho2 HB1.out.size)
  have HB2 := thB HB1 hB2
  clear hB2 ho2
  go_wp2_with fail
  go_ret
  exact ⟨v2, rfl, HO2.out, HB2.out⟩
theorem refG_c {nn : List UInt8} {D : List Rrd} {x : Rrd} (h : x.c ≠ 1) : refG nn D x = false := by unfold refG goodR; rw [decide_eq_false h]; rfl
theorem refG_t {nn : List UInt8} {D : List Rrd} {x : Rrd} (h : dataT x.t = false) : refG nn D x = false := by unfold refG goodR; rw [h, Bool.false_and, Bool.and_false, Bool.false_and]
theorem refG_u {nn : List UInt8} {D : List Rrd} {x : Rrd} (h : underN (nmX x) nn = false) : refG nn D x = false := by unfold refG goodR; rw [h, Bool.and_false, Bool.and_false, Bool.false_and]
theorem refG_6 {nn : List UInt8} {D : List Rrd} {x : Rrd} (h : x.t = 6) (h2 : alikeN (nmX x) nn = false) : refG nn D x = false := by unfold refG; rw [decide_eq_true h, h2]; simp
theorem refG_5 {nn : List UInt8} {D : List Rrd} {x : Rrd} (h : x.t = 5) (h2 : (atX (nmX x) D).length ≠ 1) : refG nn D x = false := by unfold refG; rw [decide_eq_true h, decide_eq_false h2]; simp
theorem refG_yes {nn : List UInt8} {D : List Rrd} {x : Rrd} (h1 : x.c = 1) (h2 : dataT x.t = true) (h3 : underN (nmX x) nn = true) (h4 : x.t = 6 -> alikeN (nmX x) nn = true) (h5 : x.t = 5 -> (atX (nmX x) D).length = 1) : refG nn D x = true := by
  unfold refG goodR
  rw [decide_eq_true h1, h2, h3]
  by_cases e6 : x.t = 6
  · rw [h4 e6]; simp [e6]
  · by_cases e5 : x.t = 5
    · rw [h5 e5]; simp [e6]
    · simp [e6, e5]
theorem refZ_not {nn : List UInt8} {D : List Rrd} {k : Nat} {x : Rrd} (hx : D[k]? = some x) (h : refG nn D x = false) : refZ nn D = false := by
  unfold refZ
  rw [not_all hx h, Bool.false_and]
theorem RefIsZone_any (A : Option Addr) (n c : Nat) (N : ByteArray) (nn : List UInt8) (D : List Rrd) (w : World) (hN : N = mk nn) (hx : SeesR w w.heap.size A n D) (hok : OkL D) (hn : n <= 1000000) :
    Calls Tryz.prog 82 #[.string N, .slice A n c] w fun e w' => e = .returned (.bool (refZ nn D)) /\ Below w.heap.size w w' := by
  have HX := Ha hx
  have HL := Ha hx.1
  have HN := Ha hN
  have HOK := Ha hok
  clear hx hN hok
  go_enter Tryz.func82, Tryz.ntmps82
  go_wp2_with fail
  go_loopw [5] (fun i wr => ∃ k : Nat, k <= n /\ i = .int .i64 (k : Nat) /\ Upto (refG nn D) D k /\ Below w.heap.size w wr) (fun i _ => n - (intOf i).toNat)
  case atStart => exact ⟨0, Nat.zero_le _, rfl, Upto.zero _ _, Below.refl _ _⟩
  case round =>
    obtain ⟨k, hk, rfl, hup, hB⟩ := hrel
    have HU := Ha hup
    have HB := Ha hB
    clear hup hB
    by_cases hkn : k < n
    · have g2 : (k : Int) < (n : Int) := by omega
      have g0 : (0 : Int) <= (k : Int) := by omega
      obtain ⟨b, off, x, rfl, hb, hxk, ht⟩ := (HX.out.keep HB.out).at hkn
      have HF := Ha ht
      obtain ⟨x0, x1, x2, x3, x4⟩ := ht
      have HXK := Ha hxk
      have HBL := Ha (Nat.lt_of_lt_of_le hb HB.out.size)
      clear hxk
      by_cases h1 : x.c = 1
      · have gc : (x.c == 1) = true := by rw [beq_iff_eq]; exact h1
        have gcn : (x.c != 1) = false := by simp [h1]
        have HC := Ha h1
        clear h1; go_wp2_with fail
        refine (RefDataType_any x.t _).mono ?_
        obtain ⟨z, hz⟩ : ∃ z, z = dataT x.t := ⟨_, rfl⟩
        rw [<-hz]
        rintro e w1 ⟨rfl, rfl⟩
        cases z with
        | false =>
          have HR := Ha (show refZ nn D = false from refZ_not HXK.out (refG_t hz.symm))
          clear hz; go_wp2_with fail
          go_ret
          exact ⟨by rw [HR.out]; rfl, HB.out⟩
        | true =>
          have HDT := Ha hz.symm
          clear hz; go_wp2_with fail
          refine (RefUnder_any x.s N (nmX x) nn _ (rrd_name x) HN.out).mono ?_
          obtain ⟨u, hu⟩ : ∃ u, u = underN (nmX x) nn := ⟨_, rfl⟩
          rw [<-hu]
          rintro e w2 ⟨rfl, hB2⟩; obtain ⟨x0, x1, x2, x3, x4⟩ := HF.out.keep hB2 HBL.out
          have HF2 := Ha (HF.out.keep hB2 HBL.out)
          have HB2 := thB HB hB2
          have HBL2 := Ha (Nat.lt_of_lt_of_le HBL.out hB2.size)
          clear hB2
          cases u with
          | false =>
            have HR := Ha (show refZ nn D = false from refZ_not HXK.out (refG_u hu.symm))
            clear hu; go_wp2_with fail
            go_ret
            exact ⟨by rw [HR.out]; rfl, HB2.out⟩
          | true =>
            have HUN := Ha hu.symm
            clear hu
            by_cases h6 : x.t = 6
            · have g6 : (x.t == 6) = true := by rw [beq_iff_eq]; exact h6
              have g5 : (x.t == 5) = false := by rw [beq_eq_false_iff_ne]; omega
              have H6 := Ha h6
              clear h6; go_wp2_with fail
              refine (RefAlike_any x.s N (nmX x) nn _ (rrd_name x) HN.out).mono ?_
              obtain ⟨q, hq⟩ : ∃ q, q = alikeN (nmX x) nn := ⟨_, rfl⟩
              rw [<-hq]
              rintro e w3 ⟨rfl, hB3⟩; obtain ⟨x0, x1, x2, x3, x4⟩ := HF2.out.keep hB3 HBL2.out
              have HB3 := thB HB2 hB3
              clear hB3
              cases q with
              | false =>
                have HR := Ha (show refZ nn D = false from refZ_not HXK.out (refG_6 H6.out hq.symm))
                clear hq; go_wp2_with fail
                go_ret
                exact ⟨by rw [HR.out]; rfl, HB3.out⟩
              | true =>
                have HQ := Ha hq.symm
                clear hq; have HU2 := Ha (HU.out.succ HXK.out (show refG nn D x = true from refG_yes HC.out HDT.out HUN.out (fun _ => HQ.out) (fun h => by have := H6.out; omega)))
                go_wp2_with fail
                go_roundw
                case rel => exact ⟨k + 1, by omega, by go_num, HU2.out, HB3.out⟩
                case measure => simp [intOf]; omega
            · have g6 : (x.t == 6) = false := by rw [beq_eq_false_iff_ne]; exact h6
              have H6 := Ha h6
              clear h6
              by_cases h5 : x.t = 5
              · have g5 : (x.t == 5) = true := by rw [beq_iff_eq]; exact h5
                have H5 := Ha h5
                clear h5; go_wp2_with fail
                refine (RefAt_any _ n c D x.s (nmX x) _ ((HX.out.keep HB2.out).more HB2.out.size) hn (rrd_name x)).mono ?_
                obtain ⟨Z, hZ⟩ : ∃ Z, Z = atX (nmX x) D := ⟨_, rfl⟩
                rw [show (D.filter fun y => alikeN (nmX y) (nmX x)) = Z from hZ.symm]
                rintro e w3 ⟨v3, rfl, ho3, hB3⟩; obtain ⟨A3, c3, rfl, _, _⟩ := own_sees ho3
                have HB3 := thB HB2 hB3
                have HZ := Ha hZ
                clear hB3 ho3 hZ; obtain ⟨l, hl⟩ : ∃ l, l = Z.length := ⟨_, rfl⟩
                rw [<-hl]
                have HLZ := Ha hl
                clear hl
                by_cases e1 : l = 1
                · have g1 : ((l : Int) == 1) = true := by rw [beq_iff_eq]; omega
                  have g1n : ((l : Int) != 1) = false := by rw [bne, g1]; rfl
                  have HE := Ha e1
                  clear e1; have HU2 := Ha (HU.out.succ HXK.out (show refG nn D x = true from refG_yes HC.out HDT.out HUN.out (fun h => absurd h H6.out) (fun _ => by rw [<-HZ.out, <-HLZ.out]; exact HE.out)))
                  go_wp2_with fail
                  go_roundw
                  case rel => exact ⟨k + 1, by omega, by go_num, HU2.out, HB3.out⟩
                  case measure => simp [intOf]; omega
                · have g1 : ((l : Int) == 1) = false := by rw [beq_eq_false_iff_ne]; omega
                  have g1n : ((l : Int) != 1) = true := by rw [bne, g1]; rfl
                  have HE := Ha e1
                  clear e1; have HR := Ha (show refZ nn D = false from refZ_not HXK.out (refG_5 H5.out (by rw [<-HZ.out, <-HLZ.out]; exact HE.out)))
                  go_wp2_with fail
                  go_ret
                  exact ⟨by rw [HR.out]; rfl, HB3.out⟩
              · have g5 : (x.t == 5) = false := by rw [beq_eq_false_iff_ne]; exact h5
                have H5 := Ha h5
                clear h5; have HU2 := Ha (HU.out.succ HXK.out (show refG nn D x = true from refG_yes HC.out HDT.out HUN.out (fun h => absurd h H6.out) (fun h => absurd h H5.out)))
                go_wp2_with fail
                go_roundw
                case rel => exact ⟨k + 1, by omega, by go_num, HU2.out, HB2.out⟩
                case measure => simp [intOf]; omega
      · have gc : (x.c == 1) = false := by rw [beq_eq_false_iff_ne]; exact h1
        have gcn : (x.c != 1) = true := by simp [h1]
        have HC := Ha h1
        clear h1; have HR := Ha (show refZ nn D = false from refZ_not HXK.out (refG_c HC.out))
        go_wp2_with fail
        go_ret
        exact ⟨by rw [HR.out]; rfl, HB.out⟩
    · obtain rfl : k = n := by omega
      have g2 : ¬ ((k : Int) < (k : Int)) := by omega
      have ha := HU.out
      rw [<-HL.out] at ha
      have HALL := Ha ha.all
      clear ha; obtain ⟨W, hW⟩ : ∃ W, W = wr.alloc (.cells #[.string N, .slice A k c] 52) := ⟨_, rfl⟩
      obtain ⟨g, hg⟩ : ∃ g, g = wr.heap.size := ⟨_, rfl⟩
      have HBW := Ha (show Below w.heap.size w W by rw [hW]; exact HB.out.alloc HB.out.size _)
      have HWW := Ha (show Whole W g 52 #[.string N, .slice A k c] by rw [hW, hg]; exact Whole.new wr _ _)
      have HWE := Ha hW
      have HGE := Ha hg
      clear hW hg; go_wp2_with fail
      rw [<-HWE.out, <-HGE.out]
      refine (RefTyped_any A k c D 6 _ ((HX.out.keep HBW.out).more HBW.out.size) hn).mono ?_
      obtain ⟨X2, h2⟩ : ∃ X2, X2 = typX 6 D := ⟨_, rfl⟩
      rw [show (D.filter fun y => decide (y.t = 6)) = X2 from h2.symm]
      rintro e w1 ⟨v1, rfl, ho1, hB1⟩; obtain ⟨A1, c1, rfl, _, _⟩ := own_sees ho1
      have HB1 := thB HBW hB1
      have HW1 := Ha (HWW.out.below hB1 HWW.out.lt)
      have H2 := Ha h2
      clear hB1 ho1 h2; obtain ⟨l2, hl2⟩ : ∃ l2, l2 = X2.length := ⟨_, rfl⟩
      rw [<-hl2]
      have HL2 := Ha hl2
      clear hl2
      by_cases e2 : l2 = 1
      · have gl : ((l2 : Int) == 1) = true := by rw [beq_iff_eq]; omega
        have HE2 := Ha e2
        clear e2; have c0 := (HW1.out.cell 0).trans rfl
        have c1' := (HW1.out.cell 1).trans rfl
        go_wp2_with fail
        refine (RefSet_any A k c N nn N D 2 _ HN.out ((HX.out.keep HB1.out).more HB1.out.size) hn).mono ?_
        obtain ⟨X4, h4⟩ : ∃ X4, X4 = typX 2 (atX nn D) := ⟨_, rfl⟩
        rw [<-h4]
        rintro e w2 ⟨v2, rfl, ho2, hB2⟩; obtain ⟨A2, c2, rfl, _, _⟩ := own_sees ho2
        have HB2 := thB HB1 hB2
        have H4 := Ha h4
        clear hB2 ho2 h4 c0 c1'; obtain ⟨l4, hl4⟩ : ∃ l4, l4 = X4.length := ⟨_, rfl⟩
        rw [<-hl4]
        have HL4 := Ha hl4
        clear hl4; have HRZ := Ha (show refZ nn D = decide (0 < l4) by unfold refZ; rw [HALL.out, <-H2.out, <-HL2.out, decide_eq_true HE2.out, <-H4.out, <-HL4.out]; rfl)
        by_cases e4 : 0 < l4
        · have g4 : (l4 : Int) > 0 := by omega
          have HE4 := Ha e4
          clear e4; go_wp2_with fail
          go_ret
          exact ⟨by rw [HRZ.out, decide_eq_true HE4.out]; rfl, HB2.out⟩
        · have g4 : ¬ (l4 : Int) > 0 := by omega
          have HE4 := Ha e4
          clear e4; go_wp2_with fail
          go_ret
          exact ⟨by rw [HRZ.out, decide_eq_false HE4.out]; rfl, HB2.out⟩
      · have gl : ((l2 : Int) == 1) = false := by rw [beq_eq_false_iff_ne]; omega
        have HRZ := Ha (show refZ nn D = false by unfold refZ; rw [HALL.out, <-H2.out, <-HL2.out, decide_eq_false e2]; rfl)
        clear e2; go_wp2_with fail
        go_ret
        exact ⟨by rw [HRZ.out]; rfl, HB1.out⟩
end Go.Proofs.YtmpginmdaeclaaaGreatDoor
namespace Go.Proofs.YtmpginmdaeclaaaGreatDoor
open Go.RowKit Go.Op
set_option linter.unusedVariables false
abbrev rzT : TypeId := 52
theorem rz_size : (Tryz.prog.info? rzT).map (·.size) = some 2 := by kernel_rfl
theorem retR2 {fn : Func} {R : Ending -> World -> Prop} {a : Act} {w : World} {p u r : Nat} {a0 a1 x : Value} (hf : fn.results = #[.cell p rzT, .tmp u]) (hd : a.defers = []) (hp : a.tmps.getD p undef = .pointer (some ⟨r, 0, none⟩)) (hx : a.tmps.getD u undef = x)
    (h : Whole w r rzT #[a0, a1]) (hR : R (.returned (.tuple #[.agg #[a0, a1], x])) w) : bodyPost Tryz.prog fn R .ret a w := by
  refine bodyPost_ret ?_ hd hR
  rw [results_cell_tmp hf, hp, hx]
  simp [asAddr, run_loadVar_row w r rzT _ _ (0, 0) _ h Tryz.underlying52 rfl rz_size, Result.andThen]
theorem twoR_put {w : World} {r t : Nat} {x0 x1 : Value} (h : Whole w r t #[x0, x1]) (a0 a1 : Value) : Whole ((w.setCell ⟨r, 0, none⟩ a0).setCell ⟨r, 1, none⟩ a1) r t #[a0, a1] := by
  have := (h.put 0 a0).put 1 a1
  simpa using this
theorem twoR_below {B : Nat} {a w : World} {r : Nat} (h : Below B a w) (hr : B <= r) (a0 a1 : Value) : Below B a ((w.setCell ⟨r, 0, none⟩ a0).setCell ⟨r, 1, none⟩ a1) := (h.setCell hr a0).setCell hr a1
theorem twoR_own {w : World} {r base n : Nat} {v : Value} {xs : List Value} {cs : Array Value} (ho : w.ownsRow base 46 5 v n xs) (h : Whole w r rzT cs) (a0 a1 : Value) :
    ((w.setCell ⟨r, 0, none⟩ a0).setCell ⟨r, 1, none⟩ a1).ownsRow base 46 5 v n xs := by
  have hne := own_apart ho h (by decide)
  exact (ho.kept (gset _ ⟨r, 0, none⟩ a0) (.inr hne)).kept (gset _ ⟨r, 1, none⟩ a1) (.inr hne)
def ZRefAt (w : World) (B : Nat) (N : ByteArray) (D : List Rrd) (v : Value) : Prop := ∃ A c, v = .agg #[.string N, .slice A D.length c] /\ SeesR w B A D.length D /\ InCap A D.length c
theorem ZRefAt.later {w w' : World} {N : ByteArray} {D : List Rrd} {v : Value} (h : ZRefAt w w.heap.size N D v) (hb : Below w.heap.size w w') : ZRefAt w' w'.heap.size N D v := by
  obtain ⟨A, c, e, hs, hc⟩ := h
  exact ⟨A, c, e, (hs.keep hb).more hb.size, hc⟩
def ZRefOut (w' : World) (N : ByteArray) (nn : List UInt8) (xs : List Rrd) (e : Ending) : Prop :=
  (codeZ nn xs = 2 /\ e = .returned (.tuple #[.agg #[.string ⟨#[]⟩, .slice none 0 0], .int .i64 2])) \/ (codeZ nn xs = 9 /\ e = .returned (.tuple #[.agg #[.string ⟨#[]⟩, .slice none 0 0], .int .i64 9])) \/
  (codeZ nn xs = 0 /\ ∃ v, e = .returned (.tuple #[v, .int .i64 0]) /\ ZRefAt w' w'.heap.size N (ofC xs) v)
theorem RefNew_any (A : Option Addr) (n c : Nat) (N : ByteArray) (nn : List UInt8) (xs : List Rrd) (w : World) (hN : N = mk nn) (hx : SeesR w w.heap.size A n xs) (hn : n <= 60000) (hlow : LowL xs) :
    Calls Tryz.prog 29 #[.string N, .slice A n c] w fun e w' => ZRefOut w' N nn xs e /\ Below w.heap.size w w' := by
  have hw0 := Whole.new w rzT #[.string ⟨#[]⟩, .slice none 0 0]
  have hB0 : Below w.heap.size w (w.alloc (.cells #[.string ⟨#[]⟩, .slice none 0 0] rzT)) := (Below.refl _ _).alloc (Nat.le_refl _) _
  have HX0 := Ha ((hx.keep hB0).more hB0.size)
  have HL := Ha hx.1
  have HB0 := Ha hB0
  have HW0 := Ha hw0
  have HN := Ha hN
  have HLOW := Ha hlow
  clear hw0 hB0 hx hN hlow
  cases hr : (nameL nn).isSome with
  | false =>
    have HCD := Ha (show codeZ nn xs = 2 by unfold codeZ; rw [hr]; rfl)
    have HR := Ha hr
    clear hr; go_enter Tryz.func29, Tryz.ntmps29
    go_wp2_with fail
    refine (RefRight_any N nn _ HN.out).mono ?_
    rw [HR.out]
    rintro e w1 ⟨rfl, hB⟩; have HW1 := Ha (HW0.out.below hB HW0.out.lt)
    have HB1 := thB HB0 hB
    clear hB; have c0 := (HW1.out.cell 0).trans rfl
    have c1 := (HW1.out.cell 1).trans rfl
    have f0 := HW1.out.frozen 0
    have f1 := HW1.out.frozen 1
    go_wp2_with fail
    exact retR2 rfl rfl rfl rfl (twoR_put HW1.out _ _) ⟨.inl ⟨HCD.out, rfl⟩, twoR_below HB1.out (Nat.le_refl _) _ _⟩
  | true =>
    have HR := Ha hr
    clear hr; go_enter Tryz.func29, Tryz.ntmps29
    go_wp2_with fail
    refine (RefRight_any N nn _ HN.out).mono ?_
    rw [HR.out]
    rintro e w1 ⟨rfl, hB⟩; have HX1 := Ha ((HX0.out.keep hB).more hB.size)
    have HW1 := Ha (HW0.out.below hB HW0.out.lt)
    have HB1 := thB HB0 hB
    clear hB; go_wp2_with fail
    go_loopw [6] (fun i wr => ∃ k : Nat, k <= n /\ i = .int .i64 (k : Nat) /\ Upto (fun x => okR x.toRec) xs k /\ Below w1.heap.size w1 wr) (fun i _ => n - (intOf i).toNat)
    case atStart => exact ⟨0, Nat.zero_le _, rfl, Upto.zero _ _, Below.refl _ _⟩
    case round =>
      obtain ⟨k, hk, rfl, hup, hB⟩ := hrel
      have HU := Ha hup
      have HBR := Ha hB
      clear hup hB
      by_cases hkn : k < n
      · have g2 : (k : Int) < (n : Int) := by omega
        have g0 : (0 : Int) <= (k : Int) := by omega
        obtain ⟨b, off, x, rfl, hb, hxk, ht⟩ := (HX1.out.keep HBR.out).at hkn
        obtain ⟨x0, x1, x2, x3, x4⟩ := ht
        have HXK := Ha hxk
        have HD := Ha (show x.toRec.d.length <= 65535 by rw [data_len]; have := (HLOW.out x (List.mem_of_getElem? hxk)).2; omega)
        clear hxk; go_wp2_with fail
        refine (RefRRight_any x.s x.d x.toRec _ (rrd_name x) (rrd_data x) HD.out).mono ?_
        obtain ⟨z, hz⟩ : ∃ z, z = okR x.toRec := ⟨_, rfl⟩
        rw [<-hz]
        rintro e w2 ⟨rfl, hB⟩; have HBR2 := thB HBR hB
        have HZ := Ha hz
        clear hB hz x0 x1 x2 x3 x4
        cases z with
        | true =>
          have HU2 := Ha (HU.out.succ HXK.out HZ.out.symm)
          go_wp2_with fail
          go_roundw
          case rel => exact ⟨k + 1, by omega, by go_num, HU2.out, HBR2.out⟩
          case measure => simp [intOf]; omega
        | false =>
          have HCD := Ha (show codeZ nn xs = 2 by unfold codeZ; rw [HR.out, not_all HXK.out HZ.out.symm]; rfl)
          have HW2 := Ha (HW1.out.below HBR2.out HW1.out.lt)
          have HB2 := Ha (HB1.out.trans (HBR2.out.mono HB1.out.size))
          have c0 := (HW2.out.cell 0).trans rfl
          have c1 := (HW2.out.cell 1).trans rfl
          have f0 := HW2.out.frozen 0
          have f1 := HW2.out.frozen 1
          go_wp2_with fail
          exact retR2 rfl rfl rfl rfl (twoR_put HW2.out _ _) ⟨.inl ⟨HCD.out, rfl⟩, twoR_below HB2.out (Nat.le_refl _) _ _⟩
      · obtain rfl : k = n := by omega
        have g2 : ¬ ((k : Int) < (k : Int)) := by omega
        have ha := HU.out
        rw [<-HL.out] at ha
        have hall := ha.all
        have hok := HLOW.out.ok hall
        obtain ⟨D, hD⟩ : ∃ D, D = ofC xs := ⟨_, rfl⟩
        have hset : SetL cX D := by rw [hD]; exact ofC_set xs
        have hokD : OkL D := by rw [hD]; exact hok.ofC
        have HD := Ha hD
        have HOK := Ha hok
        have HOKD := Ha hokD
        have HDL := Ha (show D.length <= 60000 by rw [hD]; have := ofC_len xs; rw [HL.out] at this; omega)
        obtain ⟨z, hz⟩ : ∃ z, z = isZ nn D := ⟨_, rfl⟩
        have HRZ := Ha (show refZ nn D = z by rw [hz]; exact (isZ_ref hset.keys hokD).symm)
        have HCD := Ha (show codeZ nn xs = if z = true then 0 else 9 by unfold codeZ; rw [HR.out, hall, <-hD, <-hz]; rfl)
        have HX3 := Ha ((HX1.out.keep HBR.out).more HBR.out.size)
        have HW3 := Ha (HW1.out.below HBR.out HW1.out.lt)
        have HB3 := Ha (HB1.out.trans (HBR.out.mono HB1.out.size))
        clear ha hall hok hset hokD hD hz; go_wp2_with fail
        refine (RefOf_any A k c xs _ HX3.out HOK.out (by omega)).mono ?_
        rw [<-HD.out]
        rintro e w4 ⟨v4, rfl, ho, hB⟩; obtain ⟨A4, c4, rfl, hs4, _⟩ := own_sees ho
        have HS4 := Ha hs4
        have HO4 := Ha ho
        have HW4 := Ha (HW3.out.below hB HW3.out.lt)
        have HB4 := thB HB3 hB
        clear hB ho hs4; obtain ⟨m, hm⟩ : ∃ m, m = D.length := ⟨_, rfl⟩
        rw [<-hm] at HS4 HO4 HDL
        try rw [<-hm]
        have HM := Ha hm
        clear hm; go_wp2_with fail
        refine (RefIsZone_any A4 m c4 N nn D _ HN.out HS4.out HOKD.out (by have := HDL.out; omega)).mono ?_
        rw [HRZ.out]
        rintro e w5 ⟨rfl, hB⟩; have HO5 := Ha (own_keep HO4.out hB)
        have HW5 := Ha (HW4.out.below hB HW4.out.lt)
        have HB5 := thB HB4 hB
        clear hB
        cases z with
        | false =>
          have c0 := (HW5.out.cell 0).trans rfl
          have c1 := (HW5.out.cell 1).trans rfl
          have f0 := HW5.out.frozen 0
          have f1 := HW5.out.frozen 1
          go_wp2_with fail
          exact retR2 rfl rfl rfl rfl (twoR_put HW5.out _ _) ⟨.inr (.inl ⟨by rw [HCD.out]; rfl, rfl⟩), twoR_below HB5.out (Nat.le_refl _) _ _⟩
        | true =>
          have c0 := (HW5.out.cell 0).trans rfl
          have c1 := (HW5.out.cell 1).trans rfl
          have f0 := HW5.out.frozen 0
          have f1 := HW5.out.frozen 1
          go_wp2_with fail
          refine retR2 rfl rfl rfl rfl (twoR_put HW5.out _ _) ⟨?_, twoR_below HB5.out (Nat.le_refl _) _ _⟩
          obtain ⟨A6, c6, e6, hs6, hcap6⟩ := own_sees (twoR_own HO5.out HW5.out (.string N) (.slice A4 m c4))
          obtain ⟨rfl, rfl⟩ : A4 = A6 /\ c4 = c6 := by simpa using e6
          refine .inr (.inr ⟨by rw [HCD.out]; rfl, _, rfl, A4, c4, ?_⟩)
          rw [<-HD.out, <-HM.out]
          exact ⟨rfl, hs6, hcap6⟩
end Go.Proofs.YtmpginmdaeclaaaGreatDoor
