/- LkE: texts LokE of our own, joined. No statement of the seat is proved here. -/
import Derived.Test.YtkgihfoknpimfaaGreatLkA
import Derived.Test.YtkgihfoknpimfaaGreatLkC
import Derived.Test.YtkgihfoknpimfaaGreatNaS
namespace Go.Proofs.YtkgihfoknpimfaaGreat
open Go.RowKit Go.Op
set_option linter.unusedVariables false

theorem known_there {nn : List UInt8} {D : List Rrd} (gz : GoodZ nn D) {n : List UInt8} (h : (atX n D).isEmpty = false) : knownZ D n = true := by rw [known_ref gz, h]; rfl
theorem known_empty {nn : List UInt8} {D : List Rrd} (gz : GoodZ nn D) {n : List UInt8} (h : (atX n D).isEmpty = true) : knownZ D n = D.any fun x => underN (nmX x) n := by rw [known_ref gz, h]; rfl
theorem take_snoc {l : List Rrd} {k : Nat} {x : Rrd} (f : Rrd → Rrd) (h : l[k]? = some x) : (l.take (k + 1)).map f = (l.take k).map f ++ [f x] := by
  have hk : k < l.length := (List.getElem?_eq_some_iff.1 h).1
  rw [List.take_succ_eq_append_getElem hk, List.map_append, (List.getElem?_eq_some_iff.1 h).2]; rfl
set_option maxHeartbeats 16000000 in
set_option maxRecDepth 20000 in
theorem RZFind_any (N : ByteArray) (nn : List UInt8) (D : List Rrd) (gz : GoodZ nn D) (hN : N = mk nn) (v : Value) (w : World) (hz : ZRefAt w w.heap.size N D v) (P : ByteArray) (n : List UInt8) (hP : P = mk n) :
    Calls Tryz.prog 20 #[v, .string P] w fun e w' => RecsOut w' (fndZ D nn n).1 (fndZ D nn n).2 e ∧ Below w.heap.size w w' := by
  have HZV := Lib.hid hz
  obtain ⟨A, c, rfl, hs, hcap⟩ := hz
  have hw0 := Whole.new w rzT #[.string N, .slice A D.length c]
  have hB0 : Below w.heap.size w (w.alloc (.cells #[.string N, .slice A D.length c] rzT)) := (Below.refl _ _).alloc (Nat.le_refl _) _
  have c0 := (hw0.cell 0).trans rfl
  have c1 := (hw0.cell 1).trans rfl
  have HW0 := Lib.hid hw0
  have HZ0 := Lib.hid (HZV.out.later hB0)
  have HB0 := Lib.hid hB0
  have GZ := Lib.hid gz
  have HN := Lib.hid hN
  clear hw0 hB0 hs hcap
  clear hN
  clear gz
  have HP := Lib.hid hP
  clear hP
  cases hu : underN n nn with
  | false =>
    have HU := Lib.hid (fnd_no (D := D) hu)
    go_enter Tryz.func20, Tryz.ntmps20
    go_wp2_with fail
    refine (RefUnder_any P N n nn _ HP.out HN.out).mono ?_
    rw [hu]
    rintro e w1 ⟨rfl, hB⟩
    have hw1 := HW0.out.below hB HW0.out.lt
    have c0 := (hw1.cell 0).trans rfl
    have c1 := (hw1.cell 1).trans rfl
    have HW1 := Lib.hid hw1
    have HZ1 := Lib.hid (HZ0.out.later hB)
    have HB1 := Lib.hid (HB0.out.trans (hB.mono HB0.out.size))
    clear hB hw1
    clear hu
    go_wp2_with fail
    go_ret2
    refine ⟨?_, HB1.out⟩
    rw [HU.out]
    exact ⟨none, 0, rfl, rfl, fun h => absurd h (by simp)⟩
  | true =>
    have HU := Lib.hid hu
    cases ht : (atX n D).isEmpty with
    | false =>
      have HF := Lib.hid (fnd_known hu (known_there GZ.out ht))
      obtain ⟨m, hm⟩ : ∃ m, m = (atX n D).length := ⟨_, rfl⟩
      have HM := Lib.hid hm
      clear hm
      go_enter Tryz.func20, Tryz.ntmps20
      go_wp2_with fail
      refine (RefUnder_any P N n nn _ HP.out HN.out).mono ?_
      rw [hu]
      rintro e w1 ⟨rfl, hB⟩
      have hw1 := HW0.out.below hB HW0.out.lt
      have c0 := (hw1.cell 0).trans rfl
      have c1 := (hw1.cell 1).trans rfl
      have HW1 := Lib.hid hw1
      have HZ1 := Lib.hid (HZ0.out.later hB)
      have HB1 := Lib.hid (HB0.out.trans (hB.mono HB0.out.size))
      clear hB hw1
      clear hu
      go_wp2_with fail
      refine (RefThere_any N D _ _ HZ1.out P n HP.out (by have := GZ.out.len; omega)).mono ?_
      rw [ht]
      rintro e w2 ⟨rfl, hB⟩
      have hw2 := HW1.out.below hB HW1.out.lt
      have c0 := (hw2.cell 0).trans rfl
      have c1 := (hw2.cell 1).trans rfl
      have HW2 := Lib.hid hw2
      have HZ2 := Lib.hid (HZ1.out.later hB)
      have HB2 := Lib.hid (HB1.out.trans (hB.mono HB1.out.size))
      clear hB hw2
      clear ht
      obtain ⟨A', c', hee, hss, _⟩ := HZ2.out
      injection hee with hee
      obtain ⟨rfl, rfl⟩ : A = A' ∧ c = c' := by simpa using hee
      have HSS := Lib.hid hss
      clear hee hss
      go_wp2_with fail
      refine (RefAt_any A D.length c D P n _ HSS.out (by have := GZ.out.len; omega) HP.out).mono ?_
      rw [show (D.filter fun x => alikeN (nmX x) n) = atX n D from rfl, ← HM.out]
      rintro e w3 ⟨u, rfl, ho, hB⟩
      obtain ⟨A4, k4, rfl, hs⟩ := SeesR.own ho
      have HS4 := Lib.hid hs
      clear ho hs
      have hw3 := HW2.out.below hB HW2.out.lt
      have c0 := (hw3.cell 0).trans rfl
      have c1 := (hw3.cell 1).trans rfl
      have HW3 := Lib.hid hw3
      have HZ3 := Lib.hid (HZ2.out.later hB)
      have HB3 := Lib.hid (HB2.out.trans (hB.mono HB2.out.size))
      clear hB hw3
      go_wp2_with fail
      go_ret2
      refine ⟨?_, HB3.out⟩
      rw [HF.out]
      exact ⟨A4, k4, by rw [HM.out]; rfl, by show SeesR _ _ A4 (atX n D).length _; rw [← HM.out]; exact HS4.out⟩
    | true =>
      have HT := Lib.hid ht
      have HKE := Lib.hid (known_empty GZ.out ht)
      cases hk : knownZ D n with
      | true =>
        have HF := Lib.hid (show fndZ D nn n = ([], true) by rw [fnd_known hu hk, List.isEmpty_iff.1 ht])
        go_enter Tryz.func20, Tryz.ntmps20
        go_wp2_with fail
        refine (RefUnder_any P N n nn _ HP.out HN.out).mono ?_
        rw [hu]
        rintro e w1 ⟨rfl, hB⟩
        have hw1 := HW0.out.below hB HW0.out.lt
        have c0 := (hw1.cell 0).trans rfl
        have c1 := (hw1.cell 1).trans rfl
        have HW1 := Lib.hid hw1
        have HZ1 := Lib.hid (HZ0.out.later hB)
        have HB1 := Lib.hid (HB0.out.trans (hB.mono HB0.out.size))
        clear hB hw1
        clear hu
        go_wp2_with fail
        refine (RefThere_any N D _ _ HZ1.out P n HP.out (by have := GZ.out.len; omega)).mono ?_
        rw [ht]
        rintro e w2 ⟨rfl, hB⟩
        have hw2 := HW1.out.below hB HW1.out.lt
        have c0 := (hw2.cell 0).trans rfl
        have c1 := (hw2.cell 1).trans rfl
        have HW2 := Lib.hid hw2
        have HZ2 := Lib.hid (HZ1.out.later hB)
        have HB2 := Lib.hid (HB1.out.trans (hB.mono HB1.out.size))
        clear hB hw2
        go_wp2_with fail
        refine (RefEmpty_any N D _ _ HZ2.out P n HP.out (by have := GZ.out.len; omega)).mono ?_
        rw [ht, Bool.true_and, ← HKE.out, hk]
        rintro e w3 ⟨rfl, hB⟩
        have hw3 := HW2.out.below hB HW2.out.lt
        have c0 := (hw3.cell 0).trans rfl
        have c1 := (hw3.cell 1).trans rfl
        have HW3 := Lib.hid hw3
        have HZ3 := Lib.hid (HZ2.out.later hB)
        have HB3 := Lib.hid (HB2.out.trans (hB.mono HB2.out.size))
        clear hB hw3
        clear hk ht
        go_wp2_with fail
        go_ret2
        refine ⟨?_, HB3.out⟩
        rw [HF.out]
        exact ⟨none, 0, rfl, rfl, fun h => absurd h (by simp)⟩
      | false =>
        obtain ⟨cc, hcc, hcn, hcl, hof, hsn, hsl⟩ := star_is GZ.out hu hk
        obtain ⟨S, hS⟩ : ∃ S, S = mk (starZ D nn n) := ⟨_, rfl⟩
        obtain ⟨C, hC⟩ : ∃ C, C = mk cc := ⟨_, rfl⟩
        obtain ⟨l, hL⟩ : ∃ l, l = atX (starZ D nn n) D := ⟨_, rfl⟩
        obtain ⟨m, hm⟩ : ∃ m, m = l.length := ⟨_, rfl⟩
        have hm1000 : m ≤ 1000 := by rw [hm, hL]; have := atX_len (starZ D nn n) D; have := GZ.out.len; omega
        have HCC := Lib.hid (show (optE (clsZ D nn n)) = .returned (.tuple #[.string C, .bool true]) by rw [hcc, hC]; rfl)
        have HCN := Lib.hid hcn
        have HOF := Lib.hid hof
        have HSL := Lib.hid hsl
        have HS := Lib.hid hS
        have HC := Lib.hid hC
        have HL := Lib.hid hL
        have HM := Lib.hid hm
        have HF := Lib.hid (show fndZ D nn n = (l.map (renZ n), !l.isEmpty) by rw [fnd_wild hu hk, hL])
        have HLE := Lib.hid (empty_len l)
        obtain ⟨q, hq⟩ : ∃ q, q = (labsZ cc).length := ⟨_, rfl⟩
        have hq255 : q ≤ 255 := by
          rw [hq]
          obtain ⟨he, hg, hl⟩ := nameL_is hcn
          have := pairs_len cc
          rw [show pairs cc = prs (labsZ cc) by rw [← pairs_enc hg, ← he], (labV_prs (labsZ cc)).2] at this
          omega
        have HLX := Lib.hid (show ∀ x ∈ [42] :: labsZ cc, x.length ≤ 100000 by
          intro x hx
          rcases List.mem_cons.1 hx with hx | hx
          · subst hx; simp
          · have := ((nameL_is hcn).2.1 x hx).2; omega)
        have HQ := Lib.hid hq
        clear hcc hcn hcl hof hsn hsl hS hC hL hm hq
        go_enter Tryz.func20, Tryz.ntmps20
        go_wp2_with fail
        refine (RefUnder_any P N n nn _ HP.out HN.out).mono ?_
        rw [hu]
        rintro e w1 ⟨rfl, hB⟩
        have hw1 := HW0.out.below hB HW0.out.lt
        have c0 := (hw1.cell 0).trans rfl
        have c1 := (hw1.cell 1).trans rfl
        have HW1 := Lib.hid hw1
        have HZ1 := Lib.hid (HZ0.out.later hB)
        have HB1 := Lib.hid (HB0.out.trans (hB.mono HB0.out.size))
        clear hB hw1
        clear hu
        go_wp2_with fail
        refine (RefThere_any N D _ _ HZ1.out P n HP.out (by have := GZ.out.len; omega)).mono ?_
        rw [ht]
        rintro e w2 ⟨rfl, hB⟩
        have hw2 := HW1.out.below hB HW1.out.lt
        have c0 := (hw2.cell 0).trans rfl
        have c1 := (hw2.cell 1).trans rfl
        have HW2 := Lib.hid hw2
        have HZ2 := Lib.hid (HZ1.out.later hB)
        have HB2 := Lib.hid (HB1.out.trans (hB.mono HB1.out.size))
        clear hB hw2
        go_wp2_with fail
        refine (RefEmpty_any N D _ _ HZ2.out P n HP.out (by have := GZ.out.len; omega)).mono ?_
        rw [ht, Bool.true_and, ← HKE.out, hk]
        rintro e w3 ⟨rfl, hB⟩
        have hw3 := HW2.out.below hB HW2.out.lt
        have c0 := (hw3.cell 0).trans rfl
        have c1 := (hw3.cell 1).trans rfl
        have HW3 := Lib.hid hw3
        have HZ3 := Lib.hid (HZ2.out.later hB)
        have HB3 := Lib.hid (HB2.out.trans (hB.mono HB2.out.size))
        clear hB hw3
        clear hk ht
        go_wp2_with fail
        refine (RZClosest_any N nn D GZ.out HN.out _ P n _ _ HP.out HZ3.out (Nat.le_refl _)).mono ?_
        rw [HCC.out]
        rintro e w4 ⟨rfl, hB⟩
        have hw4 := HW3.out.below hB HW3.out.lt
        have c0 := (hw4.cell 0).trans rfl
        have c1 := (hw4.cell 1).trans rfl
        have HW4 := Lib.hid hw4
        have HZ4 := Lib.hid (HZ3.out.later hB)
        have HB4 := Lib.hid (HB3.out.trans (hB.mono HB3.out.size))
        clear hB hw4
        go_wp2_with fail
        refine (RefLabels_yes C cc (labsZ cc) _ HC.out HCN.out).mono ?_
        rw [← HQ.out]
        rintro e w5 ⟨v5, rfl, hown, hB⟩
        obtain ⟨A5, k5, rfl, hs5⟩ := Sees.own hown
        have HSEE := Lib.hid (hs5.below ((Below.refl w5.heap.size w5).alloc (Nat.le_refl _) (.cells #[.string ⟨#[42]⟩] 9)))
        clear hown hs5
        have hw5 := HW4.out.below hB HW4.out.lt
        have c0 := (hw5.cell 0).trans rfl
        have c1 := (hw5.cell 1).trans rfl
        have HW5 := Lib.hid hw5
        have HZ5 := Lib.hid (HZ4.out.later hB)
        have HB5 := Lib.hid (HB4.out.trans (hB.mono HB4.out.size))
        clear hB hw5
        go_wp2_with (at_builtin; refine append_seen rfl _ _ rfl w5.heap.size (.slice (some ⟨w5.heap.size, 0, none⟩) 1 1) 1 [.string ⟨#[42]⟩] rfl (own_one w5 _ _ (Nat.le_refl _)) (by simp) _ A5 q k5 ((labsZ cc).map mk) rfl HSEE.out (1 + q) rfl (textL ([42] :: labsZ cc)) rfl (by omega) (by simp) ?_; intro v6 w6 hown2 hgrow2 hne2; have hB : Below w5.heap.size w5 w6 := ((Below.refl w5.heap.size w5).alloc (Nat.le_refl _) _).grown hgrow2 (by simp) (fun z hz => by simp [Value.ownBlock] at hz; omega); obtain ⟨A6, k6, rfl, hs6⟩ := Sees.own hown2; have HB56 := Lib.hid hB; have HS6 := Lib.hid hs6; clear hown2 hgrow2 hne2 hB hs6)
        have hB := HB56.out
        have hw6 := HW5.out.below hB HW5.out.lt
        have c0 := (hw6.cell 0).trans rfl
        have c1 := (hw6.cell 1).trans rfl
        have HW6 := Lib.hid hw6
        have HZ6 := Lib.hid (HZ5.out.later hB)
        have HB6 := Lib.hid (HB5.out.trans (hB.mono HB5.out.size))
        clear hB hw6
        refine (NRefOf_any A6 (1 + q) k6 ([42] :: labsZ cc) _ HS6.out (by omega) HLX.out).mono ?_
        rw [HOF.out, ← HS.out]
        rintro e w7 ⟨rfl, hB⟩
        have hw7 := HW6.out.below hB HW6.out.lt
        have c0 := (hw7.cell 0).trans rfl
        have c1 := (hw7.cell 1).trans rfl
        have HW7 := Lib.hid hw7
        have HZ7 := Lib.hid (HZ6.out.later hB)
        have HB7 := Lib.hid (HB6.out.trans (hB.mono HB6.out.size))
        clear hB hw7
        by_cases hm0 : m = 0
        · have HE := Lib.hid (show (!(atX (starZ D nn n) D).isEmpty) = false by rw [← HL.out, HLE.out, ← HM.out]; simp [hm0])
          have HF0 := Lib.hid (show fndZ D nn n = ([], false) by
            rw [HF.out, HLE.out, ← HM.out]
            rw [show l = [] from List.eq_nil_of_length_eq_zero (by rw [← HM.out]; exact hm0)]
            simp [hm0])
          clear hm0
          go_wp2_with fail
          refine (RefThere_any N D _ _ HZ7.out S (starZ D nn n) HS.out (by have := GZ.out.len; omega)).mono ?_
          rw [HE.out]
          rintro e w8 ⟨rfl, hB⟩
          have hw8 := HW7.out.below hB HW7.out.lt
          have c0 := (hw8.cell 0).trans rfl
          have c1 := (hw8.cell 1).trans rfl
          have HW8 := Lib.hid hw8
          have HZ8 := Lib.hid (HZ7.out.later hB)
          have HB8 := Lib.hid (HB7.out.trans (hB.mono HB7.out.size))
          clear hB hw8
          go_wp2_with fail
          go_ret2
          refine ⟨?_, HB8.out⟩
          rw [HF0.out]
          exact ⟨none, 0, rfl, rfl, fun h => absurd h (by simp)⟩
        · have HE := Lib.hid (show (!(atX (starZ D nn n) D).isEmpty) = true by rw [← HL.out, HLE.out, ← HM.out]; simp [hm0])
          have HF1 := Lib.hid (show fndZ D nn n = (l.map (renZ n), true) by
            rw [HF.out, HLE.out, ← HM.out]
            simp [hm0])
          clear hm0
          go_wp2_with fail
          refine (RefThere_any N D _ _ HZ7.out S (starZ D nn n) HS.out (by have := GZ.out.len; omega)).mono ?_
          rw [HE.out]
          rintro e w8 ⟨rfl, hB⟩
          have hw8 := HW7.out.below hB HW7.out.lt
          have c0 := (hw8.cell 0).trans rfl
          have c1 := (hw8.cell 1).trans rfl
          have HW8 := Lib.hid hw8
          have HZ8 := Lib.hid (HZ7.out.later hB)
          have HB8 := Lib.hid (HB7.out.trans (hB.mono HB7.out.size))
          clear hB hw8
          obtain ⟨A', c', hee, hss, _⟩ := HZ8.out
          injection hee with hee
          obtain ⟨rfl, rfl⟩ : A = A' ∧ c = c' := by simpa using hee
          have HSS := Lib.hid hss
          clear hee hss
          go_wp2_with fail
          refine (RefAt_any A D.length c D S (starZ D nn n) _ HSS.out (by have := GZ.out.len; omega) HS.out).mono ?_
          rw [show (D.filter fun x => alikeN (nmX x) (starZ D nn n)) = l from HL.out.symm, ← HM.out]
          rintro e w9 ⟨u, rfl, ho, hB⟩
          obtain ⟨A9, k9, rfl, hs⟩ := SeesR.own ho
          have HS9 := Lib.hid hs
          clear ho hs
          have hw9 := HW8.out.below hB HW8.out.lt
          have c0 := (hw9.cell 0).trans rfl
          have c1 := (hw9.cell 1).trans rfl
          have HW9 := Lib.hid hw9
          have HZ9 := Lib.hid (HZ8.out.later hB)
          have HB9 := Lib.hid (HB8.out.trans (hB.mono HB8.out.size))
          clear hB hw9
          clear c0 c1
          go_wp2_with fail
          go_loopw [12, 14] (fun x i wr => ∃ k : Nat, k ≤ m ∧ i = .int .i64 (k : Nat) ∧ wr.ownsRow w9.heap.size 26 5 x k (rcells ((l.take k).map (renZ n))) ∧ Below w9.heap.size w9 wr) (fun _ i _ => m - (intOf i).toNat)
          case atStart => exact ⟨0, Nat.zero_le _, rfl, own_nil _ _ _ _, Below.refl _ _⟩
          case round =>
            obtain ⟨k, hk, rfl, ho, hB⟩ := hrel
            obtain ⟨AX, cX, rfl, hsx⟩ := SeesR.own ho
            have HSX := Lib.hid hsx
            have HO := Lib.hid ho
            have HBR := Lib.hid hB
            clear ho hB hsx
            by_cases hkm : k < m
            · have g2 : (k : Int) < (m : Int) := by omega
              have g0 : (0 : Int) ≤ (k : Int) := by omega
              obtain ⟨b, off, x, rfl, hb, hxk, ht⟩ := (HS9.out.keep HBR.out).at hkm
              obtain ⟨x0, x1, x2, x3, x4⟩ := ht
              obtain ⟨y, hy⟩ : ∃ y : Rrd, y = ⟨P, x.t, x.c, x.l, x.d⟩ := ⟨_, rfl⟩
              have HST := Lib.hid (show (l.take (k + 1)).map (renZ n) = (l.take k).map (renZ n) ++ [y] by rw [take_snoc _ hxk, hy, HP.out]; rfl)
              have hD3 : Below w9.heap.size w9 ((wr.alloc (.cells #[.string P, .int .i64 x.t, .int .i64 x.c, .int .i64 x.l, .string x.d] 26)).alloc (.cells #[.string P, .int .i64 x.t, .int .i64 x.c, .int .i64 x.l, .string x.d] 26)) := (HBR.out.alloc HBR.out.size _).alloc (by have := HBR.out.size; rw [World.size_alloc]; omega) _
              have HD3 := Lib.hid hD3
              have HO3 := Lib.hid (show ((wr.alloc (.cells #[.string P, .int .i64 x.t, .int .i64 x.c, .int .i64 x.l, .string x.d] 26)).alloc (.cells #[.string P, .int .i64 x.t, .int .i64 x.c, .int .i64 x.l, .string x.d] 26)).ownsRow w9.heap.size 26 5 (.slice AX k cX) k (rcells ((l.take k).map (renZ n))) from (HO.out.alloc _).alloc _)
              have HONE := Lib.hid (show SeesR ((wr.alloc (.cells #[.string P, .int .i64 x.t, .int .i64 x.c, .int .i64 x.l, .string x.d] 26)).alloc (.cells #[.string P, .int .i64 x.t, .int .i64 x.c, .int .i64 x.l, .string x.d] 26)) (wr.heap.size + 1 + 1) (some ⟨wr.heap.size + 1, 0, none⟩) 1 [y] by
                have h := SeesR.one (wr.alloc (.cells #[.string P, .int .i64 x.t, .int .i64 x.c, .int .i64 x.l, .string x.d] 26)) y
                rw [World.size_alloc] at h
                rw [hy] at h ⊢
                exact h)
              have HLE' := Lib.hid (show k + 1 ≤ 1073741824 by omega)
              clear hxk hy hD3
              go_wp2_with (at_builtin; (refine wpList_append_R rfl _ _ rfl w9.heap.size _ k ((l.take k).map (renZ n)) rfl HO3.out (wr.heap.size + 1 + 1) _ _ _ _ rfl HONE.out HLE'.out HD3.out.size ?_); intro v3 w3 ho hg; (have HO4 := Lib.hid ho); (have HB4 := Lib.hid (HD3.out.grown hg HD3.out.size (own_block_ge HO3.out))); clear ho hg x0 x1 x2 x3 x4)
              go_wp2_with fail
              go_roundw
              case rel => exact ⟨k + 1, by omega, by go_num, by rw [HST.out]; exact HO4.out, HB4.out⟩
              case measure => simp [intOf]; omega
            · obtain rfl : k = m := by omega
              have g2 : ¬ ((k : Int) < (k : Int)) := by omega
              have hall : l.take k = l := List.take_of_length_le (by rw [HM.out]; exact Nat.le_refl _)
              have hs := HSX.out
              rw [hall] at hs
              have HS := Lib.hid hs
              have HBW := Lib.hid (HB9.out.trans (HBR.out.mono HB9.out.size))
              clear hs hall
              go_wp2_with fail
              go_ret2
              refine ⟨?_, HBW.out⟩
              rw [HF1.out]
              refine ⟨AX, cX, ?_, ?_⟩
              · show _ = Ending.returned (.tuple #[.slice AX (l.map (renZ n)).length cX, .bool true])
                rw [List.length_map, ← HM.out]
                rfl
              · show SeesR _ _ AX (l.map (renZ n)).length (l.map (renZ n))
                rw [List.length_map, ← HM.out]
                exact HS.out
end Go.Proofs.YtkgihfoknpimfaaGreat
