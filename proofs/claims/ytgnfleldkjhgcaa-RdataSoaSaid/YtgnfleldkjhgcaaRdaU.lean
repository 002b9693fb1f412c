/- RdataSoa. No statement of the seat is proved here. -/
import Derived.Test.YtgnfleldkjhgcaaRdaT
import Derived.Test.YtgnfleldkjhgcaaRdaI
namespace Go.Proofs.Ytgnfleldkjhgcaa
open Go.RowKit

abbrev so7 (A B : ByteArray) (z0 z1 z2 z3 z4 : Int) : Array Value := #[.string A, .string B, .int .u32 z0, .int .u32 z1, .int .u32 z2, .int .u32 z3, .int .u32 z4]
/-- Soa of the program and of the reference give the same -/
theorem Soa_both (S : ByteArray) (D : List UInt8) (hS : S = mk D) (hD : D.length ≤ 65535) : ∃ (A B : ByteArray) (z0 z1 z2 z3 z4 k : Int) (ok : Bool), ((k = 0 ∧ ok = true) ∨ (k = 2 ∧ ok = false)) ∧
    (∀ w, Calls Try.prog 18 #[.string S] w fun e w' => e = .returned (.tuple #[.agg (so7 A B z0 z1 z2 z3 z4), .int .i64 k]) ∧ Below w.heap.size w w') ∧
    (∀ w, Calls Try.prog 19 #[.string S] w fun e w' => e = .returned (.tuple #[.agg (so7 A B z0 z1 z2 z3 z4), .bool ok]) ∧ Below w.heap.size w w') := by
  cases hr : rightR 6 D with
  | false => exact ⟨_, _, _, _, _, _, _, 2, false, .inr ⟨rfl, rfl⟩, fun w => Soa_no S D w hS hD hr, fun w => RefSoa_no S D w hS hD hr⟩
  | true =>
    obtain ⟨m, r, a, b, c, d, e, h7⟩ := soa_is hr
    exact ⟨_, _, _, _, _, _, _, 0, true, .inl ⟨rfl, rfl⟩, fun w => Soa_yes S D m r a b c d e w hS hD h7, fun w => RefSoa_yes S D m r a b c d e w hS hD h7⟩

theorem Data_both (m r : List UInt8) (n0 n1 n2 n3 n4 : Nat) (hm : m.length ≤ 2000) (hr : r.length ≤ 2000) (hn : n0 < 4294967296 ∧ n1 < 4294967296 ∧ n2 < 4294967296 ∧ n3 < 4294967296 ∧ n4 < 4294967296) : ∃ (d : ByteArray) (k : Int),
    (((nameL m).isSome = true ∧ (nameL r).isSome = true ∧ k = 0 ∧ d = mk (m ++ r ++ be n0 4 ++ be n1 4 ++ be n2 4 ++ be n3 4 ++ be n4 4)) ∨ (((nameL m).isSome = false ∨ ((nameL m).isSome = true ∧ (nameL r).isSome = false)) ∧ k = 2 ∧ d = mk [])) ∧
    ∀ w, Calls Try.prog 20 #[.agg (so7 (mk m) (mk r) n0 n1 n2 n3 n4)] w fun en w' => en = .returned (.tuple #[.string d, .int .i64 k]) ∧ Below w.heap.size w w' := by
  cases h1 : (nameL m).isSome with
  | false => exact ⟨_, 2, .inr ⟨.inl rfl, rfl, rfl⟩, fun w => Data_no (mk m) (mk r) m r n0 n1 n2 n3 n4 w rfl rfl hm hr (.inl h1)⟩
  | true =>
    cases h2 : (nameL r).isSome with
    | false => exact ⟨_, 2, .inr ⟨.inr ⟨rfl, rfl⟩, rfl, rfl⟩, fun w => Data_no (mk m) (mk r) m r n0 n1 n2 n3 n4 w rfl rfl hm hr (.inr ⟨h1, h2⟩)⟩
    | true => exact ⟨_, 0, .inl ⟨rfl, rfl, rfl, rfl⟩, fun w => Data_yes m r n0 n1 n2 n3 n4 w hm hr h1 h2 hn⟩

set_option maxHeartbeats 4000000 in
set_option maxRecDepth 20000 in
theorem RdataSoa_walk (S M R : ByteArray) (n0 n1 n2 n3 n4 : Nat) (w : World) (hs : S.size ≤ 140737488351232) (hM : M.size ≤ 140737488351232) (hR : R.size ≤ 140737488351232)
    (hn : n0 < 4294967296 ∧ n1 < 4294967296 ∧ n2 < 4294967296 ∧ n3 < 4294967296 ∧ n4 < 4294967296) :
    Calls Try.prog 5 #[.string S, .agg #[.string M, .string R, .int .u32 (n0 : Nat), .int .u32 (n1 : Nat), .int .u32 (n2 : Nat), .int .u32 (n3 : Nat), .int .u32 (n4 : Nat)]] w fun e w' => e = .returned (.bool true) ∧ Below w.heap.size w w' := by
  have gsum : wrap64 ((M.size : Int) + (R.size : Int)) = (M.size : Int) + (R.size : Int) := by unfold wrap64; omega
  by_cases h2 : S.size ≤ 2000 ∧ M.size + R.size ≤ 2000
  · obtain ⟨h2, h3⟩ := h2
    have g2 : (S.size : Int) ≤ 2000 := by omega
    have g3 : (M.size : Int) + (R.size : Int) ≤ 2000 := by omega
    obtain ⟨m, hm⟩ := mk_of M
    obtain ⟨r, hr⟩ := mk_of R
    subst hm hr
    have hm2 : m.length ≤ 2000 := by have := mk_size m; omega
    have hr2 : r.length ≤ 2000 := by have := mk_size r; omega
    obtain ⟨d, kd, hd, hDA⟩ := Data_both m r n0 n1 n2 n3 n4 hm2 hr2 hn
    have HDA := Lib.hid hDA
    have HDD := Lib.hid hd
    clear hDA hd
    obtain ⟨D, hS⟩ := mk_of S
    have hD : D.length ≤ 65535 := by have := mk_size D; rw [← hS] at this; omega
    obtain ⟨A, B, z0, z1, z2, z3, z4, k, ok, hk, hP, hQ⟩ := Soa_both S D hS hD
    have HP := Lib.hid hP
    have HQ := Lib.hid hQ
    have hw0 := Whole.new w soT (so7 (mk m) (mk r) n0 n1 n2 n3 n4)
    have hB0 : Below w.heap.size w (w.alloc (.cells (so7 (mk m) (mk r) n0 n1 n2 n3 n4) soT)) := (Below.refl _ _).alloc (Nat.le_refl _) _
    have HW0 := Lib.hid hw0
    have HB0 := Lib.hid hB0
    clear hP hQ hS hw0 hB0
    go_enter Try.func5, Try.ntmps5
    go_wp2_with fail
    refine (awake_any _).mono ?_
    rintro e w1 ⟨rfl, hB1⟩
    have HW1 := Lib.hid (HW0.out.below hB1 HW0.out.lt)
    have HB1 := Lib.hid (HB0.out.trans (hB1.mono HB0.out.size))
    obtain ⟨c0, c1, _, _, _, _, _⟩ := soa_facts HW1.out
    clear hB1
    go_wp2_with fail
    refine (HP.out _).mono ?_
    rintro e w2 ⟨rfl, hB2⟩
    have HW2 := Lib.hid (HW1.out.below hB2 HW1.out.lt)
    have HB2 := Lib.hid (HB1.out.trans (hB2.mono HB1.out.size))
    clear hB2 c0 c1
    have hax := (Below.refl w2.heap.size w2).alloc (Nat.le_refl _) (.cells (so7 A B z0 z1 z2 z3 z4) soT)
    have HX2 := Lib.hid (Whole.new w2 soT (so7 A B z0 z1 z2 z3 z4))
    have HW2 := Lib.hid (HW2.out.below hax HW2.out.lt)
    have HB2 := Lib.hid (HB2.out.trans (hax.mono HB2.out.size))
    clear hax
    go_wp2_with fail
    revert HX2 HW2 HB2
    generalize w2.alloc (.cells (so7 A B z0 z1 z2 z3 z4) soT) = W2
    generalize w2.heap.size = gx
    intro HX2 HW2 HB2
    refine (HQ.out _).mono ?_
    rintro e w3 ⟨rfl, hB3⟩
    have HX3 := Lib.hid (HX2.out.below hB3 HX2.out.lt)
    have HW3 := Lib.hid (HW2.out.below hB3 HW2.out.lt)
    have HB3 := Lib.hid (HB2.out.trans (hB3.mono HB2.out.size))
    clear hB3
    have hay := (Below.refl w3.heap.size w3).alloc (Nat.le_refl _) (.cells (so7 A B z0 z1 z2 z3 z4) soT)
    have HY3 := Lib.hid (Whole.new w3 soT (so7 A B z0 z1 z2 z3 z4))
    have HX3 := Lib.hid (HX3.out.below hay HX3.out.lt)
    have HW3 := Lib.hid (HW3.out.below hay HW3.out.lt)
    have HB3 := Lib.hid (HB3.out.trans (hay.mono HB3.out.size))
    obtain ⟨c0, c1, c2, c3, c4, c5, c6⟩ := soa_facts HW3.out
    clear hay
    go_wp2_with fail
    clear c0 c1 c2 c3 c4 c5 c6
    revert HY3 HX3 HW3 HB3
    generalize w3.alloc (.cells (so7 A B z0 z1 z2 z3 z4) soT) = W3
    generalize w3.heap.size = gy
    intro HY3 HX3 HW3 HB3
    refine (HDA.out _).mono ?_
    rintro e w4 ⟨rfl, hB4⟩
    have HX4 := Lib.hid (HX3.out.below hB4 HX3.out.lt)
    have HY4 := Lib.hid (HY3.out.below hB4 HY3.out.lt)
    have HW4 := Lib.hid (HW3.out.below hB4 HW3.out.lt)
    have HB4 := Lib.hid (HB3.out.trans (hB4.mono HB3.out.size))
    obtain ⟨c0, c1, c2, c3, c4, c5, c6⟩ := soa_facts HX4.out
    obtain ⟨d0, d1, d2, d3, d4, d5, d6⟩ := soa_facts HY4.out
    clear hB4
    obtain ⟨e0, e1, e2, e3, e4, e5, e6⟩ := soa_facts HW4.out
    rcases HDD.out with ⟨hm1, hr1, rfl, hdd⟩ | ⟨hbad, rfl, rfl⟩
    · have HM1 := Lib.hid hm1
      have HR1 := Lib.hid hr1
      have hdl : (m ++ r ++ be n0 4 ++ be n1 4 ++ be n2 4 ++ be n3 4 ++ be n4 4).length ≤ 65535 := by simp [be_length]; omega
      have h7 : Soa7 (m ++ r ++ be n0 4 ++ be n1 4 ++ be n2 4 ++ be n3 4 ++ be n4 4) m r (be n0 4) (be n1 4) (be n2 4) (be n3 4) (be n4 4) :=
        ⟨⟨Option.isSome_iff_exists.1 hm1, Option.isSome_iff_exists.1 hr1⟩, ⟨be_length _ _, be_length _ _, be_length _ _, be_length _ _, be_length _ _⟩, rfl⟩
      obtain ⟨b0, b1, b2, b3, b4⟩ := hn
      have hagg : agg7 m r (num (be n0 4)) (num (be n1 4)) (num (be n2 4)) (num (be n3 4)) (num (be n4 4)) = so7 (mk m) (mk r) n0 n1 n2 n3 n4 := by
        unfold agg7
        rw [num_be_eq n0 4 b0, num_be_eq n1 4 b1, num_be_eq n2 4 b2, num_be_eq n3 4 b3, num_be_eq n4 4 b4]
      have HS7 := Lib.hid (fun w => hagg ▸ Soa_yes d (m ++ r ++ be n0 4 ++ be n1 4 ++ be n2 4 ++ be n3 4 ++ be n4 4) m r _ _ _ _ _ w hdd hdl h7)
      have HRD := Lib.hid (fun w => hdd ▸ RefData_any m r n0 n1 n2 n3 n4 w hm2 hr2 ⟨b0, b1, b2, b3, b4⟩)
      have hself : (d.toList == d.toList) = true := by simp
      clear hm1 hr1 h7 hagg hdd hdl
      rcases hk with ⟨rfl, rfl⟩ | ⟨rfl, rfl⟩
      all_goals (
        go_wp2_with fail
        refine (RefRight_any (mk m) m _ rfl).mono ?_
        rw [HM1.out]
        rintro e w5 ⟨rfl, hB5⟩
        have HW5 := Lib.hid (HW4.out.below hB5 HW4.out.lt)
        have HB5 := Lib.hid (HB4.out.trans (hB5.mono HB4.out.size))
        obtain ⟨_, f1, _, _, _, _, _⟩ := soa_facts HW5.out
        clear hB5
        go_wp2_with fail
        refine (RefRight_any (mk r) r _ rfl).mono ?_
        rw [HR1.out]
        rintro e w6 ⟨rfl, hB6⟩
        have HW6 := Lib.hid (HW5.out.below hB6 HW5.out.lt)
        have HB6 := Lib.hid (HB5.out.trans (hB6.mono HB5.out.size))
        clear hB6
        go_wp2_with fail
        refine (HS7.out _).mono ?_
        rintro e w7 ⟨rfl, hB7⟩
        have HW7 := Lib.hid (HW6.out.below hB7 HW6.out.lt)
        have HB7 := Lib.hid (HB6.out.trans (hB7.mono HB6.out.size))
        clear hB7
        have haz := (Below.refl w7.heap.size w7).alloc (Nat.le_refl _) (.cells (so7 (mk m) (mk r) n0 n1 n2 n3 n4) soT)
        have HZ7 := Lib.hid (Whole.new w7 soT (so7 (mk m) (mk r) n0 n1 n2 n3 n4))
        have HW7 := Lib.hid (HW7.out.below haz HW7.out.lt)
        have HB7 := Lib.hid (HB7.out.trans (haz.mono HB7.out.size))
        obtain ⟨p0, p1, p2, p3, p4, p5, p6⟩ := soa_facts HW7.out
        clear haz
        go_wp2_with fail
        revert HZ7 HW7 HB7
        generalize w7.alloc (.cells (so7 (mk m) (mk r) n0 n1 n2 n3 n4) soT) = W7
        generalize w7.heap.size = gz
        intro HZ7 HW7 HB7
        refine (HRD.out _).mono ?_
        rintro e w8 ⟨rfl, hB8⟩
        have HZ8 := Lib.hid (HZ7.out.below hB8 HZ7.out.lt)
        have HW8 := Lib.hid (HW7.out.below hB8 HW7.out.lt)
        have HB8 := Lib.hid (HB7.out.trans (hB8.mono HB7.out.size))
        obtain ⟨r0, r1, r2, r3, r4, r5, r6⟩ := soa_facts HW8.out
        obtain ⟨s0, s1, s2, s3, s4, s5, s6⟩ := soa_facts HZ8.out
        clear hB8
        go_wp2_with fail
        go_ret
        exact ⟨rfl, HB8.out⟩)
    · have HBAD := Lib.hid hbad
      clear hbad
      have hself : ((mk []).toList.isEmpty) = true := by rw [ByteArray.toList_eq]; rfl
      rcases HBAD.out with hb | ⟨hb, hb2⟩
      · have H1 := Lib.hid hb
        clear hb
        rcases hk with ⟨rfl, rfl⟩ | ⟨rfl, rfl⟩
        all_goals (
          go_wp2_with fail
          refine (RefRight_any (mk m) m _ rfl).mono ?_
          rw [H1.out]
          rintro e w5 ⟨rfl, hB5⟩
          have HB5 := Lib.hid (HB4.out.trans (hB5.mono HB4.out.size))
          clear hB5
          go_wp2_with fail
          go_ret
          exact ⟨rfl, HB5.out⟩)
      · have H1 := Lib.hid hb
        have H2 := Lib.hid hb2
        clear hb hb2
        rcases hk with ⟨rfl, rfl⟩ | ⟨rfl, rfl⟩
        all_goals (
          go_wp2_with fail
          refine (RefRight_any (mk m) m _ rfl).mono ?_
          rw [H1.out]
          rintro e w5 ⟨rfl, hB5⟩
          have HW5 := Lib.hid (HW4.out.below hB5 HW4.out.lt)
          have HB5 := Lib.hid (HB4.out.trans (hB5.mono HB4.out.size))
          obtain ⟨_, f1, _, _, _, _, _⟩ := soa_facts HW5.out
          clear hB5
          go_wp2_with fail
          refine (RefRight_any (mk r) r _ rfl).mono ?_
          rw [H2.out]
          rintro e w6 ⟨rfl, hB6⟩
          have HB6 := Lib.hid (HB5.out.trans (hB6.mono HB5.out.size))
          clear hB6
          go_wp2_with fail
          go_ret
          exact ⟨rfl, HB6.out⟩)
  · have hor : (2000 : Int) < (S.size : Int) ∨ ((S.size : Int) ≤ 2000 ∧ (2000 : Int) < (M.size : Int) + (R.size : Int)) := by omega
    have hw0 := Whole.new w soT (so7 M R n0 n1 n2 n3 n4)
    have hB0 : Below w.heap.size w (w.alloc (.cells (so7 M R n0 n1 n2 n3 n4) soT)) := (Below.refl _ _).alloc (Nat.le_refl _) _
    have HW0 := Lib.hid hw0
    have HB0 := Lib.hid hB0
    clear hw0 hB0 h2
    rcases hor with g2 | ⟨g2, g3⟩
    all_goals (
      go_enter Try.func5, Try.ntmps5
      go_wp2_with fail
      refine (awake_any _).mono ?_
      rintro e w1 ⟨rfl, hB1⟩
      have HW1 := Lib.hid (HW0.out.below hB1 HW0.out.lt)
      have HB1 := Lib.hid (HB0.out.trans (hB1.mono HB0.out.size))
      obtain ⟨c0, c1, _, _, _, _, _⟩ := soa_facts HW1.out
      clear hB1
      go_wp2_with fail
      refine (awake_any _).mono ?_
      rintro e w2 ⟨rfl, hB2⟩
      have HB2 := Lib.hid (HB1.out.trans (hB2.mono HB1.out.size))
      clear hB2
      go_wp2_with fail
      go_ret
      exact ⟨rfl, HB2.out⟩)
end Go.Proofs.Ytgnfleldkjhgcaa
