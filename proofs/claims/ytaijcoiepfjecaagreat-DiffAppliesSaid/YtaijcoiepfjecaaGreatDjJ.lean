/- DjJ: texts DifJ, DifK, DifS of our own, joined. No statement of the seat is proved here. -/
import Derived.Test.YtaijcoiepfjecaaGreatDjF
import Derived.Test.YtaijcoiepfjecaaGreatZoH
import Derived.Test.YtaijcoiepfjecaaGreatDjH
namespace Go.Proofs.YtaijcoiepfjecaaGreat
open Go.RowKit Go.Op
set_option linter.unusedVariables false
attribute [local go_sem] rr_eql rr_neq rr_guard

def leC : Rrd := ⟨⟨#[1, 97, 0]⟩, 6, 1, 0, ⟨#[1, 110, 1, 97, 0, 0, 0, 0, 0, 9, 0, 0, 0, 2, 0, 0, 0, 3, 0, 0, 0, 4, 0, 0, 0, 5]⟩⟩
def leM : List Rrd := [leA, leC]
theorem le_soa : Soa7 leB.toRec.d [1, 110, 1, 97, 0] [0] [0, 0, 0, 1] [0, 0, 0, 2] [0, 0, 0, 3] [0, 0, 0, 4] [0, 0, 0, 5] := ⟨⟨⟨_, name_n⟩, ⟨_, name_0⟩⟩, ⟨rfl, rfl, rfl, rfl, rfl⟩, rfl⟩
theorem leC_is : withD leB (serD [1, 110, 1, 97, 0] [0] 9 [0, 0, 0, 2] [0, 0, 0, 3] [0, 0, 0, 4] [0, 0, 0, 5]) = leC := rfl
theorem ok_leC : OkX leC := by rw [← leC_is]; exact ser_ok ok_leB rfl rfl le_soa 9
theorem le_lt2 : cX leA leC = -1 := by
  unfold cX
  have h : cK leA.toRec.n leC.toRec.n = 0 := cmpL_self _
  rw [h]
  rfl
theorem le_other : Other [1, 97, 0] leL leB leM leC := by
  have hz := isZ_leL
  rw [ofC_leL] at hz
  have hs := ofC_set leL
  rw [ofC_leL] at hs
  obtain ⟨D', h⟩ := other_of (d := serD [1, 110, 1, 97, 0] [0] 9 [0, 0, 0, 2] [0, 0, 0, 3] [0, 0, 0, 4] [0, 0, 0, 5]) hz hs ok_leL (s := leB) rfl (by rw [leC_is]; exact ok_leC)
  rw [leC_is] at h
  have e1 : dropX cmpX leB leL = [leA] := by
    rw [dropX_c ok_leB ok_leL]
    show dropX cX leB [leA, leB] = [leA]
    rw [dropX, if_pos (by rw [le_lt]; decide), dropX, if_neg (by rw [cX_ord.self]; decide), if_pos (cX_ord.self _)]
  have e2 : D' = leM := by
    rw [← h.put, e1, putX_c ok_leC (fun x hx => by rcases List.mem_cons.1 hx with rfl | hx; exact ok_leA; cases hx), putX, if_pos (by rw [le_lt2]; decide)]
    rfl
  rw [e2] at h
  exact h
theorem ne_AB : leB ≠ leA := fun h => absurd (congrArg (fun x : Rrd => x.t) h) (by decide)
theorem ne_AC : leC ≠ leA := fun h => absurd (congrArg (fun x : Rrd => x.t) h) (by decide)
theorem ne_BC : leB ≠ leC := fun h => absurd (congrArg (fun x : Rrd => x.d.data.toList) h) (by decide)
theorem le_gone : lackX leL leM = [leB] := by
  have h1 : hasX leM leA = true := hasX_is.2 (by simp [leM])
  have h2 : hasX leM leB = false := hasX_no.2 (by simp [leM, ne_AB, ne_BC])
  unfold lackX leL
  simp [h1, h2]
theorem le_come : lackX leM leL = [leC] := by
  have h1 : hasX leL leA = true := hasX_is.2 (by simp [leL])
  have h2 : hasX leL leC = false := hasX_no.2 (by simp [leL, ne_AC, Ne.symm ne_BC])
  unfold lackX leM
  simp [h1, h2]
set_option maxHeartbeats 32000000 in
set_option maxRecDepth 20000 in
theorem dawake_any (w : World) : Calls Tryz.prog 8 #[] w fun e w' => e = .returned (.bool true) ∧ Below w.heap.size w w' := by
  go_enter Tryz.func8, Tryz.ntmps8
  go_wp2_with fail
  refine (Least_any _).mono ?_
  rintro e w1 ⟨⟨A, c, rfl, hs⟩, hB⟩
  have HB1 := Lib.hid hB
  have HS1 := Lib.hid hs
  clear hB hs
  go_wp2_with fail
  refine (New_yes A 2 c ⟨#[1, 97, 0]⟩ [1, 97, 0] leL _ rfl (by decide) HS1.out (by decide) low_leL (by rw [name_a]; rfl) ok_leL isZ_leL).mono ?_
  rintro e w2 ⟨⟨v, rfl, hz⟩, hB⟩
  have HB2 := Lib.hid (HB1.out.trans (hB.mono HB1.out.size))
  rw [ofC_leL] at hz
  have HZ := Lib.hid hz
  obtain ⟨A2, c2', s2, rfl, hs2, hcap2, hsoa2⟩ := hz
  obtain rfl : leB = s2 := by
    have h : typX 6 leL = [leB] := rfl
    rw [h] at hsoa2
    simpa using hsoa2
  obtain ⟨g, hg⟩ : ∃ g, g = w2.heap.size := ⟨_, rfl⟩
  have HGG := Lib.hid hg
  have hw0 := Whole.new w2 zoT #[.string ⟨#[1, 97, 0]⟩, .slice A2 leL.length c2', .string leB.s, .int .i64 leB.t, .int .i64 leB.c, .int .i64 leB.l, .string leB.d]
  rw [← hg] at hw0
  have hB0 : Below w2.heap.size w2 (w2.alloc (.cells #[.string ⟨#[1, 97, 0]⟩, .slice A2 leL.length c2', .string leB.s, .int .i64 leB.t, .int .i64 leB.c, .int .i64 leB.l, .string leB.d] zoT)) := (Below.refl _ _).alloc (Nat.le_refl _) _
  obtain ⟨c0, c1, c2, c3, c4, c5, c6⟩ := zo_facts hw0
  have HZ3 := Lib.hid (HZ.out.later hB0)
  have HW3 := Lib.hid hw0
  have HB3 := Lib.hid (HB2.out.trans (hB0.mono HB2.out.size))
  have HSL3 := Lib.hid ((hs2.keep hB0).more hB0.size)
  have HCP := Lib.hid hcap2
  clear hB hw0 hB0 hs2 hcap2 hsoa2 hg
  go_wp2_with fail
  refine (All_any ⟨#[1, 97, 0]⟩ leL _ _ HZ3.out (by decide)).mono ?_
  rintro e w5 ⟨u, rfl, ho, hB⟩
  obtain ⟨A5, c5', rfl, _, _⟩ := own_sees ho
  have HZ5 := Lib.hid (HZ3.out.later hB)
  have HSL5 := Lib.hid ((HSL3.out.keep hB).more hB.size)
  have HW5 := Lib.hid (HW3.out.below hB HW3.out.lt)
  have HB5 := Lib.hid (HB3.out.trans (hB.mono HB3.out.size))
  clear hB ho c0 c1 c2 c3 c4 c5 c6
  rw [show leL.length = 2 from rfl]
  go_wp2_with fail
  rw [← HGG.out]
  have hb0 : Below w5.heap.size w5 w5 := Below.refl _ _
  have hb1 : Below w5.heap.size w5 w5.drew := (Below.refl _ _).drew
  have za0 : ∀ w' : World, Below w5.heap.size w5 w' → w'.cell? ⟨g, 0, none⟩ = some (.string ⟨#[1, 97, 0]⟩) := fun w' h => (h.cell (HW5.out.lt)).trans ((HW5.out.cell 0).trans rfl)
  have za1 : ∀ w' : World, Below w5.heap.size w5 w' → w'.cell? ⟨g, 1, none⟩ = some (.slice A2 leL.length c2') := fun w' h => (h.cell (HW5.out.lt)).trans ((HW5.out.cell 1).trans rfl)
  have za2 : ∀ w' : World, Below w5.heap.size w5 w' → w'.cell? ⟨g, 2, none⟩ = some (.string leB.s) := fun w' h => (h.cell (HW5.out.lt)).trans ((HW5.out.cell 2).trans rfl)
  have za3 : ∀ w' : World, Below w5.heap.size w5 w' → w'.cell? ⟨g, 3, none⟩ = some (.int .i64 leB.t) := fun w' h => (h.cell (HW5.out.lt)).trans ((HW5.out.cell 3).trans rfl)
  have za4 : ∀ w' : World, Below w5.heap.size w5 w' → w'.cell? ⟨g, 4, none⟩ = some (.int .i64 leB.c) := fun w' h => (h.cell (HW5.out.lt)).trans ((HW5.out.cell 4).trans rfl)
  have za5 : ∀ w' : World, Below w5.heap.size w5 w' → w'.cell? ⟨g, 5, none⟩ = some (.int .i64 leB.l) := fun w' h => (h.cell (HW5.out.lt)).trans ((HW5.out.cell 5).trans rfl)
  have za6 : ∀ w' : World, Below w5.heap.size w5 w' → w'.cell? ⟨g, 6, none⟩ = some (.string leB.d) := fun w' h => (h.cell (HW5.out.lt)).trans ((HW5.out.cell 6).trans rfl)
  go_region_held3 (fun w' => Below w5.heap.size w5 w') (go_keep) (first
    | (go_at_call 12; (refine (DOf_any ⟨#[1, 97, 0]⟩ ⟨#[1, 97, 0]⟩ leL leM _ _ _ (HZ5.out.later hT6) hzz6 ok_leL le_other.ok (by have := ofC_set leL; rwa [ofC_leL] at this) le_other.set (by decide) (by decide)).mono ?_; rintro e w7 ⟨⟨A7, n7, c7, A8, n8, c8, rfl, ho7, ho8⟩, hB7⟩; have hT7 : Below w5.heap.size w5 w7 := hT6.trans (hB7.mono hT6.size)))
    | (go_at_call 23; (refine (ZSer_any [1, 97, 0] ⟨#[1, 97, 0]⟩ leL A2 c2' leB [1, 110, 1, 97, 0] [0] [0, 0, 0, 1] [0, 0, 0, 2] [0, 0, 0, 3] [0, 0, 0, 4] [0, 0, 0, 5] 9 leM _ le_soa (by decide) (by decide) ((HSL5.out.keep hb1).more hb1.size) HCP.out (by rw [leC_is]; exact le_other) ok_leL ((SetL_c ok_leL).2 (by have := ofC_set leL; rwa [ofC_leL] at this)) ok_leB (by rw [leC_is]; exact ok_leC) (by decide)).mono ?_; rintro e w6 ⟨⟨v6, rfl, hz6⟩, hB6⟩; have hzz6 := hz6; obtain ⟨A6, c6, s6, rfl, _, _, _⟩ := hz6; have hT6 : Below w5.heap.size w5 w6 := hb1.trans (hB6.mono hb1.size))))
  all_goals (
    have HB7 := Lib.hid (HB5.out.trans (hT7.mono HB5.out.size))
    rw [le_gone] at ho7
    rw [le_come] at ho8
    obtain ⟨rfl, hs7, _⟩ := ho7
    obtain ⟨rfl, hs8, _⟩ := ho8
    obtain ⟨b7, o7, x7, rfl, hb7, hx7, hf7⟩ := hs7.at (j := 0) (by decide)
    obtain ⟨b8, o8, x8, rfl, hb8, hx8, hf8⟩ := hs8.at (j := 0) (by decide)
    obtain rfl : leB = x7 := by simpa using hx7
    obtain rfl : leC = x8 := by simpa using hx8
    obtain ⟨d0, d1, d2, d3, d4⟩ := (show Five w7 b7 o7 leB by simpa using hf7).later hb7
    obtain ⟨e0, e1, e2, e3, e4⟩ := (show Five w7 b8 o8 leC by simpa using hf8).later hb8
    have hne := rr_neq leB leC
    rw [eqX_no.2 ne_BC] at hne
    have hgd := fun op a b => rr_guard op a b leB leC
    clear hT6 hT7 hzz6 hB6 hB7 hb0 hb1 hs7 hs8 hx7 hx8 hf7 hf8 za0 za1 za2 za3 za4 za5 za6
    go_wp2_with fail
    refine region_later (by kernel_rfl) ?_
    repeat (go_big_quiet_step (fail))
    refine wpQuiet_nil ?_
    rintro _ ⟨q2, rfl⟩
    have HB8 := Lib.hid (HB7.out.trans (q2.below.mono HB7.out.size))
    go_wp2_with fail
    go_ret
    exact ⟨rfl, HB8.out⟩)
end Go.Proofs.YtaijcoiepfjecaaGreat
namespace Go.Proofs.YtaijcoiepfjecaaGreat
open Go.RowKit Go.Op
set_option linter.unusedVariables false

theorem retZZ {fn : Func} {R : Ending → World → Prop} {a : Act} {w : World} {p u t r1 r2 : Nat} {a0 a1 a2 a3 a4 a5 a6 b0 b1 b2 b3 b4 b5 b6 x : Value} (hf : fn.results = #[.cell p zoT, .cell u zoT, .tmp t]) (hd : a.defers = []) (hp : a.tmps.getD p undef = .pointer (some ⟨r1, 0, none⟩)) (hu : a.tmps.getD u undef = .pointer (some ⟨r2, 0, none⟩)) (hx : a.tmps.getD t undef = x)
    (h : Whole w r1 zoT #[a0, a1, a2, a3, a4, a5, a6]) (h2 : Whole w r2 zoT #[b0, b1, b2, b3, b4, b5, b6]) (hR : R (.returned (.tuple #[.agg #[a0, a1, a2, a3, a4, a5, a6], .agg #[b0, b1, b2, b3, b4, b5, b6], x])) w) : bodyPost Tryz.prog fn R .ret a w := by
  refine bodyPost_ret ?_ hd hR
  have hp' : a.tmps[p]?.getD undef = .pointer (some ⟨r1, 0, none⟩) := by simpa using hp
  have hu' : a.tmps[u]?.getD undef = .pointer (some ⟨r2, 0, none⟩) := by simpa using hu
  have hx' : a.tmps[t]?.getD undef = x := by simpa using hx
  simp [results, hf, hp', hu', hx', asAddr, run_loadVar_row w r1 zoT _ _ (0, 0) _ h Tryz.underlying28 rfl zo_size, run_loadVar_row w r2 zoT _ _ (0, 0) _ h2 Tryz.underlying28 rfl zo_size, Sem.run_bind, Result.andThen]
/-- what New returns, in one form -/
def ZRes (w' : World) (N : ByteArray) (nn : List UInt8) (xs : List Rrd) (N' : ByteArray) (A' : Option Addr) (m' c' : Nat) (s' : Rrd) : Prop :=
  codeZ nn xs = 0 → ZoneAt w' w'.heap.size N (ofC xs) (.agg #[.string N', .slice A' m' c', .string s'.s, .int .i64 s'.t, .int .i64 s'.c, .int .i64 s'.l, .string s'.d])
theorem ZNewU_any (A : Option Addr) (n c : Nat) (N : ByteArray) (nn : List UInt8) (xs : List Rrd) (w : World) (hN : N = mk nn) (hx : SeesR w w.heap.size A n xs) (hn : n ≤ 60) (hlow : LowL xs) :
    Calls Tryz.prog 16 #[.string N, .slice A n c] w fun e w' => (∃ (N' : ByteArray) (A' : Option Addr) (m' c' : Nat) (s' : Rrd), e = .returned (.tuple #[.agg #[.string N', .slice A' m' c', .string s'.s, .int .i64 s'.t, .int .i64 s'.c, .int .i64 s'.l, .string s'.d], .int .i64 (codeZ nn xs)]) ∧ ZRes w' N nn xs N' A' m' c' s') ∧ Below w.heap.size w w' := by
  refine (ZNew_any A n c N nn xs w hN hx hn hlow).mono ?_
  rintro e w' ⟨⟨hc, rfl⟩ | ⟨hc, rfl⟩ | ⟨hc, v, rfl, hz⟩, hB⟩
  · exact ⟨⟨⟨#[]⟩, none, 0, 0, ⟨⟨#[]⟩, 0, 0, 0, ⟨#[]⟩⟩, by rw [hc]; rfl, fun h => by rw [hc] at h; cases h⟩, hB⟩
  · exact ⟨⟨⟨#[]⟩, none, 0, 0, ⟨⟨#[]⟩, 0, 0, 0, ⟨#[]⟩⟩, by rw [hc]; rfl, fun h => by rw [hc] at h; cases h⟩, hB⟩
  · have hz2 := hz
    obtain ⟨A', c', s', rfl, _, _, _⟩ := hz
    exact ⟨⟨_, _, _, _, s', by rw [hc], fun _ => hz2⟩, hB⟩
abbrev exN : ByteArray := ⟨#[2, 101, 120, 0]⟩
def exL : List UInt8 := [2, 101, 120, 0]
theorem exN_is : exN = mk exL := rfl
/-- what two returns -/
def TwoOut (w' : World) (xs ys : List Rrd) (e : Ending) : Prop :=
  ∃ (N1 : ByteArray) (A1 : Option Addr) (m1 c1 : Nat) (s1 : Rrd) (N2 : ByteArray) (A2 : Option Addr) (m2 c2 : Nat) (s2 : Rrd) (z : Bool), e = .returned (.tuple #[.agg #[.string N1, .slice A1 m1 c1, .string s1.s, .int .i64 s1.t, .int .i64 s1.c, .int .i64 s1.l, .string s1.d], .agg #[.string N2, .slice A2 m2 c2, .string s2.s, .int .i64 s2.t, .int .i64 s2.c, .int .i64 s2.l, .string s2.d], .bool z]) ∧
    (z = true ↔ codeZ exL xs = 0 ∧ codeZ exL ys = 0) ∧ (z = true → ZoneAt w' w'.heap.size exN (ofC xs) (.agg #[.string N1, .slice A1 m1 c1, .string s1.s, .int .i64 s1.t, .int .i64 s1.c, .int .i64 s1.l, .string s1.d]) ∧ ZoneAt w' w'.heap.size exN (ofC ys) (.agg #[.string N2, .slice A2 m2 c2, .string s2.s, .int .i64 s2.t, .int .i64 s2.c, .int .i64 s2.l, .string s2.d]))
theorem low_codeZ {nn : List UInt8} {xs : List Rrd} (hl : LowL xs) (h : codeZ nn xs = 0) : OkL (ofC xs) ∧ SetL cX (ofC xs) ∧ isZ nn (ofC xs) = true ∧ OkL xs := by
  obtain ⟨h1, h2, h3⟩ := codeZ_zero h
  exact ⟨(hl.ok h2).ofC, ofC_set xs, h3, hl.ok h2⟩
/-- both variables written, in whatever order -/
theorem both_kept {w w' : World} {r1 r2 : Nat} {a0 a1 a2 a3 a4 a5 a6 b0 b1 b2 b3 b4 b5 b6 : Value} (hw1 : Whole w r1 zoT zeroZ) (hw2 : Whole w r2 zoT zeroZ) (hne : r2 ≠ r1)
    (he : w' = (((((((((((((((w.setCell ⟨r1, 0, none⟩ a0).setCell ⟨r1, 1, none⟩ a1).setCell ⟨r1, 2, none⟩ a2).setCell ⟨r1, 3, none⟩ a3).setCell ⟨r1, 4, none⟩ a4).setCell ⟨r1, 5, none⟩ a5).setCell ⟨r1, 6, none⟩ a6).setCell ⟨r2, 0, none⟩ b0).setCell ⟨r2, 1, none⟩ b1).setCell ⟨r2, 2, none⟩ b2).setCell ⟨r2, 3, none⟩ b3).setCell ⟨r2, 4, none⟩ b4).setCell ⟨r2, 5, none⟩ b5).setCell ⟨r2, 6, none⟩ b6))) :
    Whole w' r1 zoT #[a0, a1, a2, a3, a4, a5, a6] ∧ Whole w' r2 zoT #[b0, b1, b2, b3, b4, b5, b6] ∧ (∀ B, B ≤ r1 → B ≤ r2 → Below B w w') ∧
      ∀ N D v, OkL D → ZoneAt w w.heap.size N D v → ZoneAt w' w'.heap.size N D v := by
  subst he
  have hz1 := hw1
  have hz2 := hw2
  unfold zeroZ at hz1 hz2
  have h1 := sevZ_put hz1 a0 a1 a2 a3 a4 a5 a6
  have h2 := sev_far hw2 hne a0 a1 a2 a3 a4 a5 a6
  have h2' := h2
  unfold zeroZ at h2'
  refine ⟨sev_far h1 (fun e => hne e.symm) b0 b1 b2 b3 b4 b5 b6, sevZ_put h2' b0 b1 b2 b3 b4 b5 b6, fun B q1 q2 => sevZ_below (sevZ_below (Below.refl B w) q1 _ _ _ _ _ _ _) q2 _ _ _ _ _ _ _, fun N D v ok hz => ?_⟩
  exact zone_far (zone_far hz hw1 ok (sev_grown _ _ _ _ _ _ _ _ _)) h2 ok (sev_grown _ _ _ _ _ _ _ _ _)

set_option maxHeartbeats 64000000 in
set_option maxRecDepth 20000 in
theorem two_any (A B : Option Addr) (n c m d : Nat) (xs ys : List Rrd) (w : World) (hx : SeesR w w.heap.size A n xs) (hy : SeesR w w.heap.size B m ys) (hlx : LowL xs) (hly : LowL ys) (hn : n ≤ 60) (hm : m ≤ 60) :
    Calls Tryz.prog 10 #[.slice A n c, .slice B m d] w fun e w' => TwoOut w' xs ys e ∧ Below w.heap.size w w' := by
  obtain ⟨W, hW⟩ : ∃ W, W = (w.alloc (.cells zeroZ zoT)).alloc (.cells zeroZ zoT) := ⟨_, rfl⟩
  obtain ⟨r4, hr4⟩ : ∃ g, g = w.heap.size := ⟨_, rfl⟩
  obtain ⟨r5, hr5⟩ : ∃ g, g = w.heap.size + 1 := ⟨_, rfl⟩
  have HB0 := Lib.hid (show Below w.heap.size w W by rw [hW]; exact ((Below.refl _ _).alloc (Nat.le_refl _) _).alloc (by simp) _)
  have HR40 := Lib.hid (show Whole W r4 zoT zeroZ by rw [hW, hr4]; exact (Whole.new w _ _).alloc _)
  have HR50 := Lib.hid (show Whole W r5 zoT zeroZ by
    rw [hW, hr5]
    have := Whole.new (w.alloc (.cells zeroZ zoT)) zoT zeroZ
    rwa [World.size_alloc] at this)
  have HA4 := Lib.hid (show w.heap.size ≤ r4 by omega)
  have HA5 := Lib.hid (show w.heap.size ≤ r5 by omega)
  have HRR := Lib.hid (show r5 ≠ r4 by omega)
  have HX := Lib.hid ((hx.keep HB0.out).more HB0.out.size)
  have HY := Lib.hid ((hy.keep HB0.out).more HB0.out.size)
  have HLX := Lib.hid hlx
  have HLY := Lib.hid hly
  have HWW := Lib.hid hW
  have HQ4 := Lib.hid hr4
  have HQ5 := Lib.hid hr5
  clear hx hy hlx hly hW hr4 hr5
  go_enter Tryz.func10, Tryz.ntmps10
  unfold zeroZ at HWW
  go_wp2_with fail
  rw [← HWW.out, ← HQ5.out, ← HQ4.out]
  refine (ZNewU_any A n c exN exL xs _ exN_is HX.out hn HLX.out).mono ?_
  rintro e w1 ⟨⟨N1, A1, m1, c1, s1, rfl, hz1⟩, hB⟩
  obtain ⟨K1, hK1⟩ : ∃ K, K = codeZ exL xs := ⟨_, rfl⟩
  have HK1 := Lib.hid hK1
  rw [← hK1]
  obtain ⟨W2, hW2⟩ : ∃ W, W = w1.alloc (.cells #[.string N1, .slice A1 m1 c1, .string s1.s, .int .i64 s1.t, .int .i64 s1.c, .int .i64 s1.l, .string s1.d] zoT) := ⟨_, rfl⟩
  obtain ⟨g7, hg7⟩ : ∃ g, g = w1.heap.size := ⟨_, rfl⟩
  have hb := hB.alloc hB.size (.cells #[.string N1, .slice A1 m1 c1, .string s1.s, .int .i64 s1.t, .int .i64 s1.c, .int .i64 s1.l, .string s1.d] zoT)
  rw [← hW2] at hb
  have HB2 := Lib.hid (HB0.out.trans (hb.mono HB0.out.size))
  have HZ1 := Lib.hid (show codeZ exL xs = 0 → ZoneAt W2 W2.heap.size exN (ofC xs) (.agg #[.string N1, .slice A1 m1 c1, .string s1.s, .int .i64 s1.t, .int .i64 s1.c, .int .i64 s1.l, .string s1.d]) from fun h => (hz1 h).later (by rw [hW2]; exact (Below.refl _ _).alloc (Nat.le_refl _) _))
  have HV7 := Lib.hid (show Whole W2 g7 zoT #[.string N1, .slice A1 m1 c1, .string s1.s, .int .i64 s1.t, .int .i64 s1.c, .int .i64 s1.l, .string s1.d] by rw [hW2, hg7]; exact Whole.new _ _ _)
  have HR42 := Lib.hid (HR40.out.below hb HR40.out.lt)
  have HR52 := Lib.hid (HR50.out.below hb HR50.out.lt)
  have HY2 := Lib.hid ((HY.out.keep hb).more hb.size)
  have HW2 := Lib.hid hW2
  have HG7 := Lib.hid hg7
  have HN74 := Lib.hid (show g7 ≠ r4 by have := HR40.out.lt; have := hB.size; omega)
  have HN75 := Lib.hid (show g7 ≠ r5 by have := HR50.out.lt; have := hB.size; omega)
  clear hz1 hB hK1 hW2 hg7 hb
  go_wp2_with fail
  rw [← HW2.out, ← HG7.out]
  refine (ZNewU_any B m d exN exL ys _ exN_is HY2.out hm HLY.out).mono ?_
  rintro e w3 ⟨⟨N2, A2, m2, c2, s2, rfl, hz2⟩, hB⟩
  obtain ⟨K2, hK2⟩ : ∃ K, K = codeZ exL ys := ⟨_, rfl⟩
  have HK2 := Lib.hid hK2
  rw [← hK2]
  obtain ⟨W6, hW6⟩ : ∃ W, W = w3.alloc (.cells #[.string N2, .slice A2 m2 c2, .string s2.s, .int .i64 s2.t, .int .i64 s2.c, .int .i64 s2.l, .string s2.d] zoT) := ⟨_, rfl⟩
  obtain ⟨g9, hg9⟩ : ∃ g, g = w3.heap.size := ⟨_, rfl⟩
  have hb := hB.alloc hB.size (.cells #[.string N2, .slice A2 m2 c2, .string s2.s, .int .i64 s2.t, .int .i64 s2.c, .int .i64 s2.l, .string s2.d] zoT)
  rw [← hW6] at hb
  have HB6 := Lib.hid (HB2.out.trans (hb.mono HB2.out.size))
  have HZ16 := Lib.hid (show codeZ exL xs = 0 → ZoneAt W6 W6.heap.size exN (ofC xs) (.agg #[.string N1, .slice A1 m1 c1, .string s1.s, .int .i64 s1.t, .int .i64 s1.c, .int .i64 s1.l, .string s1.d]) from fun h => (HZ1.out h).later hb)
  have HZ26 := Lib.hid (show codeZ exL ys = 0 → ZoneAt W6 W6.heap.size exN (ofC ys) (.agg #[.string N2, .slice A2 m2 c2, .string s2.s, .int .i64 s2.t, .int .i64 s2.c, .int .i64 s2.l, .string s2.d]) from fun h => (hz2 h).later (by rw [hW6]; exact (Below.refl _ _).alloc (Nat.le_refl _) _))
  have HV76 := Lib.hid (HV7.out.below hb HV7.out.lt)
  have HV9 := Lib.hid (show Whole W6 g9 zoT #[.string N2, .slice A2 m2 c2, .string s2.s, .int .i64 s2.t, .int .i64 s2.c, .int .i64 s2.l, .string s2.d] by rw [hW6, hg9]; exact Whole.new _ _ _)
  have HR4 := Lib.hid (HR42.out.below hb HR42.out.lt)
  have HR5 := Lib.hid (HR52.out.below hb HR52.out.lt)
  have HW6 := Lib.hid hW6
  have HG9 := Lib.hid hg9
  have n1 : g9 ≠ r4 := by have := HR42.out.lt; have := hB.size; omega
  have n2 : g9 ≠ r5 := by have := HR52.out.lt; have := hB.size; omega
  have n3 : g9 ≠ g7 := by have := HV7.out.lt; have := hB.size; omega
  have n4 : g7 ≠ g9 := fun e => n3 e.symm
  have n5 : g7 ≠ r4 := HN74.out
  have n6 : g7 ≠ r5 := HN75.out
  have n7 : r5 ≠ r4 := HRR.out
  have n8 : r4 ≠ r5 := fun e => n7 e.symm
  have n9 : r4 ≠ g7 := fun e => n5 e.symm
  have n10 : r4 ≠ g9 := fun e => n1 e.symm
  have n11 : r5 ≠ g7 := fun e => n6 e.symm
  have n12 : r5 ≠ g9 := fun e => n2 e.symm
  clear hz2 hB hK2 hW6 hg9 hb
  go_wp2_with fail
  rw [← HW6.out, ← HG9.out]
  have za0 : W6.cell? ⟨g7, 0, none⟩ = some (.string N1) := (HV76.out.cell 0).trans rfl
  have za1 : W6.cell? ⟨g7, 1, none⟩ = some (.slice A1 m1 c1) := (HV76.out.cell 1).trans rfl
  have za2 : W6.cell? ⟨g7, 2, none⟩ = some (.string s1.s) := (HV76.out.cell 2).trans rfl
  have za3 : W6.cell? ⟨g7, 3, none⟩ = some (.int .i64 s1.t) := (HV76.out.cell 3).trans rfl
  have za4 : W6.cell? ⟨g7, 4, none⟩ = some (.int .i64 s1.c) := (HV76.out.cell 4).trans rfl
  have za5 : W6.cell? ⟨g7, 5, none⟩ = some (.int .i64 s1.l) := (HV76.out.cell 5).trans rfl
  have za6 : W6.cell? ⟨g7, 6, none⟩ = some (.string s1.d) := (HV76.out.cell 6).trans rfl
  have zb0 : W6.cell? ⟨g9, 0, none⟩ = some (.string N2) := (HV9.out.cell 0).trans rfl
  have zb1 : W6.cell? ⟨g9, 1, none⟩ = some (.slice A2 m2 c2) := (HV9.out.cell 1).trans rfl
  have zb2 : W6.cell? ⟨g9, 2, none⟩ = some (.string s2.s) := (HV9.out.cell 2).trans rfl
  have zb3 : W6.cell? ⟨g9, 3, none⟩ = some (.int .i64 s2.t) := (HV9.out.cell 3).trans rfl
  have zb4 : W6.cell? ⟨g9, 4, none⟩ = some (.int .i64 s2.c) := (HV9.out.cell 4).trans rfl
  have zb5 : W6.cell? ⟨g9, 5, none⟩ = some (.int .i64 s2.l) := (HV9.out.cell 5).trans rfl
  have zb6 : W6.cell? ⟨g9, 6, none⟩ = some (.string s2.d) := (HV9.out.cell 6).trans rfl
  obtain ⟨f0, f1, f2, f3, f4, f5, f6⟩ := zo_frozen HR4.out
  obtain ⟨e0, e1, e2, e3, e4, e5, e6⟩ := zo_frozen HR5.out
  have hwb := HR4.out
  unfold zeroZ at hwb
  obtain ⟨k0, k1, k2, k3, k4, k5, k6⟩ := zo_facts hwb
  have hwc := HR5.out
  unfold zeroZ at hwc
  obtain ⟨j0, j1, j2, j3, j4, j5, j6⟩ := zo_facts hwc
  clear hwb hwc
  by_cases hk1 : K1 = 0
  · subst hk1
    by_cases hk2 : K2 = 0
    · subst hk2
      go_wp2_with fail
      go_region_held3 (fun w' => w'.cell? ⟨g7, 0, none⟩ = some (.string N1) ∧ w'.cell? ⟨g7, 1, none⟩ = some (.slice A1 m1 c1) ∧ w'.cell? ⟨g7, 2, none⟩ = some (.string s1.s) ∧ w'.cell? ⟨g7, 3, none⟩ = some (.int .i64 s1.t) ∧ w'.cell? ⟨g7, 4, none⟩ = some (.int .i64 s1.c) ∧ w'.cell? ⟨g7, 5, none⟩ = some (.int .i64 s1.l) ∧ w'.cell? ⟨g7, 6, none⟩ = some (.string s1.d) ∧ w'.cell? ⟨g9, 0, none⟩ = some (.string N2) ∧ w'.cell? ⟨g9, 1, none⟩ = some (.slice A2 m2 c2) ∧ w'.cell? ⟨g9, 2, none⟩ = some (.string s2.s) ∧ w'.cell? ⟨g9, 3, none⟩ = some (.int .i64 s2.t) ∧ w'.cell? ⟨g9, 4, none⟩ = some (.int .i64 s2.c) ∧ w'.cell? ⟨g9, 5, none⟩ = some (.int .i64 s2.l) ∧ w'.cell? ⟨g9, 6, none⟩ = some (.string s2.d)) (go_keep) (fail)
      all_goals (
        clear za0 za1 za2 za3 za4 za5 za6 zb0 zb1 zb2 zb3 zb4 zb5 zb6 f0 f1 f2 f3 f4 f5 f6 e0 e1 e2 e3 e4 e5 e6 k0 k1 k2 k3 k4 k5 k6 j0 j1 j2 j3 j4 j5 j6 n1 n2 n3 n4 n5 n6 n7 n8 n9 n10 n11 n12
        go_wp2_with fail
        obtain ⟨h1, h2, h3, h4⟩ := both_kept (a0 := .string N1) (a1 := .slice A1 m1 c1) (a2 := .string s1.s) (a3 := .int .i64 s1.t) (a4 := .int .i64 s1.c) (a5 := .int .i64 s1.l) (a6 := .string s1.d) (b0 := .string N2) (b1 := .slice A2 m2 c2) (b2 := .string s2.s) (b3 := .int .i64 s2.t) (b4 := .int .i64 s2.c) (b5 := .int .i64 s2.l) (b6 := .string s2.d) HR4.out HR5.out HRR.out rfl
        refine retZZ rfl rfl rfl rfl rfl h1.drew h2.drew ?_
        refine ⟨?_, HB6.out.trans (h3 _ HA4.out HA5.out).drew⟩
        exact ⟨N1, A1, m1, c1, s1, N2, A2, m2, c2, s2, true, rfl, ⟨fun _ => ⟨HK1.out.symm, HK2.out.symm⟩, fun _ => rfl⟩, fun _ => ⟨(h4 _ _ _ (low_codeZ HLX.out HK1.out.symm).1 (HZ16.out HK1.out.symm)).later (Below.refl _ _).drew, (h4 _ _ _ (low_codeZ HLY.out HK2.out.symm).1 (HZ26.out HK2.out.symm)).later (Below.refl _ _).drew⟩⟩)
    · have gk : (K2 == 0) = false := by rw [beq_eq_false_iff_ne]; exact hk2
      have HIFF := Lib.hid (show (false = true ↔ codeZ exL xs = 0 ∧ codeZ exL ys = 0) from ⟨fun h => (by cases h), fun h => absurd (HK2.out.trans h.2) hk2⟩)
      go_wp2_with fail
      go_region_held3 (fun w' => w'.cell? ⟨g7, 0, none⟩ = some (.string N1) ∧ w'.cell? ⟨g7, 1, none⟩ = some (.slice A1 m1 c1) ∧ w'.cell? ⟨g7, 2, none⟩ = some (.string s1.s) ∧ w'.cell? ⟨g7, 3, none⟩ = some (.int .i64 s1.t) ∧ w'.cell? ⟨g7, 4, none⟩ = some (.int .i64 s1.c) ∧ w'.cell? ⟨g7, 5, none⟩ = some (.int .i64 s1.l) ∧ w'.cell? ⟨g7, 6, none⟩ = some (.string s1.d) ∧ w'.cell? ⟨g9, 0, none⟩ = some (.string N2) ∧ w'.cell? ⟨g9, 1, none⟩ = some (.slice A2 m2 c2) ∧ w'.cell? ⟨g9, 2, none⟩ = some (.string s2.s) ∧ w'.cell? ⟨g9, 3, none⟩ = some (.int .i64 s2.t) ∧ w'.cell? ⟨g9, 4, none⟩ = some (.int .i64 s2.c) ∧ w'.cell? ⟨g9, 5, none⟩ = some (.int .i64 s2.l) ∧ w'.cell? ⟨g9, 6, none⟩ = some (.string s2.d)) (go_keep) (fail)
      all_goals (
        clear za0 za1 za2 za3 za4 za5 za6 zb0 zb1 zb2 zb3 zb4 zb5 zb6 f0 f1 f2 f3 f4 f5 f6 e0 e1 e2 e3 e4 e5 e6 k0 k1 k2 k3 k4 k5 k6 j0 j1 j2 j3 j4 j5 j6 n1 n2 n3 n4 n5 n6 n7 n8 n9 n10 n11 n12
        go_wp2_with fail
        obtain ⟨h1, h2, h3, h4⟩ := both_kept (a0 := .string N1) (a1 := .slice A1 m1 c1) (a2 := .string s1.s) (a3 := .int .i64 s1.t) (a4 := .int .i64 s1.c) (a5 := .int .i64 s1.l) (a6 := .string s1.d) (b0 := .string N2) (b1 := .slice A2 m2 c2) (b2 := .string s2.s) (b3 := .int .i64 s2.t) (b4 := .int .i64 s2.c) (b5 := .int .i64 s2.l) (b6 := .string s2.d) HR4.out HR5.out HRR.out rfl
        refine retZZ rfl rfl rfl rfl rfl h1.drew h2.drew ?_
        refine ⟨?_, HB6.out.trans (h3 _ HA4.out HA5.out).drew⟩
        exact ⟨N1, A1, m1, c1, s1, N2, A2, m2, c2, s2, false, rfl, HIFF.out, fun h => (by cases h)⟩)
  · have gk : (K1 == 0) = false := by rw [beq_eq_false_iff_ne]; exact hk1
    have gk2 : decide (K1 = 0) = false := decide_eq_false hk1
    have HIFF := Lib.hid (show (false = true ↔ codeZ exL xs = 0 ∧ codeZ exL ys = 0) from ⟨fun h => (by cases h), fun h => absurd (HK1.out.trans h.1) hk1⟩)
    go_wp2_with fail
    go_region
    all_goals (
      clear za0 za1 za2 za3 za4 za5 za6 zb0 zb1 zb2 zb3 zb4 zb5 zb6 f0 f1 f2 f3 f4 f5 f6 e0 e1 e2 e3 e4 e5 e6 k0 k1 k2 k3 k4 k5 k6 j0 j1 j2 j3 j4 j5 j6 n1 n2 n3 n4 n5 n6 n7 n8 n9 n10 n11 n12
      go_wp2_with fail
      obtain ⟨h1, h2, h3, h4⟩ := both_kept (a0 := .string N1) (a1 := .slice A1 m1 c1) (a2 := .string s1.s) (a3 := .int .i64 s1.t) (a4 := .int .i64 s1.c) (a5 := .int .i64 s1.l) (a6 := .string s1.d) (b0 := .string N2) (b1 := .slice A2 m2 c2) (b2 := .string s2.s) (b3 := .int .i64 s2.t) (b4 := .int .i64 s2.c) (b5 := .int .i64 s2.l) (b6 := .string s2.d) HR4.out HR5.out HRR.out rfl
      refine retZZ rfl rfl rfl rfl rfl h1.drew h2.drew ?_
      refine ⟨?_, HB6.out.trans (h3 _ HA4.out HA5.out).drew⟩
      exact ⟨N1, A1, m1, c1, s1, N2, A2, m2, c2, s2, false, rfl, HIFF.out, fun h => (by cases h)⟩)
end Go.Proofs.YtaijcoiepfjecaaGreat
namespace Go.Proofs.YtaijcoiepfjecaaGreat
open Go.RowKit Go.Op
set_option linter.unusedVariables false

theorem ex_name : (nameL exL).isSome = true := by
  rw [show nameL exL = some [[101, 120]] from nameL_enc (L := [[101, 120]]) (by intro x hx; simp at hx; rcases hx with rfl; simp) (by decide)]
  rfl
theorem diff_code {D1 D2 : List Rrd} (ok1 : OkL D1) (ok2 : OkL D2) (s1 : SetL cX D1) (s2 : SetL cX D2) (hz : isZ exL D2 = true) : codeZ exL (lackX D1 (lackX D1 D2) ++ lackX D2 D1) = 0 := by
  unfold codeZ
  rw [if_pos ex_name, if_pos (OkL.all fun x hx => (List.mem_append.1 hx).elim (ok1.lack x) (ok2.lack x)), if_pos (by rw [diff_set s1 s2]; exact hz)]
theorem ApplyDiff_any (D1 D2 : List Rrd) (v : Value) (A2 A3 : Option Addr) (n2 c2 n3 c3 : Nat) (w : World) (h1 : ZoneAt w w.heap.size exN D1 v) (h2 : OwnL w A2 n2 c2 (lackX D1 D2)) (h3 : OwnL w A3 n3 c3 (lackX D2 D1)) (ok1 : OkL D1) (ok2 : OkL D2) (s1 : SetL cX D1) (s2 : SetL cX D2) (hz : isZ exL D2 = true) (l1 : D1.length ≤ 30) (l2 : D2.length ≤ 30) (l3 : n2 ≤ 30) (l4 : n3 ≤ 30) :
    Calls Tryz.prog 18 #[v, .slice A2 n2 c2, .slice A3 n3 c3] w fun e w' => (∃ (N' : ByteArray) (A' : Option Addr) (m' c' : Nat) (s' : Rrd), e = .returned (.tuple #[.agg #[.string N', .slice A' m' c', .string s'.s, .int .i64 s'.t, .int .i64 s'.c, .int .i64 s'.l, .string s'.d], .int .i64 0]) ∧ ZoneAt w' w'.heap.size exN D2 (.agg #[.string N', .slice A' m' c', .string s'.s, .int .i64 s'.t, .int .i64 s'.c, .int .i64 s'.l, .string s'.d])) ∧ Below w.heap.size w w' := by
  refine (Apply_any exN exL D1 (lackX D1 D2) (lackX D2 D1) v A2 A3 n2 c2 n3 c3 w exN_is h1 h2.2.1 h3.2.1 ok1 s1 ok1.lack ok2.lack l1 l3 l4).mono ?_
  rintro e w' ⟨h, hB⟩
  refine ⟨?_, hB⟩
  rcases h with ⟨hn, _⟩ | ⟨_, h⟩
  · exact absurd ⟨diff_gone D1 D2 s1, diff_fits s2⟩ hn
  · have hc := diff_code ok1 ok2 s1 s2 hz
    rcases h with ⟨h, _⟩ | ⟨h, _⟩ | ⟨_, v, rfl, hv⟩
    · rw [hc] at h; cases h
    · rw [hc] at h; cases h
    · rw [diff_set s1 s2] at hv
      have hv2 := hv
      obtain ⟨A, c, s, rfl, _, _, _⟩ := hv
      exact ⟨_, _, _, _, s, rfl, hv2⟩
theorem RefNewOK_any (A : Option Addr) (n c : Nat) (xs : List Rrd) (w : World) (hx : SeesR w w.heap.size A n xs) (hn : n ≤ 60) (hlow : LowL xs) (hc : codeZ exL xs = 0) :
    Calls Tryz.prog 11 #[.string exN, .slice A n c] w fun e w' => (∃ A' m' c', e = .returned (.tuple #[.agg #[.string exN, .slice A' m' c'], .int .i64 0]) ∧ OwnL w' A' m' c' (ofC xs)) ∧ Below w.heap.size w w' := by
  refine (RefNew_any A n c exN exL xs w exN_is hx hn hlow).mono ?_
  rintro e w' ⟨⟨h, _⟩ | ⟨h, _⟩ | ⟨_, v, rfl, A', c', rfl, hs, hcap⟩, hB⟩
  · rw [hc] at h; cases h
  · rw [hc] at h; cases h
  · exact ⟨⟨A', _, c', rfl, rfl, hs, hcap⟩, hB⟩
theorem lackX_len60 {a b : List Rrd} {m : Nat} (h : m = (lackX a b).length) (k : a.length ≤ 60) : m ≤ 60 := by have := lackX_len a b; omega
end Go.Proofs.YtaijcoiepfjecaaGreat
