/- EnE: texts EntE of our own, joined. No statement of the seat is proved here. -/
import Derived.Test.YtggognnjnfphgaaGreatDoorEnC
import Derived.StillTailTactics
namespace Go.Proofs.YtggognnjnfphgaaGreatDoor
open Go.RowKit Go.Op

theorem splitE_no {s : ByteArray} (h : s.size < 12) : splitR s [4, 4, 4] = ([], empty, 2) := by
  refine splitR_none (by decide) ?_
  have e4 : ((4 : Int)).toNat = 4 := rfl
  simp only [splitF, e4]
  by_cases h1 : (s.size : Int) < 4
  · rw [if_pos h1]
  · rw [if_neg h1]
    by_cases h2 : ((s.extract 4 s.size).size : Int) < 4
    · rw [if_pos h2]; rfl
    · rw [if_neg h2, if_pos (by simp at h2 ⊢; omega)]; rfl
theorem splitE_yes {s : ByteArray} (h : 12 ≤ s.size) : splitR s [4, 4, 4] = ([(numOf (s.extract 0 4) : Int), (numOf (s.extract 4 8) : Int), (numOf (s.extract 8 12) : Int)], s.extract 12 s.size, 0) := by
  refine splitR_some (by decide) ?_
  have e4 : ((4 : Int)).toNat = 4 := rfl
  have s1 : (s.extract 4 s.size).size = s.size - 4 := by simp
  have x1 : (s.extract 4 s.size).extract 0 4 = s.extract 4 8 := ext_head s 4 4 (by omega)
  have x2 : (s.extract 4 s.size).extract 4 (s.extract 4 s.size).size = s.extract 8 s.size := by rw [s1]; exact ext_tail s 4 4 (by omega)
  have s2 : (s.extract 8 s.size).size = s.size - 8 := by simp
  have x3 : (s.extract 8 s.size).extract 0 4 = s.extract 8 12 := ext_head s 8 4 (by omega)
  have x4 : (s.extract 8 s.size).extract 4 (s.extract 8 s.size).size = s.extract 12 s.size := by rw [s2]; exact ext_tail s 8 4 (by omega)
  simp only [splitF, e4]
  rw [if_neg (by omega), if_neg (by rw [s1]; omega), x1, x2, if_neg (by rw [s2]; omega), x3, x4]
  rfl
theorem num4_lt (s : ByteArray) (a : Nat) : numOf (s.extract a (a + 4)) < 4294967296 := by
  have h := num_lt (s.extract a (a + 4)).data.toList
  have hl : (s.extract a (a + 4)).data.toList.length ≤ 4 := by
    rw [show (s.extract a (a + 4)).data.toList.length = (s.extract a (a + 4)).size from Array.length_toList, ByteArray.size_extract]; omega
  have h2 : (256 : Nat) ^ (s.extract a (a + 4)).data.toList.length ≤ 256 ^ 4 := Nat.pow_le_pow_right (by decide) hl
  have h3 : (256 : Nat) ^ 4 = 4294967296 := by decide
  unfold numOf
  omega
def zeroE : Ent := ⟨0, 0, [], []⟩
/-- what Of leaves -/
def OfLeaves (S : ByteArray) (z : Value) (w : World) (e : Ending) (w' : World) : Prop :=
  ∃ A1 n1 c1 A2 n2 c2, e = .returned (.tuple #[.agg (enA ((ofE S).getD zeroE).f ((ofE S).getD zeroE).t A1 n1 c1 A2 n2 c2), z]) ∧ SeesR w' w'.heap.size A1 n1 (((ofE S).getD zeroE).xs.map ofRec) ∧ SeesR w' w'.heap.size A2 n2 (((ofE S).getD zeroE).ys.map ofRec) ∧ Below w.heap.size w w' ∧ TyR w' A1 rrT ∧ TyR w' A2 rrT
def errO (o : Option Ent) : Value := .int .i64 (if o.isSome then 0 else 2)
theorem of_nil {S : ByteArray} {z : Value} {w w' : World} (h : ofE S = none) (hB : Below w.heap.size w w') : OfLeaves S z w (.returned (.tuple #[.agg #[.int .u32 0, .int .u32 0, .slice none 0 0, .slice none 0 0], z])) w' := by
  unfold OfLeaves
  rw [h]
  exact ⟨none, 0, 0, none, 0, 0, rfl, ⟨rfl, fun h => absurd h (by omega)⟩, ⟨rfl, fun h => absurd h (by omega)⟩, hB, ty_none _ _, ty_none _ _⟩
theorem of_some {S : ByteArray} {z : Value} {w w' : World} {E : Ent} {A1 A2 : Option Addr} {n1 c1 n2 c2 : Nat} (h : ofE S = some E) (h1 : SeesR w' w'.heap.size A1 n1 (E.xs.map ofRec)) (h2 : SeesR w' w'.heap.size A2 n2 (E.ys.map ofRec)) (hB : Below w.heap.size w w') (t1 : TyR w' A1 rrT) (t2 : TyR w' A2 rrT) :
    OfLeaves S z w (.returned (.tuple #[.agg #[.int .u32 E.f, .int .u32 E.t, .slice A1 n1 c1, .slice A2 n2 c2], z])) w' := by
  unfold OfLeaves
  rw [h]
  exact ⟨A1, n1, c1, A2, n2, c2, rfl, h1, h2, hB, t1, t2⟩
theorem sees_take {w : World} {B g n m : Nat} {xs : List Rrd} (h : SeesR w B (some ⟨g, 0, none⟩) n xs) (hm : m ≤ n) : SeesR w B (some ⟨g, 0, none⟩) m (xs.take m) := h.take hm
theorem sees_drop {w : World} {B g n m : Nat} {xs : List Rrd} (h : SeesR w B (some ⟨g, 0, none⟩) n xs) (hm : m ≤ n) : SeesR w B (some ⟨g, m * 5, none⟩) (n - m) (xs.drop m) := by
  have := h.drop hm
  rwa [Nat.zero_add] at this
theorem en_size : (Tryz.prog.info? enT).map (·.size) = some 4 := by kernel_rfl
theorem retE {fn : Func} {R : Ending → World → Prop} {a : Act} {w : World} {p u r : Nat} {a0 a1 a2 a3 x : Value} (hf : fn.results = #[.cell p enT, .tmp u]) (hd : a.defers = []) (hp : a.tmps.getD p undef = .pointer (some ⟨r, 0, none⟩)) (hx : a.tmps.getD u undef = x)
    (h : Whole w r enT #[a0, a1, a2, a3]) (hR : R (.returned (.tuple #[.agg #[a0, a1, a2, a3], x])) w) : bodyPost Tryz.prog fn R .ret a w := by
  refine bodyPost_ret ?_ hd hR
  have hp' : a.tmps[p]?.getD undef = .pointer (some ⟨r, 0, none⟩) := by simpa using hp
  have hx' : a.tmps[u]?.getD undef = x := by simpa using hx
  simp [results, hf, hp', hx', asAddr, run_loadVar_row w r enT _ _ (0, 0) _ h Tryz.underlying45 rfl en_size, Result.andThen]
theorem four_put {w : World} {r t : Nat} {x0 x1 x2 x3 : Value} (h : Whole w r t #[x0, x1, x2, x3]) (a0 a1 a2 a3 : Value) :
    Whole ((((w.setCell ⟨r, 0, none⟩ a0).setCell ⟨r, 1, none⟩ a1).setCell ⟨r, 2, none⟩ a2).setCell ⟨r, 3, none⟩ a3) r t #[a0, a1, a2, a3] := by
  have := (((h.put 0 a0).put 1 a1).put 2 a2).put 3 a3
  simpa using this
theorem four_below {B : Nat} {a w : World} {r : Nat} (h : Below B a w) (hr : B ≤ r) (a0 a1 a2 a3 : Value) :
    Below B a ((((w.setCell ⟨r, 0, none⟩ a0).setCell ⟨r, 1, none⟩ a1).setCell ⟨r, 2, none⟩ a2).setCell ⟨r, 3, none⟩ a3) :=
  (((h.setCell hr a0).setCell hr a1).setCell hr a2).setCell hr a3
theorem four_facts {w : World} {r t : Nat} {a0 a1 a2 a3 : Value} (h : Whole w r t #[a0, a1, a2, a3]) :
    (w.cell? ⟨r, 0, none⟩ = some a0 ∧ w.cell? ⟨r, 1, none⟩ = some a1 ∧ w.cell? ⟨r, 2, none⟩ = some a2 ∧ w.cell? ⟨r, 3, none⟩ = some a3) ∧ w.frozen? ⟨r, 0, none⟩ = false ∧ w.frozen? ⟨r, 1, none⟩ = false ∧ w.frozen? ⟨r, 2, none⟩ = false ∧ w.frozen? ⟨r, 3, none⟩ = false :=
  ⟨⟨(h.cell 0).trans rfl, (h.cell 1).trans rfl, (h.cell 2).trans rfl, (h.cell 3).trans rfl⟩, h.frozen 0, h.frozen 1, h.frozen 2, h.frozen 3⟩
/-- records in memory stand while a block of another type turns -/
theorem sees_four {w : World} {B : Nat} {A : Option Addr} {n r : Nat} {xs : List Rrd} (h : SeesR w B A n xs) (hr : ∀ b off, A = some ⟨b, off, none⟩ → b ≠ r) (a0 a1 a2 a3 : Value) :
    SeesR ((((w.setCell ⟨r, 0, none⟩ a0).setCell ⟨r, 1, none⟩ a1).setCell ⟨r, 2, none⟩ a2).setCell ⟨r, 3, none⟩ a3) B A n xs := by
  refine ⟨h.1, fun hn => ?_⟩
  obtain ⟨b, off, e, hlt, hc⟩ := h.2 hn
  have hb := hr b off e
  have hs : ∀ (W : World) (o i : Nat) (u : Value), (W.setCell ⟨r, i, none⟩ u).cell? ⟨b, o, none⟩ = W.cell? ⟨b, o, none⟩ := by
    intro W o i u
    simp only [World.setCell, World.cell?, Array.getElem?_modify]
    rw [if_neg (fun e => hb e.symm)]
  refine ⟨b, off, e, hlt, fun j x hx => ?_⟩
  obtain ⟨x0, x1, x2, x3, x4⟩ := hc j x hx
  refine ⟨?_, ?_, ?_, ?_, ?_⟩
  all_goals (rw [hs, hs, hs, hs]; assumption)
theorem sees_four' {w : World} {A : Option Addr} {n r : Nat} {xs : List Rrd} (h : SeesR w w.heap.size A n xs) (hr : ∀ b off, A = some ⟨b, off, none⟩ → b ≠ r) (a0 a1 a2 a3 : Value) :
    SeesR ((((w.setCell ⟨r, 0, none⟩ a0).setCell ⟨r, 1, none⟩ a1).setCell ⟨r, 2, none⟩ a2).setCell ⟨r, 3, none⟩ a3) ((((w.setCell ⟨r, 0, none⟩ a0).setCell ⟨r, 1, none⟩ a1).setCell ⟨r, 2, none⟩ a2).setCell ⟨r, 3, none⟩ a3).heap.size A n xs := by
  have hsz : ((((w.setCell ⟨r, 0, none⟩ a0).setCell ⟨r, 1, none⟩ a1).setCell ⟨r, 2, none⟩ a2).setCell ⟨r, 3, none⟩ a3).heap.size = w.heap.size := by simp [World.setCell]
  rw [hsz]
  exact sees_four h hr a0 a1 a2 a3

set_option maxHeartbeats 8000000 in
set_option maxRecDepth 20000 in
theorem Of_any (S : ByteArray) (w : World) (hS : S.size ≤ 800000) : Calls Tryz.prog 71 #[.string S] w (OfLeaves S (errO (ofE S)) w) := by
  have HB0 := Lib.hid (show Below w.heap.size w (w.alloc (.cells #[.int .u32 0, .int .u32 0, .slice none 0 0, .slice none 0 0] enT)) from (Below.refl _ _).alloc (Nat.le_refl _) _)
  have HW0 := Lib.hid (Whole.new w enT #[.int .u32 0, .int .u32 0, .slice none 0 0, .slice none 0 0])
  by_cases h12 : S.size < 12
  · have HN := Lib.hid (show ofE S = none by unfold ofE; rw [if_pos h12])
    have HSP := Lib.hid (splitE_no h12)
    go_enter Tryz.func71, Tryz.ntmps71
    go_wp2_with fail
    refine (entryWidths_any _).mono ?_
    rintro e w1 ⟨g1, rfl, hs1, hB1⟩
    have HB1 := Lib.hid (HB0.out.trans (hB1.mono HB0.out.size))
    have HW1 := Lib.hid (HW0.out.below hB1 HW0.out.lt)
    have HS1 := Lib.hid hs1
    clear hB1 hs1
    go_wp2_with fail
    refine (Split_any S _ 3 3 _ [4, 4, 4] _ HS1.out (by decide) (Nat.le_refl _) (by omega)).mono ?_
    unfold SplitLeaves
    rw [HSP.out]
    rintro e w2 ⟨A2, c2, rfl, _, hB2⟩
    have HB2 := Lib.hid (HB1.out.trans (hB2.mono HB1.out.size))
    have HW2 := Lib.hid (HW1.out.below hB2 HW1.out.lt)
    clear hB2
    obtain ⟨⟨c0, c1, c2', c3⟩, f0, f1, f2, f3⟩ := four_facts HW2.out
    go_wp2_with fail
    refine retE (R := OfLeaves S (errO (ofE S)) w) rfl rfl rfl rfl (four_put HW2.out _ _ _ _) ?_
    exact (show errO (ofE S) = .int .i64 2 by unfold errO; rw [HN.out]; rfl) ▸ of_nil HN.out (four_below HB2.out (Nat.le_refl _) _ _ _ _)
  · have HSP := Lib.hid (splitE_yes (s := S) (by omega))
    obtain ⟨m, hm⟩ : ∃ m, m = numOf (S.extract 8 12) := ⟨_, rfl⟩
    obtain ⟨ff, hff⟩ : ∃ m, m = numOf (S.extract 0 4) := ⟨_, rfl⟩
    obtain ⟨tt, htt⟩ : ∃ m, m = numOf (S.extract 4 8) := ⟨_, rfl⟩
    have lm : m < 4294967296 := by rw [hm]; exact num4_lt S 8
    have lf : ff < 4294967296 := by rw [hff]; exact num4_lt S 0
    have lt : tt < 4294967296 := by rw [htt]; exact num4_lt S 4
    rw [← hm, ← hff, ← htt] at HSP
    obtain ⟨T, hT⟩ : ∃ T, T = S.extract 12 S.size := ⟨_, rfl⟩
    have hTz : T.size ≤ 800000 := by rw [hT]; simp; omega
    rw [← hT] at HSP
    have hof : ofE S = match recsE T with | none => none | some l => if l.length < m then none else some ⟨ff, tt, l.take m, l.drop m⟩ := by
      unfold ofE
      rw [if_neg h12, hm, hff, htt, hT]
      rfl
    have HOF := Lib.hid hof
    clear hof hm hff htt hT
    go_enter Tryz.func71, Tryz.ntmps71
    go_wp2_with fail
    refine (entryWidths_any _).mono ?_
    rintro e w1 ⟨g1, rfl, hs1, hB1⟩
    have HB1 := Lib.hid (HB0.out.trans (hB1.mono HB0.out.size))
    have HW1 := Lib.hid (HW0.out.below hB1 HW0.out.lt)
    have HS1 := Lib.hid hs1
    clear hB1 hs1
    go_wp2_with fail
    refine (Split_any S _ 3 3 _ [4, 4, 4] _ HS1.out (by decide) (Nat.le_refl _) (by omega)).mono ?_
    unfold SplitLeaves
    rw [HSP.out]
    rintro e w2 ⟨A2, c2, rfl, hs2, hB2⟩
    have HB2 := Lib.hid (HB1.out.trans (hB2.mono HB1.out.size))
    have HW2 := Lib.hid (HW1.out.below hB2 HW1.out.lt)
    obtain ⟨b4, off4, rfl, hb4, hc4⟩ := hs2.addr (by simp)
    have v0 : w2.cell? ⟨b4, off4, none⟩ = some (.int .u64 (ff : Nat)) := hc4 0 _ rfl
    have v1 : w2.cell? ⟨b4, off4 + 1, none⟩ = some (.int .u64 (tt : Nat)) := hc4 1 _ rfl
    have v2 : w2.cell? ⟨b4, off4 + 2, none⟩ = some (.int .u64 (m : Nat)) := hc4 2 _ rfl
    clear hB2 hs2 hc4
    go_wp2_with fail
    refine (Records_any T _ hTz).mono ?_
    rintro e w3 ⟨A3, n3, c3, rfl, hs3, hcap, hB3, hty⟩
    have HTY := Lib.hid hty
    clear hty
    have HB3 := Lib.hid (HB2.out.trans (hB3.mono HB2.out.size))
    have HW3 := Lib.hid (HW2.out.below hB3 HW2.out.lt)
    have y0 := (hB3.cell (p := ⟨b4, off4, none⟩) hb4).trans v0
    have y1 := (hB3.cell (p := ⟨b4, off4 + 1, none⟩) hb4).trans v1
    have y2 := (hB3.cell (p := ⟨b4, off4 + 2, none⟩) hb4).trans v2
    have HS3 := Lib.hid hs3
    have HCAP := Lib.hid hcap
    clear hB3 v0 v1 v2 hs3 hcap
    obtain ⟨⟨c0, c1, c2', c3'⟩, f0, f1, f2, f3⟩ := four_facts HW3.out
    cases hre : recsE T with
    | none =>
      have HN := Lib.hid (show ofE S = none by rw [HOF.out, hre])
      have he : errE (none : Option (List Rec)) = .int .i64 2 := rfl
      rw [he]
      clear hre he
      go_wp2_with fail
      refine retE (R := OfLeaves S (errO (ofE S)) w) rfl rfl rfl rfl (four_put HW3.out _ _ _ _) ?_
      exact (show errO (ofE S) = .int .i64 2 by unfold errO; rw [HN.out]; rfl) ▸ of_nil HN.out (four_below HB3.out (Nat.le_refl _) _ _ _ _)
    | some l =>
      have he : errE (some l) = .int .i64 0 := rfl
      rw [he]
      have hs3 := HS3.out
      rw [hre] at hs3
      have hs3' : SeesR w3 w3.heap.size A3 n3 (l.map ofRec) := hs3
      have hn3 : l.length = n3 := by have := hs3'.1; simpa using this
      by_cases hlm : l.length < m
      · have HN := Lib.hid (show ofE S = none by rw [HOF.out, hre]; simp only; rw [if_pos hlm])
        have g1 : (n3 : Int) < (m : Int) := by omega
        have un := HCAP.out.1.1
        have un2 := HCAP.out.1.2.1
        have u1 : IntKind.u64.wrap (n3 : Int) = (n3 : Int) := by rw [IntKind.wrap_u64]; omega
        clear hre he hs3 hs3' hn3 un un2
        go_wp2_with fail
        refine retE (R := OfLeaves S (errO (ofE S)) w) rfl rfl rfl rfl (four_put HW3.out _ _ _ _) ?_
        exact (show errO (ofE S) = .int .i64 2 by unfold errO; rw [HN.out]; rfl) ▸ of_nil HN.out (four_below HB3.out (Nat.le_refl _) _ _ _ _)
      · have HY := Lib.hid (show ofE S = some ⟨ff, tt, l.take m, l.drop m⟩ by rw [HOF.out, hre]; simp only; rw [if_neg hlm])
        have g1 : ¬ ((n3 : Int) < (m : Int)) := by omega
        have g2 : (m : Int) ≤ (n3 : Int) := by omega
        have un := HCAP.out.1.1
        have un2 := HCAP.out.1.2.1
        have g3 : (m : Int) ≤ (c3 : Int) := by omega
        have g4 : (0 : Int) ≤ (m : Int) := by omega
        have g5 : (n3 : Int) ≤ (c3 : Int) := by omega
        have u1 : IntKind.u64.wrap (n3 : Int) = (n3 : Int) := by rw [IntKind.wrap_u64]; omega
        have u2 : IntKind.i64.wrap (m : Int) = (m : Int) := by rw [IntKind.wrap_i64]; omega
        have u3 : IntKind.u32.wrap (ff : Int) = (ff : Int) := by rw [IntKind.wrap_u32]; omega
        have u4 : IntKind.u32.wrap (tt : Int) = (tt : Int) := by rw [IntKind.wrap_u32]; omega
        have HS4 := Lib.hid hs3'
        have HN3 := Lib.hid hn3
        have HER := Lib.hid (show errO (ofE S) = .int .i64 0 by unfold errO; rw [HY.out]; rfl)
        have hown := HCAP.out.2
        clear hre he hs3 hs3' hn3 un un2 HOF hlm
        rcases hown with ⟨rfl, rfl⟩ | ⟨g, rfl, hg⟩
        · obtain rfl : n3 = 0 := by omega
          obtain rfl : m = 0 := by omega
          have hl0 : l = [] := List.eq_nil_of_length_eq_zero HN3.out
          have HL := Lib.hid hl0
          clear hl0
          go_wp2_with fail
          go_still_tail 16, (by kernel_rfl)
          change wpList _ _ _ _ _ w3.drew
          have HW4 := Lib.hid HW3.out.drew
          have HB4 := Lib.hid HB3.out.drew
          have HS5 := Lib.hid (show SeesR w3.drew w3.drew.heap.size none 0 (l.map ofRec) from HS4.out.keep (Below.refl w3.heap.size w3).drew)
          generalize w3.drew = w4 at HW4 HB4 HS5 ⊢
          clear c0 c1 c2' c3' f0 f1 f2 f3
          obtain ⟨⟨c0, c1, c2', c3'⟩, f0, f1, f2, f3⟩ := four_facts HW4.out
          go_wp2_with fail
          refine retE (R := OfLeaves S (errO (ofE S)) w) rfl rfl rfl rfl (four_put HW4.out _ _ _ _) ?_
          rw [HER.out]
          rw [HL.out] at HY
          exact of_some HY.out ⟨rfl, fun h => absurd h (by omega)⟩ ⟨rfl, fun h => absurd h (by omega)⟩ (four_below HB4.out (Nat.le_refl _) _ _ _ _) (ty_none _ _) (ty_none _ _)
        · have hgn : g ≠ w.heap.size := by have := HW2.out.lt; omega
          have hgb : ∀ b off, some (⟨g, 0, none⟩ : Addr) = some ⟨b, off, none⟩ → b ≠ w.heap.size := fun b off e => by injection e with e; injection e with e; rw [← e]; exact hgn
          have hgb2 : ∀ b off, some (⟨g, m * 5, none⟩ : Addr) = some ⟨b, off, none⟩ → b ≠ w.heap.size := fun b off e => by injection e with e; injection e with e; rw [← e]; exact hgn
          have HT1 := Lib.hid (show (l.map ofRec).take m = (l.take m).map ofRec from List.map_take.symm)
          have HT2 := Lib.hid (show (l.map ofRec).drop m = (l.drop m).map ofRec from List.map_drop.symm)
          have HLE := Lib.hid (show m ≤ n3 by omega)
          by_cases hmc : c3 = m
          · obtain rfl : n3 = m := by omega
            subst hmc
            go_wp2_with fail
            go_still_tail 16, (by kernel_rfl)
            change wpList _ _ _ _ _ w3.drew
            have HW4 := Lib.hid HW3.out.drew
            have HB4 := Lib.hid HB3.out.drew
            have HS5 := Lib.hid (show SeesR w3.drew w3.drew.heap.size (some ⟨g, 0, none⟩) c3 (l.map ofRec) from HS4.out.keep (Below.refl w3.heap.size w3).drew)
            have HTY4 := Lib.hid (show TyR w3.drew (some ⟨g, 0, none⟩) rrT from HTY.out)
            generalize w3.drew = w4 at HW4 HB4 HS5 HTY4 ⊢
            clear c0 c1 c2' c3' f0 f1 f2 f3
            obtain ⟨⟨c0, c1, c2', c3'⟩, f0, f1, f2, f3⟩ := four_facts HW4.out
            go_wp2_with fail
            refine retE (R := OfLeaves S (errO (ofE S)) w) rfl rfl rfl rfl (four_put HW4.out _ _ _ _) ?_
            rw [HER.out]
            exact of_some HY.out (sees_four' (by rw [← HT1.out]; exact sees_take HS5.out HLE.out) hgb _ _ _ _) ⟨by rw [List.length_map, List.length_drop, HN3.out]; omega, fun h => absurd h (by omega)⟩ (four_below HB4.out (Nat.le_refl _) _ _ _ _) (HTY4.out.ten _ _ _ _) (by first | exact ty_none _ _ | exact HTY4.out.off.ten _ _ _ _)
          · have hne : ¬ ((c3 : Int) = (m : Int)) := by omega
            have hpos : 0 < c3 - m := by omega
            go_wp2_with fail
            go_still_tail 16, (by kernel_rfl)
            change wpList _ _ _ _ _ w3.drew
            have HW4 := Lib.hid HW3.out.drew
            have HB4 := Lib.hid HB3.out.drew
            have HS5 := Lib.hid (show SeesR w3.drew w3.drew.heap.size (some ⟨g, 0, none⟩) n3 (l.map ofRec) from HS4.out.keep (Below.refl w3.heap.size w3).drew)
            have HTY4 := Lib.hid (show TyR w3.drew (some ⟨g, 0, none⟩) rrT from HTY.out)
            generalize w3.drew = w4 at HW4 HB4 HS5 HTY4 ⊢
            clear c0 c1 c2' c3' f0 f1 f2 f3
            obtain ⟨⟨c0, c1, c2', c3'⟩, f0, f1, f2, f3⟩ := four_facts HW4.out
            go_wp2_with fail
            refine retE (R := OfLeaves S (errO (ofE S)) w) rfl rfl rfl rfl (four_put HW4.out _ _ _ _) ?_
            rw [HER.out]
            exact of_some HY.out (sees_four' (by rw [← HT1.out]; exact sees_take HS5.out HLE.out) hgb _ _ _ _) (sees_four' (by rw [← HT2.out]; exact sees_drop HS5.out HLE.out) hgb2 _ _ _ _) (four_below HB4.out (Nat.le_refl _) _ _ _ _) (HTY4.out.ten _ _ _ _) (HTY4.out.off.ten _ _ _ _)
end Go.Proofs.YtggognnjnfphgaaGreatDoor
