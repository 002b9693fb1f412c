/- Parts of the proofs of the statements of image. No statement of the seat is proved here. -/
import Derived.Test.YtnbapaimpoobkaaGreatDoorImgB
import Derived.Test.YtnbapaimpoobkaaGreatDoorImgD
import Derived.Test.YtnbapaimpoobkaaGreatDoorDoE
import Derived.Test.YtnbapaimpoobkaaGreatDoorZonC
import Derived.Test.YtnbapaimpoobkaaGreatDoorRrE
namespace Go.Proofs.YtnbapaimpoobkaaGreatDoor
open Go.RowKit Go.Op

theorem sees5 {W : World} {B g : Nat} {a b c d e : ByteArray} (h : Sees W B (some ⟨g, 0, none⟩) 5 (texts [a, b, c, d, e])) :
    W.cell? ⟨g, 0, none⟩ = some (.string a) ∧ W.cell? ⟨g, 1, none⟩ = some (.string b) ∧ W.cell? ⟨g, 2, none⟩ = some (.string c) ∧ W.cell? ⟨g, 3, none⟩ = some (.string d) ∧ W.cell? ⟨g, 4, none⟩ = some (.string e) := by
  obtain ⟨g', off, e1, _, hc⟩ := h.addr (by decide)
  simp only [Option.some.injEq, Addr.mk.injEq, and_true] at e1
  obtain ⟨rfl, rfl⟩ := e1
  have k : ∀ j u, (texts [a, b, c, d, e])[j]? = some u → W.cell? ⟨g, j, none⟩ = some u := fun j u hu => by have := hc j u hu; rwa [Nat.zero_add] at this
  exact ⟨k 0 _ rfl, k 1 _ rfl, k 2 _ rfl, k 3 _ rfl, k 4 _ rfl⟩
theorem numOutB_is (s : List UInt8) : ∃ v o, numOutB s = .tuple #[.int .i64 v, .bool o] ∧ (o = true → 0 ≤ numL s ∧ v = numL s) ∧ (o = false → ¬ 0 ≤ numL s) := by
  unfold numOutB
  by_cases h : 0 ≤ numL s
  · rw [if_pos h]; exact ⟨_, true, rfl, fun _ => ⟨h, rfl⟩, fun e => (by cases e)⟩
  · rw [if_neg h]; exact ⟨_, false, rfl, fun e => (by cases e), fun _ => h⟩
/-- what recordOf answers -/
def RecOut (s : List UInt8) (e : Ending) : Prop := match recL s with
  | none => e = .returned (.tuple #[.agg #[.string ⟨#[]⟩, .int .i64 0, .int .i64 0, .int .i64 0, .string ⟨#[]⟩], .bool false])
  | some x => e = .returned (.tuple #[.agg #[.string x.s, .int .i64 x.t, .int .i64 x.c, .int .i64 x.l, .string x.d], .bool true])
theorem RecOut.no {s : List UInt8} (h : recL s = none) : RecOut s (.returned (.tuple #[.agg #[.string ⟨#[]⟩, .int .i64 0, .int .i64 0, .int .i64 0, .string ⟨#[]⟩], .bool false])) := by unfold RecOut; rw [h]
theorem RecOut.yes {s : List UInt8} {n d : ByteArray} {t c l : Int} (h : recL s = some ⟨n, t, c, l, d⟩) : RecOut s (.returned (.tuple #[.agg #[.string n, .int .i64 t, .int .i64 c, .int .i64 l, .string d], .bool true])) := by unfold RecOut; rw [h]
theorem recL_bad {s a b c d e : List UInt8} (h : wordsL s = [a, b, c, d, e]) (k : ¬ ((readN a).2 = 0 ∧ 0 ≤ numL b ∧ 0 ≤ numL c ∧ 0 ≤ numL d) ∨ unhexL e = none) : recL s = none := by
  rw [recL_five h]
  split
  · rename_i g
    rcases k with k | k
    · exact absurd g k
    · rw [k]; rfl
  · rfl
set_option maxHeartbeats 8000000 in
set_option maxRecDepth 20000 in
theorem recordOf_any (S : ByteArray) (s : List UInt8) (w : World) (hS : S = mk s) (hb : s.length ≤ 100000) (he : EnvL w) :
    Calls Tryz.prog 52 #[.string S] w fun e w' => RecOut s e ∧ Below w.heap.size w w' := by
  have hw0 := Whole.new w rrT #[.string ⟨#[]⟩, .int .i64 0, .int .i64 0, .int .i64 0, .string ⟨#[]⟩]
  have HB0 := Lib.hid (show Below w.heap.size w (w.alloc (.cells #[.string ⟨#[]⟩, .int .i64 0, .int .i64 0, .int .i64 0, .string ⟨#[]⟩] rrT)) from (Below.refl _ _).alloc (Nat.le_refl _) _)
  have HW0 := Lib.hid hw0
  have HE0 := Lib.hid (he.beyond HB0.out)
  have HS := Lib.hid hS
  obtain ⟨n, hn⟩ : ∃ n, n = (wordsL s).length := ⟨_, rfl⟩
  have HN := Lib.hid hn
  clear hw0 he hS
  go_enter Tryz.func52, Tryz.ntmps52
  go_wp2_with fail
  refine (Words_split S s _ HS.out hb HE0.out).mono ?_
  rw [← hn]
  rintro e w1 ⟨⟨g, rfl, hs1⟩, hB1⟩
  have HS1 := Lib.hid hs1
  have HW1 := Lib.hid (HW0.out.below hB1 HW0.out.lt)
  have HE1 := Lib.hid (HE0.out.beyond hB1)
  have HB1 := Lib.hid (HB0.out.trans (hB1.mono HB0.out.size))
  clear hs1 hB1
  by_cases h5 : n = 5
  · obtain ⟨a, b, c, d, f, hw⟩ : ∃ a b c d f, wordsL s = [a, b, c, d, f] := by
      have h6 : (wordsL s).length = 5 := by rw [← hn, h5]
      match hq : wordsL s, h6 with
      | [a, b, c, d, f], _ => exact ⟨a, b, c, d, f, rfl⟩
    have hla : a.length ≤ 100000 := by have := words_len (s := s) a (by rw [hw]; simp); omega
    have hlb : b.length ≤ 100000 := by have := words_len (s := s) b (by rw [hw]; simp); omega
    have hlc : c.length ≤ 100000 := by have := words_len (s := s) c (by rw [hw]; simp); omega
    have hld : d.length ≤ 100000 := by have := words_len (s := s) d (by rw [hw]; simp); omega
    have hlf : f.length ≤ 100000 := by have := words_len (s := s) f (by rw [hw]; simp); omega
    have HWD := Lib.hid hw
    have HS1' := Lib.hid (show Sees w1 w1.heap.size (some ⟨g, 0, none⟩) 5 (texts [mk a, mk b, mk c, mk d, mk f]) by have := HS1.out; rw [hw, h5] at this; exact this)
    clear hn HS1 hw
    subst h5
    obtain ⟨p0, p1, p2, p3, p4⟩ := sees5 HS1'.out
    go_wp2_with fail
    refine (dotRead_any (mk a) a _ rfl hla HE1.out.env.wts).mono ?_
    obtain ⟨n1, z1, hr⟩ : ∃ n1 z1, readN a = (n1, z1) := ⟨_, _, rfl⟩
    rw [hr]
    rintro e w2 ⟨rfl, hB2⟩
    have HR := Lib.hid hr
    have HS2 := Lib.hid ((HS1'.out.below hB2).more hB2.size)
    have HW2 := Lib.hid (HW1.out.below hB2 HW1.out.lt)
    have HE2 := Lib.hid (HE1.out.beyond hB2)
    have HB2 := Lib.hid (HB1.out.trans (hB2.mono HB1.out.size))
    clear hB2 hr p0 p1 p2 p3 p4
    obtain ⟨p0, p1, p2, p3, p4⟩ := sees5 HS2.out
    go_wp2_with fail
    refine (numberOf_any (mk b) b _ rfl (by omega) HE2.out).mono ?_
    obtain ⟨v1, o1, hv1, ho1, hx1⟩ := numOutB_is b
    rw [hv1]
    rintro e w3 ⟨rfl, hB3⟩
    have HO1 := Lib.hid ho1
    have HX1 := Lib.hid hx1
    have HS3 := Lib.hid ((HS2.out.below hB3).more hB3.size)
    have HW3 := Lib.hid (HW2.out.below hB3 HW2.out.lt)
    have HE3 := Lib.hid (HE2.out.beyond hB3)
    have HB3 := Lib.hid (HB2.out.trans (hB3.mono HB2.out.size))
    clear hB3 hv1 ho1 hx1 p0 p1 p2 p3 p4
    obtain ⟨p0, p1, p2, p3, p4⟩ := sees5 HS3.out
    go_wp2_with fail
    refine (numberOf_any (mk c) c _ rfl (by omega) HE3.out).mono ?_
    obtain ⟨v2, o2, hv2, ho2, hx2⟩ := numOutB_is c
    rw [hv2]
    rintro e w4 ⟨rfl, hB4⟩
    have HO2 := Lib.hid ho2
    have HX2 := Lib.hid hx2
    have HS4 := Lib.hid ((HS3.out.below hB4).more hB4.size)
    have HW4 := Lib.hid (HW3.out.below hB4 HW3.out.lt)
    have HE4 := Lib.hid (HE3.out.beyond hB4)
    have HB4 := Lib.hid (HB3.out.trans (hB4.mono HB3.out.size))
    clear hB4 hv2 ho2 hx2 p0 p1 p2 p3 p4
    obtain ⟨p0, p1, p2, p3, p4⟩ := sees5 HS4.out
    go_wp2_with fail
    refine (numberOf_any (mk d) d _ rfl (by omega) HE4.out).mono ?_
    obtain ⟨v3, o3, hv3, ho3, hx3⟩ := numOutB_is d
    rw [hv3]
    rintro e w5 ⟨rfl, hB5⟩
    have HO3 := Lib.hid ho3
    have HX3 := Lib.hid hx3
    have HS5 := Lib.hid ((HS4.out.below hB5).more hB5.size)
    have HW5 := Lib.hid (HW4.out.below hB5 HW4.out.lt)
    have HB5 := Lib.hid (HB4.out.trans (hB5.mono HB4.out.size))
    clear hB5 hv3 ho3 hx3 p0 p1 p2 p3 p4
    obtain ⟨p0, p1, p2, p3, p4⟩ := sees5 HS5.out
    go_wp2_with fail
    refine (dataOf_any (mk f) f _ rfl (by omega)).mono ?_
    rintro e w6 ⟨⟨D, o4, rfl, hm⟩, hB6⟩
    have HW6 := Lib.hid (HW5.out.below hB6 HW5.out.lt)
    have HB6 := Lib.hid (HB5.out.trans (hB6.mono HB5.out.size))
    have HM := Lib.hid hm
    clear hB6 hm p0 p1 p2 p3 p4 hla hlb hlc hld hlf
    obtain ⟨f0, f1, f2, f3, f4⟩ := rr_frozen HW6.out
    obtain ⟨k0, k1, k2, k3, k4⟩ := rr_facts HW6.out
    by_cases hz : z1 = 0
    · subst hz
      cases o1 with
      | false =>
        have HF := Lib.hid (recL_bad HWD.out (.inl fun h => by have k1 := h.2.1; have k2 := HX1.out rfl; omega))
        go_wp2_with fail
        refine ret52 (R := fun e w' => RecOut s e ∧ Below w.heap.size w w') rfl rfl rfl rfl (five_put HW6.out _ _ _ _ _) ?_
        exact ⟨.no HF.out, five_below HB6.out (Nat.le_refl _) _ _ _ _ _⟩
      | true =>
        cases o2 with
        | false =>
          have HF := Lib.hid (recL_bad HWD.out (.inl fun h => by have k1 := h.2.2.1; have k2 := HX2.out rfl; omega))
          go_wp2_with fail
          refine ret52 (R := fun e w' => RecOut s e ∧ Below w.heap.size w w') rfl rfl rfl rfl (five_put HW6.out _ _ _ _ _) ?_
          exact ⟨.no HF.out, five_below HB6.out (Nat.le_refl _) _ _ _ _ _⟩
        | true =>
          cases o3 with
          | false =>
            have HF := Lib.hid (recL_bad HWD.out (.inl fun h => by have k1 := h.2.2.2; have k2 := HX3.out rfl; omega))
            go_wp2_with fail
            refine ret52 (R := fun e w' => RecOut s e ∧ Below w.heap.size w w') rfl rfl rfl rfl (five_put HW6.out _ _ _ _ _) ?_
            exact ⟨.no HF.out, five_below HB6.out (Nat.le_refl _) _ _ _ _ _⟩
          | true =>
            cases hu : unhexL f with
            | none =>
              have ho : o4 = false := by have := HM.out; rw [hu] at this; exact this
              have HF := Lib.hid (recL_bad HWD.out (.inr hu))
              subst ho
              clear hu
              go_wp2_with fail
              refine ret52 (R := fun e w' => RecOut s e ∧ Below w.heap.size w w') rfl rfl rfl rfl (five_put HW6.out _ _ _ _ _) ?_
              exact ⟨.no HF.out, five_below HB6.out (Nat.le_refl _) _ _ _ _ _⟩
            | some dd =>
              have ho : o4 = true ∧ D = mk dd := by have := HM.out; rw [hu] at this; exact this
              obtain ⟨rfl, rfl⟩ := ho
              obtain ⟨y1, rfl⟩ := HO1.out rfl
              obtain ⟨y2, rfl⟩ := HO2.out rfl
              obtain ⟨y3, rfl⟩ := HO3.out rfl
              have HF := Lib.hid (show recL s = some ⟨mk n1, numL b, numL c, numL d, mk dd⟩ by
                rw [recL_five HWD.out, if_pos ⟨by rw [HR.out], y1, y2, y3⟩, hu, HR.out]
                rfl)
              clear hu y1 y2 y3
              generalize numL b = v1 at HF HX1 HO1 ⊢
              generalize numL c = v2 at HF HX2 HO2 ⊢
              generalize numL d = v3 at HF HX3 HO3 ⊢
              go_wp2_with fail
              refine ret52 (R := fun e w' => RecOut s e ∧ Below w.heap.size w w') rfl rfl rfl rfl (five_put HW6.out _ _ _ _ _) ?_
              exact ⟨.yes HF.out, five_below HB6.out (Nat.le_refl _) _ _ _ _ _⟩
    · have HF := Lib.hid (recL_bad HWD.out (.inl fun h => hz (by have := h.1; rw [HR.out] at this; exact this)))
      have gz : (z1 != 0) = true := by rw [bne_iff_ne]; exact hz
      have gz2 : ((z1 : Int) != 0) = true := by rw [bne_iff_ne]; omega
      go_wp2_with fail
      refine ret52 (R := fun e w' => RecOut s e ∧ Below w.heap.size w w') rfl rfl rfl rfl (five_put HW6.out _ _ _ _ _) ?_
      exact ⟨.no HF.out, five_below HB6.out (Nat.le_refl _) _ _ _ _ _⟩
  · have HF := Lib.hid (recL_other (s := s) (by rw [← HN.out]; exact h5))
    have g5 : ((n : Int) != 5) = true := by rw [bne_iff_ne]; omega
    obtain ⟨f0, f1, f2, f3, f4⟩ := rr_frozen HW1.out
    obtain ⟨k0, k1, k2, k3, k4⟩ := rr_facts HW1.out
    clear hn
    go_wp2_with fail
    refine ret52 (R := fun e w' => RecOut s e ∧ Below w.heap.size w w') rfl rfl rfl rfl (five_put HW1.out _ _ _ _ _) ?_
    exact ⟨.no HF.out, five_below HB1.out (Nat.le_refl _) _ _ _ _ _⟩
end Go.Proofs.YtnbapaimpoobkaaGreatDoor
