/- Parts of the proofs of the statements of image. No statement of the seat is proved here. -/
import Derived.Test.YtnbapaimpoobkaaGreatDoorDoC
import Derived.Test.YtnbapaimpoobkaaGreatDoorImgD
import Derived.Test.YtnbapaimpoobkaaGreatDoorImgO
import Derived.Test.YtnbapaimpoobkaaGreatDoorImgK
import Derived.Test.YtnbapaimpoobkaaGreatDoorImgI
import Derived.StillTailTactics
import Derived.Deep.RegionHeld3
namespace Go.Proofs.YtnbapaimpoobkaaGreatDoor
open Go.RowKit Go.Op

/-- what Read leaves -/
def RReadOut (w' : World) (N : ByteArray) (nn : List UInt8) (ls : List (List UInt8)) (e : Ending) : Prop := match recsL ls with
  | none => e = .returned (.tuple #[.agg #[.string ⟨#[]⟩, .slice none 0 0], .int .i64 2])
  | some xs => ZRefOut w' N nn xs e
theorem RReadOut.no {w' : World} {N : ByteArray} {nn : List UInt8} {ls : List (List UInt8)} (h : recsL ls = none) : RReadOut w' N nn ls (.returned (.tuple #[.agg #[.string ⟨#[]⟩, .slice none 0 0], .int .i64 2])) := by unfold RReadOut; rw [h]
theorem RReadOut.yes {w' : World} {N : ByteArray} {nn : List UInt8} {ls : List (List UInt8)} {xs : List Rrd} {e : Ending} (h : recsL ls = some xs) (k : ZRefOut w' N nn xs e) : RReadOut w' N nn ls e := by unfold RReadOut; rw [h]; exact k
theorem rz_froz {w : World} {r t : Nat} {cs : Array Value} (h : Whole w r t cs) : w.frozen? ⟨r, 0, none⟩ = false ∧ w.frozen? ⟨r, 1, none⟩ = false := ⟨h.frozen 0, h.frozen 1⟩
theorem rz_two {w : World} {r t : Nat} {a0 a1 : Value} (h : Whole w r t #[a0, a1]) : w.cell? ⟨r, 0, none⟩ = some a0 ∧ w.cell? ⟨r, 1, none⟩ = some a1 := ⟨(h.cell 0).trans rfl, (h.cell 1).trans rfl⟩
theorem sees5o {W : World} {B g off : Nat} {a b c d e : ByteArray} (h : Sees W B (some ⟨g, off, none⟩) 5 (texts [a, b, c, d, e])) :
    W.cell? ⟨g, off, none⟩ = some (.string a) ∧ W.cell? ⟨g, off + 1, none⟩ = some (.string b) ∧ W.cell? ⟨g, off + 2, none⟩ = some (.string c) ∧ W.cell? ⟨g, off + 3, none⟩ = some (.string d) ∧ W.cell? ⟨g, off + 4, none⟩ = some (.string e) := by
  obtain ⟨g', off', e1, _, hc⟩ := h.addr (by decide)
  simp only [Option.some.injEq, Addr.mk.injEq, and_true] at e1
  obtain ⟨rfl, rfl⟩ := e1
  exact ⟨hc 0 _ rfl, hc 1 _ rfl, hc 2 _ rfl, hc 3 _ rfl, hc 4 _ rfl⟩
theorem recL_bad2 {s a b c d e : List UInt8} (h : wordsL s = [a, b, c, d, e]) (k : ¬ ((readN a).2 = 0 ∧ 0 ≤ numL b ∧ 0 ≤ numL c ∧ 0 ≤ numL d) ∨ unhexL e = none) : recL s = none := by
  rw [recL_five h]
  split
  · rename_i g
    rcases k with k | k
    · exact absurd g k
    · rw [k]; rfl
  · rfl
theorem world_of {B : Nat} {a w : World} (_ : Below B a w) : ∃ w', w' = w := ⟨_, rfl⟩
theorem block_of {w : World} {g t : Nat} {cs : Array Value} (_ : Whole w g t cs) : ∃ g', g' = g := ⟨_, rfl⟩
set_option maxHeartbeats 16000000 in
set_option maxRecDepth 20000 in
theorem RRead18_any (N : ByteArray) (nn : List UInt8) (A : Option Addr) (m c : Nat) (ls : List (List UInt8)) (w : World) (hN : N = mk nn) (hs : Sees w w.heap.size A m (texts (ls.map mk))) (hm : m ≤ 60000) (hl : ∀ s ∈ ls, s.length ≤ 3000) :
    Calls Tryz.prog 23 #[.string N, .slice A m c] w fun e w' => RReadOut w' N nn ls e ∧ Below w.heap.size w w' := by
  obtain ⟨W0, hW0⟩ : ∃ W0, W0 = w.alloc (.cells #[.string ⟨#[]⟩, .slice none 0 0] rzT) := ⟨_, rfl⟩
  obtain ⟨r, hr⟩ : ∃ r, r = w.heap.size := ⟨_, rfl⟩
  have HLM := Lib.hid (show ls.length = m by have := hs.len; simpa [texts] using this)
  have HB0 := Lib.hid (show Below r w W0 by rw [hW0, hr]; exact (Below.refl _ _).alloc (Nat.le_refl _) _)
  have HR0 := Lib.hid (show r ≤ W0.heap.size by rw [hW0, hr, World.size_alloc]; omega)
  have HZ0 := Lib.hid (show Whole W0 r rzT #[.string ⟨#[]⟩, .slice none 0 0] by rw [hW0, hr]; exact Whole.new _ _ _)
  have HS0 := Lib.hid (show Sees W0 r A m (texts (ls.map mk)) by rw [← hr] at hs; exact hs.below HB0.out)
  have HN := Lib.hid hN
  have HL := Lib.hid hl
  have HWW := Lib.hid hW0
  have HR := Lib.hid hr
  have HRZ := Lib.hid (show r ≤ w.heap.size by rw [hr]; exact Nat.le_refl _)
  rw [← hr]
  clear hW0 hr hs hl hN
  go_enter Tryz.func23, Tryz.ntmps23
  go_wp2_with fail
  rw [← HWW.out, ← HR.out]
  go_loopw [6, 7] (fun v i wr => ∃ k : Nat, k ≤ m ∧ i = .int .i64 (k : Nat) ∧ LinesAt ls W0 k v wr) (fun _ i _ => m - (intOf i).toNat)
  case atStart => exact ⟨0, Nat.zero_le _, rfl, ⟨[], rfl, Lns.start ls, own_nil _ _ _ _, Below.refl _ _⟩⟩
  case round =>
    obtain ⟨k, hk, rfl, ⟨acc, hacc, hre, hO, hB2⟩⟩ := hrel
    have HO := Lib.hid hO
    have HB := Lib.hid (HB0.out.trans (hB2.mono HR0.out))
    have HB2 := Lib.hid hB2
    have HST := Lib.hid hre
    have HA := Lib.hid hacc
    obtain ⟨A2, c2, rfl, hs0, hcap⟩ := own_sees hO
    have HS2 := Lib.hid hs0
    clear hO hB2 hre hs0 hcap hacc
    by_cases hkn : k < m
    · have g1 : (k : Int) < (m : Int) := by omega
      have g0 : (0 : Int) ≤ (k : Int) := by omega
      obtain ⟨b, off, rfl, hb, hc⟩ := texts_at (HS0.out.below (HB2.out.mono HR0.out)) hkn
      have hkl : k < ls.length := by rw [HLM.out]; exact hkn
      obtain ⟨s, hsk⟩ : ∃ s, s = ls[k] := ⟨_, rfl⟩
      have hg : (ls.map mk).getD k ByteArray.empty = mk s := by rw [hsk]; simp [List.getD, hkl]
      have HPK := Lib.hid (show ls[k]? = some s by rw [hsk]; exact List.getElem?_eq_getElem hkl)
      have HSL := Lib.hid (HL.out s (List.mem_of_getElem? HPK.out))
      have HWO := Lib.hid (Words_any (mk s) s wr rfl (by have := HSL.out; omega))
      rw [hg] at hc
      obtain ⟨n, hn⟩ : ∃ n, n = (wordsL s).length := ⟨_, rfl⟩
      have HNW := Lib.hid hn
      clear hg hsk hkl
      go_wp2_with fail
      refine HWO.out.mono ?_
      unfold WordsLeaves
      rw [← hn]
      rintro e w1 ⟨A1, cw, rfl, hs1, hB1⟩
      have HS1 := Lib.hid hs1
      have HB21 := Lib.hid (HB2.out.trans (hB1.mono HB2.out.size))
      have HB1 := Lib.hid (HB.out.trans (hB1.mono (Nat.le_trans HRZ.out HB.out.size)))
      have HO1 := Lib.hid (own_below HO.out hB1)
      clear hB1 hc hs1
      by_cases h5 : n = 5
      · obtain ⟨x0, x1, x2, x3, x4, hw⟩ : ∃ a b c d f, wordsL s = [a, b, c, d, f] := by
          have h6 : (wordsL s).length = 5 := by rw [← hn, h5]
          match hq : wordsL s, h6 with
          | [a, b, c, d, f], _ => exact ⟨a, b, c, d, f, rfl⟩
        have hl0 : x0.length ≤ 3000 := by have := words_len (s := s) x0 (by rw [hw]; simp); have := HSL.out; omega
        have hl1 : x1.length ≤ 3000 := by have := words_len (s := s) x1 (by rw [hw]; simp); have := HSL.out; omega
        have hl2 : x2.length ≤ 3000 := by have := words_len (s := s) x2 (by rw [hw]; simp); have := HSL.out; omega
        have hl3 : x3.length ≤ 3000 := by have := words_len (s := s) x3 (by rw [hw]; simp); have := HSL.out; omega
        have hl4 : x4.length ≤ 3000 := by have := words_len (s := s) x4 (by rw [hw]; simp); have := HSL.out; omega
        have HWD := Lib.hid hw
        have hs1' : Sees w1 w1.heap.size A1 5 (texts [mk x0, mk x1, mk x2, mk x3, mk x4]) := by have := HS1.out; rw [hw, h5] at this; exact this
        obtain ⟨g, goff, rfl, hgb, _⟩ := hs1'.addr (by decide)
        have HS1' := Lib.hid hs1'
        have HGB := Lib.hid hgb
        clear hn HS1 hw hs1' hgb
        subst h5
        obtain ⟨p0, p1, p2, p3, p4⟩ := sees5o HS1'.out
        go_wp2_with fail
        refine (RefReadBig_any (mk x0) x0 _ rfl (by omega)).mono ?_
        obtain ⟨n1, z1, hr⟩ : ∃ n1 z1, readN x0 = (n1, z1) := ⟨_, _, rfl⟩
        rw [hr]
        rintro e w2 ⟨rfl, hB⟩
        have HRD := Lib.hid hr
        have HS2' := Lib.hid ((HS1'.out.below hB).more hB.size)
        have HB22 := Lib.hid (HB21.out.trans (hB.mono HB21.out.size))
        have HBw2 := Lib.hid (HB1.out.trans (hB.mono (Nat.le_trans HRZ.out HB1.out.size)))
        have HO2 := Lib.hid (own_below HO1.out hB)
        clear hB hr p0 p1 p2 p3 p4
        obtain ⟨p0, p1, p2, p3, p4⟩ := sees5o HS2'.out
        go_wp2_with fail
        refine (Unhex_any (mk x4) x4 _ rfl (by omega)).mono ?_
        rintro e w3 ⟨⟨D, o4, rfl, hmm⟩, hB⟩
        have HM := Lib.hid hmm
        have HS3 := Lib.hid ((HS2'.out.below hB).more hB.size)
        have HB23 := Lib.hid (HB22.out.trans (hB.mono HB22.out.size))
        have HBw3 := Lib.hid (HBw2.out.trans (hB.mono (Nat.le_trans HRZ.out HBw2.out.size)))
        have HO3 := Lib.hid (own_below HO2.out hB)
        clear hB hmm p0 p1 p2 p3 p4
        have hp := fun (W' : World) (h : Below w3.heap.size w3 W') => sees5o (HS3.out.below h)
        have p1 := fun W' h => (hp W' h).2.1
        have p2 := fun W' h => (hp W' h).2.2.1
        have p3 := fun W' h => (hp W' h).2.2.2.1
        have hb1 : Below w3.heap.size w3 w3.drew := (Below.refl _ _).drew
        obtain ⟨v1, hv1⟩ : ∃ v, v = numL x1 := ⟨_, rfl⟩
        obtain ⟨v2, hv2⟩ : ∃ v, v = numL x2 := ⟨_, rfl⟩
        obtain ⟨v3, hv3⟩ : ∃ v, v = numL x3 := ⟨_, rfl⟩
        have HN1 := Lib.hid (fun (W' W'' : World) (_ : Below w3.heap.size w3 W'') => (RefNum_any (mk x1) x1 W' rfl (by omega)).mono fun e w'' (h : _ ∧ _) => show e = .returned (.int .i64 v1) ∧ Below W'.heap.size W' w'' by obtain ⟨h1, mm, h2⟩ := h; rw [h1, h2, hv1]; exact ⟨rfl, below_drewN (Below.refl _ _) mm⟩)
        have HN2 := Lib.hid (fun (W' W'' : World) (_ : Below w3.heap.size w3 W'') => (RefNum_any (mk x2) x2 W' rfl (by omega)).mono fun e w'' (h : _ ∧ _) => show e = .returned (.int .i64 v2) ∧ Below W'.heap.size W' w'' by obtain ⟨h1, mm, h2⟩ := h; rw [h1, h2, hv2]; exact ⟨rfl, below_drewN (Below.refl _ _) mm⟩)
        have HN3 := Lib.hid (fun (W' W'' : World) (_ : Below w3.heap.size w3 W'') => (RefNum_any (mk x3) x3 W' rfl (by omega)).mono fun e w'' (h : _ ∧ _) => show e = .returned (.int .i64 v3) ∧ Below W'.heap.size W' w'' by obtain ⟨h1, mm, h2⟩ := h; rw [h1, h2, hv3]; exact ⟨rfl, below_drewN (Below.refl _ _) mm⟩)
        have HV1 := Lib.hid hv1
        have HV2 := Lib.hid hv2
        have HV3 := Lib.hid hv3
        have hA0 : Below w3.heap.size w3 ((w3.alloc (.cells #[.string ⟨#[]⟩, .int .i64 0, .int .i64 0, .int .i64 0, .string ⟨#[]⟩] 27)).drew) := ((Below.refl _ _).alloc (Nat.le_refl _) _).drew
        have hW0 : Whole ((w3.alloc (.cells #[.string ⟨#[]⟩, .int .i64 0, .int .i64 0, .int .i64 0, .string ⟨#[]⟩] 27)).drew) w3.heap.size 27 #[.string ⟨#[]⟩, .int .i64 0, .int .i64 0, .int .i64 0, .string ⟨#[]⟩] := (Whole.new w3 27 #[.string ⟨#[]⟩, .int .i64 0, .int .i64 0, .int .i64 0, .string ⟨#[]⟩]).drew
        have hA0b : Below w3.heap.size w3 (w3.drew.alloc (.cells #[.string ⟨#[]⟩, .int .i64 0, .int .i64 0, .int .i64 0, .string ⟨#[]⟩] 27)) := hb1.alloc hb1.size _
        have hW0b : Whole (w3.drew.alloc (.cells #[.string ⟨#[]⟩, .int .i64 0, .int .i64 0, .int .i64 0, .string ⟨#[]⟩] 27)) w3.heap.size 27 #[.string ⟨#[]⟩, .int .i64 0, .int .i64 0, .int .i64 0, .string ⟨#[]⟩] := Whole.new w3.drew 27 #[.string ⟨#[]⟩, .int .i64 0, .int .i64 0, .int .i64 0, .string ⟨#[]⟩]
        clear hp hv1 hv2 hv3
        go_wp2_with fail
        go_region_held3 (fun w' => Below w3.heap.size w3 w') (go_keep) (first
          | (go_at_call 56; (refine (HN3.out _ _ hT2).mono ?_; rintro e u3 ⟨rfl, hB⟩; (first | (with_reducible have hF3 := hF2.below hB hF2.lt; have hG3 := hG2) | skip); (first | (with_reducible have hT3 : Below w3.heap.size w3 u3 := hT2.trans (hB.mono hT2.size)) | (with_reducible have hT3 : Below w3.heap.size w3 u3 := hA2.trans (hB.mono hA2.size); with_reducible have hF3 := hW2.below hB hW2.lt; have hG3 : w3.heap.size ≤ u2.heap.size := hT2.size) | fail); have hA3 : Below w3.heap.size w3 (u3.alloc (.cells #[.string ⟨#[]⟩, .int .i64 0, .int .i64 0, .int .i64 0, .string ⟨#[]⟩] 27)) := hT3.alloc hT3.size _; have hW3 := Whole.new u3 27 #[.string ⟨#[]⟩, .int .i64 0, .int .i64 0, .int .i64 0, .string ⟨#[]⟩]; have hC3 : Below w3.heap.size w3 (u3.alloc (.cells #[.string (mk n1), .int .i64 v1, .int .i64 v2, .int .i64 v3, .string D] 27)) := hT3.alloc hT3.size _; (first | (obtain ⟨f0, f1, f2, f3, f4⟩ := rr_frozen hF3; obtain ⟨k0, k1, k2, k3, k4⟩ := rr_facts hF3; have hP3 := five_below hT3 hG3 (.string (mk n1)) (.int .i64 v1) (.int .i64 v2) (.int .i64 v3) (.string D)) | skip)))
          | (go_at_call 56; (refine (HN2.out _ _ hT1).mono ?_; rintro e u2 ⟨rfl, hB⟩; (first | (with_reducible have hF2 := hF1.below hB hF1.lt; have hG2 := hG1) | skip); (first | (with_reducible have hT2 : Below w3.heap.size w3 u2 := hT1.trans (hB.mono hT1.size)) | (with_reducible have hT2 : Below w3.heap.size w3 u2 := hA1.trans (hB.mono hA1.size); with_reducible have hF2 := hW1.below hB hW1.lt; have hG2 : w3.heap.size ≤ u1.heap.size := hT1.size) | fail); have hA2 : Below w3.heap.size w3 (u2.alloc (.cells #[.string ⟨#[]⟩, .int .i64 0, .int .i64 0, .int .i64 0, .string ⟨#[]⟩] 27)) := hT2.alloc hT2.size _; have hW2 := Whole.new u2 27 #[.string ⟨#[]⟩, .int .i64 0, .int .i64 0, .int .i64 0, .string ⟨#[]⟩]))
          | (go_at_call 56; (refine (HN1.out _ _ hb1).mono ?_; rintro e u1 ⟨rfl, hB⟩; (first | (with_reducible have hT1 : Below w3.heap.size w3 u1 := hb1.trans (hB.mono hb1.size)) | (with_reducible have hT1 : Below w3.heap.size w3 u1 := hA0.trans (hB.mono hA0.size); with_reducible have hF1 := hW0.below hB hW0.lt; have hG1 : w3.heap.size ≤ w3.heap.size := hb1.size) | (have hT1 : Below w3.heap.size w3 u1 := hA0b.trans (hB.mono hA0b.size); have hF1 : Whole u1 w3.heap.size 27 #[.string ⟨#[]⟩, .int .i64 0, .int .i64 0, .int .i64 0, .string ⟨#[]⟩] := hW0b.below hB hW0b.lt; have hG1 : w3.heap.size ≤ w3.heap.size := Nat.le_refl _) | fail); have hA1 : Below w3.heap.size w3 (u1.alloc (.cells #[.string ⟨#[]⟩, .int .i64 0, .int .i64 0, .int .i64 0, .string ⟨#[]⟩] 27)) := hT1.alloc hT1.size _; have hW1 := Whole.new u1 27 #[.string ⟨#[]⟩, .int .i64 0, .int .i64 0, .int .i64 0, .string ⟨#[]⟩])))
        all_goals (
          first
            | (have hX := five_put hF3 (.string (mk n1)) (.int .i64 v1) (.int .i64 v2) (.int .i64 v3) (.string D); have hBE := hP3)
            | (have hX := Whole.new u3 27 #[.string (mk n1), .int .i64 v1, .int .i64 v2, .int .i64 v3, .string D]; have hBE := hC3)
            | fail
          obtain ⟨wE, hwE⟩ := world_of hBE
          rw [← hwE] at hX hBE ⊢
          obtain ⟨gE, hgE⟩ := block_of hX
          rw [← hgE] at hX ⊢
          have HX5 := Lib.hid hX
          have HBE := Lib.hid hBE
          have HB2E := Lib.hid (HB23.out.trans (hBE.mono HB23.out.size))
          have HBwE := Lib.hid (HBw3.out.trans (hBE.mono (Nat.le_trans HRZ.out HBw3.out.size)))
          have HZE := Lib.hid (HZ0.out.below HB2E.out HZ0.out.lt)
          have HOE := Lib.hid (own_below HO3.out hBE)
          obtain ⟨d0, d1, d2, d3, d4⟩ := rr_facts hX
          obtain ⟨t0, t1⟩ := rz_froz HZE.out
          obtain ⟨y0, y1⟩ := rz_two HZE.out
          clear hX hBE hwE hgE hT1 hT2 hT3 hA0 hA0b hW0 hW0b hb1 p1 p2 p3
          by_cases hz : z1 = 0
          · subst hz
            cases hu : unhexL x4 with
            | none =>
              have ho : o4 = false := by have := HM.out; rw [hu] at this; exact this
              subst ho
              have HF := Lib.hid (HST.out.fails HPK.out (recL_bad2 HWD.out (.inr hu)))
              go_wp2_with fail
              refine retR2 rfl rfl rfl rfl (twoR_put HZE.out _ _) ?_
              exact ⟨.no HF.out, twoR_below HBwE.out (Nat.le_refl _) _ _⟩
            | some dd =>
              have ho : o4 = true ∧ D = mk dd := by have := HM.out; rw [hu] at this; exact this
              obtain ⟨rfl, rfl⟩ := ho
              by_cases s1 : v1 < 0
              · have c1 := HV1.out
                have HF := Lib.hid (HST.out.fails HPK.out (recL_bad2 HWD.out (.inl fun h => by have k1 := h.2.1; omega)))
                go_wp2_with fail
                refine retR2 rfl rfl rfl rfl (twoR_put HZE.out _ _) ?_
                exact ⟨.no HF.out, twoR_below HBwE.out (Nat.le_refl _) _ _⟩
              · by_cases s2 : v2 < 0
                · have c1 := HV2.out
                  have HF := Lib.hid (HST.out.fails HPK.out (recL_bad2 HWD.out (.inl fun h => by have k1 := h.2.2.1; omega)))
                  go_wp2_with fail
                  refine retR2 rfl rfl rfl rfl (twoR_put HZE.out _ _) ?_
                  exact ⟨.no HF.out, twoR_below HBwE.out (Nat.le_refl _) _ _⟩
                · by_cases s3 : v3 < 0
                  · have c1 := HV3.out
                    have HF := Lib.hid (HST.out.fails HPK.out (recL_bad2 HWD.out (.inl fun h => by have k1 := h.2.2.2; omega)))
                    go_wp2_with fail
                    refine retR2 rfl rfl rfl rfl (twoR_put HZE.out _ _) ?_
                    exact ⟨.no HF.out, twoR_below HBwE.out (Nat.le_refl _) _ _⟩
                  · have hrec : recL s = some ⟨mk n1, v1, v2, v3, mk dd⟩ := by
                      have c1 := HV1.out
                      have c2 := HV2.out
                      have c3 := HV3.out
                      rw [recL_five HWD.out, if_pos ⟨by rw [HRD.out], by omega, by omega, by omega⟩, hu, HRD.out, ← c1, ← c2, ← c3]
                      rfl
                    have HSTEP := Lib.hid (HST.out.step HPK.out hrec)
                    have HO5 := Lib.hid (HOE.out.alloc (.cells #[.string (mk n1), .int .i64 v1, .int .i64 v2, .int .i64 v3, .string (mk dd)] rrT))
                    have HB5 := Lib.hid (HB2E.out.alloc HB2E.out.size (.cells #[.string (mk n1), .int .i64 v1, .int .i64 v2, .int .i64 v3, .string (mk dd)] rrT))
                    have HA5 := Lib.hid HB5.out.size
                    have HLE := Lib.hid (show k + 1 ≤ 1073741824 by omega)
                    clear hu hrec
                    go_wp2_with (at_builtin; (refine wpList_append_R rfl _ _ rfl W0.heap.size _ _ acc rfl HO5.out (wE.heap.size + 1) _ _ _ _ rfl (SeesR.one _ ⟨mk n1, v1, v2, v3, mk dd⟩) HLE.out HA5.out ?_); intro v6 w6 ho hg)
                    have HO6 := Lib.hid ho
                    have HB26 := Lib.hid (HB5.out.grown hg HA5.out (own_block_ge HO5.out))
                    clear ho hg
                    go_wp2_with fail
                    go_roundw
                    case rel => exact ⟨k + 1, by omega, by go_num, ⟨acc ++ [⟨mk n1, v1, v2, v3, mk dd⟩], by rw [List.length_append, HA.out]; rfl, HSTEP.out, HO6.out, HB26.out⟩⟩
                    case measure => simp [intOf]; omega
          · have gz2 : ((z1 : Int) != 0) = true := by rw [bne_iff_ne]; exact hz
            have HF := Lib.hid (HST.out.fails HPK.out (recL_bad2 HWD.out (.inl fun h => hz (by have := h.1; rw [HRD.out] at this; exact this))))
            go_wp2_with fail
            refine retR2 rfl rfl rfl rfl (twoR_put HZE.out _ _) ?_
            exact ⟨.no HF.out, twoR_below HBwE.out (Nat.le_refl _) _ _⟩)
      · have HF := Lib.hid (HST.out.fails HPK.out (recL_other (s := s) (by rw [← HNW.out]; exact h5)))
        have g5 : ((n : Int) != 5) = true := by rw [bne_iff_ne]; omega
        have HZE := Lib.hid (HZ0.out.below HB21.out HZ0.out.lt)
        obtain ⟨t0, t1⟩ := rz_froz HZE.out
        obtain ⟨y0, y1⟩ := rz_two HZE.out
        clear hn
        go_wp2_with fail
        refine retR2 rfl rfl rfl rfl (twoR_put HZE.out _ _) ?_
        exact ⟨.no HF.out, twoR_below HB1.out (Nat.le_refl _) _ _⟩
    · obtain rfl : k = m := by omega
      have HRL := Lib.hid (show recsL ls = some acc from (show Lns ls acc ls.length by rw [HLM.out]; exact HST.out).ends)
      have HLOW := Lib.hid (recsL_low ls acc (fun s hs => Nat.le_trans (HL.out s hs) (by decide)) HRL.out)
      have HZ3 := Lib.hid (HZ0.out.below HB2.out HZ0.out.lt)
      go_wp2_with fail
      refine (RefNew_any A2 k c2 N nn acc _ HN.out HS2.out hm HLOW.out).mono ?_
      rintro e w5 ⟨hno, hB5⟩
      have HZ5 := Lib.hid (HZ3.out.below hB5 HZ3.out.lt)
      have HB5 := Lib.hid (HB.out.trans (hB5.mono (Nat.le_trans HRZ.out HB.out.size)))
      clear hB5
      obtain ⟨t0, t1⟩ := rz_froz HZ5.out
      obtain ⟨y0, y1⟩ := rz_two HZ5.out
      unfold ZRefOut at hno
      rcases hno with ⟨hcode, rfl⟩ | ⟨hcode, rfl⟩ | ⟨hcode, v, rfl, hzv⟩
      · have HC := Lib.hid hcode
        clear hcode
        go_wp2_with fail
        refine retR2 rfl rfl rfl rfl (twoR_put HZ5.out _ _) ?_
        exact ⟨.yes HRL.out (.inl ⟨HC.out, rfl⟩), twoR_below HB5.out (Nat.le_refl _) _ _⟩
      · have HC := Lib.hid hcode
        clear hcode
        go_wp2_with fail
        refine retR2 rfl rfl rfl rfl (twoR_put HZ5.out _ _) ?_
        exact ⟨.yes HRL.out (.inr (.inl ⟨HC.out, rfl⟩)), twoR_below HB5.out (Nat.le_refl _) _ _⟩
      · have HC := Lib.hid hcode
        have HOKD := Lib.hid ((HLOW.out.ok (codeZ_zero hcode).2.1).ofC)
        have HZV := Lib.hid hzv
        obtain ⟨A7, c7, rfl, _, _⟩ := hzv
        clear hcode
        go_wp2_with fail
        refine retR2 rfl rfl rfl rfl (twoR_put HZ5.out _ _) ?_
        exact ⟨.yes HRL.out (.inr (.inr ⟨HC.out, _, rfl, rone_far HZV.out HZ5.out HOKD.out (grown_trans (gset _ ⟨_, 0, none⟩ _) (gset _ ⟨_, 1, none⟩ _))⟩)), twoR_below HB5.out (Nat.le_refl _) _ _⟩
end Go.Proofs.YtnbapaimpoobkaaGreatDoor
