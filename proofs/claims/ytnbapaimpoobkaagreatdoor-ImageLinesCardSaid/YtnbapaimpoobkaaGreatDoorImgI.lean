/- Parts of the proofs of the statements of image. No statement of the seat is proved here. -/
import Derived.Test.YtnbapaimpoobkaaGreatDoorImgB
import Derived.Test.YtnbapaimpoobkaaGreatDoorImgD
import Derived.Test.YtnbapaimpoobkaaGreatDoorDoE
import Derived.Test.YtnbapaimpoobkaaGreatDoorZonC
import Derived.Test.YtnbapaimpoobkaaGreatDoorRrE
import Derived.Test.YtnbapaimpoobkaaGreatDoorImgK
namespace Go.Proofs.YtnbapaimpoobkaaGreatDoor
open Go.RowKit Go.Op

theorem sees5 {W : World} {B g : Nat} {a b c d e : ByteArray} (h : Sees W B (some ⟨g, 0, none⟩) 5 (texts [a, b, c, d, e])) :
    W.cell? ⟨g, 0, none⟩ = some (.string a) ∧ W.cell? ⟨g, 1, none⟩ = some (.string b) ∧ W.cell? ⟨g, 2, none⟩ = some (.string c) ∧ W.cell? ⟨g, 3, none⟩ = some (.string d) ∧ W.cell? ⟨g, 4, none⟩ = some (.string e) := by
  obtain ⟨g', off, e1, _, hc⟩ := h.addr (by decide)
  simp only [Option.some.injEq, Addr.mk.injEq, and_true] at e1
  obtain ⟨rfl, rfl⟩ := e1
  have k : ∀ j u, (texts [a, b, c, d, e])[j]? = some u → W.cell? ⟨g, j, none⟩ = some u := fun j u hu => by have := hc j u hu; rwa [Nat.zero_add] at this
  exact ⟨k 0 _ rfl, k 1 _ rfl, k 2 _ rfl, k 3 _ rfl, k 4 _ rfl⟩
theorem numOutB_is (s : List UInt8) : ∃ v o, numOutB s = .tuple #[.int .i64 v, .bool o] ∧ (o = true → 0 ≤ numL s ∧ v = numL s) ∧ (o = false → ¬ 0 ≤ numL s) := by
  unfold numOutB
  by_cases h : 0 ≤ numL s
  · rw [if_pos h]; exact ⟨_, true, rfl, fun _ => ⟨h, rfl⟩, fun e => (by cases e)⟩
  · rw [if_neg h]; exact ⟨_, false, rfl, fun e => (by cases e), fun _ => h⟩
/-- what recordOf answers -/
def RecOut (s : List UInt8) (e : Ending) : Prop := match recL s with
  | none => e = .returned (.tuple #[.agg #[.string ⟨#[]⟩, .int .i64 0, .int .i64 0, .int .i64 0, .string ⟨#[]⟩], .bool false])
  | some x => e = .returned (.tuple #[.agg #[.string x.s, .int .i64 x.t, .int .i64 x.c, .int .i64 x.l, .string x.d], .bool true])
theorem RecOut.no {s : List UInt8} (h : recL s = none) : RecOut s (.returned (.tuple #[.agg #[.string ⟨#[]⟩, .int .i64 0, .int .i64 0, .int .i64 0, .string ⟨#[]⟩], .bool false])) := by unfold RecOut; rw [h]
theorem RecOut.yes {s : List UInt8} {n d : ByteArray} {t c l : Int} (h : recL s = some ⟨n, t, c, l, d⟩) : RecOut s (.returned (.tuple #[.agg #[.string n, .int .i64 t, .int .i64 c, .int .i64 l, .string d], .bool true])) := by unfold RecOut; rw [h]
theorem recL_bad {s a b c d e : List UInt8} (h : wordsL s = [a, b, c, d, e]) (k : ¬ ((readN a).2 = 0 ∧ 0 ≤ numL b ∧ 0 ≤ numL c ∧ 0 ≤ numL d) ∨ unhexL e = none) : recL s = none := by
  rw [recL_five h]
  split
  · rename_i g
    rcases k with k | k
    · exact absurd g k
    · rw [k]; rfl
  · rfl
set_option maxHeartbeats 8000000 in
set_option maxRecDepth 20000 in
theorem recordOf_any (S : ByteArray) (s : List UInt8) (w : World) (hS : S = mk s) (hb : s.length ≤ 100000) (he : EnvL w) :
    Calls Tryz.prog 52 #[.string S] w fun e w' => RecOut s e ∧ Below w.heap.size w w' := by
  have hw0 := Whole.new w rrT #[.string ⟨#[]⟩, .int .i64 0, .int .i64 0, .int .i64 0, .string ⟨#[]⟩]
  have HB0 := Lib.hid (show Below w.heap.size w (w.alloc (.cells #[.string ⟨#[]⟩, .int .i64 0, .int .i64 0, .int .i64 0, .string ⟨#[]⟩] rrT)) from (Below.refl _ _).alloc (Nat.le_refl _) _)
  have HW0 := Lib.hid hw0
  have HE0 := Lib.hid (he.beyond HB0.out)
  have HS := Lib.hid hS
  obtain ⟨n, hn⟩ : ∃ n, n = (wordsL s).length := ⟨_, rfl⟩
  have HN := Lib.hid hn
  clear hw0 he hS
  go_enter Tryz.func52, Tryz.ntmps52
  go_wp2_with fail
  refine (Words_split S s _ HS.out hb HE0.out).mono ?_
  rw [← hn]
  rintro e w1 ⟨⟨g, rfl, hs1⟩, hB1⟩
  have HS1 := Lib.hid hs1
  have HW1 := Lib.hid (HW0.out.below hB1 HW0.out.lt)
  have HE1 := Lib.hid (HE0.out.beyond hB1)
  have HB1 := Lib.hid (HB0.out.trans (hB1.mono HB0.out.size))
  clear hs1 hB1
  by_cases h5 : n = 5
  · obtain ⟨a, b, c, d, f, hw⟩ : ∃ a b c d f, wordsL s = [a, b, c, d, f] := by
      have h6 : (wordsL s).length = 5 := by rw [← hn, h5]
      match hq : wordsL s, h6 with
      | [a, b, c, d, f], _ => exact ⟨a, b, c, d, f, rfl⟩
    have hla : a.length ≤ 100000 := by have := words_len (s := s) a (by rw [hw]; simp); omega
    have hlb : b.length ≤ 100000 := by have := words_len (s := s) b (by rw [hw]; simp); omega
    have hlc : c.length ≤ 100000 := by have := words_len (s := s) c (by rw [hw]; simp); omega
    have hld : d.length ≤ 100000 := by have := words_len (s := s) d (by rw [hw]; simp); omega
    have hlf : f.length ≤ 100000 := by have := words_len (s := s) f (by rw [hw]; simp); omega
    have HWD := Lib.hid hw
    have HS1' := Lib.hid (show Sees w1 w1.heap.size (some ⟨g, 0, none⟩) 5 (texts [mk a, mk b, mk c, mk d, mk f]) by have := HS1.out; rw [hw, h5] at this; exact this)
    clear hn HS1 hw
    subst h5
    obtain ⟨p0, p1, p2, p3, p4⟩ := sees5 HS1'.out
    go_wp2_with fail
    refine (dotRead_any (mk a) a _ rfl hla HE1.out.env.wts).mono ?_
    obtain ⟨n1, z1, hr⟩ : ∃ n1 z1, readN a = (n1, z1) := ⟨_, _, rfl⟩
    rw [hr]
    rintro e w2 ⟨rfl, hB2⟩
    have HR := Lib.hid hr
    have HS2 := Lib.hid ((HS1'.out.below hB2).more hB2.size)
    have HW2 := Lib.hid (HW1.out.below hB2 HW1.out.lt)
    have HE2 := Lib.hid (HE1.out.beyond hB2)
    have HB2 := Lib.hid (HB1.out.trans (hB2.mono HB1.out.size))
    clear hB2 hr p0 p1 p2 p3 p4
    obtain ⟨p0, p1, p2, p3, p4⟩ := sees5 HS2.out
    go_wp2_with fail
    refine (numberOf_any (mk b) b _ rfl (by omega) HE2.out).mono ?_
    obtain ⟨v1, o1, hv1, ho1, hx1⟩ := numOutB_is b
    rw [hv1]
    rintro e w3 ⟨rfl, hB3⟩
    have HO1 := Lib.hid ho1
    have HX1 := Lib.hid hx1
    have HS3 := Lib.hid ((HS2.out.below hB3).more hB3.size)
    have HW3 := Lib.hid (HW2.out.below hB3 HW2.out.lt)
    have HE3 := Lib.hid (HE2.out.beyond hB3)
    have HB3 := Lib.hid (HB2.out.trans (hB3.mono HB2.out.size))
    clear hB3 hv1 ho1 hx1 p0 p1 p2 p3 p4
    obtain ⟨p0, p1, p2, p3, p4⟩ := sees5 HS3.out
    go_wp2_with fail
    refine (numberOf_any (mk c) c _ rfl (by omega) HE3.out).mono ?_
    obtain ⟨v2, o2, hv2, ho2, hx2⟩ := numOutB_is c
    rw [hv2]
    rintro e w4 ⟨rfl, hB4⟩
    have HO2 := Lib.hid ho2
    have HX2 := Lib.hid hx2
    have HS4 := Lib.hid ((HS3.out.below hB4).more hB4.size)
    have HW4 := Lib.hid (HW3.out.below hB4 HW3.out.lt)
    have HE4 := Lib.hid (HE3.out.beyond hB4)
    have HB4 := Lib.hid (HB3.out.trans (hB4.mono HB3.out.size))
    clear hB4 hv2 ho2 hx2 p0 p1 p2 p3 p4
    obtain ⟨p0, p1, p2, p3, p4⟩ := sees5 HS4.out
    go_wp2_with fail
    refine (numberOf_any (mk d) d _ rfl (by omega) HE4.out).mono ?_
    obtain ⟨v3, o3, hv3, ho3, hx3⟩ := numOutB_is d
    rw [hv3]
    rintro e w5 ⟨rfl, hB5⟩
    have HO3 := Lib.hid ho3
    have HX3 := Lib.hid hx3
    have HS5 := Lib.hid ((HS4.out.below hB5).more hB5.size)
    have HW5 := Lib.hid (HW4.out.below hB5 HW4.out.lt)
    have HB5 := Lib.hid (HB4.out.trans (hB5.mono HB4.out.size))
    clear hB5 hv3 ho3 hx3 p0 p1 p2 p3 p4
    obtain ⟨p0, p1, p2, p3, p4⟩ := sees5 HS5.out
    go_wp2_with fail
    refine (dataOf_any (mk f) f _ rfl (by omega)).mono ?_
    rintro e w6 ⟨⟨D, o4, rfl, hm⟩, hB6⟩
    have HW6 := Lib.hid (HW5.out.below hB6 HW5.out.lt)
    have HB6 := Lib.hid (HB5.out.trans (hB6.mono HB5.out.size))
    have HM := Lib.hid hm
    clear hB6 hm p0 p1 p2 p3 p4 hla hlb hlc hld hlf
    obtain ⟨f0, f1, f2, f3, f4⟩ := rr_frozen HW6.out
    obtain ⟨k0, k1, k2, k3, k4⟩ := rr_facts HW6.out
    by_cases hz : z1 = 0
    · subst hz
      cases o1 with
      | false =>
        have HF := Lib.hid (recL_bad HWD.out (.inl fun h => by have k1 := h.2.1; have k2 := HX1.out rfl; omega))
        go_wp2_with fail
        refine ret52 (R := fun e w' => RecOut s e ∧ Below w.heap.size w w') rfl rfl rfl rfl (five_put HW6.out _ _ _ _ _) ?_
        exact ⟨.no HF.out, five_below HB6.out (Nat.le_refl _) _ _ _ _ _⟩
      | true =>
        cases o2 with
        | false =>
          have HF := Lib.hid (recL_bad HWD.out (.inl fun h => by have k1 := h.2.2.1; have k2 := HX2.out rfl; omega))
          go_wp2_with fail
          refine ret52 (R := fun e w' => RecOut s e ∧ Below w.heap.size w w') rfl rfl rfl rfl (five_put HW6.out _ _ _ _ _) ?_
          exact ⟨.no HF.out, five_below HB6.out (Nat.le_refl _) _ _ _ _ _⟩
        | true =>
          cases o3 with
          | false =>
            have HF := Lib.hid (recL_bad HWD.out (.inl fun h => by have k1 := h.2.2.2; have k2 := HX3.out rfl; omega))
            go_wp2_with fail
            refine ret52 (R := fun e w' => RecOut s e ∧ Below w.heap.size w w') rfl rfl rfl rfl (five_put HW6.out _ _ _ _ _) ?_
            exact ⟨.no HF.out, five_below HB6.out (Nat.le_refl _) _ _ _ _ _⟩
          | true =>
            cases hu : unhexL f with
            | none =>
              have ho : o4 = false := by have := HM.out; rw [hu] at this; exact this
              have HF := Lib.hid (recL_bad HWD.out (.inr hu))
              subst ho
              clear hu
              go_wp2_with fail
              refine ret52 (R := fun e w' => RecOut s e ∧ Below w.heap.size w w') rfl rfl rfl rfl (five_put HW6.out _ _ _ _ _) ?_
              exact ⟨.no HF.out, five_below HB6.out (Nat.le_refl _) _ _ _ _ _⟩
            | some dd =>
              have ho : o4 = true ∧ D = mk dd := by have := HM.out; rw [hu] at this; exact this
              obtain ⟨rfl, rfl⟩ := ho
              obtain ⟨y1, rfl⟩ := HO1.out rfl
              obtain ⟨y2, rfl⟩ := HO2.out rfl
              obtain ⟨y3, rfl⟩ := HO3.out rfl
              have HF := Lib.hid (show recL s = some ⟨mk n1, numL b, numL c, numL d, mk dd⟩ by
                rw [recL_five HWD.out, if_pos ⟨by rw [HR.out], y1, y2, y3⟩, hu, HR.out]
                rfl)
              clear hu y1 y2 y3
              generalize numL b = v1 at HF HX1 HO1 ⊢
              generalize numL c = v2 at HF HX2 HO2 ⊢
              generalize numL d = v3 at HF HX3 HO3 ⊢
              go_wp2_with fail
              refine ret52 (R := fun e w' => RecOut s e ∧ Below w.heap.size w w') rfl rfl rfl rfl (five_put HW6.out _ _ _ _ _) ?_
              exact ⟨.yes HF.out, five_below HB6.out (Nat.le_refl _) _ _ _ _ _⟩
    · have HF := Lib.hid (recL_bad HWD.out (.inl fun h => hz (by have := h.1; rw [HR.out] at this; exact this)))
      have gz : (z1 != 0) = true := by rw [bne_iff_ne]; exact hz
      have gz2 : ((z1 : Int) != 0) = true := by rw [bne_iff_ne]; omega
      go_wp2_with fail
      refine ret52 (R := fun e w' => RecOut s e ∧ Below w.heap.size w w') rfl rfl rfl rfl (five_put HW6.out _ _ _ _ _) ?_
      exact ⟨.no HF.out, five_below HB6.out (Nat.le_refl _) _ _ _ _ _⟩
  · have HF := Lib.hid (recL_other (s := s) (by rw [← HN.out]; exact h5))
    have g5 : ((n : Int) != 5) = true := by rw [bne_iff_ne]; omega
    obtain ⟨f0, f1, f2, f3, f4⟩ := rr_frozen HW1.out
    obtain ⟨k0, k1, k2, k3, k4⟩ := rr_facts HW1.out
    clear hn
    go_wp2_with fail
    refine ret52 (R := fun e w' => RecOut s e ∧ Below w.heap.size w w') rfl rfl rfl rfl (five_put HW1.out _ _ _ _ _) ?_
    exact ⟨.no HF.out, five_below HB1.out (Nat.le_refl _) _ _ _ _ _⟩
end Go.Proofs.YtnbapaimpoobkaaGreatDoor
namespace Go.Proofs.YtnbapaimpoobkaaGreatDoor
open Go.RowKit Go.Op

def LinesAt (ls : List (List UInt8)) (w : World) (k : Nat) (v : Value) (wr : World) : Prop :=
  ∃ acc : List Rrd, acc.length = k ∧ Lns ls acc k ∧ wr.ownsRow w.heap.size 27 5 v k (rcells acc) ∧ Below w.heap.size w wr
/-- what Read leaves -/
def ReadOut (w' : World) (N : ByteArray) (nn : List UInt8) (ls : List (List UInt8)) (e : Ending) : Prop := match recsL ls with
  | none => e = .returned (.tuple #[.agg zeroZ, .int .i64 2])
  | some xs => NewOut w' N nn xs e
theorem ReadOut.no {w' : World} {N : ByteArray} {nn : List UInt8} {ls : List (List UInt8)} (h : recsL ls = none) : ReadOut w' N nn ls (.returned (.tuple #[.agg zeroZ, .int .i64 2])) := by unfold ReadOut; rw [h]
theorem ReadOut.yes {w' : World} {N : ByteArray} {nn : List UInt8} {ls : List (List UInt8)} {xs : List Rrd} {e : Ending} (h : recsL ls = some xs) (k : NewOut w' N nn xs e) : ReadOut w' N nn ls e := by unfold ReadOut; rw [h]; exact k
theorem recsL_low : ∀ (ls : List (List UInt8)) (l : List Rrd), (∀ s ∈ ls, s.length ≤ 60000) → recsL ls = some l → LowL l := by
  intro ls
  induction ls with
  | nil => intro l _ h x hx; simp [recsL] at h; subst h; cases hx
  | cons s r ih =>
    intro l hs h
    rw [recsL] at h
    cases hx : recL s with
    | none => rw [hx] at h; cases h
    | some x =>
      rw [hx] at h
      cases hr : recsL r with
      | none => rw [hr] at h; cases h
      | some t =>
        rw [hr] at h
        simp at h
        subst h
        intro y hy
        rcases List.mem_cons.1 hy with rfl | hy
        · obtain ⟨h1, h2, _⟩ := recL_low hx
          have := hs s (by simp)
          omega
        · exact ih t (fun q hq => hs q (List.mem_cons_of_mem _ hq)) hr y hy
theorem one_twoX (w3 : World) (C : Obj) (x : Rrd) : SeesR ((w3.alloc C).alloc (.cells #[.string x.s, .int .i64 x.t, .int .i64 x.c, .int .i64 x.l, .string x.d] rrT)) (w3.heap.size + 1 + 1) (some ⟨w3.heap.size + 1, 0, none⟩) 1 [x] := by
  have h := SeesR.one (w3.alloc C) x
  rw [World.size_alloc] at h
  exact h
set_option maxHeartbeats 8000000 in
set_option maxRecDepth 20000 in
theorem IRead_any (N : ByteArray) (nn : List UInt8) (A : Option Addr) (m c : Nat) (ls : List (List UInt8)) (w : World) (hN : N = mk nn) (hs : Sees w w.heap.size A m (texts (ls.map mk))) (hm : m ≤ 60000) (hl : ∀ s ∈ ls, s.length ≤ 60000) (he : EnvL w) :
    Calls Tryz.prog 22 #[.string N, .slice A m c] w fun e w' => ReadOut w' N nn ls e ∧ Below w.heap.size w w' := by
  obtain ⟨W0, hW0⟩ : ∃ W0, W0 = w.alloc (.cells #[.string ⟨#[]⟩, .slice none 0 0, .string ⟨#[]⟩, .int .i64 0, .int .i64 0, .int .i64 0, .string ⟨#[]⟩] zoT) := ⟨_, rfl⟩
  obtain ⟨r, hr⟩ : ∃ r, r = w.heap.size := ⟨_, rfl⟩
  have HLM := Lib.hid (show ls.length = m by have := hs.len; simpa [texts] using this)
  have HB0 := Lib.hid (show Below r w W0 by rw [hW0, hr]; exact (Below.refl _ _).alloc (Nat.le_refl _) _)
  have HR0 := Lib.hid (show r ≤ W0.heap.size by rw [hW0, hr, World.size_alloc]; omega)
  have HZ0 := Lib.hid (show Whole W0 r zoT #[.string ⟨#[]⟩, .slice none 0 0, .string ⟨#[]⟩, .int .i64 0, .int .i64 0, .int .i64 0, .string ⟨#[]⟩] by rw [hW0, hr]; exact Whole.new _ _ _)
  have HS0 := Lib.hid (show Sees W0 r A m (texts (ls.map mk)) by rw [← hr] at hs; exact hs.below HB0.out)
  have HE0 := Lib.hid (show EnvL W0 from he.beyond (by have := HB0.out; rw [hr] at this; exact this))
  have HN := Lib.hid hN
  have HL := Lib.hid hl
  have HWW := Lib.hid hW0
  have HR := Lib.hid hr
  have HRZ := Lib.hid (show r ≤ w.heap.size by rw [hr]; exact Nat.le_refl _)
  rw [← hr]
  clear hW0 hr hs he hl hN
  go_enter Tryz.func22, Tryz.ntmps22
  go_wp2_with fail
  rw [← HWW.out, ← HR.out]
  go_loopw [6, 13] (fun v i wr => ∃ k : Nat, k ≤ m ∧ i = .int .i64 (k : Nat) ∧ LinesAt ls W0 k v wr) (fun _ i _ => m - (intOf i).toNat)
  case atStart => exact ⟨0, Nat.zero_le _, rfl, ⟨[], rfl, Lns.start ls, own_nil _ _ _ _, Below.refl _ _⟩⟩
  case round =>
    obtain ⟨k, hk, rfl, ⟨acc, hacc, hre, hO, hB2⟩⟩ := hrel
    have HO := Lib.hid hO
    have HB := Lib.hid (HB0.out.trans (hB2.mono HR0.out))
    have HB2 := Lib.hid hB2
    have HST := Lib.hid hre
    have HA := Lib.hid hacc
    obtain ⟨A2, c2, rfl, hs0, hcap⟩ := own_sees hO
    have HS2 := Lib.hid hs0
    clear hO hB2 hre hs0 hcap hacc
    by_cases hkn : k < m
    · have g1 : (k : Int) < (m : Int) := by omega
      obtain ⟨b, off, rfl, hb, hc⟩ := texts_at (HS0.out.below (HB2.out.mono HR0.out)) hkn
      have hkl : k < ls.length := by rw [HLM.out]; exact hkn
      obtain ⟨s, hsk⟩ : ∃ s, s = ls[k] := ⟨_, rfl⟩
      have hg : (ls.map mk).getD k ByteArray.empty = mk s := by rw [hsk]; simp [List.getD, hkl]
      have HPK := Lib.hid (show ls[k]? = some s by rw [hsk]; exact List.getElem?_eq_getElem hkl)
      have HSL := Lib.hid (HL.out s (List.mem_of_getElem? HPK.out))
      have HRO := Lib.hid (recordOf_any (mk s) s _ rfl (by have := HSL.out; omega) (HE0.out.beyond HB2.out))
      rw [hg] at hc
      clear hg hsk hkl
      go_wp2_with fail
      refine HRO.out.mono ?_
      rintro e w3 ⟨hre, hB3⟩
      have HB3 := Lib.hid (HB.out.trans (hB3.mono (Nat.le_trans HRZ.out HB.out.size)))
      have HB23 := Lib.hid (HB2.out.trans (hB3.mono HB2.out.size))
      have HO3 := Lib.hid (own_below HO.out hB3)
      clear hB3 hc
      cases hx : recL s with
      | none =>
        have HF := Lib.hid (HST.out.fails HPK.out hx)
        unfold RecOut at hre
        rw [hx] at hre
        simp only at hre
        subst hre
        clear hx
        have HZ4 := Lib.hid ((HZ0.out.below HB23.out HZ0.out.lt).alloc (.cells #[.string ⟨#[]⟩, .int .i64 0, .int .i64 0, .int .i64 0, .string ⟨#[]⟩] rrT))
        have HB4 := Lib.hid (HB3.out.alloc (Nat.le_trans HRZ.out HB3.out.size) (.cells #[.string ⟨#[]⟩, .int .i64 0, .int .i64 0, .int .i64 0, .string ⟨#[]⟩] rrT))
        obtain ⟨f0, f1, f2, f3, f4, f5, f6⟩ := zo_frozen HZ4.out
        obtain ⟨k0, k1, k2, k3, k4, k5, k6⟩ := zo_facts HZ4.out
        go_wp2_with fail
        refine retZ2 rfl rfl rfl rfl (sevZ_put HZ4.out _ _ _ _ _ _ _) ?_
        exact ⟨.no HF.out, sevZ_below HB4.out (Nat.le_refl _) _ _ _ _ _ _ _⟩
      | some x =>
        have HSTEP := Lib.hid (HST.out.step HPK.out hx)
        unfold RecOut at hre
        rw [hx] at hre
        simp only at hre
        subst hre
        clear hx
        have hw4 := Whole.new w3 rrT (rrA x.s x.d x.t x.c x.l)
        obtain ⟨d0, d1, d2, d3, d4⟩ := rr_facts hw4
        clear hw4
        have HO5 := Lib.hid ((HO3.out.alloc (.cells #[.string x.s, .int .i64 x.t, .int .i64 x.c, .int .i64 x.l, .string x.d] rrT)).alloc (.cells #[.string x.s, .int .i64 x.t, .int .i64 x.c, .int .i64 x.l, .string x.d] rrT))
        have HB25 := Lib.hid (show Below W0.heap.size W0 ((w3.alloc (.cells #[.string x.s, .int .i64 x.t, .int .i64 x.c, .int .i64 x.l, .string x.d] rrT)).alloc (.cells #[.string x.s, .int .i64 x.t, .int .i64 x.c, .int .i64 x.l, .string x.d] rrT)) from (HB23.out.alloc HB23.out.size _).alloc (by have := HB23.out.size; rw [World.size_alloc]; omega) _)
        have HA5 := Lib.hid HB25.out.size
        have HLE := Lib.hid (show k + 1 ≤ 1073741824 by omega)
        unfold rrA at *
        go_wp2_with (at_builtin; (refine wpList_append_R rfl _ _ rfl W0.heap.size _ _ acc rfl HO5.out (w3.heap.size + 1 + 1) _ _ _ _ rfl (one_twoX w3 _ x) HLE.out HA5.out ?_); intro v6 w6 ho hg)
        have HO6 := Lib.hid ho
        have HB26 := Lib.hid (HB25.out.grown hg HA5.out (own_block_ge HO5.out))
        clear ho hg
        go_wp2_with fail
        go_roundw
        case rel => exact ⟨k + 1, by omega, by go_num, ⟨acc ++ [x], by rw [List.length_append, HA.out]; rfl, HSTEP.out, HO6.out, HB26.out⟩⟩
        case measure => simp [intOf]; omega
    · obtain rfl : k = m := by omega
      have HRL := Lib.hid (show recsL ls = some acc from (show Lns ls acc ls.length by rw [HLM.out]; exact HST.out).ends)
      have HLOW := Lib.hid (recsL_low ls acc HL.out HRL.out)
      have HZ3 := Lib.hid (HZ0.out.below HB2.out HZ0.out.lt)
      go_wp2_with fail
      refine (ZNew_any A2 k c2 N nn acc _ HN.out HS2.out hm HLOW.out).mono ?_
      rintro e w5 ⟨hno, hB5⟩
      have HZ5 := Lib.hid (HZ3.out.below hB5 HZ3.out.lt)
      have HB5 := Lib.hid (HB.out.trans (hB5.mono (Nat.le_trans HRZ.out HB.out.size)))
      clear hB5
      obtain ⟨f0, f1, f2, f3, f4, f5, f6⟩ := zo_frozen HZ5.out
      obtain ⟨k0, k1, k2, k3, k4, k5, k6⟩ := zo_facts HZ5.out
      rcases hno with ⟨hcode, rfl⟩ | ⟨hcode, rfl⟩ | ⟨hcode, v, rfl, hzv⟩
      · have HC := Lib.hid hcode
        clear hcode
        unfold zeroZ
        go_wp2_with fail
        refine retZ2 rfl rfl rfl rfl (sevZ_put HZ5.out _ _ _ _ _ _ _) ?_
        exact ⟨.yes HRL.out (.inl ⟨HC.out, rfl⟩), sevZ_below HB5.out (Nat.le_refl _) _ _ _ _ _ _ _⟩
      · have HC := Lib.hid hcode
        clear hcode
        unfold zeroZ
        go_wp2_with fail
        refine retZ2 rfl rfl rfl rfl (sevZ_put HZ5.out _ _ _ _ _ _ _) ?_
        exact ⟨.yes HRL.out (.inr (.inl ⟨HC.out, rfl⟩)), sevZ_below HB5.out (Nat.le_refl _) _ _ _ _ _ _ _⟩
      · have HC := Lib.hid hcode
        have HOKD := Lib.hid ((HLOW.out.ok (codeZ_zero hcode).2.1).ofC)
        have HZV := Lib.hid hzv
        obtain ⟨A7, c7, s7, rfl, _, _, _⟩ := hzv
        clear hcode
        go_wp2_with fail
        refine retZ2 rfl rfl rfl rfl (sevZ_put HZ5.out _ _ _ _ _ _ _) ?_
        exact ⟨.yes HRL.out (.inr (.inr ⟨HC.out, _, rfl, zone_far HZV.out (by unfold zeroZ; exact HZ5.out) HOKD.out (sev_grown _ _ _ _ _ _ _ _ _)⟩)), sevZ_below HB5.out (Nat.le_refl _) _ _ _ _ _ _ _⟩
end Go.Proofs.YtnbapaimpoobkaaGreatDoor
