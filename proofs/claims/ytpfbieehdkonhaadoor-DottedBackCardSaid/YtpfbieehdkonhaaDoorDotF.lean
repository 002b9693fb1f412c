/- cutLabel, labelsOf, Read. -/
import Derived.Test.YtpfbieehdkonhaaDoorDotE
import Derived.Test.YtpfbieehdkonhaaDoorNamJ
import Derived.Deep.RegionWith
namespace Go.Proofs.YtpfbieehdkonhaaDoor
open Go.RowKit

theorem Bld.drewN {b : Nat} {l : List UInt8} {w : World} (h : Bld b l w) (m : Nat) : Bld b l (w.drewN m) := h
theorem Wts.drewN {w : World} (h : Wts w) (m : Nat) : Wts (w.drewN m) := h
def strSize : Value → Nat | .string x => x.size | _ => 0

/-- what cutLabel hands back for the text s -/
def OutL (s : List UInt8) (e : Ending) : Prop := ∃ x y ok, e = .returned (.tuple #[.string x, .string y, .bool ok]) ∧
  ((ok = true ∧ ∃ a b, x = mk a ∧ y = mk b ∧ b.length < s.length ∧ a.length ≤ s.length ∧ ∀ l, rd l [] s = rd (l ++ [a]) [] b) ∨ (ok = false ∧ ∀ l, rd l [] s = none))
/-- where the reading of a label stands: what is read, and the rest -/
def AtL (s lab t : List UInt8) : Prop := (∀ l, rd l [] s = rd l lab t) ∧ lab.length + t.length ≤ s.length ∧ (lab = [] → t = s)
theorem AtL.start (s : List UInt8) : AtL s [] s := ⟨fun _ => rfl, by simp, fun _ => rfl⟩
theorem AtL.over {s lab : List UInt8} (h : AtL s lab []) (hs : s ≠ []) : ∀ l, rd l [] s = none := by
  intro l
  rw [h.1 l, rd_nil, if_pos]
  left
  intro e
  exact hs (h.2.2 e).symm
theorem AtL.bad {s lab r : List UInt8} {c : UInt8} (h : AtL s lab (c :: r)) (hc : c.toNat ≠ 46) (hk : cutC (c :: r) = none) : ∀ l, rd l [] s = none := by
  intro l
  rw [h.1 l, rd_bad hc hk]
theorem AtL.step {s lab r t : List UInt8} {c d : UInt8} (h : AtL s lab (c :: r)) (hc : c.toNat ≠ 46) (hk : cutC (c :: r) = some (d, t)) : AtL s (lab ++ [d]) t := by
  refine ⟨fun l => by rw [h.1 l, rd_byte hc hk], ?_, fun e => by simp at e⟩
  have h1 := cutC_lt hk
  have h2 := h.2.1
  simp at h1 h2 ⊢; omega
theorem AtL.dot {s lab r : List UInt8} {c : UInt8} (h : AtL s lab (c :: r)) (hc : c.toNat = 46) (x y : ByteArray) (hx : x = mk lab) (hy : y = mk r) :
    OutL s (.returned (.tuple #[.string x, .string y, .bool (decide (0 < lab.length))])) := by
  refine ⟨x, y, _, rfl, ?_⟩
  by_cases hl : lab = []
  · right
    refine ⟨by subst hl; rfl, fun l => ?_⟩
    rw [h.1 l, rd_dot hc, if_pos hl]
  · left
    have h1 := h.2.1
    refine ⟨?_, lab, r, hx, hy, by simp at h1; omega, by omega, fun l => ?_⟩
    · rw [decide_eq_true_iff]
      exact List.length_pos_iff.2 hl
    · rw [h.1 l, rd_dot hc, if_neg hl]

set_option maxHeartbeats 4000000 in
theorem cutLabel_any (S : ByteArray) (s : List UInt8) (w : World) (hS : S = mk s) (hs : s ≠ []) (hb : s.length ≤ 1073741824) (hw : Wts w) :
    Calls Tryd.prog 33 #[.string S] w fun e w' => OutL s e ∧ Below w.heap.size w w' := by
  have h0 := hw.pos
  have HW := Lib.hid hw
  have HBL := Lib.hid (Bld.new w)
  have HB2 := Lib.hid ((Below.refl w.heap.size w).alloc (Nat.le_refl _) (.cells #[.pointer none, .slice none 0 0] 40))
  have HSS := Lib.hid hS
  have HNE := Lib.hid hs
  clear hw hS hs
  go_enter Tryd.func33, Tryd.ntmps33
  go_wp2_with fail
  go_loopw [0] (fun v wr => ∃ lab t, v = .string (mk t) ∧ AtL s lab t ∧ Bld w.heap.size lab wr ∧ Below w.heap.size w wr) (fun v _ => strSize v)
  case atStart => exact ⟨[], s, by rw [← HSS.out], AtL.start s, HBL.out, HB2.out⟩
  case round =>
    obtain ⟨lab, t, rfl, hat, hb, hB⟩ := hrel
    obtain ⟨X, hX⟩ : ∃ X, X = mk t := ⟨_, rfl⟩
    rw [← hX]
    have hlab : lab.length ≤ 1073741824 := by have := hat.2.1; omega
    have HAT := Lib.hid hat
    have Hb := Lib.hid hb
    have HB := Lib.hid hB
    have HXX := Lib.hid hX
    clear hat hb hB hX
    cases t with
    | nil =>
      have g1 : X.toList.isEmpty = true := by rw [HXX.out, mk_isEmpty]; rfl
      go_wp2_with fail
      go_ret3
      exact ⟨⟨_, _, _, rfl, .inr ⟨rfl, HAT.out.over HNE.out⟩⟩, HB.out⟩
    | cons c r =>
      have g1 : X.toList.isEmpty = false := by rw [HXX.out, mk_isEmpty]; rfl
      obtain ⟨k0, c0⟩ := at_mk (k := 0) (c := c) HXX.out rfl
      have k1 : 1 ≤ X.size := k0
      obtain ⟨x, hx⟩ : ∃ x, x = c.toNat := ⟨_, rfl⟩
      rw [← hx] at c0
      have HX := Lib.hid hx
      clear hx
      by_cases h46 : x = 46
      · have g2 : ((x : Int) == 46) = true := by rw [beq_iff_eq]; omega
        obtain ⟨R, hR⟩ : ∃ R, X.extract 1 X.size = R := ⟨_, rfl⟩
        have HR := Lib.hid (show R = mk r by rw [← hR, mk_rest HXX.out])
        have hbd : Bld w.heap.size lab wr.drew := Hb.out
        have hmx : Tryd.prog.follows .mixedOrders = true := by kernel_rfl
        go_wp2_with fail
        go_region_with (first
          | (go_at_call 21; refine (BString_any w.heap.size lab _ (by assumption)).mono ?_; rintro e w2 ⟨rfl, hb2, hB2⟩; have hB3 := HB.out.drew.trans hB2)
          | (go_at_call 46; refine (BLen_any w.heap.size lab _ (by assumption)).mono ?_; rintro e w2 ⟨rfl, rfl⟩))
        all_goals go_wp2_with fail
        all_goals go_ret3
        all_goals refine ⟨?_, hB3⟩
        all_goals simp [Act.put]
        all_goals exact HAT.out.dot (by rw [← HX.out]; exact h46) _ _ rfl HR.out
      · have g2 : ((x : Int) == 46) = false := by rw [beq_eq_false_iff_ne]; omega
        have hne : c.toNat ≠ 46 := by rw [← HX.out]; exact h46
        go_wp2_with fail
        refine (cutByte_any X c r wr HXX.out (HW.out.below HB.out h0)).mono ?_
        rintro e w' ⟨⟨c', r', ok, rfl, hO⟩, m, rfl⟩
        cases hk : cutC (c :: r) with
        | none =>
          rw [hk] at hO
          have hO' : ok = false := hO
          subst hO'
          have HB' := Lib.hid (below_drewN HB.out m)
          have HA' := Lib.hid (HAT.out.bad hne hk)
          clear hO hne hk
          go_wp2_with fail
          go_ret3
          exact ⟨⟨_, _, _, rfl, .inr ⟨rfl, HA'.out⟩⟩, HB'.out⟩
        | some p =>
          obtain ⟨d, t'⟩ := p
          rw [hk] at hO
          obtain ⟨rfl, rfl, rfl⟩ : ok = true ∧ c' = (d.toNat : Nat) ∧ r' = mk t' := hO
          have HB' := Lib.hid (below_drewN HB.out m)
          have HA' := Lib.hid (HAT.out.step hne hk)
          have hlt := cutC_lt hk
          obtain ⟨Y, hY⟩ : ∃ Y, Y = mk t' := ⟨_, rfl⟩
          have hYX : Y.size < X.size := by rw [hY, HXX.out, mk_size, mk_size]; exact hlt
          have HY := Lib.hid hY
          rw [← hY]
          clear hne hk hlt hY
          go_wp2_with fail
          refine (WriteByte_any w.heap.size lab d _ (Hb.out.drewN m) (by omega)).mono ?_
          rintro e w3 ⟨rfl, hb3, hB3⟩
          have Hb3 := Lib.hid hb3
          have HB3 := Lib.hid (HB'.out.trans hB3)
          clear hb3 hB3
          go_wp2_with fail
          go_roundw
          case rel => exact ⟨_, t', by rw [← HY.out], HA'.out, Hb3.out, HB3.out⟩
          case measure => exact hYX

/-! ### labelsOf, Read -/
/-- what labelsOf hands back -/
def OutS (o : Option (List (List UInt8))) (w : World) (e : Ending) (w' : World) : Prop :=
  ∃ v ok L, e = .returned (.tuple #[v, .bool ok]) ∧ w'.ownsRow w.heap.size 9 1 v L.length (textL L) ∧ ((ok = false ∧ o = none) ∨ (ok = true ∧ o = some L)) ∧ Below w.heap.size w w'

set_option maxHeartbeats 2000000 in
theorem labelsText_any (S : ByteArray) (s : List UInt8) (w : World) (hS : S = mk s) (hb : s.length ≤ 1000000) (hw : Wts w) :
    Calls Tryd.prog 23 #[.string S] w (OutS (readL s) w) := by
  have HS := Lib.hid hS
  have HW := Lib.hid hw
  by_cases hr : s = [46]
  · have g1 : (S.toList == [46]) = true := by rw [hS, mk_is, hr]; rfl
    have hrd : readL s = some [] := by unfold readL; rw [if_pos hr]
    rw [hrd]
    clear hS hw hr hrd
    go_enter Tryd.func23, Tryd.ntmps23
    go_wp2_with fail
    go_ret2
    exact ⟨_, _, [], rfl, World.ownsRow_nil _ _ _ _, .inr ⟨rfl, rfl⟩, Below.refl _ _⟩
  · have g1 : (S.toList == [46]) = false := by rw [hS, mk_is]; simpa using hr
    have hrd : readL s = rd [] [] s := by unfold readL; rw [if_neg hr]
    rw [hrd]
    clear hS hw hr hrd
    go_enter Tryd.func23, Tryd.ntmps23
    go_wp2_with fail
    go_loopw [0, 4] (fun u v wr => ∃ (t : List UInt8) (L : List (List UInt8)) (n : Nat), n = L.length ∧ u = .string (mk t) ∧ wr.ownsRow w.heap.size 9 1 v n (textL L) ∧ rd [] [] s = rd L [] t ∧ n + t.length ≤ s.length ∧ Below w.heap.size w wr) (fun u _ _ => strSize u)
    case atStart => exact ⟨s, [], 0, rfl, by rw [← HS.out], World.ownsRow_nil _ _ _ _, rfl, by simp, Below.refl _ _⟩
    case round =>
      obtain ⟨t, L, n, hn, rfl, hown, hrd, hlen, hB⟩ := hrel
      obtain ⟨X, hX⟩ : ∃ X, X = mk t := ⟨_, rfl⟩
      rw [← hX]
      have hn2 : n ≤ 1000000 := by omega
      have HN := Lib.hid hn
      have HO := Lib.hid hown
      have HRD := Lib.hid hrd
      have HB := Lib.hid hB
      have HX := Lib.hid hX
      have HLEN := Lib.hid hlen
      clear hown hrd hB hX hn hlen
      cases t with
      | nil =>
        have g2 : X.toList.isEmpty = true := by rw [HX.out, mk_isEmpty]; rfl
        obtain ⟨A, c, rfl, _⟩ := Sees.own HO.out
        by_cases h0 : n = 0
        · have g3 : ¬ (0 : Int) < (n : Int) := by omega
          have hL : L = [] := List.eq_nil_of_length_eq_zero (by rw [← HN.out]; exact h0)
          have HE := Lib.hid (show rd [] [] s = none by rw [HRD.out, rd_nil, if_pos (.inr hL)])
          clear h0 hL
          go_wp2_with fail
          go_ret2
          exact ⟨_, _, L, by rfl, by rw [← HN.out]; exact HO.out, .inl ⟨by simpa using g3, HE.out⟩, HB.out⟩
        · have g3 : (0 : Int) < (n : Int) := by omega
          have hL : ¬ L = [] := by intro e; rw [e] at HN; exact h0 HN.out
          have HE := Lib.hid (show rd [] [] s = some L by rw [HRD.out, rd_nil, if_neg (by rintro (h | h); exact h rfl; exact hL h)])
          clear h0 hL
          go_wp2_with fail
          go_ret2
          exact ⟨_, _, L, by rfl, by rw [← HN.out]; exact HO.out, .inr ⟨by simpa using g3, HE.out⟩, HB.out⟩
      | cons c r =>
        have g2 : X.toList.isEmpty = false := by rw [HX.out, mk_isEmpty]; rfl
        have hcl : (c :: r).length ≤ 1073741824 := by have := HLEN.out; omega
        have HW1 := Lib.hid (HW.out.below HB.out HW.out.pos)
        go_wp2_with fail
        refine (cutLabel_any X (c :: r) _ HX.out (by simp) hcl HW1.out).mono ?_
        rintro e w1 ⟨⟨x, y, ok, rfl, hO⟩, hB1⟩
        have HO1 := Lib.hid (own_below HO.out hB1)
        have HB1 := Lib.hid (HB.out.trans (hB1.mono HB.out.size))
        clear hB1
        rcases hO with ⟨rfl, a, b, rfl, rfl, hlt, hla, hst⟩ | ⟨rfl, hno⟩
        · have HST := Lib.hid (show rd [] [] s = rd (L ++ [a]) [] b by rw [HRD.out, hst])
          have hYX : (mk b).size < X.size := by rw [HX.out, mk_size, mk_size]; exact hlt
          have hlen2 : n + 1 + b.length ≤ s.length := by have := HLEN.out; omega
          have H63 : Hid (n + 1 ≤ maxLen) := Lib.hid (by unfold maxLen; omega)
          have H47 : Hid ((n + 1) * 16 ≤ 140737488355328) := Lib.hid (by omega)
          obtain ⟨i0, hi0, hz0, hz1, hz2⟩ := info_parts text_info
          obtain ⟨Xa, hXa⟩ : ∃ Xa, Xa = mk a := ⟨_, rfl⟩
          obtain ⟨Y, hY⟩ : ∃ Y, Y = mk b := ⟨_, rfl⟩
          rw [← hXa, ← hY]
          rw [← hY] at hYX
          have HXa := Lib.hid hXa
          have HY := Lib.hid hY
          clear hst hlt hla hXa hY hcl
          go_wp2_with (at_builtin; refine wpList_append_own _ rfl _ _ 28 rfl w.heap.size 9 i0 (.string ⟨#[]⟩) 1 16 Tryd.underlying28 hi0 hz0 hz1 hz2 rfl (by decide) _ _ _ rfl (HO1.out.alloc _) ⟨w1.heap.size, 0, none⟩ 1 1 [.string Xa] rfl rfl (news1 _ _ _) (one1 _ rfl) H63.out H47.out (by have := HB1.out.size; simp; omega) ?_; intro v2 w2 hown2 hgrow _)
          have hown3 : w2.ownsRow w.heap.size 9 1 v2 (n + 1) (textL (L ++ [a])) := by
            rw [textL_snoc, ← HXa.out]; simpa using hown2
          have HO3 := Lib.hid hown3
          have HB2 := Lib.hid ((HB1.out.alloc HB1.out.size _).grown hgrow (by have := HB1.out.size; simp; omega) (fun j hj => (HO1.out.lt j hj).1))
          clear hown2 hown3 hgrow
          go_wp2_with fail
          go_roundw
          case rel => exact ⟨b, L ++ [a], n + 1, by simp [HN.out], by rw [← HY.out], HO3.out, HST.out, hlen2, HB2.out⟩
          case measure => exact hYX
        · have HE := Lib.hid (show rd [] [] s = none by rw [HRD.out, hno])
          clear hno
          go_wp2_with fail
          go_ret2
          exact ⟨_, _, [], rfl, World.ownsRow_nil _ _ _ _, .inl ⟨rfl, HE.out⟩, HB1.out⟩

theorem Read_any (S : ByteArray) (s : List UInt8) (w : World) (hS : S = mk s) (hb : s.length ≤ 100000) (hw : Wts w) :
    Calls Tryd.prog 11 #[.string S] w fun e w' => e = .returned (.tuple #[.string (mk (readN s).1), .int .i64 (readN s).2]) ∧ Below w.heap.size w w' := by
  have HS := Lib.hid hS
  have HW := Lib.hid hw
  have HL := Lib.hid hb
  obtain ⟨O, hO⟩ : ∃ O, O = readN s := ⟨_, rfl⟩
  rw [← hO]
  have HR := Lib.hid hO
  clear hS hw hb hO
  go_enter Tryd.func11, Tryd.ntmps11
  go_wp2_with fail
  refine (labelsText_any S s _ HS.out (by have := HL.out; omega) HW.out).mono ?_
  rintro e w1 ⟨v, ok, L, rfl, hown, hok, hB1⟩
  rcases hok with ⟨rfl, hrd⟩ | ⟨rfl, hrd⟩
  · have hO2 : O = ([], 2) := by rw [HR.out]; unfold readN; rw [hrd]
    subst hO2
    clear hrd
    go_wp2_with fail
    go_ret2
    exact ⟨rfl, hB1⟩
  · have hO2 : O = ofN L := by rw [HR.out]; unfold readN; rw [hrd]
    obtain ⟨h1, h2⟩ := readL_small hrd
    have hx : ∀ y ∈ L, y.length ≤ 100000 := fun y hy => Nat.le_trans (h2 y hy) HL.out
    have hn : L.length ≤ 100000 := by have := HL.out; omega
    obtain ⟨A, c, rfl, hs⟩ := Sees.own hown
    have HX := Lib.hid hx
    have HO2 := Lib.hid hO2
    clear hrd h1 h2 hx hO2 hown
    go_wp2_with fail
    refine (Of_any A L.length c L _ hs hn HX.out).mono ?_
    rw [← HO2.out]
    rintro e w2 ⟨rfl, hB2⟩
    go_wp2_with fail
    go_ret2
    exact ⟨rfl, hB1.trans (hB2.mono hB1.size)⟩
end Go.Proofs.YtpfbieehdkonhaaDoor
