/- The reference's Remove, Read, Break. No statement of the seat is proved here. -/
import Derived.Test.YteeomlboifleoaaRefH
namespace Go.Proofs.Yteeomlboifleoaa
open Go.RowKit Go.Maps Go.Sort

theorem RAt.chg {w : World} {L : Ls} {q l : Int} {dn : Bool} {S : St} (h : RAt w L q l dn S) (c : Chg) {A B : Option Addr} {n k m j : Nat} (hn : RowN w 0 (.slice A n k) (c.app S.names)) (hp : RowP w 0 (.slice B m j) (S.pend ++ [c])) :
    RAt w { L with an := A, nn := n, cn := k, ap := B, np := m, cp := j } q l dn (chg S c) :=
  ⟨h.files, hn, h.safe, hp, h.eq, h.el, h.lo, h.ed⟩
set_option maxHeartbeats 1000000 in
theorem Remove_ref {w : World} {S : St} {k M : Nat} (L : Ls) (q l : Int) (dn : Bool) (h : RAt w L q l dn S) (F : Fit k M S) (hk : k ≤ 90000) (hl : l ≤ 9223372036854775807) (hz : ∀ p ∈ S.names, p.1 ≠ []) (nm : ByteArray) :
    Calls Try.prog 32 #[rv L q l dn, .string nm] w fun e w' => ∃ V, e = .returned (.tuple #[V, .int .i64 (removeS S nm.data.toList).2]) ∧ Has V w' (removeS S nm.data.toList).1 ∧ Below w.heap.size w w' := by
  obtain ⟨af, nf, cf, an, nn, cn, as_, ns, cs, ap, np, cp⟩ := L
  have hlo := h.lo
  have hat := at_ref2 _ q l dn (h.same (below2 w (.cells #[.int .i64 q, .slice af nf cf, .slice an nn cn, .slice as_ ns cs, .slice ap np cp, .int .i64 l, .bool dn] 33) (.cells #[.int .i64 0, .slice none 0 0, .slice none 0 0, .slice none 0 0, .slice none 0 0, .int .i64 0, .bool false] 33))) F hk nm
  have HH := Lib.hid h
  have HFF := Lib.hid F
  have HZ := Lib.hid hz
  have x0 := Lib.hid (new1 w #[.int .i64 q, .slice af nf cf, .slice an nn cn, .slice as_ ns cs, .slice ap np cp, .int .i64 l, .bool dn] #[.int .i64 0, .slice none 0 0, .slice none 0 0, .slice none 0 0, .slice none 0 0, .int .i64 0, .bool false] 33 33)
  have x1 := Lib.hid (new2 w (.cells #[.int .i64 q, .slice af nf cf, .slice an nn cn, .slice as_ ns cs, .slice ap np cp, .int .i64 l, .bool dn] 33) 33 #[.int .i64 0, .slice none 0 0, .slice none 0 0, .slice none 0 0, .slice none 0 0, .int .i64 0, .bool false])
  by_cases he : (openS S nm.data.toList (isN nm.data.toList)).2 = 0
  · obtain ⟨i, hi⟩ : ∃ i, i = (openS S nm.data.toList (isN nm.data.toList)).1 := ⟨_, rfl⟩
    have hR : Hid (removeS S nm.data.toList = (count (chg S ⟨nm.data.toList, [], none⟩), 0)) := Lib.hid (by unfold removeS; rw [if_pos he])
    rw [he, ← hi] at hat
    have HAT := Lib.hid hat
    clear h F hat he hi hz
    unfold rv
    go_enter Try.func32, Try.ntmps32
    go_wp2_with fail
    refine Calls.mono HAT.out ?_
    rintro e w2 ⟨rfl, hB2⟩
    have X0 := Lib.hid (x0.out.below hB2 (by simp; omega))
    have X1 := Lib.hid (x1.out.below hB2 (by simp))
    have HB2 := Lib.hid ((below2 w _ _).trans (hB2.mono (by simp; omega)))
    have HR2 := Lib.hid (HH.out.same HB2.out)
    obtain ⟨a0, a1, a2, a3, a4, a5, a6⟩ := disk_facts X0.out
    clear hB2
    go_wp2_with fail
    refine Calls.mono (change_ref ⟨af, nf, cf, an, nn, cn, as_, ns, cs, ap, np, cp⟩ q l dn ⟨nm.data.toList, [], none⟩ HR2.out.names HR2.out.pend (Nat.le_trans HFF.out.nn hk) (Nat.le_trans HFF.out.np hk) HZ.out (fun _ i hi => by cases hi)) ?_
    rintro e w3 ⟨A3, n3, k3, B3, m3, j3, rfl, hN3, hP3, hB3⟩
    have HA3 := Lib.hid ((HR2.out.same hB3).chg ⟨nm.data.toList, [], none⟩ hN3 hP3)
    have X13 := Lib.hid (X1.out.below hB3 X1.out.lt)
    have HB3 := Lib.hid (HB2.out.trans (hB3.mono HB2.out.size))
    clear hN3 hP3 hB3 a0 a1 a2 a3 a4 a5 a6
    go_wp2_with fail
    refine Calls.mono (done_ref _ ⟨af, nf, cf, A3, n3, k3, as_, ns, cs, B3, m3, j3⟩ q l dn hl hlo) ?_
    rintro e w4 ⟨rfl, hB4⟩
    have hA4 := (HA3.out.same hB4).done
    have X14 := Lib.hid (X13.out.below hB4 X13.out.lt)
    obtain ⟨⟨d0, d1, d2, d3, d4, d5, d6⟩, e0, e1, e2, e3, e4, e5, e6⟩ := zero_facts X14.out
    obtain ⟨l2, hl2⟩ : ∃ x, x = (rdone l dn).1 := ⟨_, rfl⟩
    obtain ⟨b2, hb2⟩ : ∃ x, x = (rdone l dn).2 := ⟨_, rfl⟩
    rw [← hl2, ← hb2] at hA4
    rw [← hl2, ← hb2]
    have HA4 := Lib.hid hA4
    have HB4 := Lib.hid (HB3.out.trans (hB4.mono HB3.out.size))
    clear hA4 hB4 hl2 hb2
    unfold rv
    go_wp2_with fail
    refine end72 rfl rfl rfl rfl X14.out HA4.out HB4.out (by omega) fun w3 h3 hB3 => ?_
    rw [hR.out]
    exact ⟨_, rfl, h3, hB3⟩
  · have hR : Hid (removeS S nm.data.toList = (S, (openS S nm.data.toList (isN nm.data.toList)).2)) := Lib.hid (by unfold removeS; rw [if_neg he])
    obtain ⟨i, hi⟩ : ∃ i, i = (openS S nm.data.toList (isN nm.data.toList)).1 := ⟨_, rfl⟩
    obtain ⟨n, hn⟩ : ∃ n, n = (openS S nm.data.toList (isN nm.data.toList)).2 := ⟨_, rfl⟩
    rw [← hi, ← hn] at hat
    rw [← hn] at he hR
    have HAT := Lib.hid hat
    have he2 : (n == 0) = false := by simpa using he
    clear h F hat hi hn he hz
    unfold rv
    go_enter Try.func32, Try.ntmps32
    go_wp2_with fail
    refine Calls.mono HAT.out ?_
    rintro e w2 ⟨rfl, hB2⟩
    have X0 := Lib.hid (x0.out.below hB2 (by simp; omega))
    have X1 := Lib.hid (x1.out.below hB2 (by simp))
    have HB2 := Lib.hid ((below2 w _ _).trans (hB2.mono (by simp; omega)))
    obtain ⟨a0, a1, a2, a3, a4, a5, a6⟩ := disk_facts X0.out
    obtain ⟨⟨d0, d1, d2, d3, d4, d5, d6⟩, e0, e1, e2, e3, e4, e5, e6⟩ := zero_facts X1.out
    clear hB2
    go_wp2_with fail
    refine end72 rfl rfl rfl rfl X1.out (HH.out.same HB2.out) HB2.out (by omega) fun w3 h3 hB3 => ?_
    rw [hR.out]
    exact ⟨_, rfl, h3, hB3⟩
theorem Read_ref {w : World} {S : St} {k M : Nat} (L : Ls) (q l : Int) (dn : Bool) (h : RAt w L q l dn S) (F : Fit k M S) (hk : k ≤ 90000) (nm : ByteArray) :
    Calls Try.prog 35 #[rv L q l dn, .string nm] w fun e w' => e = .returned (.tuple #[.string (strB (readS S nm.data.toList).1), .int .i64 (readS S nm.data.toList).2]) ∧ Below w.heap.size w w' := by
  obtain ⟨af, nf, cf, an, nn, cn, as_, ns, cs, ap, np, cp⟩ := L
  have hB1 : Below w.heap.size w (w.alloc (.cells #[.int .i64 q, .slice af nf cf, .slice an nn cn, .slice as_ ns cs, .slice ap np cp, .int .i64 l, .bool dn] 33)) := (Below.refl _ w).alloc (Nat.le_refl _) _
  have hat := at_ref2 _ q l dn (h.same hB1) F hk nm
  have HH := Lib.hid h
  have HB1 := Lib.hid hB1
  have x0 := Lib.hid (Whole.new w 33 #[.int .i64 q, .slice af nf cf, .slice an nn cn, .slice as_ ns cs, .slice ap np cp, .int .i64 l, .bool dn])
  by_cases he : (openS S nm.data.toList (isN nm.data.toList)).2 = 0
  · obtain ⟨_, _, hf⟩ := openS_ok he
    obtain ⟨i, hi⟩ : ∃ i, i = (openS S nm.data.toList (isN nm.data.toList)).1 := ⟨_, rfl⟩
    rw [← hi] at hf
    have hR : Hid (readS S nm.data.toList = ((fileAt S i).1, 0)) := Lib.hid (by unfold readS; rw [if_pos he, hi])
    rw [he, ← hi] at hat
    have HAT := Lib.hid hat
    have hil := (F.idn _ (findN_mem hf)).1
    have hnf : nf = S.files.length := row_lenG h.files
    have hiI : (i : Int) < (nf : Int) := by omega
    have HIL := Lib.hid hil
    clear h F hat he hf hi hil hnf hB1
    unfold rv
    go_enter Try.func35, Try.ntmps35
    go_wp2_with fail
    refine Calls.mono HAT.out ?_
    rintro e w2 ⟨rfl, hB2⟩
    have X0 := Lib.hid (x0.out.below hB2 (by simp))
    have HB2 := Lib.hid (HB1.out.trans (hB2.mono (by simp)))
    have HR2 := Lib.hid (HH.out.same HB2.out)
    obtain ⟨g, p, rfl, hp, hg, c0, c1⟩ := RowF.at HR2.out.files HIL.out
    have HP := Lib.hid hp
    obtain ⟨z, hz⟩ : ∃ z, z = strB p.1 := ⟨_, rfl⟩
    rw [← hz] at c0
    have HZ := Lib.hid hz
    obtain ⟨a0, a1, a2, a3, a4, a5, a6⟩ := disk_facts X0.out
    clear hB2 hz hp hg
    go_wp2_with fail
    go_ret2
    refine ⟨?_, HB2.out⟩
    have e1 : (fileAt S i) = p := by unfold fileAt; rw [List.getD_eq_getElem?_getD, HP.out]; rfl
    rw [hR.out, e1, ← HZ.out]
    rfl
  · have hR : Hid (readS S nm.data.toList = ([], (openS S nm.data.toList (isN nm.data.toList)).2)) := Lib.hid (by unfold readS; rw [if_neg he])
    obtain ⟨i, hi⟩ : ∃ i, i = (openS S nm.data.toList (isN nm.data.toList)).1 := ⟨_, rfl⟩
    obtain ⟨n, hn⟩ : ∃ n, n = (openS S nm.data.toList (isN nm.data.toList)).2 := ⟨_, rfl⟩
    rw [← hi, ← hn] at hat
    rw [← hn] at he hR
    have HAT := Lib.hid hat
    have he2 : (n == 0) = false := by simpa using he
    clear h F hat hi hn he hB1
    unfold rv
    go_enter Try.func35, Try.ntmps35
    go_wp2_with fail
    refine Calls.mono HAT.out ?_
    rintro e w2 ⟨rfl, hB2⟩
    have HB2 := Lib.hid (HB1.out.trans (hB2.mono (by simp)))
    clear hB2
    go_wp2_with fail
    go_ret2
    exact ⟨by rw [hR.out]; rfl, HB2.out⟩
theorem Break_ref {w : World} {S : St} (L : Ls) (q l : Int) (dn : Bool) (h : RAt w L q l dn S) (n : Int) (hn : 0 ≤ n) :
    Calls Try.prog 33 #[rv L q l dn, .int .i64 n] w fun e w' => ∃ V, e = .returned V ∧ Has V w' (breakS S n).1 ∧ Below w.heap.size w w' := by
  obtain ⟨af, nf, cf, an, nn, cn, as_, ns, cs, ap, np, cp⟩ := L
  have HH := Lib.hid h
  have hdn := h.ed
  clear h
  unfold rv
  by_cases h0 : n = 0
  · subst h0
    have hS : Hid ((breakS S 0).1 = { S with left := 0, down := true }) := Lib.hid rfl
    have HA : Hid (RAt w ⟨af, nf, cf, an, nn, cn, as_, ns, cs, ap, np, cp⟩ q 0 true { S with left := 0, down := true }) := Lib.hid ⟨HH.out.files, HH.out.names, HH.out.safe, HH.out.pend, HH.out.eq, rfl, by decide, rfl⟩
    clear hdn
    cases dn
    all_goals
      go_enter Try.func33, Try.ntmps33
      go_wp2_with fail
      refine ret7 rfl rfl rfl (new2 w _ _ _) ?_
      rw [hS.out]
      exact ⟨_, rfl, ⟨⟨af, nf, cf, an, nn, cn, as_, ns, cs, ap, np, cp⟩, q, 0, true, rfl, HA.out.same (below2 w _ _)⟩, below2 w _ _⟩
  · have hS : Hid ((breakS S n).1 = { S with left := n.toNat }) := Lib.hid (by unfold breakS; rw [if_neg (by omega), if_neg h0])
    have HA : Hid (RAt w ⟨af, nf, cf, an, nn, cn, as_, ns, cs, ap, np, cp⟩ q n dn { S with left := n.toNat }) := Lib.hid ⟨HH.out.files, HH.out.names, HH.out.safe, HH.out.pend, HH.out.eq, rfl, by omega, hdn⟩
    have h1 : (n == 0) = false := by simpa using h0
    clear hdn h0
    cases dn
    all_goals
      go_enter Try.func33, Try.ntmps33
      go_wp2_with fail
      refine ret7 rfl rfl rfl (new2 w _ _ _) ?_
      rw [hS.out]
      exact ⟨_, rfl, ⟨⟨af, nf, cf, an, nn, cn, as_, ns, cs, ap, np, cp⟩, q, n, _, rfl, HA.out.same (below2 w _ _)⟩, below2 w _ _⟩
end Go.Proofs.Yteeomlboifleoaa
