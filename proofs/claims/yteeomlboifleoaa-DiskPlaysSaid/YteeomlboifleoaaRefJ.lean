/- The reference's Rename. No statement of the seat is proved here. -/
import Derived.Test.YteeomlboifleoaaRefI
namespace Go.Proofs.Yteeomlboifleoaa
open Go.RowKit Go.Maps Go.Sort

theorem chgV_ren {a b : ByteArray} {i : Nat} (h : isN a.data.toList = true) : chgV ⟨a.data.toList, b.data.toList, some i⟩ = .agg #[.int .i64 1, .string a, .string b, .int .i64 0] := by
  have hne : a.data.toList ≠ [] := fun e => by have := (isN_len h).1; rw [e] at this; simp at this
  unfold chgV kindC fromC toC fileC
  simp only [if_neg hne]
  rfl
set_option maxHeartbeats 2000000 in
theorem Rename_ref {w : World} {S : St} {k M : Nat} (L : Ls) (q l : Int) (dn : Bool) (h : RAt w L q l dn S) (F : Fit k M S) (hk : k ≤ 90000) (hl : l ≤ 9223372036854775807) (hz : ∀ p ∈ S.names, p.1 ≠ []) (nm to : ByteArray) :
    Calls Try.prog 31 #[rv L q l dn, .string nm, .string to] w fun e w' => ∃ V, e = .returned (.tuple #[V, .int .i64 (renameS S nm.data.toList to.data.toList).2]) ∧ Has V w' (renameS S nm.data.toList to.data.toList).1 ∧ Below w.heap.size w w' := by
  obtain ⟨af, nf, cf, an, nn, cn, as_, ns, cs, ap, np, cp⟩ := L
  have hlo := h.lo
  have hat := at_ref2 _ q l dn (h.same (below2 w (.cells #[.int .i64 q, .slice af nf cf, .slice an nn cn, .slice as_ ns cs, .slice ap np cp, .int .i64 l, .bool dn] 33) (.cells #[.int .i64 0, .slice none 0 0, .slice none 0 0, .slice none 0 0, .slice none 0 0, .int .i64 0, .bool false] 33))) F hk nm
  have HH := Lib.hid h
  have HFF := Lib.hid F
  have HZ := Lib.hid hz
  have hed := h.ed
  have x0 := Lib.hid (new1 w #[.int .i64 q, .slice af nf cf, .slice an nn cn, .slice as_ ns cs, .slice ap np cp, .int .i64 l, .bool dn] #[.int .i64 0, .slice none 0 0, .slice none 0 0, .slice none 0 0, .slice none 0 0, .int .i64 0, .bool false] 33 33)
  have x1 := Lib.hid (new2 w (.cells #[.int .i64 q, .slice af nf cf, .slice an nn cn, .slice as_ ns cs, .slice ap np cp, .int .i64 l, .bool dn] 33) 33 #[.int .i64 0, .slice none 0 0, .slice none 0 0, .slice none 0 0, .slice none 0 0, .int .i64 0, .bool false])
  clear h F hz
  unfold rv
  cases hdn : dn
  · have hdS : S.down = false := by rw [← hed, hdn]
    subst hdn
    cases h1 : isN nm.data.toList
    · have hR : Hid (renameS S nm.data.toList to.data.toList = (S, 1)) := Lib.hid (by
        have e : openS S nm.data.toList (isN nm.data.toList && isN to.data.toList) = (0, 1) := by unfold openS; rw [hdS, h1]; rfl
        unfold renameS; rw [e]; rfl)
      have H1 := Lib.hid h1
      clear hat h1 hdS hed
      go_enter Try.func31, Try.ntmps31
      go_wp2_with fail
      refine Calls.mono (isN_ref _ nm) ?_
      rintro e w1 ⟨rfl, rfl⟩
      rw [H1.out]
      go_wp2_with fail
      refine ret72 rfl rfl rfl rfl (new2 w _ _ _) ?_
      rw [hR.out]
      exact ⟨_, rfl, ⟨⟨af, nf, cf, an, nn, cn, as_, ns, cs, ap, np, cp⟩, q, l, false, rfl, HH.out.same (below2 w _ _)⟩, below2 w _ _⟩
    · cases h2 : isN to.data.toList
      · have hR : Hid (renameS S nm.data.toList to.data.toList = (S, 1)) := Lib.hid (by
          have e : openS S nm.data.toList (isN nm.data.toList && isN to.data.toList) = (0, 1) := by unfold openS; rw [hdS, h1, h2]; rfl
          unfold renameS; rw [e]; rfl)
        have H1 := Lib.hid h1
        have H2 := Lib.hid h2
        clear hat h1 h2 hdS hed
        go_enter Try.func31, Try.ntmps31
        go_wp2_with fail
        refine Calls.mono (isN_ref _ nm) ?_
        rintro e w1 ⟨rfl, rfl⟩
        rw [H1.out]
        go_wp2_with fail
        refine Calls.mono (isN_ref _ to) ?_
        rintro e w1 ⟨rfl, rfl⟩
        rw [H2.out]
        go_wp2_with fail
        refine ret72 rfl rfl rfl rfl (new2 w _ _ _) ?_
        rw [hR.out]
        exact ⟨_, rfl, ⟨⟨af, nf, cf, an, nn, cn, as_, ns, cs, ap, np, cp⟩, q, l, false, rfl, HH.out.same (below2 w _ _)⟩, below2 w _ _⟩
      · have hoe : openS S nm.data.toList (isN nm.data.toList && isN to.data.toList) = openS S nm.data.toList true := by rw [h1, h2]; rfl
        rw [h1] at hat
        have H1 := Lib.hid h1
        have H2 := Lib.hid h2
        by_cases he : (openS S nm.data.toList true).2 = 0
        · obtain ⟨_, _, hf⟩ := openS_ok he
          obtain ⟨i, hi⟩ : ∃ i, i = (openS S nm.data.toList true).1 := ⟨_, rfl⟩
          have hR : Hid (renameS S nm.data.toList to.data.toList = (count (chg S ⟨nm.data.toList, to.data.toList, some i⟩), 0)) := Lib.hid (by unfold renameS; rw [hoe, if_pos he, hi])
          rw [he, ← hi] at hat
          rw [← hi] at hf
          have HFI := Lib.hid hf
          have HAT := Lib.hid hat
          clear hat he hi hf h1 h2 hdS hed hoe
          go_enter Try.func31, Try.ntmps31
          go_wp2_with fail
          refine Calls.mono (isN_ref _ nm) ?_
          rintro e w1 ⟨rfl, rfl⟩
          rw [H1.out]
          go_wp2_with fail
          refine Calls.mono (isN_ref _ to) ?_
          rintro e w1 ⟨rfl, rfl⟩
          rw [H2.out]
          go_wp2_with fail
          refine Calls.mono HAT.out ?_
          rintro e w2 ⟨rfl, hB2⟩
          have X0 := Lib.hid (x0.out.below hB2 (by simp; omega))
          have X1 := Lib.hid (x1.out.below hB2 (by simp))
          have HB2 := Lib.hid ((below2 w _ _).trans (hB2.mono (by simp; omega)))
          have HR2 := Lib.hid (HH.out.same HB2.out)
          obtain ⟨a0, a1, a2, a3, a4, a5, a6⟩ := disk_facts X0.out
          clear hB2
          go_wp2_with fail
          have hch := change_ref ⟨af, nf, cf, an, nn, cn, as_, ns, cs, ap, np, cp⟩ q l false ⟨nm.data.toList, to.data.toList, some i⟩ HR2.out.names HR2.out.pend (Nat.le_trans HFF.out.nn hk) (Nat.le_trans HFF.out.np hk) HZ.out (fun _ j hj => by cases hj; exact HFI.out)
          rw [chgV_ren H1.out] at hch
          refine Calls.mono hch ?_
          rintro e w3 ⟨A3, n3, k3, B3, m3, j3, rfl, hN3, hP3, hB3⟩
          have HA3 := Lib.hid ((HR2.out.same hB3).chg ⟨nm.data.toList, to.data.toList, some i⟩ hN3 hP3)
          have X13 := Lib.hid (X1.out.below hB3 X1.out.lt)
          have HB3 := Lib.hid (HB2.out.trans (hB3.mono HB2.out.size))
          clear hch hN3 hP3 hB3 a0 a1 a2 a3 a4 a5 a6
          go_wp2_with fail
          refine Calls.mono (done_ref _ ⟨af, nf, cf, A3, n3, k3, as_, ns, cs, B3, m3, j3⟩ q l false hl hlo) ?_
          rintro e w4 ⟨rfl, hB4⟩
          have hA4 := (HA3.out.same hB4).done
          have X14 := Lib.hid (X13.out.below hB4 X13.out.lt)
          obtain ⟨⟨d0, d1, d2, d3, d4, d5, d6⟩, e0, e1, e2, e3, e4, e5, e6⟩ := zero_facts X14.out
          obtain ⟨l2, hl2⟩ : ∃ x, x = (rdone l false).1 := ⟨_, rfl⟩
          obtain ⟨b2, hb2⟩ : ∃ x, x = (rdone l false).2 := ⟨_, rfl⟩
          rw [← hl2, ← hb2] at hA4
          rw [← hl2, ← hb2]
          have HA4 := Lib.hid hA4
          have HB4 := Lib.hid (HB3.out.trans (hB4.mono HB3.out.size))
          clear hA4 hB4 hl2 hb2
          unfold rv
          go_wp2_with fail
          refine end72 rfl rfl rfl rfl X14.out HA4.out HB4.out (by omega) fun w3 h3 hB3 => ?_
          rw [hR.out]
          exact ⟨_, rfl, h3, hB3⟩
        · have hR : Hid (renameS S nm.data.toList to.data.toList = (S, (openS S nm.data.toList true).2)) := Lib.hid (by unfold renameS; rw [hoe, if_neg he])
          obtain ⟨i, hi⟩ : ∃ i, i = (openS S nm.data.toList true).1 := ⟨_, rfl⟩
          obtain ⟨n, hn⟩ : ∃ n, n = (openS S nm.data.toList true).2 := ⟨_, rfl⟩
          rw [← hi, ← hn] at hat
          rw [← hn] at he hR
          have HAT := Lib.hid hat
          have he2 : (n == 0) = false := by simpa using he
          clear hat hi hn he h1 h2 hdS hed hoe
          go_enter Try.func31, Try.ntmps31
          go_wp2_with fail
          refine Calls.mono (isN_ref _ nm) ?_
          rintro e w1 ⟨rfl, rfl⟩
          rw [H1.out]
          go_wp2_with fail
          refine Calls.mono (isN_ref _ to) ?_
          rintro e w1 ⟨rfl, rfl⟩
          rw [H2.out]
          go_wp2_with fail
          refine Calls.mono HAT.out ?_
          rintro e w2 ⟨rfl, hB2⟩
          have X0 := Lib.hid (x0.out.below hB2 (by simp; omega))
          have X1 := Lib.hid (x1.out.below hB2 (by simp))
          have HB2 := Lib.hid ((below2 w _ _).trans (hB2.mono (by simp; omega)))
          obtain ⟨a0, a1, a2, a3, a4, a5, a6⟩ := disk_facts X0.out
          obtain ⟨⟨d0, d1, d2, d3, d4, d5, d6⟩, e0, e1, e2, e3, e4, e5, e6⟩ := zero_facts X1.out
          clear hB2
          go_wp2_with fail
          refine end72 rfl rfl rfl rfl X1.out (HH.out.same HB2.out) HB2.out (by omega) fun w3 h3 hB3 => ?_
          rw [hR.out]
          exact ⟨_, rfl, h3, hB3⟩
  · have hdS : S.down = true := by rw [← hed, hdn]
    subst hdn
    have hR : Hid (renameS S nm.data.toList to.data.toList = (S, 5)) := Lib.hid (by
      have e : openS S nm.data.toList (isN nm.data.toList && isN to.data.toList) = (0, 5) := by unfold openS; rw [hdS]; rfl
      unfold renameS; rw [e]; rfl)
    have e5' : openS S nm.data.toList (isN nm.data.toList) = (0, 5) := by unfold openS; rw [hdS]; rfl
    rw [e5'] at hat
    have HAT := Lib.hid hat
    clear hat hdS hed e5'
    go_enter Try.func31, Try.ntmps31
    go_wp2_with fail
    refine Calls.mono HAT.out ?_
    rintro e w2 ⟨rfl, hB2⟩
    have X0 := Lib.hid (x0.out.below hB2 (by simp; omega))
    have X1 := Lib.hid (x1.out.below hB2 (by simp))
    have HB2 := Lib.hid ((below2 w _ _).trans (hB2.mono (by simp; omega)))
    obtain ⟨a0, a1, a2, a3, a4, a5, a6⟩ := disk_facts X0.out
    obtain ⟨⟨d0, d1, d2, d3, d4, d5, d6⟩, e0, e1, e2, e3, e4, e5, e6⟩ := zero_facts X1.out
    clear hB2
    go_wp2_with fail
    refine end72 rfl rfl rfl rfl X1.out (HH.out.same HB2.out) HB2.out (by omega) fun w3 h3 hB3 => ?_
    rw [hR.out]
    exact ⟨_, rfl, h3, hB3⟩
end Go.Proofs.Yteeomlboifleoaa
