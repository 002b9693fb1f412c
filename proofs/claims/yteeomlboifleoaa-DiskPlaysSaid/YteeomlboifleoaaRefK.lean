/- The reference's Append. No statement of the seat is proved here. -/
import Derived.Test.YteeomlboifleoaaRefJ
import Derived.Deep.RegionHeld3
namespace Go.Proofs.Yteeomlboifleoaa
open Go.RowKit Go.Maps Go.Sort

theorem low0 (w : World) (a b : Obj) : w.heap.size < ((w.alloc a).alloc b).heap.size := by simp; omega
set_option maxHeartbeats 2000000 in
theorem Append_ref1 {w : World} {S : St} {k M : Nat} (L : Ls) (q l : Int) (dn : Bool) (h : RAt w L q l dn S) (F : Fit k M S) (hk : k ≤ 50000) (hM : M ≤ 500000000) (hl : l ≤ 9223372036854775807) (hz : ∀ p ∈ S.names, p.1 ≠ []) (hq : S.quota ≤ 1099511627776 ∧ 0 ≤ S.quota)
    (nm b : ByteArray) (hb : b.size ≤ 500000000) (hfn : S.down = false → isN nm.data.toList = true → ¬ (b.size : Int) > S.quota - (used S : Nat) → findN S.names nm.data.toList ≠ none) :
    Calls Try.prog 28 #[rv L q l dn, .string nm, .string b] w fun e w' => ∃ V, e = .returned (.tuple #[V, .int .i64 (appendS S nm.data.toList b.data.toList).2]) ∧ Has V w' (appendS S nm.data.toList b.data.toList).1 ∧ Below w.heap.size w w' := by
  obtain ⟨af, nf, cf, an, nn, cn, as_, ns, cs, ap, np, cp⟩ := L
  have hlo := h.lo
  have HH := Lib.hid h
  have HFF := Lib.hid F
  have HZ := Lib.hid hz
  have hed := h.ed
  have heq := h.eq
  have x0 := Lib.hid (new1 w #[.int .i64 q, .slice af nf cf, .slice an nn cn, .slice as_ ns cs, .slice ap np cp, .int .i64 l, .bool dn] #[.int .i64 0, .slice none 0 0, .slice none 0 0, .slice none 0 0, .slice none 0 0, .int .i64 0, .bool false] 33 33)
  have x1 := Lib.hid (new2 w (.cells #[.int .i64 q, .slice af nf cf, .slice an nn cn, .slice as_ ns cs, .slice ap np cp, .int .i64 l, .bool dn] 33) 33 #[.int .i64 0, .slice none 0 0, .slice none 0 0, .slice none 0 0, .slice none 0 0, .int .i64 0, .bool false])
  have hu0 := used_le F (by omega) (by omega)
  have hu : (used S : Int) ≤ 1152921504606846976 := by omega
  have hus := Used_ref ⟨af, nf, cf, an, nn, cn, as_, ns, cs, ap, np, cp⟩ q l dn ((HH.out.same (below2 w (.cells #[.int .i64 q, .slice af nf cf, .slice an nn cn, .slice as_ ns cs, .slice ap np cp, .int .i64 l, .bool dn] 33) (.cells #[.int .i64 0, .slice none 0 0, .slice none 0 0, .slice none 0 0, .slice none 0 0, .int .i64 0, .bool false] 33)).drew).names) ((HH.out.same (below2 w (.cells #[.int .i64 q, .slice af nf cf, .slice an nn cn, .slice as_ ns cs, .slice ap np cp, .int .i64 l, .bool dn] 33) (.cells #[.int .i64 0, .slice none 0 0, .slice none 0 0, .slice none 0 0, .slice none 0 0, .int .i64 0, .bool false] 33)).drew).files) (fun p hp => (F.idn p hp).1) (by have := F.nn; omega) hu (by have := F.nf; omega)
  have HUS := Lib.hid hus
  have HM := Lib.hid hM
  have HU := Lib.hid hu
  clear h F hz hus hu0
  unfold rv
  cases hdn : dn
  · have hdS : S.down = false := by rw [← hed, hdn]
    subst hdn
    cases h1 : isN nm.data.toList
    · have hR : Hid (appendS S nm.data.toList b.data.toList = (S, 1)) := Lib.hid (by unfold appendS; rw [hdS, h1]; rfl)
      have H1 := Lib.hid h1
      clear h1 hdS hed hu heq hq hM
      go_enter Try.func28, Try.ntmps28
      go_wp2_with fail
      refine Calls.mono (isN_ref _ nm) ?_
      rintro e w1 ⟨rfl, rfl⟩
      rw [H1.out]
      go_wp2_with fail
      refine ret72 rfl rfl rfl rfl (new2 w _ _ _) ?_
      rw [hR.out]
      exact ⟨_, rfl, ⟨⟨af, nf, cf, an, nn, cn, as_, ns, cs, ap, np, cp⟩, q, l, false, rfl, HH.out.same (below2 w _ _)⟩, below2 w _ _⟩
    · have H1 := Lib.hid h1
      have hq1 := hq.1
      have hq2 := hq.2
      have hun : (0 : Int) ≤ (used S : Nat) := by omega
      have hwr : IntKind.i64.wrap (((used S : Nat) : Int) + (b.size : Int)) = ((used S : Nat) : Int) + (b.size : Int) := wrap_in _ (by omega)
      have h00 := low0 w (.cells #[.int .i64 q, .slice af nf cf, .slice an nn cn, .slice as_ ns cs, .slice ap np cp, .int .i64 l, .bool false] 33) (.cells #[.int .i64 0, .slice none 0 0, .slice none 0 0, .slice none 0 0, .slice none 0 0, .int .i64 0, .bool false] 33)
      obtain ⟨a0, a1, a2, a3, a4, a5, a6⟩ := disk_facts x0.out
      by_cases hfull : (b.size : Int) > S.quota - (used S : Nat)
      · have hR : Hid (appendS S nm.data.toList b.data.toList = (S, 4)) := Lib.hid (by unfold appendS; rw [hdS, h1]; simp only [Bool.false_eq_true, if_false, if_true]; rw [if_pos (by rw [size_len]; exact hfull)])
        have hdec : decide (q < ((used S : Nat) : Int) + (b.size : Int)) = true := by simpa using (by omega : q < ((used S : Nat) : Int) + (b.size : Int))
        have H00 := Lib.hid h00
        have H01 : Hid (w.heap.size + 1 < ((w.alloc (.cells #[.int .i64 q, .slice af nf cf, .slice an nn cn, .slice as_ ns cs, .slice ap np cp, .int .i64 l, .bool false] 33)).alloc (.cells #[.int .i64 0, .slice none 0 0, .slice none 0 0, .slice none 0 0, .slice none 0 0, .int .i64 0, .bool false] 33)).drew.heap.size) := Lib.hid (by simp [World.drew])
        clear h1 hdS hed hu heq hq hM hq1 hq2 hun hfull h00 hfn
        go_enter Try.func28, Try.ntmps28
        go_wp2_with fail
        refine Calls.mono (isN_ref _ nm) ?_
        rintro e w1 ⟨rfl, rfl⟩
        rw [H1.out]
        go_wp2_with fail
        go_region_held3 (fun w' => w'.cell? ⟨w.heap.size, 0, none⟩ = some (.int .i64 q) ∧ w'.cell? ⟨w.heap.size, 1, none⟩ = some (.slice af nf cf) ∧ w'.cell? ⟨w.heap.size, 2, none⟩ = some (.slice an nn cn) ∧ w'.cell? ⟨w.heap.size, 3, none⟩ = some (.slice as_ ns cs) ∧ w'.cell? ⟨w.heap.size, 4, none⟩ = some (.slice ap np cp) ∧ w'.cell? ⟨w.heap.size, 5, none⟩ = some (.int .i64 l) ∧ w'.cell? ⟨w.heap.size, 6, none⟩ = some (.bool false)) (go_keep)
          (first | (go_at_call 36; refine (Calls.mono HUS.out ?_); rintro e w2 ⟨rfl, hB2⟩; have y0 := x0.out.drew.below hB2 H00.out; obtain ⟨b0, b1, b2, b3, b4, b5, b6⟩ := disk_facts y0))
        all_goals
          have X1 := Lib.hid (x1.out.drew.below hB2 H01.out)
          have HB2 := Lib.hid ((below2 w (.cells #[.int .i64 q, .slice af nf cf, .slice an nn cn, .slice as_ ns cs, .slice ap np cp, .int .i64 l, .bool false] 33) (.cells #[.int .i64 0, .slice none 0 0, .slice none 0 0, .slice none 0 0, .slice none 0 0, .int .i64 0, .bool false] 33)).drew.trans (hB2.mono (by simp [World.drew]; omega)))
          obtain ⟨⟨d0, d1, d2, d3, d4, d5, d6⟩, e0, e1, e2, e3, e4, e5, e6⟩ := zero_facts X1.out
          clear hB2 y0
          go_wp2_with fail
          refine end72 rfl rfl rfl rfl X1.out (HH.out.same HB2.out) HB2.out (by omega) fun w3 h3 hB3 => ?_
          rw [hR.out]
          exact ⟨_, rfl, h3, hB3⟩
      · have hdec : decide (q < ((used S : Nat) : Int) + (b.size : Int)) = false := by simpa using (by omega : ((used S : Nat) : Int) + (b.size : Int) ≤ q)
        have H00 := Lib.hid h00
        have H01 : Hid (w.heap.size + 1 < ((w.alloc (.cells #[.int .i64 q, .slice af nf cf, .slice an nn cn, .slice as_ ns cs, .slice ap np cp, .int .i64 l, .bool false] 33)).alloc (.cells #[.int .i64 0, .slice none 0 0, .slice none 0 0, .slice none 0 0, .slice none 0 0, .int .i64 0, .bool false] 33)).drew.heap.size) := Lib.hid (by simp [World.drew])
        obtain ⟨i, hf⟩ : ∃ i, findN S.names nm.data.toList = some i := by
          cases hf : findN S.names nm.data.toList with
          | none => exact absurd hf (hfn hdS h1 hfull)
          | some i => exact ⟨i, rfl⟩
        have hR : Hid (appendS S nm.data.toList b.data.toList = (count (addB S i b.data.toList), 0)) := Lib.hid (by unfold appendS; rw [hdS, h1]; simp only [Bool.false_eq_true, if_false, if_true]; rw [if_neg (by rw [size_len]; exact hfull), hf])
        have hil := (HFF.out.idn _ (findN_mem hf)).1
        have hnf : nf = S.files.length := row_lenG HH.out.files
        have hiI : (i : Int) < (nf : Int) := by omega
        have HIL := Lib.hid hil
        have hFI : Hid (findI S.names nm.data.toList = (i : Nat)) := Lib.hid (by unfold findI; rw [hf])
        have e1' : decide ((i : Int) < 0) = false := by simp
        clear h1 hdS hed hu heq hq hM hq1 hq2 hun hfull h00 hfn hf hil hnf
        go_enter Try.func28, Try.ntmps28
        go_wp2_with fail
        refine Calls.mono (isN_ref _ nm) ?_
        rintro e w1 ⟨rfl, rfl⟩
        rw [H1.out]
        go_wp2_with fail
        go_region_held3 (fun w' => w'.cell? ⟨w.heap.size, 0, none⟩ = some (.int .i64 q) ∧ w'.cell? ⟨w.heap.size, 1, none⟩ = some (.slice af nf cf) ∧ w'.cell? ⟨w.heap.size, 2, none⟩ = some (.slice an nn cn) ∧ w'.cell? ⟨w.heap.size, 3, none⟩ = some (.slice as_ ns cs) ∧ w'.cell? ⟨w.heap.size, 4, none⟩ = some (.slice ap np cp) ∧ w'.cell? ⟨w.heap.size, 5, none⟩ = some (.int .i64 l) ∧ w'.cell? ⟨w.heap.size, 6, none⟩ = some (.bool false)) (go_keep)
          (first | (go_at_call 36; refine (Calls.mono HUS.out ?_); rintro e w2 ⟨rfl, hB2⟩; have y0 := x0.out.drew.below hB2 H00.out; obtain ⟨b0, b1, b2, b3, b4, b5, b6⟩ := disk_facts y0))
        all_goals
          have X0 := Lib.hid y0
          have X1 := Lib.hid (x1.out.drew.below hB2 H01.out)
          have HB2 := Lib.hid ((below2 w (.cells #[.int .i64 q, .slice af nf cf, .slice an nn cn, .slice as_ ns cs, .slice ap np cp, .int .i64 l, .bool false] 33) (.cells #[.int .i64 0, .slice none 0 0, .slice none 0 0, .slice none 0 0, .slice none 0 0, .int .i64 0, .bool false] 33)).drew.trans (hB2.mono (by simp [World.drew]; omega)))
          have HR2 := Lib.hid (HH.out.same HB2.out)
          clear hB2 y0
          go_wp2_with fail
          refine Calls.mono (find_any HR2.out.names (by have := HFF.out.nn; omega) nm) ?_
          rintro e w3 ⟨rfl, rfl⟩
          rw [hFI.out]
          obtain ⟨g, p, rfl, hp, hg, c0, c1⟩ := RowF.at HR2.out.files HIL.out
          obtain ⟨z, hz⟩ : ∃ z, z = strB p.1 := ⟨_, rfl⟩
          rw [← hz] at c0
          have hzl : z.size ≤ 500000000 := by rw [hz, strB_size]; exact Nat.le_trans (HFF.out.fl p (List.mem_of_getElem? hp)).1 HM.out
          have hcat : z.size + b.size ≤ 9223372036854775807 := by omega
          have hcatI : ((z.size : Nat) : Int) + ((b.size : Nat) : Int) ≤ 9223372036854775807 := by omega
          have HZ := Lib.hid hz
          have HP := Lib.hid hp
          have HS2 : Hid (w.heap.size + 1 < w2.heap.size) := Lib.hid X1.out.lt
          clear hz hp hg
          obtain ⟨k0, k1, k2, k3, k4, k5, k6⟩ := disk_facts (X0.out.alloc (.cells #[.string (z ++ b), .int .i64 (p.2 : Nat)] 72))
          go_wp2_with fail
          have hput := put_ref ⟨some ⟨g, 0, none⟩, nf, cf, an, nn, cn, as_, ns, cs, ap, np, cp⟩ q l false (own_below HR2.out.files ((Below.refl _ w2).alloc (Nat.le_refl _) (.cells #[.string (z ++ b), .int .i64 (p.2 : Nat)] 72)) : RowF _ 0 _ S.files) (Nat.le_trans HFF.out.nf (by omega)) i HIL.out (z ++ b) p.2
          refine Calls.mono hput ?_
          rintro e w3 ⟨A3, n3, c3, rfl, hF3, hB3⟩
          have hB23 : Below w2.heap.size w2 w3 := ((Below.refl _ w2).alloc (Nat.le_refl _) _).trans (hB3.mono (by simp))
          have HA3 : Hid (RAt w3 ⟨A3, n3, c3, an, nn, cn, as_, ns, cs, ap, np, cp⟩ q l false (addB S i b.data.toList)) := Lib.hid (by
            have e1 : (fileAt S i) = p := by unfold fileAt; rw [List.getD_eq_getElem?_getD, HP.out]; rfl
            have e3 : (z ++ b).data.toList = p.1 ++ b.data.toList := by rw [ByteArray.data_append, Array.toList_append, HZ.out, strB_list]
            rw [e3] at hF3
            unfold addB
            rw [e1]
            exact (HR2.out.same hB23).put hF3)
          have X13 := Lib.hid (X1.out.below hB23 HS2.out)
          have HB3 := Lib.hid (HB2.out.trans (hB23.mono HB2.out.size))
          clear hput hF3 hB3 hB23 b0 b1 b2 b3 b4 b5 b6 k0 k1 k2 k3 k4 k5 k6 c0 c1
          go_wp2_with fail
          refine Calls.mono (done_ref _ ⟨A3, n3, c3, an, nn, cn, as_, ns, cs, ap, np, cp⟩ q l false hl hlo) ?_
          rintro e w4 ⟨rfl, hB4⟩
          have hA4 := (HA3.out.same hB4).done
          have X14 := Lib.hid (X13.out.below hB4 X13.out.lt)
          obtain ⟨⟨d0, d1, d2, d3, d4, d5, d6⟩, e0, e1, e2, e3, e4, e5, e6⟩ := zero_facts X14.out
          obtain ⟨l2, hl2⟩ : ∃ x, x = (rdone l false).1 := ⟨_, rfl⟩
          obtain ⟨b2, hb2⟩ : ∃ x, x = (rdone l false).2 := ⟨_, rfl⟩
          rw [← hl2, ← hb2] at hA4
          rw [← hl2, ← hb2]
          have HA4 := Lib.hid hA4
          have HB4 := Lib.hid (HB3.out.trans (hB4.mono HB3.out.size))
          clear hA4 hB4 hl2 hb2
          unfold rv
          go_wp2_with fail
          refine end72 rfl rfl rfl rfl X14.out HA4.out HB4.out (by omega) fun w3 h3 hB3 => ?_
          rw [hR.out]
          exact ⟨_, rfl, h3, hB3⟩
  · have hdS : S.down = true := by rw [← hed, hdn]
    subst hdn
    have hR : Hid (appendS S nm.data.toList b.data.toList = (S, 5)) := Lib.hid (by unfold appendS; rw [hdS]; rfl)
    clear hdS hed hu heq hq hM
    go_enter Try.func28, Try.ntmps28
    go_wp2_with fail
    refine ret72 rfl rfl rfl rfl (new2 w _ _ _) ?_
    rw [hR.out]
    exact ⟨_, rfl, ⟨⟨af, nf, cf, an, nn, cn, as_, ns, cs, ap, np, cp⟩, q, l, true, rfl, HH.out.same (below2 w _ _)⟩, below2 w _ _⟩
end Go.Proofs.Yteeomlboifleoaa
