/- What waits stays consistent; the law's comparison of a disk with the reference's. No statement of the seat is proved here. -/
import Derived.Test.YteeomlboifleoaaRefN
namespace Go.Proofs.Yteeomlboifleoaa
open Go.RowKit Go.Maps Go.Sort
set_option linter.unusedVariables false

theorem Cons.of {S T : St} (h : Cons S) (e1 : T.pend = S.pend) (e2 : T.safe = S.safe) : Cons T := by unfold Cons; rw [e1, e2]; exact h
theorem Cons.empty {S : St} (e : S.pend = []) : Cons S := by intro j c hc; rw [e] at hc; simp at hc
theorem Cons.chg {S : St} (h : Cons S) (hr : Re S) (c : Chg) (hc : c.src ≠ [] → ∀ i, c.f = some i → findN S.names c.src = some i) : Cons (Yteeomlboifleoaa.chg S c) := by
  intro j d hd hs i hf
  have hd' : (S.pend ++ [c])[j]? = some d := hd
  show findN (runs ((S.pend ++ [c]).take j) S.safe) d.src = some i
  rcases Nat.lt_or_ge j S.pend.length with hj | hj
  · rw [List.getElem?_append_left hj] at hd'
    rw [List.take_append_of_le_length (Nat.le_of_lt hj)]
    exact h j d hd' hs i hf
  · have hj2 : j = S.pend.length := by
      have h1 : j < (S.pend ++ [c]).length := (List.getElem?_eq_some_iff.1 hd').1
      rw [List.length_append] at h1
      simp at h1
      omega
    subst hj2
    rw [List.getElem?_concat_length] at hd'
    obtain rfl := Option.some.inj hd'
    rw [List.take_left, ← hr]
    exact hc hs i hf
theorem Cons.count {S : St} (h : Cons S) : Cons (Yteeomlboifleoaa.count S) := h.of (count_pend S) (count_safe S)
theorem open_found {S : St} {a : Bys} {ok : Bool} (h : (openS S a ok).2 = 0) : findN S.names a = some (openS S a ok).1 := by
  unfold openS at h ⊢
  split at h
  · exact absurd h (by decide)
  · rename_i hd
    split at h
    · rename_i ho
      rw [if_neg hd, if_pos ho]
      cases hf : findN S.names a with
      | some i => rfl
      | none => rw [hf] at h; exact absurd h (by decide)
    · exact absurd h (by decide)
theorem Cons.doS {S : St} (h : Cons S) (hr : Re S) (c : CallV) : Cons (Yteeomlboifleoaa.doS S c).1 := by
  unfold Yteeomlboifleoaa.doS
  split
  · show Cons (appendS S c.a.data.toList c.b.data.toList).1
    unfold appendS
    split
    · exact h
    split
    · split
      · exact h
      · cases hf : findN S.names c.a.data.toList with
        | some i => exact Cons.count (h.of rfl rfl)
        | none => exact Cons.count (Cons.of (Cons.chg (S := Yteeomlboifleoaa.addF S) (h.of rfl rfl) hr.addF ⟨[], c.a.data.toList, some S.files.length⟩ (fun e => absurd rfl e)) rfl rfl)
    · exact h
  · show Cons (syncS S c.a.data.toList).1
    unfold syncS
    split
    · exact Cons.count (h.of rfl rfl)
    · exact h
  · show Cons (syncDirS S).1
    unfold syncDirS
    split
    · exact h
    · exact Cons.count (Cons.empty rfl)
  · show Cons (renameS S c.a.data.toList c.b.data.toList).1
    unfold renameS
    split
    · rename_i he
      exact Cons.count (h.chg hr _ (fun _ i hi => by rw [← Option.some.inj hi]; exact open_found he))
    · exact h
  · show Cons (removeS S c.a.data.toList).1
    unfold removeS
    split
    · exact Cons.count (h.chg hr _ (fun _ i hi => by cases hi))
    · exact h
  · show Cons (breakS S c.n).1
    unfold breakS
    split
    · exact h
    · split <;> exact h.of rfl rfl
  · show Cons (restartS S c.b.data.toList)
    refine Cons.empty ?_
    show (loses (restart2 S c.b.data.toList) _ _).pend = []
    rw [(loses_names _ _ _).2]
    rfl
  · exact h

theorem live_distinct {B d k M : Nat} {w : World} {S : St} (h : Live B w d k M S) : S.names.Pairwise fun p q => p.1 ≠ q.1 := by
  obtain ⟨m, hm⟩ := h.disk
  exact distinct_of hm.names

set_option maxHeartbeats 4000000 in
set_option maxRecDepth 20000 in
theorem Same_ref {B d k M : Nat} {w : World} {S : St} (L : Ls) (q l : Int) (dn : Bool) (hL : Live B w d k M S) (h : RAt w L q l dn S) (hz : Nz S) (hk : k ≤ 40000) (hM : M ≤ 400000000) :
    Calls Try.prog 14 #[dptr d, rv L q l dn] w fun e w' => e = .returned (.bool true) ∧ Below w.heap.size w w' := by
  obtain ⟨af, nf, cf, an, nn, cn, as_, ns, cs, ap, np, cp⟩ := L
  have hed := h.ed
  have heq := h.eq
  subst hed heq
  obtain ⟨W1, hW1⟩ : ∃ W1, W1 = w.alloc (.cells #[.int .i64 S.quota, .slice af nf cf, .slice an nn cn, .slice as_ ns cs, .slice ap np cp, .int .i64 l, .bool S.down] 33) := ⟨_, rfl⟩
  have x0 : Whole W1 w.heap.size 33 #[.int .i64 S.quota, .slice af nf cf, .slice an nn cn, .slice as_ ns cs, .slice ap np cp, .int .i64 l, .bool S.down] := by rw [hW1]; exact Whole.new _ _ _
  have hB1 : Below w.heap.size w W1 := by rw [hW1]; exact (Below.refl _ w).alloc (Nat.le_refl _) _
  have HL1 := Lib.hid (hL.same hB1)
  have HR1 := Lib.hid (h.same hB1)
  have HB1 := Lib.hid hB1
  have X0 := Lib.hid x0
  have HW1 := Lib.hid hW1
  have HNZ := Lib.hid (hz.names hL.fit hL.re)
  have HFT := Lib.hid hL.fit
  have HDI := Lib.hid (live_distinct hL)
  have hlist := Lib.hid (List_any HL1.out.disk HL1.out.fit (by omega))
  have hu0 := used_le HFT.out (by omega) (by omega)
  have hu : (used S : Int) ≤ 1152921504606846976 := by omega
  have HU := Lib.hid hu
  have hnl : nn = S.names.length := row_lenG h.names
  have hfl : nf = S.files.length := row_lenG h.files
  have HNL := Lib.hid hnl
  have HFL := Lib.hid hfl
  clear hW1 x0 hB1 hL h hz hu0 hu hnl hfl
  unfold rv
  go_enter Try.func14, Try.ntmps14
  go_wp2_with (go_at_call 17; rw [← HW1.out]; refine Calls.mono hlist.out ?_; rintro e w2 ⟨v, rfl, hrow, hB2⟩)
  have hB2d : Below W1.heap.size W1 w2.drew := ⟨hB2.os, hB2.tape, hB2.output, hB2.size, hB2.block⟩
  have HX2 := Lib.hid (X0.out.below hB2 X0.out.lt)
  have HL2 := Lib.hid (HL1.out.same hB2d)
  have HR2 := Lib.hid (HR1.out.same hB2d)
  have HB2 := Lib.hid (HB1.out.trans (hB2d.mono HB1.out.size))
  obtain ⟨Al, nl, cl, rfl⟩ : ∃ A n c, v = .slice A n c := by rcases hrow.2 with ⟨e, _⟩ | ⟨_, _, _, e, _⟩ <;> exact ⟨_, _, _, e⟩
  have HNLL := Lib.hid (row_len hrow)
  have HROW : Hid (w2.drew.ownsRow 0 9 1 (.slice Al nl cl) (listL S).length ((listL S).map Go.Proofs.encStr)) := Lib.hid (own_base hrow (Nat.zero_le _))
  have l2 := HX2.out.lt
  obtain ⟨a0, a1, a2, a3, a4, a5, a6⟩ := disk_facts HX2.out
  have hdw := Lib.hid (live_Down HL2.out)
  have hus := Lib.hid (live_Used HL2.out (by omega) (by omega))
  have hself : (S.down != S.down) = false := by simp
  have HX1 := HX2
  clear hB2 hB2d hrow hlist HX2
  go_region_held3 (fun w' => w'.cell? ⟨w.heap.size, 0, none⟩ = some (.int .i64 S.quota) ∧ w'.cell? ⟨w.heap.size, 1, none⟩ = some (.slice af nf cf) ∧ w'.cell? ⟨w.heap.size, 2, none⟩ = some (.slice an nn cn) ∧ w'.cell? ⟨w.heap.size, 3, none⟩ = some (.slice as_ ns cs) ∧ w'.cell? ⟨w.heap.size, 4, none⟩ = some (.slice ap np cp) ∧ w'.cell? ⟨w.heap.size, 5, none⟩ = some (.int .i64 l) ∧ w'.cell? ⟨w.heap.size, 6, none⟩ = some (.bool S.down)) (go_keep)
    (first
      | (go_at_call 15; refine (Calls.mono hdw.out ?_); rintro e w3 ⟨rfl, rfl⟩)
      | (go_at_call 24; refine (Calls.mono hus.out ?_); rintro e w3 ⟨rfl, hB3⟩; have y3 := (HX1.out.drew).below hB3 HX1.out.lt; obtain ⟨b0, b1, b2, b3, b4, b5, b6⟩ := disk_facts y3)
      | (go_at_call 36; refine (Calls.mono (Used_ref ⟨af, nf, cf, an, nn, cn, as_, ns, cs, ap, np, cp⟩ S.quota l S.down (HR2.out.same hB3).names (HR2.out.same hB3).files (fun p hp => (HFT.out.idn p hp).1) (by have := HFT.out.nn; omega) HU.out (by have := HFT.out.nf; omega)) ?_); rintro e w4 ⟨rfl, hB4⟩; have y4 := y3.below hB4 y3.lt; obtain ⟨q0, q1, q2, q3, q4, q5, q6⟩ := disk_facts y4)
      | (go_at_call 25; refine (Calls.mono (live_Quota ((HL2.out.same hB3).same hB4)) ?_); rintro e w5 ⟨rfl, rfl⟩))
  all_goals
    have HL4 := Lib.hid ((HL2.out.same hB3).same hB4)
    have HR4 := Lib.hid ((HR2.out.same hB3).same hB4)
    have HB34 : Below w2.drew.heap.size w2.drew w4 := hB3.trans (hB4.mono hB3.size)
    have HB4 := Lib.hid (HB2.out.trans (HB34.mono HB2.out.size))
    have HRO4 := Lib.hid (own_below HROW.out HB34)
    have Y4 := Lib.hid y4
    clear hB3 hB4 HB34 y3 y4 hdw hus hself HL2 HR2 HB2 HROW HX1 l2 a0 a1 a2 a3 a4 a5 a6 b0 b1 b2 b3 b4 b5 b6
    cases hdn : S.down
    · have hE : listE S = 0 := by unfold listE; rw [hdn]; rfl
      have hLL : listL S = S.names.map (·.1) := by unfold listL; rw [hdn]; rfl
      obtain rfl : nl = nn := by rw [HNLL.out, hLL, HNL.out]; simp
      rw [hLL] at HRO4
      rw [hdn] at q6
      rw [hE]
      have HDN := Lib.hid hdn
      clear hE hLL hdn
      go_wp2_with fail
      clear q0 q1 q2 q3 q4 q5 q6
      have hnb : nl ≤ 50000 := by have := HNL.out; have := HFT.out.nn; omega
      go_loopw [7] (fun i wr => ∃ j : Nat, j ≤ nl ∧ i = .int .i64 j ∧ Below w4.heap.size w4 wr) (fun i _ => nl - (intOf i).toNat)
      case atStart => exact ⟨0, Nat.zero_le _, rfl, Below.refl _ _⟩
      case round =>
        obtain ⟨j, hj, rfl, hBr⟩ := hrel
        have HBr := Lib.hid hBr
        have HLr := Lib.hid (HL4.out.same hBr)
        have HRr := Lib.hid (HR4.out.same hBr)
        have HYr := Lib.hid (Y4.out.below hBr Y4.out.lt)
        have HROr := Lib.hid (own_below HRO4.out hBr)
        clear hBr
        by_cases hlt : j < nl
        · have hjn : j < S.names.length := by have := HNL.out; omega
          obtain ⟨g1, p, hA, hp, hg1, n0, n1⟩ := RowN.at HRr.out.names hjn
          obtain ⟨g, hA2, x, hx, cx⟩ := row_at HROr.out (j := j) (by simpa using hjn)
          have hfl := (HFT.out.idn p (List.mem_of_getElem? hp)).1
          have hnl64 := (HFT.out.idn p (List.mem_of_getElem? hp)).2
          obtain ⟨g2, y, hA3, hy, hg2, f0, f1⟩ := RowF.at HRr.out.files hfl
          subst hA hA2 hA3
          obtain rfl : x = p.1 := by rw [List.getElem?_map, hp] at hx; exact (Option.some.inj hx).symm
          have hfind : findN S.names p.1 = some p.2 := find_mem HDI.out (List.mem_of_getElem? hp)
          have hisN : isN p.1 = true := by
            have h1 := HNZ.out p (List.mem_of_getElem? hp)
            have h2 : 1 ≤ p.1.length := by
              rcases Nat.eq_zero_or_pos p.1.length with h | h
              · exact absurd (List.eq_nil_of_length_eq_zero h) h1
              · exact h
            unfold isN
            simp only [Bool.and_eq_true, decide_eq_true_eq]
            exact ⟨h2, hnl64⟩
          have hfa : fileAt S p.2 = y := by unfold fileAt; rw [List.getD_eq_getElem?_getD, hy]; rfl
          have hrd : readS S p.1 = (y.1, 0) := by rw [read_there HDN.out hisN hfind, hfa]
          have hcall := live_Read HLr.out (strB p.1)
          rw [strB_list, hrd] at hcall
          have HCALL := Lib.hid hcall
          have hjI : (j : Int) < (nl : Int) := by omega
          have hfI : ((p.2 : Nat) : Int) < (nf : Int) := by have := HFL.out; omega
          have hbz : (⟨y.1.toArray⟩ : ByteArray) = strB y.1 := rfl
          obtain ⟨f, hf⟩ : ∃ f, f = p.2 := ⟨_, rfl⟩
          obtain ⟨z, hz⟩ : ∃ z, z = strB p.1 := ⟨_, rfl⟩
          obtain ⟨b, hb⟩ : ∃ b, b = strB y.1 := ⟨_, rfl⟩
          rw [← hf] at n1 f0 hfI
          rw [← hz] at n0 cx HCALL
          rw [← hb] at f0
          have HCB : Hid (Calls Try.prog 18 #[dptr d, .string z] wr fun e w' => e = .returned (.tuple #[.string b, .int .i64 0]) ∧ Below wr.heap.size wr w') := Lib.hid (by rw [hb]; exact HCALL.out)
          clear hf hz hb hbz hcall HCALL hrd hfa hisN hfind hx hp hy hfl hnl64 hjn hg1 hg2 f1
          go_wp2_with fail
          refine Calls.mono HCB.out ?_
          rintro e w5 ⟨rfl, hB5⟩
          have cx5 := (hB5.cell (p := ⟨g, j, none⟩) (block_lt_of_cell cx)).trans cx
          have n05 := (hB5.cell (p := ⟨g1, j * 2, none⟩) (block_lt_of_cell n0)).trans n0
          have n15 := (hB5.cell (p := ⟨g1, j * 2 + 1, none⟩) (block_lt_of_cell n1)).trans n1
          have f05 := (hB5.cell (p := ⟨g2, f * 2, none⟩) (block_lt_of_cell f0)).trans f0
          obtain ⟨q0, q1, q2, q3, q4, q5, q6⟩ := disk_facts (HYr.out.below hB5 HYr.out.lt)
          have HB5 := Lib.hid (HBr.out.trans (hB5.mono HBr.out.size))
          clear hB5 cx n0 n1 f0 q0 q3 q4 q5 q6
          go_wp2_with fail
          go_quiet (fail)
          go_wp2_with fail
          go_roundw
          case rel => exact ⟨j + 1, by omega, by go_num, below_drewN HB5.out _⟩
          case measure => simp [intOf]; omega
        · obtain rfl : j = nl := by omega
          go_wp2_with fail
          go_ret
          exact ⟨rfl, HB4.out.trans (HBr.out.mono HB4.out.size)⟩
    · have hE : listE S = 5 := by unfold listE; rw [hdn]; rfl
      have hLL : listL S = [] := by unfold listL; rw [hdn]; rfl
      obtain rfl : nl = 0 := by rw [HNLL.out, hLL]; rfl
      rw [hdn] at q6
      rw [hE]
      clear hE hLL hdn
      go_wp2_with fail
      go_ret
      exact ⟨rfl, HB4.out⟩
end Go.Proofs.Yteeomlboifleoaa
