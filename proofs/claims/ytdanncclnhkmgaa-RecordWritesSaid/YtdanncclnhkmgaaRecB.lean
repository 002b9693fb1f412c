/- Right, Said, One, Compare of the program. No statement of the seat is proved here. -/
import Derived.Test.YtdanncclnhkmgaaRecA
import Derived.Test.YtdanncclnhkmgaaRdaF
import Derived.Test.YtdanncclnhkmgaaLat
import Derived.Deep.RegionHeld3
import Derived.StillTailTactics
namespace Go.Proofs.Ytdanncclnhkmgaa
open Go.RowKit

theorem rr_later {w : World} {g : Nat} {n d : ByteArray} {t c l : Int} (h : Whole w g rrT (rrA n d t c l)) :
    (∀ q : Later w, q.val.cell? ⟨g, 0, none⟩ = some (.string n)) ∧ (∀ q : Later w, q.val.cell? ⟨g, 1, none⟩ = some (.int .i64 t)) ∧ (∀ q : Later w, q.val.cell? ⟨g, 2, none⟩ = some (.int .i64 c)) ∧ (∀ q : Later w, q.val.cell? ⟨g, 3, none⟩ = some (.int .i64 l)) ∧ (∀ q : Later w, q.val.cell? ⟨g, 4, none⟩ = some (.string d)) :=
  ⟨fun q => (rr_facts (h.later q)).1, fun q => (rr_facts (h.later q)).2.1, fun q => (rr_facts (h.later q)).2.2.1, fun q => (rr_facts (h.later q)).2.2.2.1, fun q => (rr_facts (h.later q)).2.2.2.2⟩
set_option maxHeartbeats 2000000 in
set_option maxRecDepth 20000 in
theorem RRight_any (N D : ByteArray) (r : Rec) (w : World) (hN : N = mk r.n) (hD : D = mk r.d) (hn : r.n.length ≤ 1073741824) (hd : r.d.length ≤ 65535) :
    Calls Try.prog 9 #[.agg (rrA N D r.t r.c r.l)] w fun e w' => e = .returned (.bool (okR r)) ∧ Below w.heap.size w w' := by
  obtain ⟨n, t, c, l, d⟩ := r
  simp only at hN hD hn hd ⊢
  have hok : okR ⟨n, t, c, l, d⟩ = ((nameL n).isSome && isNum t && isNum c && isAge l && rightR (tyd t c d.length) d) := rfl
  have hsz : D.size = d.length := by rw [hD, mk_size]
  have HS := Lib.hid hsz
  have HN := Lib.hid hN
  have HD := Lib.hid hD
  obtain ⟨W, hW⟩ : ∃ W, W = w.alloc (.cells #[.string N, .int .i64 t, .int .i64 c, .int .i64 l, .string D] 23) := ⟨_, rfl⟩
  obtain ⟨g, hg⟩ : ∃ g, g = w.heap.size := ⟨_, rfl⟩
  have hW0 : Whole W g rrT (rrA N D t c l) := by rw [hW, hg]; exact Whole.new w rrT (rrA N D t c l)
  have HB0 := Lib.hid (show Below w.heap.size w W by rw [hW]; exact (Below.refl _ _).alloc (Nat.le_refl _) _)
  have HWW := Lib.hid hW
  have HG := Lib.hid hg
  obtain ⟨d0, d1, d2, d3, d4⟩ := rr_later hW0
  clear hN hD hsz hW0 hW hg
  unfold rrA
  cases h1 : (nameL n).isSome with
  | false =>
    have HO := Lib.hid (show okR ⟨n, t, c, l, d⟩ = false by rw [hok, h1]; simp)
    have H1 := Lib.hid h1
    clear hok h1
    go_enter Try.func9, Try.ntmps9
    go_wp2_with fail
    rw [← HWW.out, ← HG.out]
    refine region_later (by kernel_rfl) ?_
    repeat (go_big_quiet_step ((first
      | (go_at_call 23; refine later_call (v := .bool false) ?_; rw [← H1.out]; exact Right_any N n _ HN.out hn))))
    refine wpQuiet_nil ?_
    rintro _ ⟨q2, rfl⟩
    go_wp2_with fail
    go_ret
    exact ⟨by rw [HO.out]; rfl, HB0.out.trans (q2.below.mono HB0.out.size)⟩
  | true =>
    have H1 := Lib.hid h1
    cases h2 : isNum t with
    | false =>
      have HO := Lib.hid (show okR ⟨n, t, c, l, d⟩ = false by rw [hok, h1, h2]; simp)
      have H2 := Lib.hid h2
      clear hok h2 h1
      go_enter Try.func9, Try.ntmps9
      go_wp2_with fail
      rw [← HWW.out, ← HG.out]
      refine region_later (by kernel_rfl) ?_
      repeat (go_big_quiet_step ((first
        | (go_at_call 23; refine later_call (v := .bool true) ?_; rw [← H1.out]; exact Right_any N n _ HN.out hn)
        | (go_at_call 24; refine later_same (v := .bool false) ?_; rw [← H2.out]; exact isNumber_any t _))))
      refine wpQuiet_nil ?_
      rintro _ ⟨q2, rfl⟩
      go_wp2_with fail
      go_ret
      exact ⟨by rw [HO.out]; rfl, HB0.out.trans (q2.below.mono HB0.out.size)⟩
    | true =>
      have H2 := Lib.hid h2
      cases h3 : isNum c with
      | false =>
        have HO := Lib.hid (show okR ⟨n, t, c, l, d⟩ = false by rw [hok, h1, h2, h3]; simp)
        have H3 := Lib.hid h3
        clear hok h3 h1 h2
        go_enter Try.func9, Try.ntmps9
        go_wp2_with fail
        rw [← HWW.out, ← HG.out]
        refine region_later (by kernel_rfl) ?_
        repeat (go_big_quiet_step ((first
          | (go_at_call 23; refine later_call (v := .bool true) ?_; rw [← H1.out]; exact Right_any N n _ HN.out hn)
          | (go_at_call 24; refine later_same (v := .bool true) ?_; rw [← H2.out]; exact isNumber_any t _)
          | (go_at_call 24; refine later_same (v := .bool false) ?_; rw [← H3.out]; exact isNumber_any c _))))
        refine wpQuiet_nil ?_
        rintro _ ⟨q2, rfl⟩
        go_wp2_with fail
        go_ret
        exact ⟨by rw [HO.out]; rfl, HB0.out.trans (q2.below.mono HB0.out.size)⟩
      | true =>
        have H3 := Lib.hid h3
        cases h4 : isAge l with
        | false =>
          have HO := Lib.hid (show okR ⟨n, t, c, l, d⟩ = false by rw [hok, h1, h2, h3, h4]; simp)
          have H4 := Lib.hid h4
          clear hok h4 h1 h2 h3
          go_enter Try.func9, Try.ntmps9
          go_wp2_with fail
          rw [← HWW.out, ← HG.out]
          refine region_later (by kernel_rfl) ?_
          repeat (go_big_quiet_step ((first
            | (go_at_call 23; refine later_call (v := .bool true) ?_; rw [← H1.out]; exact Right_any N n _ HN.out hn)
            | (go_at_call 24; refine later_same (v := .bool true) ?_; rw [← H2.out]; exact isNumber_any t _)
            | (go_at_call 24; refine later_same (v := .bool true) ?_; rw [← H3.out]; exact isNumber_any c _)
            | (go_at_call 25; refine later_same (v := .bool false) ?_; rw [← H4.out]; exact isTTL_any l _))))
          refine wpQuiet_nil ?_
          rintro _ ⟨q2, rfl⟩
          go_wp2_with fail
          go_ret
          exact ⟨by rw [HO.out]; rfl, HB0.out.trans (q2.below.mono HB0.out.size)⟩
        | true =>
          have H4 := Lib.hid h4
          have HO := Lib.hid (show okR ⟨n, t, c, l, d⟩ = rightR (tyd t c d.length) d by rw [hok, h1, h2, h3, h4]; simp)
          clear hok h1 h2 h3 h4
          go_enter Try.func9, Try.ntmps9
          go_wp2_with fail
          rw [← HWW.out, ← HG.out]
          refine region_later (by kernel_rfl) ?_
          repeat (go_big_quiet_step ((first
            | (go_at_call 23; refine later_call (v := .bool true) ?_; rw [← H1.out]; exact Right_any N n _ HN.out hn)
            | (go_at_call 24; refine later_same (v := .bool true) ?_; rw [← H2.out]; exact isNumber_any t _)
            | (go_at_call 24; refine later_same (v := .bool true) ?_; rw [← H3.out]; exact isNumber_any c _)
            | (go_at_call 25; refine later_same (v := .bool true) ?_; rw [← H4.out]; exact isTTL_any l _)
            | (go_at_call 27; refine later_same (v := .int .i64 (tyd t c d.length)) ?_; rw [← HS.out]; exact typeOf_any t c D.size _)
            | (go_at_call 26; refine later_call (v := .bool (rightR (tyd t c d.length) d)) ?_; exact DRight_any D d _ _ HD.out hd))))
          refine wpQuiet_nil ?_
          rintro _ ⟨q2, rfl⟩
          go_wp2_with fail
          go_ret
          exact ⟨by rw [HO.out]; rfl, HB0.out.trans (q2.below.mono HB0.out.size)⟩

/-! ### Said -/
theorem sees_whole {W : World} {g ty : Nat} {cs : Array Value} (h : Whole W g ty cs) : Sees W (g + 1) (some ⟨g, 0, none⟩) cs.size cs.toList := by
  refine ⟨by simp, fun _ => ⟨g, 0, rfl, by omega, fun j u hu => ?_⟩⟩
  rw [Nat.zero_add, h.cell, ← hu]
  simp
theorem said_or (t : Int) (d : List UInt8) : orS (mk (foldD t d)) (mk d) = mk (saidR t d) := by
  unfold saidR orS
  rw [mk_size]
  cases h : rightR t d with
  | false =>
    have e : foldD t d = [] := by unfold foldD; rw [h]; simp
    rw [e]; simp
  | true =>
    have hl := (fold_right h).2.1
    rw [if_pos rfl]
    by_cases h0 : (foldD t d).length = 0
    · have e1 : foldD t d = [] := List.eq_nil_of_length_eq_zero h0
      have e2 : d = [] := List.eq_nil_of_length_eq_zero (by omega)
      rw [if_pos h0, e1, e2]
    · rw [if_neg h0]

set_option maxHeartbeats 1000000 in
set_option maxRecDepth 20000 in
theorem Said_any (N D : ByteArray) (t c l : Int) (d : List UInt8) (w : World) (hD : D = mk d) (hd : d.length ≤ 65535) :
    Calls Try.prog 11 #[.agg (rrA N D t c l)] w fun e w' => e = .returned (.string (mk (saidR t d))) ∧ Below w.heap.size w w' := by
  have HD := Lib.hid hD
  have hW0 := Whole.new w rrT (rrA N D t c l)
  have hB0 : Below w.heap.size w (w.alloc (.cells (rrA N D t c l) rrT)) := (Below.refl _ _).alloc (Nat.le_refl _) _
  have HW0 := Lib.hid hW0
  have HB0 := Lib.hid hB0
  obtain ⟨c0, c1, c2, c3, c4⟩ := rr_facts hW0
  have HO := Lib.hid (show orS (mk (foldD t d)) D = mk (saidR t d) by rw [hD]; exact said_or t d)
  clear hD hW0 hB0 c0 c2 c3
  unfold rrA at c1 c4 HW0 HB0 ⊢
  obtain ⟨F, hF⟩ : ∃ F, F = mk (foldD t d) := ⟨_, rfl⟩
  rw [← hF] at HO
  have HF := Lib.hid hF
  clear hF
  go_enter Try.func11, Try.ntmps11
  go_wp2_with fail
  go_region_held3 (fun w' => w'.cell? ⟨w.heap.size, 1, none⟩ = some (.int .i64 t) ∧ w'.cell? ⟨w.heap.size, 4, none⟩ = some (.string D)) (go_keep) (first
    | (go_at_call 32; (refine (DFold_any D d t _ HD.out hd).mono ?_; rw [← HF.out]; rintro e w1 ⟨rfl, hB1⟩; have hB1 := (Below.refl _ _).drew.trans hB1; have hw1 := HW0.out.below hB1 HW0.out.lt; have k1 := (rr_facts hw1).2.1; have k4 := (rr_facts hw1).2.2.2.2))
    | (go_at_call 31; (refine (OrS_any _ _ _ F D _ (sees_whole (Whole.new _ _ #[.string F, .string D]))).mono ?_; rintro e w2 ⟨rfl, rfl⟩)))
  all_goals (
    go_wp2_with fail
    go_ret
    exact ⟨by rw [HO.out]; rfl, HB0.out.trans ((hB1.alloc hB1.size _).mono HB0.out.size)⟩)
end Go.Proofs.Ytdanncclnhkmgaa
