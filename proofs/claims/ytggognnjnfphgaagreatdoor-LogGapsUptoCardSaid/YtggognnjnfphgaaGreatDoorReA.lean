/- ReA: texts RecA, RecB of our own, joined. No statement of the seat is proved here. -/
import Derived.Test.YtggognnjnfphgaaGreatDoorReM
import Derived.Test.YtggognnjnfphgaaGreatDoorPaC
import Derived.Test.YtggognnjnfphgaaGreatDoorNaE
import Derived.Test.YtggognnjnfphgaaGreatDoorNaA
import Derived.Lib.Bytealg
import Derived.Test.YtggognnjnfphgaaGreatDoorRdB
import Derived.Test.YtggognnjnfphgaaGreatDoorOcA
import Derived.Deep.RegionHeld3
import Derived.StillTailTactics
namespace Go.Proofs.YtggognnjnfphgaaGreatDoor
open Go.RowKit Go.Op

abbrev rrT : TypeId := 76
def rrA (n d : ByteArray) (t c l : Int) : Array Value := #[.string n, .int .i64 t, .int .i64 c, .int .i64 l, .string d]

theorem isNumber_any (n : Int) (w : World) : Calls Tryz.prog 144 #[.int .i64 n] w fun e w' => e = .returned (.bool (isNum n)) ∧ w = w' := by
  by_cases h1 : 0 ≤ n
  · by_cases h2 : n ≤ 65535
    · have HE := Lib.hid (show isNum n = true by unfold isNum; simp [h1, h2])
      go_enter Tryz.func144, Tryz.ntmps144
      go_wp2_with fail
      go_ret
      exact ⟨by rw [HE.out]; rfl, rfl⟩
    · have HE := Lib.hid (show isNum n = false by unfold isNum; simp [h2])
      have g2 : decide (n ≤ 65535) = false := by rw [decide_eq_false_iff_not]; omega
      clear h2
      go_enter Tryz.func144, Tryz.ntmps144
      go_wp2_with fail
      go_ret
      exact ⟨by rw [HE.out]; rfl, rfl⟩
  · have HE := Lib.hid (show isNum n = false by unfold isNum; simp [h1])
    have g2 : decide (0 ≤ n) = false := by rw [decide_eq_false_iff_not]; omega
    clear h1
    go_enter Tryz.func144, Tryz.ntmps144
    go_wp2_with fail
    go_ret
    exact ⟨by rw [HE.out]; rfl, rfl⟩
theorem isTTL_any (n : Int) (w : World) : Calls Tryz.prog 145 #[.int .i64 n] w fun e w' => e = .returned (.bool (isAge n)) ∧ w = w' := by
  by_cases h1 : 0 ≤ n
  · by_cases h2 : n ≤ 2147483647
    · have HE := Lib.hid (show isAge n = true by unfold isAge; simp [h1, h2])
      go_enter Tryz.func145, Tryz.ntmps145
      go_wp2_with fail
      go_ret
      exact ⟨by rw [HE.out]; rfl, rfl⟩
    · have HE := Lib.hid (show isAge n = false by unfold isAge; simp [h2])
      have g2 : decide (n ≤ 2147483647) = false := by rw [decide_eq_false_iff_not]; omega
      clear h2
      go_enter Tryz.func145, Tryz.ntmps145
      go_wp2_with fail
      go_ret
      exact ⟨by rw [HE.out]; rfl, rfl⟩
  · have HE := Lib.hid (show isAge n = false by unfold isAge; simp [h1])
    have g2 : decide (0 ≤ n) = false := by rw [decide_eq_false_iff_not]; omega
    clear h1
    go_enter Tryz.func145, Tryz.ntmps145
    go_wp2_with fail
    go_ret
    exact ⟨by rw [HE.out]; rfl, rfl⟩
theorem typeOf_any (t c : Int) (k : Nat) (w : World) : Calls Tryz.prog 147 #[.int .i64 t, .int .i64 c, .int .i64 (k : Nat)] w fun e w' => e = .returned (.int .i64 (tyd t c k)) ∧ w = w' := by
  by_cases h1 : c = 1
  · have HE := Lib.hid (show tyd t c k = t by unfold tyd; rw [if_pos (.inl h1)])
    have g1 : (c == 1) = true := by rw [h1]; rfl
    clear h1
    go_enter Tryz.func147, Tryz.ntmps147
    go_wp2_with fail
    go_ret
    exact ⟨by rw [HE.out]; rfl, rfl⟩
  · have g1 : (c == 1) = false := by rw [beq_eq_false_iff_ne]; exact h1
    by_cases h2 : c = 254
    · have g2 : (c == 254) = true := by rw [h2]; rfl
      by_cases h3 : 0 < k
      · have HE := Lib.hid (show tyd t c k = t by unfold tyd; rw [if_pos (.inr ⟨h2, h3⟩)])
        have g3 : decide (0 < k) = true := by simp [h3]
        clear h1 h2 h3
        go_enter Tryz.func147, Tryz.ntmps147
        go_wp2_with fail
        go_ret
        exact ⟨by rw [HE.out]; rfl, rfl⟩
      · have HE := Lib.hid (show tyd t c k = 0 by unfold tyd; rw [if_neg (by omega)])
        have g3 : decide (0 < k) = false := by simp [h3]
        clear h1 h2 h3
        go_enter Tryz.func147, Tryz.ntmps147
        go_wp2_with fail
        go_ret
        exact ⟨by rw [HE.out]; rfl, rfl⟩
    · have HE := Lib.hid (show tyd t c k = 0 by unfold tyd; rw [if_neg (by omega)])
      have g2 : (c == 254) = false := by rw [beq_eq_false_iff_ne]; exact h2
      clear h1 h2
      go_enter Tryz.func147, Tryz.ntmps147
      go_wp2_with fail
      go_ret
      exact ⟨by rw [HE.out]; rfl, rfl⟩

/-- a record in a block of its own -/
theorem rr_facts {w : World} {g : Nat} {n d : ByteArray} {t c l : Int} (h : Whole w g rrT (rrA n d t c l)) :
    w.cell? ⟨g, 0, none⟩ = some (.string n) ∧ w.cell? ⟨g, 1, none⟩ = some (.int .i64 t) ∧ w.cell? ⟨g, 2, none⟩ = some (.int .i64 c) ∧ w.cell? ⟨g, 3, none⟩ = some (.int .i64 l) ∧ w.cell? ⟨g, 4, none⟩ = some (.string d) :=
  ⟨h.cell 0, h.cell 1, h.cell 2, h.cell 3, h.cell 4⟩


/-! ### cmp.Or, cmp.Compare, strings.Compare -/
def orS (x y : ByteArray) : ByteArray := if x.size = 0 then y else x
set_option maxHeartbeats 1000000 in
theorem Or3_any (A : Option Addr) (cA B : Nat) (x y z : Int) (w : World) (h : Sees w B A 3 (ints .i64 [x, y, z])) :
    Calls Tryz.prog 175 #[.slice A 3 cA] w fun e w' => e = .returned (.int .i64 (orI x (orI y z))) ∧ w = w' := by
  obtain ⟨b, off, rfl, _, hc⟩ := h.addr (by decide)
  have c0 : w.cell? ⟨b, off, none⟩ = some (.int .i64 x) := hc 0 _ rfl
  have c1 : w.cell? ⟨b, off + 1, none⟩ = some (.int .i64 y) := hc 1 _ rfl
  have c2 : w.cell? ⟨b, off + 2, none⟩ = some (.int .i64 z) := hc 2 _ rfl
  clear hc h
  by_cases hx : x = 0
  · subst hx
    have e0 : orI 0 (orI y z) = orI y z := by unfold orI; rw [if_pos rfl]
    rw [e0]
    clear e0
    by_cases hy : y = 0
    · subst hy
      have e0 : orI 0 z = z := by unfold orI; rw [if_pos rfl]
      rw [e0]
      clear e0
      by_cases hz : z = 0
      · subst hz
        go_enter Tryz.func175, Tryz.ntmps175
        go_wp2_with fail
        refine wp_loop_rounds 5 ?_
        rw [rounds_succ]
        go_wp2_with fail
        rw [rounds_succ]
        go_wp2_with fail
        rw [rounds_succ]
        go_wp2_with fail
        rw [rounds_succ]
        go_wp2_with fail
        go_ret
        exact ⟨rfl, rfl⟩
      · have gz : (z == 0) = false := by rw [beq_eq_false_iff_ne]; exact hz
        go_enter Tryz.func175, Tryz.ntmps175
        go_wp2_with fail
        refine wp_loop_rounds 5 ?_
        rw [rounds_succ]
        go_wp2_with fail
        rw [rounds_succ]
        go_wp2_with fail
        rw [rounds_succ]
        go_wp2_with fail
        go_ret
        exact ⟨rfl, rfl⟩
    · have gy : (y == 0) = false := by rw [beq_eq_false_iff_ne]; exact hy
      have e0 : orI y z = y := by unfold orI; rw [if_neg hy]
      rw [e0]
      clear e0
      go_enter Tryz.func175, Tryz.ntmps175
      go_wp2_with fail
      refine wp_loop_rounds 5 ?_
      rw [rounds_succ]
      go_wp2_with fail
      rw [rounds_succ]
      go_wp2_with fail
      go_ret
      exact ⟨rfl, rfl⟩
  · have gx : (x == 0) = false := by rw [beq_eq_false_iff_ne]; exact hx
    have e0 : orI x (orI y z) = x := by unfold orI; rw [if_neg hx]
    rw [e0]
    clear e0
    go_enter Tryz.func175, Tryz.ntmps175
    go_wp2_with fail
    refine wp_loop_rounds 5 ?_
    rw [rounds_succ]
    go_wp2_with fail
    go_ret
    exact ⟨rfl, rfl⟩

theorem compareBytes_is : ∀ (a b : List UInt8), Lib.compareBytes a b = cmpB a b
  | [], [] => rfl
  | [], _ :: _ => rfl
  | _ :: _, [] => rfl
  | a :: x, b :: y => by
    rw [Lib.compareBytes]
    have ih := compareBytes_is x y
    by_cases h1 : a < b
    · have g : bytesLess (a :: x) (b :: y) = true := (less_cons _ _ _ _).2 (.inl (UInt8.lt_iff_toNat_lt.1 h1))
      rw [if_pos h1]
      unfold cmpB
      rw [if_pos g]
    · by_cases h2 : b < a
      · have h2' := UInt8.lt_iff_toNat_lt.1 h2
        have g : ¬ (bytesLess (a :: x) (b :: y) = true) := fun h => by
          rcases (less_cons _ _ _ _).1 h with h | ⟨rfl, _⟩ <;> omega
        have k : bytesLess (b :: y) (a :: x) = true := (less_cons _ _ _ _).2 (.inl h2')
        rw [if_neg h1, if_pos h2]
        unfold cmpB
        rw [if_neg g, if_pos k]
      · have e : a = b := UInt8.toNat_inj.1 (by
          have := mt UInt8.lt_iff_toNat_lt.2 h1
          have := mt UInt8.lt_iff_toNat_lt.2 h2
          omega)
        subst e
        have hx : ∀ u v, bytesLess (a :: u) (a :: v) = bytesLess u v := fun u v => by
          rw [Bool.eq_iff_iff, less_cons]
          constructor
          · rintro (h | ⟨_, h⟩)
            · omega
            · exact h
          · exact fun h => .inr ⟨rfl, h⟩
        rw [if_neg h1, if_neg h2, ih]
        unfold cmpB
        rw [hx, hx]
end Go.Proofs.YtggognnjnfphgaaGreatDoor
namespace Go.Proofs.YtggognnjnfphgaaGreatDoor
open Go.RowKit

theorem rr_later {w : World} {g : Nat} {n d : ByteArray} {t c l : Int} (h : Whole w g rrT (rrA n d t c l)) :
    (∀ q : Later w, q.val.cell? ⟨g, 0, none⟩ = some (.string n)) ∧ (∀ q : Later w, q.val.cell? ⟨g, 1, none⟩ = some (.int .i64 t)) ∧ (∀ q : Later w, q.val.cell? ⟨g, 2, none⟩ = some (.int .i64 c)) ∧ (∀ q : Later w, q.val.cell? ⟨g, 3, none⟩ = some (.int .i64 l)) ∧ (∀ q : Later w, q.val.cell? ⟨g, 4, none⟩ = some (.string d)) :=
  ⟨fun q => (rr_facts (h.later q)).1, fun q => (rr_facts (h.later q)).2.1, fun q => (rr_facts (h.later q)).2.2.1, fun q => (rr_facts (h.later q)).2.2.2.1, fun q => (rr_facts (h.later q)).2.2.2.2⟩
set_option maxHeartbeats 2000000 in
set_option maxRecDepth 20000 in
theorem RRight_any (N D : ByteArray) (r : Rec) (w : World) (hN : N = mk r.n) (hD : D = mk r.d) (hn : r.n.length ≤ 1073741824) (hd : r.d.length ≤ 65535) :
    Calls Tryz.prog 118 #[.agg (rrA N D r.t r.c r.l)] w fun e w' => e = .returned (.bool (okR r)) ∧ Below w.heap.size w w' := by
  obtain ⟨n, t, c, l, d⟩ := r
  simp only at hN hD hn hd ⊢
  have hok : okR ⟨n, t, c, l, d⟩ = ((nameL n).isSome && isNum t && isNum c && isAge l && rightR (tyd t c d.length) d) := rfl
  have hsz : D.size = d.length := by rw [hD, mk_size]
  have HS := Lib.hid hsz
  have HN := Lib.hid hN
  have HD := Lib.hid hD
  obtain ⟨W, hW⟩ : ∃ W, W = w.alloc (.cells #[.string N, .int .i64 t, .int .i64 c, .int .i64 l, .string D] 76) := ⟨_, rfl⟩
  obtain ⟨g, hg⟩ : ∃ g, g = w.heap.size := ⟨_, rfl⟩
  have hW0 : Whole W g rrT (rrA N D t c l) := by rw [hW, hg]; exact Whole.new w rrT (rrA N D t c l)
  have HB0 := Lib.hid (show Below w.heap.size w W by rw [hW]; exact (Below.refl _ _).alloc (Nat.le_refl _) _)
  have HWW := Lib.hid hW
  have HG := Lib.hid hg
  obtain ⟨d0, d1, d2, d3, d4⟩ := rr_later hW0
  clear hN hD hsz hW0 hW hg
  unfold rrA
  cases h1 : (nameL n).isSome with
  | false =>
    have HO := Lib.hid (show okR ⟨n, t, c, l, d⟩ = false by rw [hok, h1]; simp)
    have H1 := Lib.hid h1
    clear hok h1
    go_enter Tryz.func118, Tryz.ntmps118
    go_wp2_with fail
    rw [← HWW.out, ← HG.out]
    refine region_later (by kernel_rfl) ?_
    repeat (go_big_quiet_step ((first
      | (go_at_call 143; refine later_call (v := .bool false) ?_; rw [← H1.out]; exact Right_any N n _ HN.out hn))))
    refine wpQuiet_nil ?_
    rintro _ ⟨q2, rfl⟩
    go_wp2_with fail
    go_ret
    exact ⟨by rw [HO.out]; rfl, HB0.out.trans (q2.below.mono HB0.out.size)⟩
  | true =>
    have H1 := Lib.hid h1
    cases h2 : isNum t with
    | false =>
      have HO := Lib.hid (show okR ⟨n, t, c, l, d⟩ = false by rw [hok, h1, h2]; simp)
      have H2 := Lib.hid h2
      clear hok h2 h1
      go_enter Tryz.func118, Tryz.ntmps118
      go_wp2_with fail
      rw [← HWW.out, ← HG.out]
      refine region_later (by kernel_rfl) ?_
      repeat (go_big_quiet_step ((first
        | (go_at_call 143; refine later_call (v := .bool true) ?_; rw [← H1.out]; exact Right_any N n _ HN.out hn)
        | (go_at_call 144; refine later_same (v := .bool false) ?_; rw [← H2.out]; exact isNumber_any t _))))
      refine wpQuiet_nil ?_
      rintro _ ⟨q2, rfl⟩
      go_wp2_with fail
      go_ret
      exact ⟨by rw [HO.out]; rfl, HB0.out.trans (q2.below.mono HB0.out.size)⟩
    | true =>
      have H2 := Lib.hid h2
      cases h3 : isNum c with
      | false =>
        have HO := Lib.hid (show okR ⟨n, t, c, l, d⟩ = false by rw [hok, h1, h2, h3]; simp)
        have H3 := Lib.hid h3
        clear hok h3 h1 h2
        go_enter Tryz.func118, Tryz.ntmps118
        go_wp2_with fail
        rw [← HWW.out, ← HG.out]
        refine region_later (by kernel_rfl) ?_
        repeat (go_big_quiet_step ((first
          | (go_at_call 143; refine later_call (v := .bool true) ?_; rw [← H1.out]; exact Right_any N n _ HN.out hn)
          | (go_at_call 144; refine later_same (v := .bool true) ?_; rw [← H2.out]; exact isNumber_any t _)
          | (go_at_call 144; refine later_same (v := .bool false) ?_; rw [← H3.out]; exact isNumber_any c _))))
        refine wpQuiet_nil ?_
        rintro _ ⟨q2, rfl⟩
        go_wp2_with fail
        go_ret
        exact ⟨by rw [HO.out]; rfl, HB0.out.trans (q2.below.mono HB0.out.size)⟩
      | true =>
        have H3 := Lib.hid h3
        cases h4 : isAge l with
        | false =>
          have HO := Lib.hid (show okR ⟨n, t, c, l, d⟩ = false by rw [hok, h1, h2, h3, h4]; simp)
          have H4 := Lib.hid h4
          clear hok h4 h1 h2 h3
          go_enter Tryz.func118, Tryz.ntmps118
          go_wp2_with fail
          rw [← HWW.out, ← HG.out]
          refine region_later (by kernel_rfl) ?_
          repeat (go_big_quiet_step ((first
            | (go_at_call 143; refine later_call (v := .bool true) ?_; rw [← H1.out]; exact Right_any N n _ HN.out hn)
            | (go_at_call 144; refine later_same (v := .bool true) ?_; rw [← H2.out]; exact isNumber_any t _)
            | (go_at_call 144; refine later_same (v := .bool true) ?_; rw [← H3.out]; exact isNumber_any c _)
            | (go_at_call 145; refine later_same (v := .bool false) ?_; rw [← H4.out]; exact isTTL_any l _))))
          refine wpQuiet_nil ?_
          rintro _ ⟨q2, rfl⟩
          go_wp2_with fail
          go_ret
          exact ⟨by rw [HO.out]; rfl, HB0.out.trans (q2.below.mono HB0.out.size)⟩
        | true =>
          have H4 := Lib.hid h4
          have HO := Lib.hid (show okR ⟨n, t, c, l, d⟩ = rightR (tyd t c d.length) d by rw [hok, h1, h2, h3, h4]; simp)
          clear hok h1 h2 h3 h4
          go_enter Tryz.func118, Tryz.ntmps118
          go_wp2_with fail
          rw [← HWW.out, ← HG.out]
          refine region_later (by kernel_rfl) ?_
          repeat (go_big_quiet_step ((first
            | (go_at_call 143; refine later_call (v := .bool true) ?_; rw [← H1.out]; exact Right_any N n _ HN.out hn)
            | (go_at_call 144; refine later_same (v := .bool true) ?_; rw [← H2.out]; exact isNumber_any t _)
            | (go_at_call 144; refine later_same (v := .bool true) ?_; rw [← H3.out]; exact isNumber_any c _)
            | (go_at_call 145; refine later_same (v := .bool true) ?_; rw [← H4.out]; exact isTTL_any l _)
            | (go_at_call 147; refine later_same (v := .int .i64 (tyd t c d.length)) ?_; rw [← HS.out]; exact typeOf_any t c D.size _)
            | (go_at_call 146; refine later_call (v := .bool (rightR (tyd t c d.length) d)) ?_; exact DRight_any D d _ _ HD.out hd))))
          refine wpQuiet_nil ?_
          rintro _ ⟨q2, rfl⟩
          go_wp2_with fail
          go_ret
          exact ⟨by rw [HO.out]; rfl, HB0.out.trans (q2.below.mono HB0.out.size)⟩

/-! ### Said -/
theorem sees_whole {W : World} {g ty : Nat} {cs : Array Value} (h : Whole W g ty cs) : Sees W (g + 1) (some ⟨g, 0, none⟩) cs.size cs.toList := by
  refine ⟨by simp, fun _ => ⟨g, 0, rfl, by omega, fun j u hu => ?_⟩⟩
  rw [Nat.zero_add, h.cell, ← hu]
  simp
theorem said_or (t : Int) (d : List UInt8) : orS (mk (foldD t d)) (mk d) = mk (saidR t d) := by
  unfold saidR orS
  rw [mk_size]
  cases h : rightR t d with
  | false =>
    have e : foldD t d = [] := by unfold foldD; rw [h]; simp
    rw [e]; simp
  | true =>
    have hl := (fold_right h).2.1
    rw [if_pos rfl]
    by_cases h0 : (foldD t d).length = 0
    · have e1 : foldD t d = [] := List.eq_nil_of_length_eq_zero h0
      have e2 : d = [] := List.eq_nil_of_length_eq_zero (by omega)
      rw [if_pos h0, e1, e2]
    · rw [if_neg h0]

end Go.Proofs.YtggognnjnfphgaaGreatDoor
