/- Parts of the proofs of the statements of image. No statement of the seat is proved here. -/
import Derived.Test.YtmpginmdaeclaaaGreatDoorReM
import Derived.Test.YtmpginmdaeclaaaGreatDoorPaC
import Derived.Test.YtmpginmdaeclaaaGreatDoorNaE
import Derived.Test.YtmpginmdaeclaaaGreatDoorNaA
import Derived.Lib.Bytealg
import Derived.Test.YtmpginmdaeclaaaGreatDoorRdB
import Derived.Test.YtmpginmdaeclaaaGreatDoorOcA
import Derived.Deep.RegionHeld3
import Derived.StillTailTactics
set_option maxHeartbeats 32000000
set_option maxRecDepth 20000
namespace Go.Proofs.YtmpginmdaeclaaaGreatDoor
open Go.RowKit Go.Op
abbrev rrT : TypeId := 46
def rrA (n d : ByteArray) (t c l : Int) : Array Value := #[.string n, .int .i64 t, .int .i64 c, .int .i64 l, .string d]
theorem isNumber_any (n : Int) (w : World) : Calls Tryz.prog 121 #[.int .i64 n] w fun e w' => e = .returned (.bool (isNum n)) /\ w = w' := by
  by_cases h1 : 0 <= n
  · by_cases h2 : n <= 65535
    · have HE := Ha (show isNum n = true by unfold isNum; simp [h1, h2])
      go_enter Tryz.func121, Tryz.ntmps121
      go_wp2_with fail
      go_ret
      exact ⟨by rw [HE.out]; rfl, rfl⟩
    · have HE := Ha (show isNum n = false by unfold isNum; simp [h2])
      have g2 : decide (n <= 65535) = false := by rw [decide_eq_false_iff_not]; omega
      clear h2; go_enter Tryz.func121, Tryz.ntmps121
      go_wp2_with fail
      go_ret
      exact ⟨by rw [HE.out]; rfl, rfl⟩
  · have HE := Ha (show isNum n = false by unfold isNum; simp [h1])
    have g2 : decide (0 <= n) = false := by rw [decide_eq_false_iff_not]; omega
    clear h1; go_enter Tryz.func121, Tryz.ntmps121
    go_wp2_with fail
    go_ret
    exact ⟨by rw [HE.out]; rfl, rfl⟩
theorem isTTL_any (n : Int) (w : World) : Calls Tryz.prog 122 #[.int .i64 n] w fun e w' => e = .returned (.bool (isAge n)) /\ w = w' := by
  by_cases h1 : 0 <= n
  · by_cases h2 : n <= 2147483647
    · have HE := Ha (show isAge n = true by unfold isAge; simp [h1, h2])
      go_enter Tryz.func122, Tryz.ntmps122
      go_wp2_with fail
      go_ret
      exact ⟨by rw [HE.out]; rfl, rfl⟩
    · have HE := Ha (show isAge n = false by unfold isAge; simp [h2])
      have g2 : decide (n <= 2147483647) = false := by rw [decide_eq_false_iff_not]; omega
      clear h2; go_enter Tryz.func122, Tryz.ntmps122
      go_wp2_with fail
      go_ret
      exact ⟨by rw [HE.out]; rfl, rfl⟩
  · have HE := Ha (show isAge n = false by unfold isAge; simp [h1])
    have g2 : decide (0 <= n) = false := by rw [decide_eq_false_iff_not]; omega
    clear h1; go_enter Tryz.func122, Tryz.ntmps122
    go_wp2_with fail
    go_ret
    exact ⟨by rw [HE.out]; rfl, rfl⟩
theorem typeOf_any (t c : Int) (k : Nat) (w : World) : Calls Tryz.prog 124 #[.int .i64 t, .int .i64 c, .int .i64 (k : Nat)] w fun e w' => e = .returned (.int .i64 (tyd t c k)) /\ w = w' := by
  by_cases h1 : c = 1
  · have HE := Ha (show tyd t c k = t by unfold tyd; rw [if_pos (.inl h1)])
    have g1 : (c == 1) = true := by rw [h1]; rfl
    clear h1; go_enter Tryz.func124, Tryz.ntmps124
    go_wp2_with fail
    go_ret
    exact ⟨by rw [HE.out]; rfl, rfl⟩
  · have g1 : (c == 1) = false := by rw [beq_eq_false_iff_ne]; exact h1
    by_cases h2 : c = 254
    · have g2 : (c == 254) = true := by rw [h2]; rfl
      by_cases h3 : 0 < k
      · have HE := Ha (show tyd t c k = t by unfold tyd; rw [if_pos (.inr ⟨h2, h3⟩)])
        have g3 : decide (0 < k) = true := by simp [h3]
        clear h1 h2 h3; go_enter Tryz.func124, Tryz.ntmps124
        go_wp2_with fail
        go_ret
        exact ⟨by rw [HE.out]; rfl, rfl⟩
      · have HE := Ha (show tyd t c k = 0 by unfold tyd; rw [if_neg (by omega)])
        have g3 : decide (0 < k) = false := by simp [h3]
        clear h1 h2 h3; go_enter Tryz.func124, Tryz.ntmps124
        go_wp2_with fail
        go_ret
        exact ⟨by rw [HE.out]; rfl, rfl⟩
    · have HE := Ha (show tyd t c k = 0 by unfold tyd; rw [if_neg (by omega)])
      have g2 : (c == 254) = false := by rw [beq_eq_false_iff_ne]; exact h2
      clear h1 h2; go_enter Tryz.func124, Tryz.ntmps124
      go_wp2_with fail
      go_ret
      exact ⟨by rw [HE.out]; rfl, rfl⟩
theorem rr_facts {w : World} {g : Nat} {n d : ByteArray} {t c l : Int} (h : Whole w g rrT (rrA n d t c l)) :
    w.cell? ⟨g, 0, none⟩ = some (.string n) /\ w.cell? ⟨g, 1, none⟩ = some (.int .i64 t) /\ w.cell? ⟨g, 2, none⟩ = some (.int .i64 c) /\ w.cell? ⟨g, 3, none⟩ = some (.int .i64 l) /\ w.cell? ⟨g, 4, none⟩ = some (.string d) :=
  ⟨h.cell 0, h.cell 1, h.cell 2, h.cell 3, h.cell 4⟩
def orS (x y : ByteArray) : ByteArray := if x.size = 0 then y else x
theorem OrS_any (A : Option Addr) (cA B : Nat) (x y : ByteArray) (w : World) (h : Sees w B A 2 [.string x, .string y]) :
    Calls Tryz.prog 226 #[.slice A 2 cA] w fun e w' => e = .returned (.string (orS x y)) /\ w = w' := by
  obtain ⟨b, off, rfl, _, hc⟩ := h.addr (Nat.zero_lt_two)
  have c0 : w.cell? ⟨b, off, none⟩ = some (.string x) := hc 0 _ rfl
  have c1 : w.cell? ⟨b, off + 1, none⟩ = some (.string y) := hc 1 _ rfl
  clear hc h
  by_cases hx : x.size = 0
  · have hxe : x = ⟨#[]⟩ := ByteArray.ext (Array.eq_empty_of_size_eq_zero hx)
    have ho : orS x y = y := by unfold orS; rw [if_pos hx]
    rw [ho]
    clear ho; subst hxe
    by_cases hy : y.size = 0
    · have hye : y = ⟨#[]⟩ := ByteArray.ext (Array.eq_empty_of_size_eq_zero hy)
      subst hye; clear hx hy; go_enter Tryz.func226, Tryz.ntmps226
      go_wp2_with fail
      refine wp_loop_rounds 4 ?_
      rw [rounds_succ]
      go_wp2_with fail
      rw [rounds_succ]
      go_wp2_with fail
      rw [rounds_succ]
      go_wp2_with fail
      go_ret
      exact ⟨rfl, rfl⟩
    · have hne := not_empty hy
      clear hx hy; go_enter Tryz.func226, Tryz.ntmps226
      go_wp2_with fail
      refine wp_loop_rounds 4 ?_
      rw [rounds_succ]
      go_wp2_with fail
      rw [rounds_succ]
      go_wp2_with fail
      go_ret
      exact ⟨rfl, rfl⟩
  · have hne := not_empty hx
    have ho : orS x y = x := by unfold orS; rw [if_neg hx]
    rw [ho]
    clear ho hx; go_enter Tryz.func226, Tryz.ntmps226
    go_wp2_with fail
    refine wp_loop_rounds 4 ?_
    rw [rounds_succ]
    go_wp2_with fail
    go_ret
    exact ⟨rfl, rfl⟩
theorem Or3_any (A : Option Addr) (cA B : Nat) (x y z : Int) (w : World) (h : Sees w B A 3 (ints .i64 [x, y, z])) :
    Calls Tryz.prog 174 #[.slice A 3 cA] w fun e w' => e = .returned (.int .i64 (orI x (orI y z))) /\ w = w' := by
  obtain ⟨b, off, rfl, _, hc⟩ := h.addr (by decide)
  have c0 : w.cell? ⟨b, off, none⟩ = some (.int .i64 x) := hc 0 _ rfl
  have c1 : w.cell? ⟨b, off + 1, none⟩ = some (.int .i64 y) := hc 1 _ rfl
  have c2 : w.cell? ⟨b, off + 2, none⟩ = some (.int .i64 z) := hc 2 _ rfl
  clear hc h
  by_cases hx : x = 0
  · subst hx
    have e0 : orI 0 (orI y z) = orI y z := by unfold orI; rw [if_pos rfl]
    rw [e0]
    clear e0
    by_cases hy : y = 0
    · subst hy
      have e0 : orI 0 z = z := by unfold orI; rw [if_pos rfl]
      rw [e0]
      clear e0
      by_cases hz : z = 0
      · subst hz
        go_enter Tryz.func174, Tryz.ntmps174
        go_wp2_with fail
        refine wp_loop_rounds 5 ?_
        rw [rounds_succ]
        go_wp2_with fail
        rw [rounds_succ]
        go_wp2_with fail
        rw [rounds_succ]
        go_wp2_with fail
        rw [rounds_succ]
        go_wp2_with fail
        go_ret
        exact ⟨rfl, rfl⟩
      · have gz : (z == 0) = false := by rw [beq_eq_false_iff_ne]; exact hz
        go_enter Tryz.func174, Tryz.ntmps174
        go_wp2_with fail
        refine wp_loop_rounds 5 ?_
        rw [rounds_succ]
        go_wp2_with fail
        rw [rounds_succ]
        go_wp2_with fail
        rw [rounds_succ]
        go_wp2_with fail
        go_ret
        exact ⟨rfl, rfl⟩
    · have gy : (y == 0) = false := by rw [beq_eq_false_iff_ne]; exact hy
      have e0 : orI y z = y := by unfold orI; rw [if_neg hy]
      rw [e0]
      clear e0; go_enter Tryz.func174, Tryz.ntmps174
      go_wp2_with fail
      refine wp_loop_rounds 5 ?_
      rw [rounds_succ]
      go_wp2_with fail
      rw [rounds_succ]
      go_wp2_with fail
      go_ret
      exact ⟨rfl, rfl⟩
  · have gx : (x == 0) = false := by rw [beq_eq_false_iff_ne]; exact hx
    have e0 : orI x (orI y z) = x := by unfold orI; rw [if_neg hx]
    rw [e0]
    clear e0; go_enter Tryz.func174, Tryz.ntmps174
    go_wp2_with fail
    refine wp_loop_rounds 5 ?_
    rw [rounds_succ]
    go_wp2_with fail
    go_ret
    exact ⟨rfl, rfl⟩
theorem isNaNi_any (x : Int) (w : World) : Calls Tryz.prog 224 #[.int .i64 x] w fun e w' => e = .returned (.bool false) /\ w = w' := by
  have h : (x == x) = true := by simp
  go_enter Tryz.func224, Tryz.ntmps224
  go_wp2_with fail
  go_ret
  exact ⟨rfl, rfl⟩
theorem cmpInt_any (x y : Int) (w : World) : Calls Tryz.prog 176 #[.int .i64 x, .int .i64 y] w fun e w' => e = .returned (.int .i64 (sgn x y)) /\ w = w' := by
  by_cases h1 : x < y
  · have HE := Ha (show sgn x y = -1 by unfold sgn; rw [if_pos h1])
    go_enter Tryz.func176, Tryz.ntmps176
    go_wp2_with (go_at_call 224; refine (isNaNi_any _ _).mono ?_; rintro e w' ⟨rfl, rfl⟩); go_ret
    exact ⟨by rw [HE.out]; rfl, rfl⟩
  · have g1 : decide (x < y) = false := by rw [decide_eq_false_iff_not]; exact h1
    by_cases h2 : y < x
    · have HE := Ha (show sgn x y = 1 by unfold sgn; rw [if_neg h1, if_pos h2])
      clear h1; go_enter Tryz.func176, Tryz.ntmps176
      go_wp2_with (go_at_call 224; refine (isNaNi_any _ _).mono ?_; rintro e w' ⟨rfl, rfl⟩); go_ret
      exact ⟨by rw [HE.out]; rfl, rfl⟩
    · have HE := Ha (show sgn x y = 0 by unfold sgn; rw [if_neg h1, if_neg h2])
      have g2 : decide (y < x) = false := by rw [decide_eq_false_iff_not]; exact h2
      clear h1 h2; go_enter Tryz.func176, Tryz.ntmps176
      go_wp2_with (go_at_call 224; refine (isNaNi_any _ _).mono ?_; rintro e w' ⟨rfl, rfl⟩); go_ret
      exact ⟨by rw [HE.out]; rfl, rfl⟩
theorem compareBytes_is : ∀ (a b : List UInt8), Lib.compareBytes a b = cmpB a b
  | [], [] => rfl
  | [], _ :: _ => rfl
  | _ :: _, [] => rfl
  | a :: x, b :: y => by
    rw [Lib.compareBytes]
    have ih := compareBytes_is x y
    by_cases h1 : a < b
    · have g : bytesLess (a :: x) (b :: y) = true := (less_cons _ _ _ _).2 (.inl (UInt8.lt_iff_toNat_lt.1 h1))
      rw [if_pos h1]
      unfold cmpB; rw [if_pos g]
    · by_cases h2 : b < a
      · have h2' := UInt8.lt_iff_toNat_lt.1 h2
        have g : ¬ (bytesLess (a :: x) (b :: y) = true) := fun h => by
          rcases (less_cons _ _ _ _).1 h with h | ⟨rfl, _⟩ <;> omega
        have k : bytesLess (b :: y) (a :: x) = true := (less_cons _ _ _ _).2 (.inl h2')
        rw [if_neg h1, if_pos h2]
        unfold cmpB; rw [if_neg g, if_pos k]
      · have e : a = b := UInt8.toNat_inj.1 (by
          have := mt UInt8.lt_iff_toNat_lt.2 h1
          have := mt UInt8.lt_iff_toNat_lt.2 h2
          omega)
        subst e; have hx : ∀ u v, bytesLess (a :: u) (a :: v) = bytesLess u v := fun u v => by
          rw [Bool.eq_iff_iff, less_cons]
          constructor
          · rintro (h | ⟨_, h⟩)
            · omega
            · exact h
          · exact fun h => .inr ⟨rfl, h⟩
        rw [if_neg h1, if_neg h2, ih]
        unfold cmpB; rw [hx, hx]
theorem bytealgC_any (A B : ByteArray) (w : World) :
    Calls Tryz.prog 225 #[.string A, .string B] w fun e w' => e = .returned (.int .i64 (Lib.compareBytes A.data.toList B.data.toList)) /\ w = w' := by
  go_enter Tryz.func225, Tryz.ntmps225
  go_wp2
  rw [run_callFunc_extern Tryz.func259 (by kernel_rfl) (by kernel_rfl) (by kernel_rfl) (e := Extern.BytealgCompare.compare) (by kernel_rfl), Lib.run_compareString]
  simp only [Result.andThen]
  rw [Oper.upon_value]
  go_wp2
  go_ret
  exact ⟨rfl, rfl⟩
theorem strCmp_any (A B : ByteArray) (a b : List UInt8) (w : World) (hA : A = mk a) (hB : B = mk b) :
    Calls Tryz.prog 177 #[.string A, .string B] w fun e w' => e = .returned (.int .i64 (cmpB a b)) /\ w = w' := by
  have HE := Ha (show Lib.compareBytes A.data.toList B.data.toList = cmpB a b by rw [hA, hB, compareBytes_is]; rfl)
  clear hA hB
  go_enter Tryz.func177, Tryz.ntmps177
  go_wp2_with fail
  refine (bytealgC_any _ _ _).mono ?_
  rw [HE.out]
  rintro e w' ⟨rfl, rfl⟩
  go_wp2_with fail
  go_ret
  exact ⟨rfl, rfl⟩
end Go.Proofs.YtmpginmdaeclaaaGreatDoor
namespace Go.Proofs.YtmpginmdaeclaaaGreatDoor
open Go.RowKit
theorem rr_later {w : World} {g : Nat} {n d : ByteArray} {t c l : Int} (h : Whole w g rrT (rrA n d t c l)) :
    (∀ q : Later w, q.val.cell? ⟨g, 0, none⟩ = some (.string n)) /\ (∀ q : Later w, q.val.cell? ⟨g, 1, none⟩ = some (.int .i64 t)) /\ (∀ q : Later w, q.val.cell? ⟨g, 2, none⟩ = some (.int .i64 c)) /\ (∀ q : Later w, q.val.cell? ⟨g, 3, none⟩ = some (.int .i64 l)) /\ (∀ q : Later w, q.val.cell? ⟨g, 4, none⟩ = some (.string d)) :=
  ⟨fun q => (rr_facts (h.later q)).1, fun q => (rr_facts (h.later q)).2.1, fun q => (rr_facts (h.later q)).2.2.1, fun q => (rr_facts (h.later q)).2.2.2.1, fun q => (rr_facts (h.later q)).2.2.2.2⟩
theorem RRight_any (N D : ByteArray) (r : Rec) (w : World) (hN : N = mk r.n) (hD : D = mk r.d) (hn : r.n.length <= 1073741824) (hd : r.d.length <= 65535) :
    Calls Tryz.prog 75 #[.agg (rrA N D r.t r.c r.l)] w fun e w' => e = .returned (.bool (okR r)) /\ Below w.heap.size w w' := by
  obtain ⟨n, t, c, l, d⟩ := r
  simp only at hN hD hn hd ⊢
  have hok : okR ⟨n, t, c, l, d⟩ = ((nameL n).isSome && isNum t && isNum c && isAge l && rightR (tyd t c d.length) d) := rfl
  have hsz : D.size = d.length := by rw [hD, mk_size]
  have HS := Ha hsz
  have HN := Ha hN
  have HD := Ha hD
  obtain ⟨W, hW⟩ : ∃ W, W = w.alloc (.cells #[.string N, .int .i64 t, .int .i64 c, .int .i64 l, .string D] 46) := ⟨_, rfl⟩
  obtain ⟨g, hg⟩ : ∃ g, g = w.heap.size := ⟨_, rfl⟩
  have hW0 : Whole W g rrT (rrA N D t c l) := by rw [hW, hg]; exact Whole.new w rrT (rrA N D t c l)
  have HB0 := Ha (show Below w.heap.size w W by rw [hW]; exact (Below.refl _ _).alloc (Nat.le_refl _) _)
  have HWW := Ha hW
  have HG := Ha hg
  obtain ⟨d0, d1, d2, d3, d4⟩ := rr_later hW0
  clear hN hD hsz hW0 hW hg
  unfold rrA
  cases h1 : (nameL n).isSome with
  | false =>
    have HO := Ha (show okR ⟨n, t, c, l, d⟩ = false by rw [hok, h1]; simp)
    have H1 := Ha h1
    clear hok h1; go_enter Tryz.func75, Tryz.ntmps75
    go_wp2_with fail
    rw [<-HWW.out, <-HG.out]
    refine region_later (by kernel_rfl) ?_
    repeat (go_big_quiet_step ((first
      | (go_at_call 73; refine later_call (v := .bool false) ?_; rw [<-H1.out]; exact Right_any N n _ HN.out hn))))
    refine wpQuiet_nil ?_
    rintro _ ⟨q2, rfl⟩; go_wp2_with fail
    go_ret
    exact ⟨by rw [HO.out]; rfl, HB0.out.trans (q2.below.mono HB0.out.size)⟩
  | true =>
    have H1 := Ha h1
    cases h2 : isNum t with
    | false =>
      have HO := Ha (show okR ⟨n, t, c, l, d⟩ = false by rw [hok, h1, h2]; simp)
      have H2 := Ha h2
      clear hok h2 h1; go_enter Tryz.func75, Tryz.ntmps75
      go_wp2_with fail
      rw [<-HWW.out, <-HG.out]
      refine region_later (by kernel_rfl) ?_
      repeat (go_big_quiet_step ((first
        | (go_at_call 73; refine later_call (v := .bool true) ?_; rw [<-H1.out]; exact Right_any N n _ HN.out hn)
        | (go_at_call 121; refine later_same (v := .bool false) ?_; rw [<-H2.out]; exact isNumber_any t _))))
      refine wpQuiet_nil ?_
      rintro _ ⟨q2, rfl⟩; go_wp2_with fail
      go_ret
      exact ⟨by rw [HO.out]; rfl, HB0.out.trans (q2.below.mono HB0.out.size)⟩
    | true =>
      have H2 := Ha h2
      cases h3 : isNum c with
      | false =>
        have HO := Ha (show okR ⟨n, t, c, l, d⟩ = false by rw [hok, h1, h2, h3]; simp)
        have H3 := Ha h3
        clear hok h3 h1 h2; go_enter Tryz.func75, Tryz.ntmps75
        go_wp2_with fail
        rw [<-HWW.out, <-HG.out]
        refine region_later (by kernel_rfl) ?_
        repeat (go_big_quiet_step ((first
          | (go_at_call 73; refine later_call (v := .bool true) ?_; rw [<-H1.out]; exact Right_any N n _ HN.out hn)
          | (go_at_call 121; refine later_same (v := .bool true) ?_; rw [<-H2.out]; exact isNumber_any t _)
          | (go_at_call 121; refine later_same (v := .bool false) ?_; rw [<-H3.out]; exact isNumber_any c _))))
        refine wpQuiet_nil ?_
        rintro _ ⟨q2, rfl⟩; go_wp2_with fail
        go_ret
        exact ⟨by rw [HO.out]; rfl, HB0.out.trans (q2.below.mono HB0.out.size)⟩
      | true =>
        have H3 := Ha h3
        cases h4 : isAge l with
        | false =>
          have HO := Ha (show okR ⟨n, t, c, l, d⟩ = false by rw [hok, h1, h2, h3, h4]; simp)
          have H4 := Ha h4
          clear hok h4 h1 h2 h3; go_enter Tryz.func75, Tryz.ntmps75
          go_wp2_with fail
          rw [<-HWW.out, <-HG.out]
          refine region_later (by kernel_rfl) ?_
          repeat (go_big_quiet_step ((first
            | (go_at_call 73; refine later_call (v := .bool true) ?_; rw [<-H1.out]; exact Right_any N n _ HN.out hn)
            | (go_at_call 121; refine later_same (v := .bool true) ?_; rw [<-H2.out]; exact isNumber_any t _)
            | (go_at_call 121; refine later_same (v := .bool true) ?_; rw [<-H3.out]; exact isNumber_any c _)
            | (go_at_call 122; refine later_same (v := .bool false) ?_; rw [<-H4.out]; exact isTTL_any l _))))
          refine wpQuiet_nil ?_
          rintro _ ⟨q2, rfl⟩; go_wp2_with fail
          go_ret
          exact ⟨by rw [HO.out]; rfl, HB0.out.trans (q2.below.mono HB0.out.size)⟩
        | true =>
          have H4 := Ha h4
          have HO := Ha (show okR ⟨n, t, c, l, d⟩ = rightR (tyd t c d.length) d by rw [hok, h1, h2, h3, h4]; simp)
          clear hok h1 h2 h3 h4; go_enter Tryz.func75, Tryz.ntmps75
          go_wp2_with fail
          rw [<-HWW.out, <-HG.out]
          refine region_later (by kernel_rfl) ?_
          repeat (go_big_quiet_step ((first
            | (go_at_call 73; refine later_call (v := .bool true) ?_; rw [<-H1.out]; exact Right_any N n _ HN.out hn)
            | (go_at_call 121; refine later_same (v := .bool true) ?_; rw [<-H2.out]; exact isNumber_any t _)
            | (go_at_call 121; refine later_same (v := .bool true) ?_; rw [<-H3.out]; exact isNumber_any c _)
            | (go_at_call 122; refine later_same (v := .bool true) ?_; rw [<-H4.out]; exact isTTL_any l _)
            | (go_at_call 124; refine later_same (v := .int .i64 (tyd t c d.length)) ?_; rw [<-HS.out]; exact typeOf_any t c D.size _)
            | (go_at_call 123; refine later_call (v := .bool (rightR (tyd t c d.length) d)) ?_; exact DRight_any D d _ _ HD.out hd))))
          refine wpQuiet_nil ?_
          rintro _ ⟨q2, rfl⟩; go_wp2_with fail
          go_ret
          exact ⟨by rw [HO.out]; rfl, HB0.out.trans (q2.below.mono HB0.out.size)⟩
theorem sees_whole {W : World} {g ty : Nat} {cs : Array Value} (h : Whole W g ty cs) : Sees W (g + 1) (some ⟨g, 0, none⟩) cs.size cs.toList := by
  refine ⟨by simp, fun _ => ⟨g, 0, rfl, by omega, fun j u hu => ?_⟩⟩
  rw [Nat.zero_add, h.cell, <-hu]
  simp
theorem said_or (t : Int) (d : List UInt8) : orS (mk (foldD t d)) (mk d) = mk (saidR t d) := by
  unfold saidR orS
  rw [mk_size]
  cases h : rightR t d with
  | false =>
    have e : foldD t d = [] := by unfold foldD; rw [h]; simp
    rw [e]; simp
  | true =>
    have hl := (fold_right h).2.1
    rw [if_pos rfl]
    by_cases h0 : (foldD t d).length = 0
    · have e1 : foldD t d = [] := List.eq_nil_of_length_eq_zero h0
      have e2 : d = [] := List.eq_nil_of_length_eq_zero (by omega)
      rw [if_pos h0, e1, e2]
    · rw [if_neg h0]
theorem Said_any (N D : ByteArray) (t c l : Int) (d : List UInt8) (w : World) (hD : D = mk d) (hd : d.length <= 65535) :
    Calls Tryz.prog 178 #[.agg (rrA N D t c l)] w fun e w' => e = .returned (.string (mk (saidR t d))) /\ Below w.heap.size w w' := by
  have HD := Ha hD
  have hW0 := Whole.new w rrT (rrA N D t c l)
  have hB0 : Below w.heap.size w (w.alloc (.cells (rrA N D t c l) rrT)) := (Below.refl _ _).alloc (Nat.le_refl _) _
  have HW0 := Ha hW0
  have HB0 := Ha hB0
  obtain ⟨c0, c1, c2, c3, c4⟩ := rr_facts hW0
  have HO := Ha (show orS (mk (foldD t d)) D = mk (saidR t d) by rw [hD]; exact said_or t d)
  clear hD hW0 hB0 c0 c2 c3
  unfold rrA at c1 c4 HW0 HB0 ⊢
  obtain ⟨F, hF⟩ : ∃ F, F = mk (foldD t d) := ⟨_, rfl⟩
  rw [<-hF] at HO
  have HF := Ha hF
  clear hF
  go_enter Tryz.func178, Tryz.ntmps178
  go_wp2_with fail
  go_region_held3 (fun w' => w'.cell? ⟨w.heap.size, 1, none⟩ = some (.int .i64 t) /\ w'.cell? ⟨w.heap.size, 4, none⟩ = some (.string D)) (go_keep) (first
    | (go_at_call 227; (refine (DFold_any D d t _ HD.out hd).mono ?_; rw [<-HF.out]; rintro e w1 ⟨rfl, hB1⟩; have hB1 := (Below.refl _ _).drew.trans hB1; have hw1 := HW0.out.below hB1 HW0.out.lt; have k1 := (rr_facts hw1).2.1; have k4 := (rr_facts hw1).2.2.2.2))
    | (go_at_call 226; (refine (OrS_any _ _ _ F D _ (sees_whole (Whole.new _ _ #[.string F, .string D]))).mono ?_; rintro e w2 ⟨rfl, rfl⟩)))
  all_goals (
    go_wp2_with fail
    go_ret
    exact ⟨by rw [HO.out]; rfl, HB0.out.trans ((hB1.alloc hB1.size _).mono HB0.out.size)⟩)
end Go.Proofs.YtmpginmdaeclaaaGreatDoor
