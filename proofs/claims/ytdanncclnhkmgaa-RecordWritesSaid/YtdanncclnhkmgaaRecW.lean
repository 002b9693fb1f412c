/- For RecordWrites: the reference's Right, few, awake; writeHead, writeData, sizeOfData, Write and Read of the program. No statement of the seat is proved here. (written by split_w.py) -/
import Derived.Test.YtdanncclnhkmgaaRecX
import Derived.Test.YtdanncclnhkmgaaRecI
import Derived.Test.YtdanncclnhkmgaaRdaH
import Derived.Test.YtdanncclnhkmgaaPakD
import Derived.Test.YtdanncclnhkmgaaOctD
import Derived.Deep.RegionHeld3
import Derived.Deep.DeepCutAuto
/- For RecordWrites: the reference's Right, few, awake; writeHead, writeData, sizeOfData, Write and Read of the program. No statement of the seat is proved here. (written by split_w.py) -/
import Derived.Test.YtdanncclnhkmgaaRecX
import Derived.Test.YtdanncclnhkmgaaRecI
import Derived.Test.YtdanncclnhkmgaaRdaH
import Derived.Test.YtdanncclnhkmgaaPakD
import Derived.Test.YtdanncclnhkmgaaOctD
import Derived.Deep.RegionHeld3
import Derived.Deep.DeepCutAuto
namespace Go.Proofs.Ytdanncclnhkmgaa
open Go.RowKit

set_option maxHeartbeats 2000000 in
set_option maxRecDepth 20000 in
theorem RefRRight_any (N D : ByteArray) (r : Rec) (w : World) (hN : N = mk r.n) (hD : D = mk r.d) (hd : r.d.length ≤ 65535) :
    Calls Try.prog 10 #[.agg (rrA N D r.t r.c r.l)] w fun e w' => e = .returned (.bool (okR r)) ∧ Below w.heap.size w w' := by
  obtain ⟨n, t, c, l, d⟩ := r
  simp only at hN hD hd ⊢
  have hok : okR ⟨n, t, c, l, d⟩ = ((nameL n).isSome && isNum t && isNum c && isAge l && rightR (tyd t c d.length) d) := rfl
  have hsz : D.size = d.length := by rw [hD, mk_size]
  have hdI : decide ((65535 : Int) < (D.size : Int)) = false := by rw [decide_eq_false_iff_not]; omega
  have hem := empty_of hD
  have HN := Lib.hid hN
  have HD := Lib.hid hD
  have hW0 := Whole.new w rrT (rrA N D t c l)
  have HB0 := Lib.hid (show Below w.heap.size w (w.alloc (.cells (rrA N D t c l) rrT)) from (Below.refl _ _).alloc (Nat.le_refl _) _)
  have HW0 := Lib.hid hW0
  obtain ⟨c0, _, _, _, _⟩ := rr_facts hW0
  clear hN hD hW0
  unfold rrA at *
  cases h1 : (nameL n).isSome with
  | false =>
    have HO := Lib.hid (show okR ⟨n, t, c, l, d⟩ = false by rw [hok, h1]; simp)
    have H1 := Lib.hid h1
    clear hok h1
    go_enter Try.func10, Try.ntmps10
    go_wp2_with fail
    refine (RefRight_any N n _ HN.out).mono ?_
    rw [H1.out]
    rintro e w1 ⟨rfl, hB1⟩
    have HB1 := Lib.hid (HB0.out.trans (hB1.mono HB0.out.size))
    clear hB1 c0
    go_wp2_with fail
    go_ret
    exact ⟨by rw [HO.out]; rfl, HB1.out⟩
  | true =>
    have H1 := Lib.hid h1
    cases h2 : isNum t with
    | false =>
      have HO := Lib.hid (show okR ⟨n, t, c, l, d⟩ = false by rw [hok, h1, h2]; simp)
      have hr : t < 0 ∨ 65535 < t := by unfold isNum at h2; simp at h2; omega
      clear hok h1 h2
      rcases hr with hr | hr
      · have gr : decide (t < 0) = true := by simp [hr]
        go_enter Try.func10, Try.ntmps10
        go_wp2_with fail
        refine (RefRight_any N n _ HN.out).mono ?_
        rw [H1.out]
        rintro e w1 ⟨rfl, hB1⟩
        obtain ⟨k0, k1, k2, k3, k4⟩ := rr_facts (HW0.out.below hB1 HW0.out.lt)
        have HB1 := Lib.hid (HB0.out.trans (hB1.mono HB0.out.size))
        clear hB1 c0
        go_wp2_with fail
        go_ret
        exact ⟨by rw [HO.out]; rfl, HB1.out⟩
      · have gr : decide (t < 0) = false := by rw [decide_eq_false_iff_not]; omega
        have gr2 : decide (65535 < t) = true := by simp [hr]
        go_enter Try.func10, Try.ntmps10
        go_wp2_with fail
        refine (RefRight_any N n _ HN.out).mono ?_
        rw [H1.out]
        rintro e w1 ⟨rfl, hB1⟩
        obtain ⟨k0, k1, k2, k3, k4⟩ := rr_facts (HW0.out.below hB1 HW0.out.lt)
        have HB1 := Lib.hid (HB0.out.trans (hB1.mono HB0.out.size))
        clear hB1 c0
        go_wp2_with fail
        go_ret
        exact ⟨by rw [HO.out]; rfl, HB1.out⟩
    | true =>
      have g2a : decide (t < 0) = false := by unfold isNum at h2; simp at h2; rw [decide_eq_false_iff_not]; omega
      have g2b : decide (65535 < t) = false := by unfold isNum at h2; simp at h2; rw [decide_eq_false_iff_not]; omega
      cases h3 : isNum c with
      | false =>
        have HO := Lib.hid (show okR ⟨n, t, c, l, d⟩ = false by rw [hok, h1, h2, h3]; simp)
        have hr : c < 0 ∨ 65535 < c := by unfold isNum at h3; simp at h3; omega
        clear hok h1 h3
        rcases hr with hr | hr
        · have gr : decide (c < 0) = true := by simp [hr]
          go_enter Try.func10, Try.ntmps10
          go_wp2_with fail
          refine (RefRight_any N n _ HN.out).mono ?_
          rw [H1.out]
          rintro e w1 ⟨rfl, hB1⟩
          obtain ⟨k0, k1, k2, k3, k4⟩ := rr_facts (HW0.out.below hB1 HW0.out.lt)
          have HB1 := Lib.hid (HB0.out.trans (hB1.mono HB0.out.size))
          clear hB1 c0
          go_wp2_with fail
          go_ret
          exact ⟨by rw [HO.out]; rfl, HB1.out⟩
        · have gr : decide (c < 0) = false := by rw [decide_eq_false_iff_not]; omega
          have gr2 : decide (65535 < c) = true := by simp [hr]
          go_enter Try.func10, Try.ntmps10
          go_wp2_with fail
          refine (RefRight_any N n _ HN.out).mono ?_
          rw [H1.out]
          rintro e w1 ⟨rfl, hB1⟩
          obtain ⟨k0, k1, k2, k3, k4⟩ := rr_facts (HW0.out.below hB1 HW0.out.lt)
          have HB1 := Lib.hid (HB0.out.trans (hB1.mono HB0.out.size))
          clear hB1 c0
          go_wp2_with fail
          go_ret
          exact ⟨by rw [HO.out]; rfl, HB1.out⟩
      | true =>
        have g3a : decide (c < 0) = false := by unfold isNum at h3; simp at h3; rw [decide_eq_false_iff_not]; omega
        have g3b : decide (65535 < c) = false := by unfold isNum at h3; simp at h3; rw [decide_eq_false_iff_not]; omega
        cases h4 : isAge l with
        | false =>
          have HO := Lib.hid (show okR ⟨n, t, c, l, d⟩ = false by rw [hok, h1, h2, h3, h4]; simp)
          have hr : l < 0 ∨ 2147483647 < l := by unfold isAge at h4; simp at h4; omega
          clear hok h1 h4
          rcases hr with hr | hr
          · have gr : decide (l < 0) = true := by simp [hr]
            go_enter Try.func10, Try.ntmps10
            go_wp2_with fail
            refine (RefRight_any N n _ HN.out).mono ?_
            rw [H1.out]
            rintro e w1 ⟨rfl, hB1⟩
            obtain ⟨k0, k1, k2, k3, k4⟩ := rr_facts (HW0.out.below hB1 HW0.out.lt)
            have HB1 := Lib.hid (HB0.out.trans (hB1.mono HB0.out.size))
            clear hB1 c0
            go_wp2_with fail
            go_ret
            exact ⟨by rw [HO.out]; rfl, HB1.out⟩
          · have gr : decide (l < 0) = false := by rw [decide_eq_false_iff_not]; omega
            have gr2 : decide (2147483647 < l) = true := by simp [hr]
            go_enter Try.func10, Try.ntmps10
            go_wp2_with fail
            refine (RefRight_any N n _ HN.out).mono ?_
            rw [H1.out]
            rintro e w1 ⟨rfl, hB1⟩
            obtain ⟨k0, k1, k2, k3, k4⟩ := rr_facts (HW0.out.below hB1 HW0.out.lt)
            have HB1 := Lib.hid (HB0.out.trans (hB1.mono HB0.out.size))
            clear hB1 c0
            go_wp2_with fail
            go_ret
            exact ⟨by rw [HO.out]; rfl, HB1.out⟩
        | true =>
          have g4a : decide (l < 0) = false := by unfold isAge at h4; simp at h4; rw [decide_eq_false_iff_not]; omega
          have g4b : decide (2147483647 < l) = false := by unfold isAge at h4; simp at h4; rw [decide_eq_false_iff_not]; omega
          have HO := Lib.hid (show okR ⟨n, t, c, l, d⟩ = rightR (tyd t c d.length) d by rw [hok, h1, h2, h3, h4]; simp)
          have hty := typ_is t c d
          clear hok h1 h2 h3 h4
          obtain ⟨em, hme⟩ : ∃ em, em = d.isEmpty := ⟨_, rfl⟩
          rw [← hme] at hem hty
          cases hy : typB c em with
          | false =>
            rw [hy, if_neg (by simp)] at hty
            have HR := Lib.hid (show okR ⟨n, t, c, l, d⟩ = true by rw [HO.out, hty]; exact (plain_right hd).1)
            have HY := Lib.hid hy
            clear hty hy hme
            go_enter Try.func10, Try.ntmps10
            go_wp2_with fail
            refine (RefRight_any N n _ HN.out).mono ?_
            rw [H1.out]
            rintro e w1 ⟨rfl, hB1⟩
            obtain ⟨k0, k1, k2, k3, k4⟩ := rr_facts (HW0.out.below hB1 HW0.out.lt)
            have hw1 := HW0.out.below hB1 HW0.out.lt
            have HW1 := Lib.hid hw1
            have HB1 := Lib.hid (HB0.out.trans (hB1.mono HB0.out.size))
            clear hB1 c0 hw1
            go_wp2_with fail
            refine (typed_any c em _).mono ?_
            rw [HY.out]
            rintro e w2 ⟨rfl, rfl⟩
            go_wp2_with fail
            go_ret
            exact ⟨by rw [HR.out]; rfl, HB1.out⟩
          | true =>
            rw [hy, if_pos rfl] at hty
            have HR := Lib.hid (show okR ⟨n, t, c, l, d⟩ = rightR t d by rw [HO.out, hty])
            have HY := Lib.hid hy
            clear hty hy hme
            go_enter Try.func10, Try.ntmps10
            go_wp2_with fail
            refine (RefRight_any N n _ HN.out).mono ?_
            rw [H1.out]
            rintro e w1 ⟨rfl, hB1⟩
            obtain ⟨k0, k1, k2, k3, k4⟩ := rr_facts (HW0.out.below hB1 HW0.out.lt)
            have hw1 := HW0.out.below hB1 HW0.out.lt
            have HW1 := Lib.hid hw1
            have HB1 := Lib.hid (HB0.out.trans (hB1.mono HB0.out.size))
            clear hB1 c0 hw1
            go_wp2_with fail
            refine (typed_any c em _).mono ?_
            rw [HY.out]
            rintro e w2 ⟨rfl, rfl⟩
            go_wp2_with fail
            refine (RefDRight_any D d t _ HD.out hd).mono ?_
            rintro e w2 ⟨rfl, hB2⟩
            go_wp2_with fail
            go_ret
            exact ⟨by rw [HR.out]; rfl, HB1.out.trans (hB2.mono HB1.out.size)⟩

end Go.Proofs.Ytdanncclnhkmgaa
namespace Go.Proofs.Ytdanncclnhkmgaa
open Go.RowKit Go.Op

def fewB (n d : Nat) : Bool := decide (n ≤ 600) && decide (d ≤ 2000)
theorem few_any (N D : ByteArray) (t c l : Int) (w : World) : Calls Try.prog 8 #[.agg (rrA N D t c l)] w fun e w' => e = .returned (.bool (fewB N.size D.size)) ∧ Below w.heap.size w w' := by
  have hW0 := Whole.new w rrT (rrA N D t c l)
  have HB0 := Lib.hid (show Below w.heap.size w (w.alloc (.cells (rrA N D t c l) rrT)) from (Below.refl _ _).alloc (Nat.le_refl _) _)
  obtain ⟨c0, _, _, _, c4⟩ := rr_facts hW0
  clear hW0
  unfold rrA at *
  by_cases h1 : N.size ≤ 600
  · by_cases h2 : D.size ≤ 2000
    · have HE := Lib.hid (show fewB N.size D.size = true by unfold fewB; simp [h1, h2])
      have g1 : (N.size : Int) ≤ 600 := by omega
      have g2 : (D.size : Int) ≤ 2000 := by omega
      go_enter Try.func8, Try.ntmps8
      go_wp2_with fail
      go_ret
      exact ⟨by rw [HE.out]; rfl, HB0.out⟩
    · have HE := Lib.hid (show fewB N.size D.size = false by unfold fewB; simp [h2])
      have g1 : (N.size : Int) ≤ 600 := by omega
      have g2 : decide (D.size ≤ 2000) = false := by simp; omega
      have g3 : decide ((D.size : Int) ≤ 2000) = false := by rw [decide_eq_false_iff_not]; omega
      clear h2
      go_enter Try.func8, Try.ntmps8
      go_wp2_with fail
      go_ret
      exact ⟨by rw [HE.out]; rfl, HB0.out⟩
  · have HE := Lib.hid (show fewB N.size D.size = false by unfold fewB; simp [h1])
    have g2 : decide (N.size ≤ 600) = false := by simp; omega
    have g3 : decide ((N.size : Int) ≤ 600) = false := by rw [decide_eq_false_iff_not]; omega
    clear h1
    go_enter Try.func8, Try.ntmps8
    go_wp2_with fail
    go_ret
    exact ⟨by rw [HE.out]; rfl, HB0.out⟩

theorem name_A : nameL [1, 65, 0] = some [[65]] := nameL_enc (L := [[65]]) (by intro x hx; simp at hx; subst hx; simp) (by decide)
theorem name_a : nameL [1, 97, 0] = some [[97]] := nameL_enc (L := [[97]]) (by intro x hx; simp at hx; subst hx; simp) (by decide)
theorem right_abcd : rightR 1 [97, 98, 99, 100] = true := by
  have h := (right_of (t := 1) (V := [(4, [97, 98, 99, 100])]) ⟨by simp [Part], by simp [Okp], by simp, trivial⟩ rfl (by simp [cat])).1
  simpa [cat] using h
theorem awake_ok : okR ⟨[1, 65, 0], 1, 1, 5, [97, 98, 99, 100]⟩ = true := by
  unfold okR
  rw [name_A, show tyd 1 1 ([97, 98, 99, 100] : List UInt8).length = 1 from rfl, right_abcd]
  rfl
theorem awake_one : oneR ⟨[1, 65, 0], 1, 1, 5, [97, 98, 99, 100]⟩ ⟨[1, 97, 0], 1, 1, 0, [97, 98, 99, 100]⟩ = true := by
  unfold oneR alikeN
  rw [name_A, name_a]
  decide
set_option maxHeartbeats 1000000 in
set_option maxRecDepth 20000 in
theorem awake_any (w : World) : Calls Try.prog 7 #[] w fun e w' => e = .returned (.bool true) ∧ Below w.heap.size w w' := by
  have hW0 := Whole.new w rrT (rrA ⟨#[1, 65, 0]⟩ ⟨#[97, 98, 99, 100]⟩ 1 1 5)
  have HB0 := Lib.hid (show Below w.heap.size w (w.alloc (.cells (rrA ⟨#[1, 65, 0]⟩ ⟨#[97, 98, 99, 100]⟩ 1 1 5) rrT)) from (Below.refl _ _).alloc (Nat.le_refl _) _)
  have HW0 := Lib.hid hW0
  clear hW0
  unfold rrA at *
  go_enter Try.func7, Try.ntmps7
  go_wp2_with fail
  refine (RRight_any ⟨#[1, 65, 0]⟩ ⟨#[97, 98, 99, 100]⟩ ⟨[1, 65, 0], 1, 1, 5, [97, 98, 99, 100]⟩ _ rfl rfl (by simp) (by simp)).mono ?_
  rw [awake_ok]
  rintro e w1 ⟨rfl, hB1⟩
  obtain ⟨k0, k1, k2, k3, k4⟩ := rr_facts (HW0.out.below hB1 HW0.out.lt)
  have HB1 := Lib.hid (HB0.out.trans (hB1.mono HB0.out.size))
  clear hB1
  go_wp2_with fail
  refine (One_any ⟨#[1, 65, 0]⟩ ⟨#[97, 98, 99, 100]⟩ ⟨#[1, 97, 0]⟩ ⟨#[97, 98, 99, 100]⟩ ⟨[1, 65, 0], 1, 1, 5, [97, 98, 99, 100]⟩ ⟨[1, 97, 0], 1, 1, 0, [97, 98, 99, 100]⟩ _ rfl rfl rfl rfl (by simp) (by simp) (by simp) (by simp)).mono ?_
  rw [awake_one]
  rintro e w2 ⟨rfl, hB2⟩
  go_wp2_with fail
  go_ret
  exact ⟨rfl, HB1.out.trans (hB2.mono HB1.out.size)⟩
end Go.Proofs.Ytdanncclnhkmgaa
namespace Go.Proofs.Ytdanncclnhkmgaa
open Go.RowKit
def recOf (N D : ByteArray) (t c l : Int) : Rec := ⟨N.data.toList, t, c, l, D.data.toList⟩
theorem recOf_n (N D : ByteArray) (t c l : Int) : N = mk (recOf N D t c l).n := (mk_toList N).symm
theorem recOf_d (N D : ByteArray) (t c l : Int) : D = mk (recOf N D t c l).d := (mk_toList D).symm
end Go.Proofs.Ytdanncclnhkmgaa
namespace Go.Proofs.Ytdanncclnhkmgaa
open Go.RowKit Go.Maps

theorem sees_three {W : World} {g ty : Nat} {x y z : Int} (h : Whole W g ty #[.int .u64 x, .int .u64 y, .int .u64 z]) : Sees W (g + 1) (some ⟨g, 0, none⟩) 3 (ints .u64 [x, y, z]) := sees_whole h

section
variable {B b m c0 : Nat} {w w' : World} {v v' : Value} {l : List UInt8} {K : Kn}
set_option maxHeartbeats 4000000 in
set_option maxRecDepth 20000 in
theorem writeHead_any (h : Pk B w b m v l K c0) (N D : ByteArray) (t c ttl : Int) (ht : 0 ≤ t ∧ t ≤ 65535) (hc : 0 ≤ c ∧ c ≤ 65535) (hl : 0 ≤ ttl ∧ ttl ≤ 2147483647) (hlen : l.length + 8 ≤ 1000000000) (hBw : B ≤ w.heap.size) :
    Calls Try.prog 44 #[pkP b, .agg (rrA N D t c ttl)] w fun e w' => e = .returned (.tuple #[]) ∧ ∃ v', Pk B w' b m v' (l ++ headB t c ttl) K c0 ∧ Kp b m v v' w w' := by
  have HJ := Lib.hid (join_head ht hc hl)
  obtain ⟨t0, t1⟩ := ht
  obtain ⟨s0, s1⟩ := hc
  obtain ⟨l0, l1⟩ := hl
  have u1 : IntKind.u64.wrap t = t := by rw [IntKind.wrap_u64]; omega
  have u2 : IntKind.u64.wrap c = c := by rw [IntKind.wrap_u64]; omega
  have u3 : IntKind.u64.wrap ttl = ttl := by rw [IntKind.wrap_u64]; omega
  have HU := Lib.hid (show U64s [t, c, ttl] from by intro z hz; simp at hz; omega)
  have hb0 : Below w.heap.size w (w.alloc (.cells (rrA N D t c ttl) rrT)) := (Below.refl _ _).alloc (Nat.le_refl _) _
  have hW0 := Whole.new w rrT (rrA N D t c ttl)
  have HH := Lib.hid (h.same hb0)
  have HB0 := Lib.hid hb0
  have HW0 := Lib.hid hW0
  obtain ⟨_, c1, c2, c3, _⟩ := rr_facts hW0
  clear hb0 hW0
  unfold rrA at *
  go_enter Try.func44, Try.ntmps44
  go_wp2_with fail
  go_region_held3 (fun w' => w'.cell? ⟨w.heap.size, 1, none⟩ = some (.int .i64 t) ∧ w'.cell? ⟨w.heap.size, 2, none⟩ = some (.int .i64 c) ∧ w'.cell? ⟨w.heap.size, 3, none⟩ = some (.int .i64 ttl)) (go_keep) (first
    | (go_at_call 54; (refine (headWidths_any _).mono ?_; rintro e w1 ⟨g1, rfl, hs1, hB1⟩; have hB1 := (Below.refl _ _).drew.trans hB1; (first
        | (have hq : Below _ (w.alloc (.cells #[.string N, .int .i64 t, .int .i64 c, .int .i64 ttl, .string D] 23)) w1 := (by with_reducible exact hB1); have hw1 := HW0.out.below hq HW0.out.lt; have HB1 := Lib.hid (HB0.out.trans (hq.mono HB0.out.size)); obtain ⟨_, k1, k2, k3, _⟩ := rr_facts hw1)
        | (have hq : Below _ ((w.alloc (.cells #[.string N, .int .i64 t, .int .i64 c, .int .i64 ttl, .string D] 23)).alloc (.cells #[.int .u64 t, .int .u64 c, .int .u64 ttl] 72)) w1 := (by with_reducible exact hB1); have hw0' := HW0.out.alloc (.cells #[.int .u64 t, .int .u64 c, .int .u64 ttl] 72); have hw1 := hw0'.below hq hw0'.lt; have hu0 := Whole.new (w.alloc (.cells #[.string N, .int .i64 t, .int .i64 c, .int .i64 ttl, .string D] rrT)) 72 #[.int .u64 t, .int .u64 c, .int .u64 ttl]; rw [World.size_alloc] at hu0; have hu1 := hu0.below hq hu0.lt; have HB1 := Lib.hid ((HB0.out.alloc HB0.out.size (.cells #[.int .u64 t, .int .u64 c, .int .u64 ttl] 72)).trans (hq.mono (by first | (simp; omega) | simp | omega))); obtain ⟨_, k1, k2, k3, _⟩ := rr_facts hw1))))
    | (go_at_call 78; (first
        | (refine (Join_any _ _ 3 3 3 3 _ _ [t, c, ttl] [2, 2, 4] _ (sees_three hu1) hs1 (Nat.succ_le_of_lt hu1.lt) (Nat.le_refl _) (by decide) (by decide) HU.out).mono ?_; rintro e w2 ⟨he, hB2⟩; rw [HJ.out] at he; subst he; have HB2 := Lib.hid (HB1.out.trans (hB2.mono HB1.out.size)); obtain ⟨_, z1, z2, z3, _⟩ := rr_facts (hw1.below hB2 hw1.lt))
        | (refine (Join_any _ _ 3 3 3 3 _ _ [t, c, ttl] [2, 2, 4] _ (sees_three (Whole.new w1 72 #[.int .u64 t, .int .u64 c, .int .u64 ttl])) (hs1.below ((Below.refl _ _).alloc (Nat.le_refl _) _)) (by simp) (by simp) (by decide) (by decide) HU.out).mono ?_; rintro e w2 ⟨he, hB2⟩; rw [HJ.out] at he; subst he; have HB2 := Lib.hid ((HB1.out.alloc HB1.out.size (.cells #[.int .u64 t, .int .u64 c, .int .u64 ttl] 72)).trans (hB2.mono (by have := HB1.out.size; first | (simp; omega) | simp | omega))); obtain ⟨_, z1, z2, z3, _⟩ := rr_facts ((hw1.alloc (.cells #[.int .u64 t, .int .u64 c, .int .u64 ttl] 72)).below hB2 (hw1.alloc (.cells #[.int .u64 t, .int .u64 c, .int .u64 ttl] 72)).lt)))))
  all_goals (
    have HP2 := Lib.hid (h.same HB2.out)
    clear hB2 hB1
    go_wp2_with fail
    refine (Raw_any HP2.out _ (by rw [mk_size, headB_len]; omega) (Nat.le_trans hBw HB2.out.size)).mono ?_
    rintro e w3 ⟨rfl, v', h1, h2⟩
    go_wp2_with fail
    go_end0
    exact ⟨rfl, v', h1, (Kp.of_below HB2.out).trans h2⟩)
end
end Go.Proofs.Ytdanncclnhkmgaa
namespace Go.Proofs.Ytdanncclnhkmgaa
open Go.RowKit Go.Maps

section
variable {B b m : Nat} {w w' : World} {v v' : Value} {l : List UInt8} {K : Kn}
set_option maxHeartbeats 2000000 in
set_option maxRecDepth 20000 in
theorem writeData_any (h : Pk B w b m v l K l.length) (N D : ByteArray) (t c ttl : Int) (d : List UInt8) (hD : D = mk d) (hd : d.length ≤ 65535) (hr : rightR (tyd t c d.length) d = true) (hl : l.length ≤ 800000) (hBw : B ≤ w.heap.size) (hK : InvK l K) :
    Calls Try.prog 47 #[pkP b, .agg (rrA N D t c ttl)] w fun e w' => e = .returned (.tuple #[]) ∧ ∃ v', Pk B w' b m v' (dataW t c d (l, K)).1 (dataW t c d (l, K)).2 (dataW t c d (l, K)).1.length ∧ Kp b m v v' w w' := by
  have hsz : D.size = d.length := by rw [hD, mk_size]
  have HS := Lib.hid hsz
  have HD := Lib.hid hD
  have HR := Lib.hid hr
  have hb0 : Below w.heap.size w (w.alloc (.cells (rrA N D t c ttl) rrT)) := (Below.refl _ _).alloc (Nat.le_refl _) _
  have hW0 := Whole.new w rrT (rrA N D t c ttl)
  have HH := Lib.hid (h.same hb0)
  have HB0 := Lib.hid hb0
  have HW0 := Lib.hid hW0
  have HE := Lib.hid (show writeV true (visR (tyd t c d.length) d) (l, K) = dataW t c d (l, K) from rfl)
  obtain ⟨_, c1, c2, _, c4⟩ := rr_facts hW0
  clear h hb0 hW0 hD hr hsz
  unfold rrA at *
  go_enter Try.func47, Try.ntmps47
  go_wp2_with fail
  go_region_held3 (fun w' => w'.cell? ⟨w.heap.size, 1, none⟩ = some (.int .i64 t) ∧ w'.cell? ⟨w.heap.size, 2, none⟩ = some (.int .i64 c) ∧ w'.cell? ⟨w.heap.size, 4, none⟩ = some (.string D)) (go_keep) (first
    | (go_at_call 27; (refine (typeOf_any t c D.size _).mono ?_; rw [HS.out]; rintro e w1 ⟨rfl, rfl⟩))
    | (go_at_call 80; (refine (Write_yes HH.out.drew D d _ HD.out hd HR.out hl (Nat.le_trans hBw HB0.out.size) hK).mono ?_; rintro e w2 ⟨rfl, v2, h2, k2⟩; have k2 := (Kp.refl _ _ _ _).drew.trans k2; obtain ⟨_, z1, z2, _, z4⟩ := rr_facts (k2.whole HW0.out HH.out (by decide) (by decide)))))
  all_goals (
    go_wp2_with fail
    go_end0
    rw [HE.out] at h2
    exact ⟨rfl, v2, h2, (Kp.of_below HB0.out).trans k2⟩)

set_option maxHeartbeats 2000000 in
set_option maxRecDepth 20000 in
theorem sizeOfData_any (h : Pk B w b m v l K l.length) (N D : ByteArray) (r : Rec) (hD : D = mk r.d) (hd : r.d.length ≤ 65535) (hr : rightR (tyd r.t r.c r.d.length) r.d = true) (hl : l.length ≤ 700000) (_hBw : B ≤ w.heap.size) (hK : InvK l K) :
    Calls Try.prog 46 #[pkP b, .agg (rrA N D r.t r.c r.l)] w fun e w' => e = .returned (.int .i64 (sizeW r (l, K) : Nat)) ∧ ∃ v', Pk B w' b m v' l K l.length ∧ Kp b m v v' w w' := by
  obtain ⟨n, t, c, ttl, d⟩ := r
  simp only at hD hd hr ⊢
  obtain ⟨z, K', hz, _⟩ := data_same t c d (l := l ++ be 0 2) (l' := l ++ be 0 2) K rfl
  have hsz : sizeW ⟨n, t, c, ttl, d⟩ (l, K) = z.length := by
    unfold sizeW
    simp only
    rw [hz, List.length_append, List.length_append, be_length]
    omega
  have hlen : (l ++ be 0 2).length = l.length + 2 := by rw [List.length_append, be_length]
  have hzl : z.length ≤ 65535 := by
    obtain ⟨_, _, hcat, hwf, _⟩ := right_is hr
    obtain ⟨_, ⟨z2, hz3, hz4⟩, _⟩ := steps_write true (visR (tyd t c d.length) d) (l ++ be 0 2, K) (hK.raw _) hwf
    have e1 : (dataW t c d (l ++ be 0 2, K)).1 = (l ++ be 0 2) ++ z2 := hz3
    rw [hz] at e1
    have e2 := List.append_cancel_left e1
    rw [e2]; rw [hcat] at hz4; omega
  have hinv := hK.raw (be 0 2)
  have HZ := Lib.hid hz
  have HSZ := Lib.hid hsz
  have HI := Lib.hid hinv
  have HL := Lib.hid hlen
  have HD := Lib.hid hD
  have HR := Lib.hid hr
  have hb0 : Below w.heap.size w (w.alloc (.cells (rrA N D t c ttl) rrT)) := (Below.refl _ _).alloc (Nat.le_refl _) _
  have hW0 := Whole.new w rrT (rrA N D t c ttl)
  have HH := Lib.hid (h.same hb0)
  have HB0 := Lib.hid hb0
  have HW0 := Lib.hid hW0
  clear h hb0 hW0 hD hr hz hsz hinv hlen
  unfold rrA at *
  obtain ⟨W, hW⟩ : ∃ W, W = w.alloc (.cells #[.string N, .int .i64 t, .int .i64 c, .int .i64 ttl, .string D] 23) := ⟨_, rfl⟩
  obtain ⟨g, hg⟩ : ∃ g, g = w.heap.size := ⟨_, rfl⟩
  have HH := Lib.hid (show Pk B W b m v l K l.length by rw [hW]; exact HH.out)
  have HB0 := Lib.hid (show Below w.heap.size w W by rw [hW]; exact HB0.out)
  have HW0 := Lib.hid (show Whole W g rrT #[.string N, .int .i64 t, .int .i64 c, .int .i64 ttl, .string D] by rw [hW, hg]; exact HW0.out)
  have HWW := Lib.hid hW
  have HG := Lib.hid hg
  clear hW hg
  go_enter Try.func46, Try.ntmps46
  go_wp2_with fail
  rw [← HWW.out, ← HG.out]
  refine (Clone_any HH.out (by omega)).mono ?_
  rintro e w1 ⟨b2, m2, v2, rfl, hp2, hp, hk⟩
  have HK1 := Lib.hid hk
  have HP1 := Lib.hid hp
  have HQ1 := Lib.hid hp2
  have HW1 := Lib.hid (hk.whole HW0.out HH.out (by decide) (by decide))
  have hs1 : W.heap.size ≤ w1.heap.size := hk.size
  clear hk hp hp2
  go_wp2_with fail
  refine (writeSize_any HQ1.out 0 (by decide) (by omega) hs1).mono ?_
  rintro e w2 ⟨rfl, v3, h3, k3⟩
  have hb3 := k3.below HQ1.out hs1
  have HQ2 := Lib.hid (h3.more (c' := (l ++ be 0 2).length) (by rw [HL.out]; omega))
  have HP2 := Lib.hid (HP1.out.under HH.out rfl hb3)
  have HK2 := Lib.hid (HK1.out.toB hb3 k3.size (fun g hg => .inl hg))
  have HW2 := Lib.hid (show Whole w2 g rrT #[.string N, .int .i64 t, .int .i64 c, .int .i64 ttl, .string D] from (hb3.block g HW0.out.lt).trans HW1.out)
  have hs2 : W.heap.size ≤ w2.heap.size := Nat.le_trans hs1 k3.size
  clear h3 k3 hb3
  go_wp2_with fail
  refine (Len_any HQ2.out).mono ?_
  rw [HL.out]
  rintro e w' ⟨rfl, rfl⟩
  obtain ⟨e0, e1, e2, e3, e4⟩ := rr_facts HW2.out
  go_wp2_with fail
  refine (writeData_any HQ2.out N D t c ttl d HD.out hd HR.out (by rw [HL.out]; omega) hs2 HI.out).mono ?_
  rw [HZ.out]
  rintro e w3 ⟨rfl, v4, h4, k4⟩
  have hb4 := k4.below HQ2.out hs2
  have HQ3 := Lib.hid h4
  have HP3 := Lib.hid (HP2.out.under HH.out rfl hb4)
  have HK3 := Lib.hid (HK2.out.toB hb4 k4.size (fun g hg => .inl hg))
  have HLZ := Lib.hid (show (l ++ be 0 2 ++ z).length = l.length + 2 + z.length by rw [List.length_append, HL.out])
  clear h4 k4 hb4 e0 e1 e2 e3 e4
  go_wp2_with fail
  refine (Len_any HQ3.out).mono ?_
  rw [HLZ.out]
  rintro e w' ⟨rfl, rfl⟩
  go_wp2_with fail
  go_ret
  exact ⟨by rw [HSZ.out]; show Ending.returned (.int .i64 ((l.length : Int) + 2 + (z.length : Int) - ((l.length : Int) + 2))) = _; rw [show (l.length : Int) + 2 + (z.length : Int) - ((l.length : Int) + 2) = (z.length : Int) by omega], v, HP3.out, (Kp.of_below HB0.out).trans HK3.out⟩

set_option maxHeartbeats 2000000 in
set_option maxRecDepth 20000 in
theorem RWrite_no {c0 : Nat} (h : Pk B w b m v l K c0) (N D : ByteArray) (r : Rec) (hN : N = mk r.n) (hD : D = mk r.d) (hn : r.n.length ≤ 1073741824) (hd : r.d.length ≤ 65535) (hok : okR r = false) :
    Calls Try.prog 19 #[pkP b, .agg (rrA N D r.t r.c r.l)] w fun e w' => e = .returned (.int .i64 2) ∧ Pk B w' b m v l K c0 ∧ Below w.heap.size w w' := by
  have hb0 : Below w.heap.size w (w.alloc (.cells (rrA N D r.t r.c r.l) rrT)) := (Below.refl _ _).alloc (Nat.le_refl _) _
  have hW0 := Whole.new w rrT (rrA N D r.t r.c r.l)
  have HH := Lib.hid h
  have HB0 := Lib.hid hb0
  obtain ⟨c0, c1, c2, c3, c4⟩ := rr_facts hW0
  have HN := Lib.hid hN
  have HD := Lib.hid hD
  have HOK := Lib.hid hok
  clear h hb0 hW0 hN hD hok
  unfold rrA at *
  go_enter Try.func19, Try.ntmps19
  go_wp2_with fail
  refine (RRight_any N D r _ HN.out HD.out hn hd).mono ?_
  rw [HOK.out]
  rintro e w1 ⟨rfl, hB⟩
  have HB1 := Lib.hid (HB0.out.trans (hB.mono HB0.out.size))
  clear hB
  go_wp2_with fail
  go_ret
  exact ⟨rfl, HH.out.same HB1.out, HB1.out⟩

set_option maxHeartbeats 4000000 in
set_option maxRecDepth 20000 in
theorem RWrite_yes (h : Pk B w b m v l K l.length) (N D : ByteArray) (r : Rec) (hN : N = mk r.n) (hD : D = mk r.d) (hn : r.n.length ≤ 1073741824) (hok : okR r = true) (hl : l.length ≤ 600000) (hBw : B ≤ w.heap.size) (hK : InvK l K) :
    Calls Try.prog 19 #[pkP b, .agg (rrA N D r.t r.c r.l)] w fun e w' => e = .returned (.int .i64 0) ∧ ∃ v', Pk B w' b m v' (writeW r (l, K)).1 (writeW r (l, K)).2 (writeW r (l, K)).1.length ∧ Kp b m v v' w w' := by
  obtain ⟨⟨L, hL⟩, ht, hc, httl, hr⟩ := ok_parts hok
  have hd : r.d.length ≤ 65535 := (right_is hr).1
  have hsize := size_le hok (st := (l, K)) hK
  obtain ⟨htop, ⟨z, hz, _, hz2⟩, _⟩ := top_inv hok (st := (l, K)) hK
  have hnw : nameW r.n (l, K) = putL true L l K := by unfold nameW; rw [hL]
  obtain ⟨l1, K1, h1⟩ : ∃ l1 K1, putL true L l K = (l1, K1) := ⟨_, _, rfl⟩
  rw [hnw, h1] at hz
  have hl1 : l1.length ≤ 600255 := by
    have := congrArg List.length hz
    simp only [List.length_append] at this
    omega
  have htw : topW r (l, K) = (l1 ++ headB r.t r.c r.l, K1) := by unfold topW; rw [hnw, h1]
  have hwr : writeW r (l, K) = dataW r.t r.c r.d (l1 ++ headB r.t r.c r.l ++ be (sizeW r (l1 ++ headB r.t r.c r.l, K1)) 2, K1) := by unfold writeW; rw [htw]
  rw [htw] at htop hsize
  simp only at htop
  have hKt : ∀ r t, K r = some t → t < 16384 := fun r t h => (hK r t h).2.1
  obtain ⟨l2, hl2⟩ : ∃ l2, l2 = l1 ++ headB r.t r.c r.l := ⟨_, rfl⟩
  rw [← hl2] at htop hsize hwr
  have hl2l : l2.length ≤ 600263 := by rw [hl2, List.length_append, headB_len]; omega
  obtain ⟨sz, hsz⟩ : ∃ sz, sz = sizeW r (l2, K1) := ⟨_, rfl⟩
  rw [← hsz] at hsize hwr
  have hb0 : Below w.heap.size w (w.alloc (.cells (rrA N D r.t r.c r.l) rrT)) := (Below.refl _ _).alloc (Nat.le_refl _) _
  have hW0 := Whole.new w rrT (rrA N D r.t r.c r.l)
  have HH := Lib.hid (h.same hb0)
  have HB0 := Lib.hid hb0
  have HW0 := Lib.hid hW0
  obtain ⟨c0, c1, c2, c3, c4⟩ := rr_facts hW0
  have HN := Lib.hid hN
  have HD := Lib.hid hD
  have HOK := Lib.hid hok
  have HLN := Lib.hid hL
  have H1 := Lib.hid h1
  have HT := Lib.hid htop
  have HR := Lib.hid hr
  have HL2 := Lib.hid hl2
  have HSZ := Lib.hid hsz
  have HWR := Lib.hid hwr
  have HKT := Lib.hid hKt
  have HIZ := Lib.hid (htop.raw (be sz 2))
  have HLZ := Lib.hid (show (l2 ++ be sz 2).length = l2.length + 2 by rw [List.length_append, be_length])
  clear h hb0 hW0 hN hD hok hL h1 htop hr hl2 hsz hwr hKt hz hz2 hnw htw
  unfold rrA at *
  go_enter Try.func19, Try.ntmps19
  go_wp2_with fail
  refine (RRight_any N D r _ HN.out HD.out hn hd).mono ?_
  rw [HOK.out]
  rintro e w1 ⟨rfl, hB⟩
  have HP1 := Lib.hid (HH.out.same hB)
  have HW1 := Lib.hid (HW0.out.below hB HW0.out.lt)
  have HK1 := Lib.hid ((Kp.of_below (b := b) (m := m) (v := v) HB0.out).to hB)
  have hs1 : B ≤ w1.heap.size := Nat.le_trans hBw HK1.out.size
  clear c0 c1 c2 c3 c4 hB
  obtain ⟨c0, _, _, _, _⟩ := rr_facts HW1.out
  go_wp2_with fail
  refine (Name_yes HP1.out N r.n L true HN.out HLN.out (by omega) hs1 HKT.out).mono ?_
  rw [H1.out]
  rintro e w2 ⟨rfl, v2, h2, k2⟩
  have HP2 := Lib.hid h2
  have HW2 := Lib.hid (k2.whole HW1.out HP1.out (by decide) (by decide))
  have HK2 := Lib.hid (HK1.out.trans k2)
  have hs2 : B ≤ w2.heap.size := Nat.le_trans hs1 k2.size
  clear h2 k2 c0
  obtain ⟨e0, e1, e2, e3, e4⟩ := rr_facts HW2.out
  go_wp2_with fail
  refine (writeHead_any HP2.out N D r.t r.c r.l ht hc httl (by omega) hs2).mono ?_
  rw [← HL2.out]
  rintro e w3 ⟨rfl, v3, h3, k3⟩
  have HP3 := Lib.hid (h3.more (c' := l2.length) (by rw [HL2.out, List.length_append]; omega))
  have HW3 := Lib.hid (k3.whole HW2.out HP2.out (by decide) (by decide))
  have HK3 := Lib.hid (HK2.out.trans k3)
  have hs3 : B ≤ w3.heap.size := Nat.le_trans hs2 k3.size
  clear h3 k3 e0 e1 e2 e3 e4
  obtain ⟨e0, e1, e2, e3, e4⟩ := rr_facts HW3.out
  go_wp2_with fail
  refine (sizeOfData_any HP3.out N D r HD.out hd HR.out (by omega) hs3 HT.out).mono ?_
  rw [← HSZ.out]
  rintro e w4 ⟨rfl, v4, h4, k4⟩
  have HP4 := Lib.hid h4
  have HW4 := Lib.hid (k4.whole HW3.out HP3.out (by decide) (by decide))
  have HK4 := Lib.hid (HK3.out.trans k4)
  have hs4 : B ≤ w4.heap.size := Nat.le_trans hs3 k4.size
  clear h4 k4 e0 e1 e2 e3 e4
  go_wp2_with fail
  refine (writeSize_any HP4.out sz (by omega) (by omega) hs4).mono ?_
  rintro e w5 ⟨rfl, v5, h5, k5⟩
  have HP5 := Lib.hid (h5.more (c' := (l2 ++ be sz 2).length) (by rw [HLZ.out]; omega))
  have HW5 := Lib.hid (k5.whole HW4.out HP4.out (by decide) (by decide))
  have HK5 := Lib.hid (HK4.out.trans k5)
  have hs5 : B ≤ w5.heap.size := Nat.le_trans hs4 k5.size
  clear h5 k5
  obtain ⟨e0, e1, e2, e3, e4⟩ := rr_facts HW5.out
  go_wp2_with fail
  refine (writeData_any HP5.out N D r.t r.c r.l r.d HD.out hd HR.out (by rw [HLZ.out]; omega) hs5 HIZ.out).mono ?_
  rw [← HWR.out]
  rintro e w6 ⟨rfl, v6, h6, k6⟩
  have HP6 := Lib.hid h6
  have HK6 := Lib.hid (HK5.out.trans k6)
  clear h6 k6
  go_wp2_with fail
  go_ret
  exact ⟨rfl, v6, HP6.out, HK6.out⟩
end
end Go.Proofs.Ytdanncclnhkmgaa
namespace Go.Proofs.Ytdanncclnhkmgaa
open Go.RowKit

theorem ttlOf_any (n : Nat) (w : World) (h : n ≤ 4294967295) : Calls Try.prog 56 #[.int .u64 (n : Nat)] w fun e w' => e = .returned (.int .i64 (ageR n : Nat)) ∧ w = w' := by
  by_cases hn : n ≤ 2147483647
  · have HE := Lib.hid (show ageR n = n by unfold ageR; rw [if_neg (by omega)])
    have g1 : decide ((2147483647 : Int) < (n : Int)) = false := by rw [decide_eq_false_iff_not]; omega
    have g2 : decide ((2147483647 : Nat) < n) = false := by rw [decide_eq_false_iff_not]; omega
    have g3 : IntKind.i64.wrap (n : Int) = (n : Int) := by rw [IntKind.wrap_i64]; omega
    go_enter Try.func56, Try.ntmps56
    go_wp2_with fail
    go_ret
    exact ⟨by rw [HE.out]; rfl, rfl⟩
  · have HE := Lib.hid (show ageR n = 0 by unfold ageR; rw [if_pos (by omega)])
    have g1 : decide ((2147483647 : Int) < (n : Int)) = true := by rw [decide_eq_true_iff]; omega
    have g2 : decide ((2147483647 : Nat) < n) = true := by rw [decide_eq_true_iff]; omega
    clear hn
    go_enter Try.func56, Try.ntmps56
    go_wp2_with fail
    go_ret
    exact ⟨by rw [HE.out]; rfl, rfl⟩
theorem rr_size : (Try.prog.info? rrT).map (·.size) = some 5 := by kernel_rfl
theorem ret5 {fn : Func} {R : Ending → World → Prop} {a : Act} {w : World} {p u z r : Nat} {a0 a1 a2 a3 a4 x y : Value} (hf : fn.results = #[.cell p rrT, .tmp u, .tmp z]) (hd : a.defers = []) (hp : a.tmps.getD p undef = .pointer (some ⟨r, 0, none⟩)) (hx : a.tmps.getD u undef = x) (hy : a.tmps.getD z undef = y)
    (h : Whole w r rrT #[a0, a1, a2, a3, a4]) (hR : R (.returned (.tuple #[.agg #[a0, a1, a2, a3, a4], x, y])) w) : bodyPost Try.prog fn R .ret a w := by
  refine bodyPost_ret ?_ hd hR
  have hp' : a.tmps[p]?.getD undef = .pointer (some ⟨r, 0, none⟩) := by simpa using hp
  have hx' : a.tmps[u]?.getD undef = x := by simpa using hx
  have hy' : a.tmps[z]?.getD undef = y := by simpa using hy
  simp [results, hf, hp', hx', hy', asAddr, run_loadVar_row w r rrT _ _ (0, 0) _ h Try.underlying23 rfl rr_size, Result.andThen]
theorem five_put {w : World} {r t : Nat} {x0 x1 x2 x3 x4 : Value} (h : Whole w r t #[x0, x1, x2, x3, x4]) (a0 a1 a2 a3 a4 : Value) :
    Whole (((((w.setCell ⟨r, 0, none⟩ a0).setCell ⟨r, 1, none⟩ a1).setCell ⟨r, 2, none⟩ a2).setCell ⟨r, 3, none⟩ a3).setCell ⟨r, 4, none⟩ a4) r t #[a0, a1, a2, a3, a4] := by
  have := ((((h.put 0 a0).put 1 a1).put 2 a2).put 3 a3).put 4 a4
  simpa using this
theorem five_below {B : Nat} {a w : World} {r : Nat} (h : Below B a w) (hr : B ≤ r) (a0 a1 a2 a3 a4 : Value) :
    Below B a (((((w.setCell ⟨r, 0, none⟩ a0).setCell ⟨r, 1, none⟩ a1).setCell ⟨r, 2, none⟩ a2).setCell ⟨r, 3, none⟩ a3).setCell ⟨r, 4, none⟩ a4) :=
  ((((h.setCell hr a0).setCell hr a1).setCell hr a2).setCell hr a3).setCell hr a4
theorem rr_frozen {w : World} {g t : Nat} {cs : Array Value} (h : Whole w g t cs) : w.frozen? ⟨g, 0, none⟩ = false ∧ w.frozen? ⟨g, 1, none⟩ = false ∧ w.frozen? ⟨g, 2, none⟩ = false ∧ w.frozen? ⟨g, 3, none⟩ = false ∧ w.frozen? ⟨g, 4, none⟩ = false :=
  ⟨h.frozen 0, h.frozen 1, h.frozen 2, h.frozen 3, h.frozen 4⟩
theorem soa5 {w : World} {r t : Nat} {a0 a1 a2 a3 a4 : Value} (h : Whole w r t #[a0, a1, a2, a3, a4]) :
    w.cell? ⟨r, 0, none⟩ = some a0 ∧ w.cell? ⟨r, 1, none⟩ = some a1 ∧ w.cell? ⟨r, 2, none⟩ = some a2 ∧ w.cell? ⟨r, 3, none⟩ = some a3 ∧ w.cell? ⟨r, 4, none⟩ = some a4 :=
  ⟨(h.cell 0).trans rfl, (h.cell 1).trans rfl, (h.cell 2).trans rfl, (h.cell 3).trans rfl, (h.cell 4).trans rfl⟩
def zeroRR : Array Value := #[.string ⟨#[]⟩, .int .i64 0, .int .i64 0, .int .i64 0, .string ⟨#[]⟩]

set_option maxHeartbeats 2000000 in
set_option maxRecDepth 20000 in
theorem RRead_back (S T R Z : ByteArray) (M n d : List UInt8) (p x k t c l : Nat) (w : World) (hS : S = mk M) (hM : M.length ≤ 800000) (hp : p ≤ M.length) (hr : readR M [] p p none = some (n, x)) (hx : x ≤ M.length)
    (hT : S.extract x S.size = T) (hsp : splitR T [2, 2, 4] = ([(t : Int), (c : Int), (l : Int)], R, 0)) (hcut : cutR R 2 = (Z, (S.extract (x + 10 + k) S.size), 0)) (hZ : Z.size = k) (hend : x + 10 + k ≤ M.length)
    (ht : t ≤ 65535) (hc : c ≤ 65535) (hl : l ≤ 4294967295) (hk : k ≤ 65535) (hd : dataR M (x + 10) (x + 10 + k) (tyd t c k) = some d) :
    Calls Try.prog 22 #[.string S, .int .i64 (p : Nat)] w fun e w' => e = .returned (.tuple #[.agg #[.string (mk n), .int .i64 (t : Nat), .int .i64 (c : Nat), .int .i64 (ageR l : Nat), .string (mk d)], .int .i64 ((x + 10 + k : Nat) : Int), .int .i64 0]) ∧ Below w.heap.size w w' := by
  have hsz : S.size = M.length := by rw [hS, mk_size]
  obtain ⟨R2, hR2⟩ : ∃ R2, R2 = S.extract (x + 10 + k) S.size := ⟨_, rfl⟩
  have hR2z : R2.size + (x + 10 + k) = S.size := by rw [hR2]; simp; omega
  rw [← hR2] at hcut
  have hTz : T.size ≤ 1073741824 := by rw [← hT]; simp; omega
  have hRz : R.size ≤ 1073741824 := by
    have h1 : splitF T [2, 2, 4] = some ([(t : Int), (c : Int), (l : Int)], R) := by
      unfold splitR at hsp
      rw [if_pos (by decide)] at hsp
      cases h : splitF T [2, 2, 4] with
      | none => rw [h] at hsp; simp at hsp
      | some q => rw [h] at hsp; simp only [Prod.mk.injEq] at hsp; obtain ⟨q1, q2⟩ := q; simp at hsp; rw [hsp.1, hsp.2]
    simp only [splitF] at h1
    split at h1
    · cases h1
    · rename_i h2
      split at h1
      · simp at h1
      · split at h1
        · simp at h1
        · simp only [Option.map_some, Option.some.injEq, Prod.mk.injEq] at h1
          rw [← h1.2]; simp; omega
  have HS := Lib.hid hS
  have HR := Lib.hid hr
  have HT := Lib.hid hT
  have HSP := Lib.hid hsp
  have HC := Lib.hid hcut
  have HD := Lib.hid hd
  have HZ := Lib.hid hZ
  have HB0 := Lib.hid (show Below w.heap.size w (w.alloc (.cells zeroRR rrT)) from (Below.refl _ _).alloc (Nat.le_refl _) _)
  have HW0 := Lib.hid (Whole.new w rrT zeroRR)
  have gx : (x : Int) ≤ (S.size : Int) := by omega
  have gx2 : x ≤ S.size := by omega
  have gx0 : (0 : Int) ≤ (x : Int) := by omega
  have rx : IntKind.i64.wrap (x : Int) = (x : Int) := by rw [IntKind.wrap_i64]; omega
  have HRZ := Lib.hid hR2z
  have HSS := Lib.hid hsz
  clear hS hr hT hsp hcut hd hR2 hZ hR2z hsz
  unfold zeroRR at *
  go_enter Try.func22, Try.ntmps22
  go_wp2_with fail
  refine (Read_in S M p _ HS.out (by omega) hp).mono ?_
  rw [HR.out]
  unfold readV
  rintro e w1 ⟨rfl, hB⟩
  have HW1 := Lib.hid (HW0.out.below hB HW0.out.lt)
  have HB1 := Lib.hid (HB0.out.trans (hB.mono HB0.out.size))
  clear hB
  go_wp2_with fail
  have hT' := HT.out
  have k0 := (HW1.out.cell 0).trans (show _ = some (Value.string ⟨#[]⟩) from rfl)
  go_region_held3 (fun w' => w'.cell? ⟨w.heap.size, 0, none⟩ = some (.string ⟨#[]⟩)) (go_keep) (first
    | (go_at_call 54; (refine (headWidths_any _).mono ?_; rintro e w2 ⟨g2, rfl, hs2, hB2⟩; have hB2 := (Below.refl _ _).drew.trans hB2; have k0' := (hB2.cell (p := ⟨w.heap.size, 0, none⟩) HW1.out.lt).trans k0))
    | (go_at_call 53; (refine (Split_any T _ 3 3 _ [2, 2, 4] _ hs2 (by decide) (Nat.le_refl _) hTz).mono ?_; unfold SplitLeaves; rw [HSP.out]; rintro e w3 ⟨A3, c3, rfl, hs3, hB3⟩; have k0'' := (hB3.cell (p := ⟨w.heap.size, 0, none⟩) (Nat.lt_of_lt_of_le HW1.out.lt hB2.size)).trans k0')))
  all_goals (
    have hB23 : Below w1.heap.size w1 w3 := hB2.trans (hB3.mono hB2.size)
    have HW3 := Lib.hid (HW1.out.below hB23 HW1.out.lt)
    have HB3 := Lib.hid (HB1.out.trans (hB23.mono HB1.out.size))
    obtain ⟨b4, off4, rfl, hb4, hc4⟩ := hs3.addr (by simp)
    have v0 : w3.cell? ⟨b4, off4, none⟩ = some (.int .u64 (t : Nat)) := hc4 0 _ rfl
    have v1 : w3.cell? ⟨b4, off4 + 1, none⟩ = some (.int .u64 (c : Nat)) := hc4 1 _ rfl
    have v2 : w3.cell? ⟨b4, off4 + 2, none⟩ = some (.int .u64 (l : Nat)) := hc4 2 _ rfl
    clear hB2 hB3 hB23 hs2 hs3 hc4 hT' rx gx gx2 gx0
    go_wp2_with fail
    refine (Cut_any R 2 _ hRz).mono ?_
    rw [HC.out]
    rintro e w4 ⟨rfl, hB4⟩
    have u0 := (hB4.cell (p := ⟨b4, off4, none⟩) hb4).trans v0
    have u1 := (hB4.cell (p := ⟨b4, off4 + 1, none⟩) hb4).trans v1
    have u2 := (hB4.cell (p := ⟨b4, off4 + 2, none⟩) hb4).trans v2
    have HW4 := Lib.hid (HW3.out.below hB4 HW3.out.lt)
    have HB4 := Lib.hid (HB3.out.trans (hB4.mono HB3.out.size))
    clear hB4 v0 v1 v2
    have wt : IntKind.i64.wrap (t : Int) = (t : Int) := by rw [IntKind.wrap_i64]; omega
    have wc : IntKind.i64.wrap (c : Int) = (c : Int) := by rw [IntKind.wrap_i64]; omega
    go_wp2_with fail
    go_region_held3 (fun w' => w'.cell? ⟨b4, off4, none⟩ = some (.int .u64 (t : Nat)) ∧ w'.cell? ⟨b4, off4 + 1, none⟩ = some (.int .u64 (c : Nat)) ∧ w'.cell? ⟨b4, off4 + 2, none⟩ = some (.int .u64 (l : Nat))) (go_keep) (first
      | (go_at_call 56; (refine (ttlOf_any l _ hl).mono ?_; rintro e w' ⟨rfl, rfl⟩)))
    all_goals (
      clear u0 u1 u2 wt wc
      obtain ⟨E, hE⟩ : ∃ E, E = x + 10 + k := ⟨_, rfl⟩
      obtain ⟨F, hF⟩ : ∃ F, F = x + 10 := ⟨_, rfl⟩
      have hFk : F + k ≤ M.length := by omega
      have hRZ := HRZ.out
      have r1 : (S.size : Int) - (R2.size : Int) = (E : Int) := by omega
      have r2 : IntKind.i64.wrap ((S.size : Int) - (R2.size : Int)) = (E : Int) := by rw [IntKind.wrap_i64]; omega
      have r3 : (E : Int) - (k : Int) = (F : Int) := by omega
      have r4 : IntKind.i64.wrap ((E : Int) - (k : Int)) = (F : Int) := by rw [IntKind.wrap_i64]; omega
      have r5 : IntKind.i64.wrap (E : Int) = (E : Int) := by rw [IntKind.wrap_i64]; omega
      have r6 : IntKind.i64.wrap (k : Int) = (k : Int) := by rw [IntKind.wrap_i64]; omega
      have R7 := Lib.hid (show wrap64 (F : Int) = (F : Int) by unfold wrap64; omega)
      have hZ := HZ.out
      have hgg : w.heap.size < w4.heap.size := HW4.out.lt
      have HE := Lib.hid hE
      have HF := Lib.hid hF
      have HW5 := Lib.hid (Whole.new w4 rrT #[.string (mk n), .int .i64 (t : Nat), .int .i64 (c : Nat), .int .i64 (ageR l : Nat), .string ⟨#[]⟩])
      have HX5 := Lib.hid (HW4.out.alloc (.cells #[.string (mk n), .int .i64 (t : Nat), .int .i64 (c : Nat), .int .i64 (ageR l : Nat), .string ⟨#[]⟩] rrT))
      have HB5 := Lib.hid (HB4.out.alloc HB4.out.size (.cells #[.string (mk n), .int .i64 (t : Nat), .int .i64 (c : Nat), .int .i64 (ageR l : Nat), .string ⟨#[]⟩] rrT))
      obtain ⟨d0, d1, d2, d3, d4⟩ := rr_facts HW5.out
      obtain ⟨g, hg⟩ : ∃ g, g = w4.heap.size := ⟨_, rfl⟩
      have HGG := Lib.hid hg
      clear hE hF hRZ hg
      go_wp2_with fail
      refine (typeOf_any (t : Int) (c : Int) k _).mono ?_
      rintro e w' ⟨rfl, rfl⟩
      go_wp2_with fail
      try rw [R7.out]
      refine (DRead_any S M F k (tyd t c k) _ HS.out (by omega) hFk hk).mono ?_
      rw [show dataR M F (F + k) (tyd t c k) = some d by rw [HF.out]; exact HD.out]
      unfold rdV
      rintro e w5 ⟨rfl, hB⟩
      have HW6 := Lib.hid (HW5.out.drew.below hB HW5.out.drew.lt)
      have HX6 := Lib.hid (HX5.out.drew.below hB HX5.out.drew.lt)
      have HB6 := Lib.hid (HB5.out.drew.trans (hB.mono HB5.out.drew.size))
      clear hB d0 d1 d2 d3 d4 r1 r2 r3 r4 r5 r6 hZ
      obtain ⟨d0, d1, d2, d3, d4⟩ := rr_facts HW6.out
      obtain ⟨_, _, _, _, f4⟩ := rr_frozen HW6.out
      have HW7 := Lib.hid (show Whole (w5.setCell ⟨w4.heap.size, 4, none⟩ (.string (mk d))) w4.heap.size rrT #[.string (mk n), .int .i64 (t : Nat), .int .i64 (c : Nat), .int .i64 (ageR l : Nat), .string (mk d)] from by simpa using HW6.out.put 4 (.string (mk d)))
      have HX7 := Lib.hid (HX6.out.far (p := ⟨w4.heap.size, 4, none⟩) (by simp only; omega) (.string (mk d)))
      have HB7 := Lib.hid (HB6.out.setCell (p := ⟨w4.heap.size, 4, none⟩) (by simp only; omega) (.string (mk d)))
      go_upto_region 13 with fail
      revert HW7 HX7 HB7
      generalize w5.setCell ⟨w4.heap.size, 4, none⟩ (.string (mk d)) = V
      intro HW7 HX7 HB7
      clear d0 d1 d2 d3 d4 f4
      obtain ⟨d0, d1, d2, d3, d4⟩ := rr_facts HW7.out
      obtain ⟨e0, e1, e2, e3, e4⟩ := soa5 HX7.out
      obtain ⟨f0, f1, f2, f3, f4⟩ := rr_frozen HX7.out
      have n1 : ¬ (w4.heap.size = w.heap.size) := by omega
      have n2 : ¬ (w.heap.size = w4.heap.size) := by omega
      have HE2 := Lib.hid (show ((E : Nat) : Int) = ((x + 10 + k : Nat) : Int) by rw [HE.out])
      go_wp2_with fail
      refine ret5 rfl rfl rfl rfl rfl (five_put HX7.out _ _ _ _ _) ⟨?_, five_below HB7.out (Nat.le_refl _) _ _ _ _ _⟩
      rw [← HE2.out]
      rfl))
end Go.Proofs.Ytdanncclnhkmgaa
namespace Go.Proofs.Ytdanncclnhkmgaa
open Go.RowKit

theorem splitF_cons {m : List UInt8} {k : Nat} (h : k ≤ m.length) (ws : List Int) : splitF (mk m) ((k : Int) :: ws) = (splitF (mk (m.drop k)) ws).map fun (p : List Int × ByteArray) => ((num (m.take k) : Int) :: p.1, p.2) := by
  have h1 : ¬ (((mk m).size : Int) < (k : Int)) := by rw [mk_size]; omega
  have e0 : ((k : Int)).toNat = k := by omega
  have e1 : (mk m).extract k (mk m).size = mk (m.drop k) := by rw [mk_extract, mk_size, List.take_length]
  have e2 : numOf ((mk m).extract 0 k) = num (m.take k) := by rw [mk_extract, mk_num, List.drop_zero]
  rw [splitF, if_neg h1, e0, e1, e2]
theorem seg_take (M : List UInt8) (a k : Nat) : (M.drop a).take k = seg M a (a + k) := by
  unfold seg; rw [List.drop_take]; congr 1; omega
theorem seg_num_lt (M : List UInt8) (a k : Nat) (h : a + k ≤ M.length) : num (seg M a (a + k)) < 256 ^ k := by
  have := num_lt (seg M a (a + k))
  rwa [seg_len h, show a + k - a = k by omega] at this
theorem head_split {M : List UInt8} {x : Nat} (h : x + 8 ≤ M.length) : splitR (mk (M.drop x)) [2, 2, 4] = ([(num (seg M x (x + 2)) : Int), (num (seg M (x + 2) (x + 4)) : Int), (num (seg M (x + 4) (x + 8)) : Int)], mk (M.drop (x + 8)), 0) := by
  refine splitR_some (by decide) ?_
  have e1 := splitF_cons (m := M.drop x) (k := 2) (by rw [List.length_drop]; omega) [2, 4]
  have e2 := splitF_cons (m := M.drop (x + 2)) (k := 2) (by rw [List.length_drop]; omega) [4]
  have e3 := splitF_cons (m := M.drop (x + 4)) (k := 4) (by rw [List.length_drop]; omega) []
  rw [seg_take, List.drop_drop] at e1 e2 e3
  rw [show splitF (mk (M.drop x)) [2, 2, 4] = splitF (mk (M.drop x)) (((2 : Nat) : Int) :: [2, 4]) from rfl, e1,
    show splitF (mk (M.drop (x + 2))) [2, 4] = splitF (mk (M.drop (x + 2))) (((2 : Nat) : Int) :: [4]) from rfl, e2, show x + 2 + 2 = x + 4 by omega,
    show splitF (mk (M.drop (x + 4))) [4] = splitF (mk (M.drop (x + 4))) (((4 : Nat) : Int) :: []) from rfl, e3, show x + 4 + 4 = x + 8 by omega]
  rfl
theorem size_cut {M : List UInt8} {y k : Nat} (hk : k = num (seg M y (y + 2))) (h : y + 2 + k ≤ M.length) : cutR (mk (M.drop y)) 2 = (mk (seg M (y + 2) (y + 2 + k)), mk (M.drop (y + 2 + k)), 0) := by
  have hn : numOf ((mk (M.drop y)).extract 0 2) = k := by rw [mk_extract, mk_num, List.drop_zero, seg_take, hk]
  have hs : (mk (M.drop y)).size = M.length - y := by rw [mk_size, List.length_drop]
  have e2 : ((2 : Int)).toNat = 2 := rfl
  unfold cutR
  rw [if_pos (by decide), e2, hn, hs, if_neg (by omega)]
  have ex : (mk (M.drop y)).extract 2 (M.length - y) = mk (M.drop (y + 2)) := by
    rw [mk_extract, List.take_of_length_le (by rw [List.length_drop]; omega), List.drop_drop]
  rw [ex, mk_extract, mk_extract, List.drop_zero, seg_take, List.take_of_length_le (by rw [List.length_drop]; omega), List.drop_drop]
theorem RRead_of (S : ByteArray) (M : List UInt8) (p E : Nat) (r : Rec) (w : World) (hS : S = mk M) (hM : M.length ≤ 800000) (hp : p ≤ M.length) (h : recR M p = some (r, E)) :
    Calls Try.prog 22 #[.string S, .int .i64 (p : Nat)] w fun e w' => e = .returned (.tuple #[.agg #[.string (mk r.n), .int .i64 r.t, .int .i64 r.c, .int .i64 r.l, .string (mk r.d)], .int .i64 (E : Int), .int .i64 0]) ∧ Below w.heap.size w w' := by
  unfold recR at h
  cases hr : readR M [] p p none with
  | none => rw [hr] at h; cases h
  | some q =>
    obtain ⟨n, x⟩ := q
    rw [hr] at h
    simp only at h
    split at h
    · cases h
    · split at h
      · cases h
      · split at h
        · cases h
        · rename_i h1 h2 h3
          obtain ⟨k, hk⟩ : ∃ k, k = num (seg M (x + 8) (x + 10)) := ⟨_, rfl⟩
          rw [← hk] at h h3
          cases hd : dataR M (x + 10) (x + 10 + k) (tyd (num (seg M x (x + 2))) (num (seg M (x + 2) (x + 4))) k) with
          | none => rw [hd] at h; cases h
          | some d =>
            rw [hd] at h
            simp only [Option.some.injEq, Prod.mk.injEq] at h
            obtain ⟨rfl, rfl⟩ := h
            have hx := (read_name hr).2.2
            have l1 := seg_num_lt M x 2 (by omega)
            have l2 := seg_num_lt M (x + 2) 2 (by omega)
            have l3 := seg_num_lt M (x + 4) 4 (by omega)
            have l4 := seg_num_lt M (x + 8) 2 (by omega)
            rw [show x + 2 + 2 = x + 4 by omega] at l2
            rw [show x + 4 + 4 = x + 8 by omega] at l3
            rw [show x + 8 + 2 = x + 10 by omega, ← hk] at l4
            have hcut := size_cut (M := M) (y := x + 8) (k := k) (by rw [hk]) (by omega)
            rw [show x + 8 + 2 = x + 10 by omega] at hcut
            have hsz : S.size = M.length := by rw [hS, mk_size]
            have ext : ∀ a, S.extract a S.size = mk (M.drop a) := fun a => by rw [hsz, hS, mk_extract, List.take_length]
            refine RRead_back S (mk (M.drop x)) (mk (M.drop (x + 8))) (mk (seg M (x + 10) (x + 10 + k))) M n d p x k _ _ _ w hS hM hp hr hx (ext x) (head_split (by omega)) (by rw [ext]; exact hcut) (by rw [mk_size, seg_len (by omega)]; omega) (by omega) (by omega) (by omega) (by omega) (by omega) hd
end Go.Proofs.Ytdanncclnhkmgaa
