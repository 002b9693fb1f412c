/- RecordAges. No statement of the seat is proved here. -/
import Derived.Test.YtdanncclnhkmgaaRecG
import Derived.Deep.RegionHeld3
import Derived.Deep.DeepCutAuto
namespace Go.Proofs.Ytdanncclnhkmgaa
open Go.RowKit

theorem one_age {n d : List UInt8} {t c l l' : Int} {L : List (List UInt8)} (h : nameL n = some L) : oneR ⟨n, t, c, l, d⟩ ⟨n, t, c, l', d⟩ = true := by
  unfold oneR alikeN
  rw [h]
  simp
theorem cmp_age {n d : List UInt8} {t c l l' : Int} {L : List (List UInt8)} (h : nameL n = some L) : cmpR ⟨n, t, c, l, d⟩ ⟨n, t, c, l', d⟩ = 0 := by
  have h1 := cmpR_one (a := ⟨n, t, c, l, d⟩) (b := ⟨n, t, c, l', d⟩) h h
  rw [one_age h] at h1
  exact of_decide_eq_true h1.symm
theorem one_class {n n' d d' : List UInt8} {t t' c c' l l' : Int} (h : c ≠ c') : oneR ⟨n, t, c, l, d⟩ ⟨n', t', c', l', d'⟩ = false := by
  have e : (c == c') = false := by rw [beq_eq_false_iff_ne]; exact h
  unfold oneR
  simp only [e, Bool.false_and, Bool.and_false]
theorem one_type {n n' d d' : List UInt8} {t t' c c' l l' : Int} (h : t ≠ t') : oneR ⟨n, t, c, l, d⟩ ⟨n', t', c', l', d'⟩ = false := by
  have e : (t == t') = false := by rw [beq_eq_false_iff_ne]; exact h
  unfold oneR
  simp only [e, Bool.false_and]
theorem name_more {n : List UInt8} {L : List (List UInt8)} (h : nameL n = some L) : alikeN n (1 :: 120 :: n) = false := by
  have hp : parse n = some L := by
    unfold nameL at h
    split at h
    · cases h
    · exact h
  have hc : cutL (1 :: 120 :: n) = some ([120], n) := by
    show (if (120 :: n).length < (1 : UInt8).toNat then none else some ((120 :: n).take (1 : UInt8).toNat, (120 :: n).drop (1 : UInt8).toNat)) = _
    rw [if_neg (by simp)]
    rfl
  have hq : parse (1 :: 120 :: n) = some ([120] :: L) := by
    rw [parse_some hc, if_neg (by simp), if_neg (by simp), hp]
    rfl
  unfold alikeN
  rw [h]
  cases hm : nameL (1 :: 120 :: n) with
  | none => rfl
  | some M =>
    have hM : M = [120] :: L := by
      unfold nameL at hm
      split at hm
      · cases hm
      · rw [hq] at hm; exact (Option.some.inj hm).symm
    subst hM
    simp only [decide_eq_false_iff_not]
    intro e
    have := congrArg List.length e
    simp at this
theorem one_name {n d : List UInt8} {t c l : Int} {L : List (List UInt8)} (h : nameL n = some L) : oneR ⟨n, t, c, l, d⟩ ⟨1 :: 120 :: n, t, c, l, d⟩ = false := by
  unfold oneR
  rw [name_more h]
  simp

/-- four blocks behind w, and a fifth ahead, hold the same record -/
structure Four5 (w : World) (g p q r s : Nat) (cs : Array Value) (V : World) : Prop where
  wg : Whole V g rrT cs
  wp : Whole V p rrT cs
  wq : Whole V q rrT cs
  wr : Whole V r rrT cs
  ws : Whole V s rrT cs
  ne : p ≠ q ∧ p ≠ r ∧ p ≠ s ∧ q ≠ r ∧ q ≠ s ∧ r ≠ s ∧ g ≠ p ∧ g ≠ q ∧ g ≠ r ∧ g ≠ s
  ge : w.heap.size ≤ p ∧ w.heap.size ≤ q ∧ w.heap.size ≤ r ∧ w.heap.size ≤ s
  bel : Below w.heap.size w V

set_option maxHeartbeats 4000000 in
set_option maxRecDepth 20000 in
theorem ages_ok (N D : ByteArray) (a : Rec) (tl mo : Nat) (w : World) (hN : N = mk a.n) (hD : D = mk a.d) (hf : fewB N.size D.size = true) (hok : okR a = true) (htl : tl < 4294967296) (hmo : mo < 256) :
    Calls Try.prog 6 #[.agg (rrA N D a.t a.c a.l), .int .u32 (tl : Nat), .int .u8 (mo : Nat)] w fun e w' => e = .returned (.bool true) ∧ Below w.heap.size w w' := by
  obtain ⟨n, t, c, l, d⟩ := a
  simp only at hN hD ⊢
  have hd : d.length ≤ 2000 := by
    unfold fewB at hf
    simp at hf
    rw [hD, mk_size] at hf
    omega
  have HN := Lib.hid hN
  have HD := Lib.hid hD
  have HF := Lib.hid hf
  have HOK := Lib.hid hok
  have hW0 := Whole.new w rrT (rrA N D t c l)
  have HB0 := Lib.hid (show Below w.heap.size w (w.alloc (.cells (rrA N D t c l) rrT)) from (Below.refl _ _).alloc (Nat.le_refl _) _)
  have HW0 := Lib.hid hW0
  clear hN hD hf hok hW0
  unfold rrA at *
  go_enter Try.func6, Try.ntmps6
  go_wp2_with fail
  refine (awake_any _).mono ?_
  rintro e w1 ⟨rfl, hB⟩
  have HW1 := Lib.hid (HW0.out.below hB HW0.out.lt)
  have HB1 := Lib.hid (HB0.out.trans (hB.mono HB0.out.size))
  obtain ⟨k0, k1, k2, k3, k4⟩ := rr_facts HW1.out
  clear hB
  go_wp2_with fail
  refine (few_any N D t c l _).mono ?_
  rw [HF.out]
  rintro e w2 ⟨rfl, hB⟩
  have HW2 := Lib.hid (HW1.out.below hB HW1.out.lt)
  have HB2 := Lib.hid (HB1.out.trans (hB.mono HB1.out.size))
  clear k0 k1 k2 k3 k4 hB
  obtain ⟨k0, k1, k2, k3, k4⟩ := rr_facts HW2.out
  go_wp2_with fail
  refine (RefRRight_any N D ⟨n, t, c, l, d⟩ _ HN.out HD.out (by simp only; omega)).mono ?_
  rw [HOK.out]
  rintro e w3 ⟨rfl, hB⟩
  have HW3 := Lib.hid (HW2.out.below hB HW2.out.lt)
  have HB3 := Lib.hid (HB2.out.trans (hB.mono HB2.out.size))
  clear k0 k1 k2 k3 k4 hB
  obtain ⟨k0, k1, k2, k3, k4⟩ := rr_facts HW3.out
  go_upto_region 3 with fail
  have hgl : w.heap.size < w3.heap.size := HW3.out.lt
  obtain ⟨g, hg⟩ : ∃ g, g = w.heap.size := ⟨_, rfl⟩
  rw [← hg] at hgl k0 k1 k2 k3 k4 HW3
  rw [← hg]
  have HG := Lib.hid hg
  clear hg HW2 HW1 HW0 HB1 HB2 HB0
  have n0 : ¬ w3.heap.size = g := by omega
  have n1 : ¬ w3.heap.size + 1 = g := by omega
  have n2 : ¬ w3.heap.size + 1 + 1 = g := by omega
  have n3 : ¬ w3.heap.size + 1 + 1 + 1 = g := by omega
  have A1 : ∀ o, Whole (w3.alloc o) g rrT (rrA N D t c l) := fun o => HW3.out.alloc o
  have A2 : ∀ o p, Whole ((w3.alloc o).alloc p) g rrT (rrA N D t c l) := fun o p => (A1 o).alloc p
  have A3 : ∀ o p q, Whole (((w3.alloc o).alloc p).alloc q) g rrT (rrA N D t c l) := fun o p q => (A2 o p).alloc q
  have A4 : ∀ o p q r, Whole ((((w3.alloc o).alloc p).alloc q).alloc r) g rrT (rrA N D t c l) := fun o p q r => (A3 o p q).alloc r
  have f10 : ∀ o, (w3.alloc o).cell? ⟨g, 0, none⟩ = some (.string N) := fun o => (rr_facts (A1 o)).1
  have f11 : ∀ o, (w3.alloc o).cell? ⟨g, 1, none⟩ = some (.int .i64 t) := fun o => (rr_facts (A1 o)).2.1
  have f12 : ∀ o, (w3.alloc o).cell? ⟨g, 2, none⟩ = some (.int .i64 c) := fun o => (rr_facts (A1 o)).2.2.1
  have f13 : ∀ o, (w3.alloc o).cell? ⟨g, 3, none⟩ = some (.int .i64 l) := fun o => (rr_facts (A1 o)).2.2.2.1
  have f14 : ∀ o, (w3.alloc o).cell? ⟨g, 4, none⟩ = some (.string D) := fun o => (rr_facts (A1 o)).2.2.2.2
  have f20 : ∀ o p, ((w3.alloc o).alloc p).cell? ⟨g, 0, none⟩ = some (.string N) := fun o p => (rr_facts (A2 o p)).1
  have f21 : ∀ o p, ((w3.alloc o).alloc p).cell? ⟨g, 1, none⟩ = some (.int .i64 t) := fun o p => (rr_facts (A2 o p)).2.1
  have f22 : ∀ o p, ((w3.alloc o).alloc p).cell? ⟨g, 2, none⟩ = some (.int .i64 c) := fun o p => (rr_facts (A2 o p)).2.2.1
  have f23 : ∀ o p, ((w3.alloc o).alloc p).cell? ⟨g, 3, none⟩ = some (.int .i64 l) := fun o p => (rr_facts (A2 o p)).2.2.2.1
  have f24 : ∀ o p, ((w3.alloc o).alloc p).cell? ⟨g, 4, none⟩ = some (.string D) := fun o p => (rr_facts (A2 o p)).2.2.2.2
  have f30 : ∀ o p q, (((w3.alloc o).alloc p).alloc q).cell? ⟨g, 0, none⟩ = some (.string N) := fun o p q => (rr_facts (A3 o p q)).1
  have f31 : ∀ o p q, (((w3.alloc o).alloc p).alloc q).cell? ⟨g, 1, none⟩ = some (.int .i64 t) := fun o p q => (rr_facts (A3 o p q)).2.1
  have f32 : ∀ o p q, (((w3.alloc o).alloc p).alloc q).cell? ⟨g, 2, none⟩ = some (.int .i64 c) := fun o p q => (rr_facts (A3 o p q)).2.2.1
  have f33 : ∀ o p q, (((w3.alloc o).alloc p).alloc q).cell? ⟨g, 3, none⟩ = some (.int .i64 l) := fun o p q => (rr_facts (A3 o p q)).2.2.2.1
  have f34 : ∀ o p q, (((w3.alloc o).alloc p).alloc q).cell? ⟨g, 4, none⟩ = some (.string D) := fun o p q => (rr_facts (A3 o p q)).2.2.2.2
  have f40 : ∀ o p q r, ((((w3.alloc o).alloc p).alloc q).alloc r).cell? ⟨g, 0, none⟩ = some (.string N) := fun o p q r => (rr_facts (A4 o p q r)).1
  have f41 : ∀ o p q r, ((((w3.alloc o).alloc p).alloc q).alloc r).cell? ⟨g, 1, none⟩ = some (.int .i64 t) := fun o p q r => (rr_facts (A4 o p q r)).2.1
  have f42 : ∀ o p q r, ((((w3.alloc o).alloc p).alloc q).alloc r).cell? ⟨g, 2, none⟩ = some (.int .i64 c) := fun o p q r => (rr_facts (A4 o p q r)).2.2.1
  have f43 : ∀ o p q r, ((((w3.alloc o).alloc p).alloc q).alloc r).cell? ⟨g, 3, none⟩ = some (.int .i64 l) := fun o p q r => (rr_facts (A4 o p q r)).2.2.2.1
  have f44 : ∀ o p q r, ((((w3.alloc o).alloc p).alloc q).alloc r).cell? ⟨g, 4, none⟩ = some (.string D) := fun o p q r => (rr_facts (A4 o p q r)).2.2.2.2
  clear A1 A2 A3 A4
  go_cut [7, 8, 9, 10] (fun a b c' d' V => ∃ p7 p8 p9 p10, a = .pointer (some ⟨p7, 0, none⟩) ∧ b = .pointer (some ⟨p8, 0, none⟩) ∧ c' = .pointer (some ⟨p9, 0, none⟩) ∧ d' = .pointer (some ⟨p10, 0, none⟩) ∧ Four5 w3 g p7 p8 p9 p10 #[.string N, .int .i64 t, .int .i64 c, .int .i64 l, .string D] V)
  case first =>
    obtain ⟨F0, F1, F2, F3, FB⟩ := four w3 #[.string N, .int .i64 t, .int .i64 c, .int .i64 l, .string D] #[.string N, .int .i64 t, .int .i64 c, .int .i64 l, .string D] #[.string N, .int .i64 t, .int .i64 c, .int .i64 l, .string D] #[.string N, .int .i64 t, .int .i64 c, .int .i64 l, .string D] rrT rrT rrT rrT
    have FG := (((HW3.out.alloc (.cells #[.string N, .int .i64 t, .int .i64 c, .int .i64 l, .string D] rrT)).alloc (.cells #[.string N, .int .i64 t, .int .i64 c, .int .i64 l, .string D] rrT)).alloc (.cells #[.string N, .int .i64 t, .int .i64 c, .int .i64 l, .string D] rrT)).alloc (.cells #[.string N, .int .i64 t, .int .i64 c, .int .i64 l, .string D] rrT)
    have F0 := Lib.hid F0
    have F1 := Lib.hid F1
    have F2 := Lib.hid F2
    have F3 := Lib.hid F3
    have FB := Lib.hid FB
    have FG := Lib.hid FG
    go_region_held3 (fun w' => w'.cell? ⟨g, 0, none⟩ = some (.string N) ∧ w'.cell? ⟨g, 1, none⟩ = some (.int .i64 t) ∧ w'.cell? ⟨g, 2, none⟩ = some (.int .i64 c) ∧ w'.cell? ⟨g, 3, none⟩ = some (.int .i64 l) ∧ w'.cell? ⟨g, 4, none⟩ = some (.string D)) (go_keep) (first | fail)
    all_goals (
      go_wp2_with fail
      go_meet
      refine ⟨_, _, _, _, rfl, rfl, rfl, rfl, ⟨FG.out, ?_, ?_, ?_, ?_, ⟨by omega, by omega, by omega, by omega, by omega, by omega, by omega, by omega, by omega, by omega⟩, ⟨by omega, by omega, by omega, by omega⟩, FB.out.drew⟩⟩
      all_goals first | exact F0.out | exact F1.out | exact F2.out | exact F3.out)
  case rest =>
    clear f10 f11 f12 f13 f14 f20 f21 f22 f23 f24 f30 f31 f32 f33 f34 f40 f41 f42 f43 f44 n0 n1 n2 n3 k0 k1 k2 k3 k4 hgl
    obtain ⟨p7, p8, p9, p10, rfl, rfl, rfl, rfl, hF4⟩ := hcut
    have HF4 := Lib.hid hF4
    clear hF4
    have f3 := HF4.out.wp.frozen 3
    obtain ⟨_, _, _, k3, _⟩ := rr_facts HF4.out.wp
    have hLen : N.size ≤ 600 := by have h := HF.out; unfold fewB at h; simp at h; omega
    have hnl : n.length ≤ 600 := by have := hLen; rw [HN.out, mk_size] at this; exact this
    obtain ⟨⟨L, hL⟩, ⟨t0, t1⟩, ⟨s0, s1⟩, _, _⟩ := ok_parts HOK.out
    simp only at hL t0 t1 s0 s1
    obtain ⟨T2, hT2⟩ : ∃ T2 : Int, T2 = (tl : Int) / 2 := ⟨_, rfl⟩
    obtain ⟨C2, hC2⟩ : ∃ C2 : Int, C2 = (c + 1 + (mo : Int)) % 65536 := ⟨_, rfl⟩
    obtain ⟨T3, hT3⟩ : ∃ T3 : Int, T3 = (t + 1 + (mo : Int)) % 65536 := ⟨_, rfl⟩
    obtain ⟨NX, hNX⟩ : ∃ NX : ByteArray, NX = ⟨#[1, 120]⟩ ++ N := ⟨_, rfl⟩
    have HNX := Lib.hid (show NX = mk (1 :: 120 :: n) by rw [hNX, HN.out]; show mk [1, 120] ++ mk n = _; rw [mk_append]; rfl)
    have HO2 := Lib.hid (one_class (n := n) (n' := n) (d := d) (d' := d) (t := t) (t' := t) (l := l) (l' := l) (show c ≠ C2 by omega))
    have HO3 := Lib.hid (one_type (n := n) (n' := n) (d := d) (d' := d) (c := c) (c' := c) (l := l) (l' := l) (show t ≠ T3 by omega))
    have HO1 := Lib.hid (one_age (d := d) (t := t) (c := c) (l := l) (l' := T2) hL)
    have HOC := Lib.hid (cmp_age (d := d) (t := t) (c := c) (l := l) (l' := T2) hL)
    have HO4 := Lib.hid (one_name (d := d) (t := t) (c := c) (l := l) hL)
    have hT2' : (tl : Int) / 2 = T2 := hT2.symm
    have hC2' : (c + 1 + (mo : Int)).tmod 65536 = C2 := by rw [hC2, Int.tmod_eq_emod_of_nonneg (by omega)]
    have hT3' : (t + 1 + (mo : Int)).tmod 65536 = T3 := by rw [hT3, Int.tmod_eq_emod_of_nonneg (by omega)]
    have hC2'' := hC2.symm
    have hT3'' := hT3.symm
    have hNX' := hNX.symm
    have hs1 : ¬ (9223372036854775807 < (⟨#[1, 120]⟩ : ByteArray).size + N.size) := by show ¬ (9223372036854775807 < 2 + N.size); omega
    have hs2 : ¬ (9223372036854775807 < 2 + N.size) := by omega
    clear hT2 hC2 hT3 hNX hL
    have hne := HF4.out.ne
    obtain ⟨m1, m2, m3, m4, m5, m6, m7, m8, m9, m10⟩ := hne
    have hge := HF4.out.ge
    have hB3s := HB3.out.size
    obtain ⟨o1, o2, o3, o4⟩ := hge
    have G1 := Lib.hid (HF4.out.wg.far (p := ⟨p7, 3, none⟩) m7 (.int .i64 T2))
    have P71 := Lib.hid (show Whole (wc.setCell ⟨p7, 3, none⟩ (.int .i64 T2)) p7 rrT #[.string N, .int .i64 t, .int .i64 c, .int .i64 T2, .string D] from by simpa using HF4.out.wp.put 3 (.int .i64 T2))
    have P81 := Lib.hid (HF4.out.wq.far (p := ⟨p7, 3, none⟩) (Ne.symm m1) (.int .i64 T2))
    have P91 := Lib.hid (HF4.out.wr.far (p := ⟨p7, 3, none⟩) (Ne.symm m2) (.int .i64 T2))
    have P101 := Lib.hid (HF4.out.ws.far (p := ⟨p7, 3, none⟩) (Ne.symm m3) (.int .i64 T2))
    have B1 := Lib.hid ((HB3.out.trans (HF4.out.bel.mono hB3s)).setCell (p := ⟨p7, 3, none⟩) (by simp only; omega) (.int .i64 T2))
    go_upto_region 5 with fail
    revert G1 P71 P81 P91 P101 B1
    generalize wc.setCell ⟨p7, 3, none⟩ (.int .i64 T2) = V1
    intro G1 P71 P81 P91 P101 B1
    clear f3 k3 HF4
    obtain ⟨_, _, k2, _, _⟩ := rr_facts G1.out
    obtain ⟨_, _, j2, _, _⟩ := rr_facts P81.out
    have f2 := P81.out.frozen 2
    have G2 := Lib.hid (G1.out.far (p := ⟨p8, 2, none⟩) m8 (.int .i64 C2))
    have P72 := Lib.hid (P71.out.far (p := ⟨p8, 2, none⟩) m1 (.int .i64 C2))
    have P82 := Lib.hid (show Whole (V1.setCell ⟨p8, 2, none⟩ (.int .i64 C2)) p8 rrT #[.string N, .int .i64 t, .int .i64 C2, .int .i64 l, .string D] from by simpa using P81.out.put 2 (.int .i64 C2))
    have P92 := Lib.hid (P91.out.far (p := ⟨p8, 2, none⟩) (Ne.symm m4) (.int .i64 C2))
    have P102 := Lib.hid (P101.out.far (p := ⟨p8, 2, none⟩) (Ne.symm m5) (.int .i64 C2))
    have B2 := Lib.hid (B1.out.setCell (p := ⟨p8, 2, none⟩) (by simp only; omega) (.int .i64 C2))
    go_upto_region 6 with fail
    revert G2 P72 P82 P92 P102 B2
    generalize V1.setCell ⟨p8, 2, none⟩ (.int .i64 C2) = V2
    intro G2 P72 P82 P92 P102 B2
    clear k2 j2 f2 G1 P71 P81 P91 P101 B1
    obtain ⟨_, k2, _, _, _⟩ := rr_facts G2.out
    obtain ⟨_, j2, _, _, _⟩ := rr_facts P92.out
    have f2 := P92.out.frozen 1
    have G3 := Lib.hid (G2.out.far (p := ⟨p9, 1, none⟩) m9 (.int .i64 T3))
    have P73 := Lib.hid (P72.out.far (p := ⟨p9, 1, none⟩) m2 (.int .i64 T3))
    have P83 := Lib.hid (P82.out.far (p := ⟨p9, 1, none⟩) m4 (.int .i64 T3))
    have P93 := Lib.hid (show Whole (V2.setCell ⟨p9, 1, none⟩ (.int .i64 T3)) p9 rrT #[.string N, .int .i64 T3, .int .i64 c, .int .i64 l, .string D] from by simpa using P92.out.put 1 (.int .i64 T3))
    have P103 := Lib.hid (P102.out.far (p := ⟨p9, 1, none⟩) (Ne.symm m6) (.int .i64 T3))
    have B3 := Lib.hid (B2.out.setCell (p := ⟨p9, 1, none⟩) (by simp only; omega) (.int .i64 T3))
    go_upto_region 7 with fail
    revert G3 P73 P83 P93 P103 B3
    generalize V2.setCell ⟨p9, 1, none⟩ (.int .i64 T3) = V3
    intro G3 P73 P83 P93 P103 B3
    clear k2 j2 f2 G2 P72 P82 P92 P102 B2
    obtain ⟨k2, _, _, _, _⟩ := rr_facts G3.out
    obtain ⟨j2, _, _, _, _⟩ := rr_facts P103.out
    have f2 := P103.out.frozen 0
    have G4 := Lib.hid (G3.out.far (p := ⟨p10, 0, none⟩) m10 (.string NX))
    have P74 := Lib.hid (P73.out.far (p := ⟨p10, 0, none⟩) m3 (.string NX))
    have P84 := Lib.hid (P83.out.far (p := ⟨p10, 0, none⟩) m5 (.string NX))
    have P94 := Lib.hid (P93.out.far (p := ⟨p10, 0, none⟩) m6 (.string NX))
    have P104 := Lib.hid (show Whole (V3.setCell ⟨p10, 0, none⟩ (.string NX)) p10 rrT #[.string NX, .int .i64 t, .int .i64 c, .int .i64 l, .string D] from by simpa using P103.out.put 0 (.string NX))
    have B4 := Lib.hid (B3.out.setCell (p := ⟨p10, 0, none⟩) (by simp only; omega) (.string NX))
    go_upto_region 8 with fail
    revert G4 P74 P84 P94 P104 B4
    generalize V3.setCell ⟨p10, 0, none⟩ (.string NX) = V4
    intro G4 P74 P84 P94 P104 B4
    clear k2 j2 f2 G3 P73 P83 P93 P103 B3 hT2' hC2' hT3' hC2'' hT3'' hNX' hs1 hs2
    obtain ⟨g0, g1, g2, g3, g4⟩ := rr_facts G4.out
    obtain ⟨a0, a1, a2, a3, a4⟩ := rr_facts P74.out
    trace "calls"
    go_wp2_with fail
    refine (One_any N D N D ⟨n, t, c, l, d⟩ ⟨n, t, c, T2, d⟩ _ HN.out HD.out HN.out HD.out (by simp only; omega) (by simp only; omega) (by simp only; omega) (by simp only; omega)).mono ?_
    rw [HO1.out]
    rintro e w4 ⟨rfl, hB⟩
    have G5 := Lib.hid (G4.out.below hB G4.out.lt)
    have P75 := Lib.hid (P74.out.below hB P74.out.lt)
    have P85 := Lib.hid (P84.out.below hB P84.out.lt)
    have P95 := Lib.hid (P94.out.below hB P94.out.lt)
    have P105 := Lib.hid (P104.out.below hB P104.out.lt)
    have B5 := Lib.hid (B4.out.trans (hB.mono B4.out.size))
    clear hB g0 g1 g2 g3 g4 a0 a1 a2 a3 a4
    obtain ⟨g0, g1, g2, g3, g4⟩ := rr_facts G5.out
    obtain ⟨a0, a1, a2, a3, a4⟩ := rr_facts P75.out
    go_wp2_with fail
    refine (RCompare_any N D N D ⟨n, t, c, l, d⟩ ⟨n, t, c, T2, d⟩ _ HN.out HD.out HN.out HD.out (by simp only; omega) (by simp only; omega) (by simp only; omega) (by simp only; omega)).mono ?_
    rw [HOC.out]
    rintro e w5 ⟨rfl, hB⟩
    have G6 := Lib.hid (G5.out.below hB G5.out.lt)
    have P86 := Lib.hid (P85.out.below hB P85.out.lt)
    have P96 := Lib.hid (P95.out.below hB P95.out.lt)
    have P106 := Lib.hid (P105.out.below hB P105.out.lt)
    have B6 := Lib.hid (B5.out.trans (hB.mono B5.out.size))
    clear hB g0 g1 g2 g3 g4 a0 a1 a2 a3 a4
    obtain ⟨g0, g1, g2, g3, g4⟩ := rr_facts G6.out
    obtain ⟨a0, a1, a2, a3, a4⟩ := rr_facts P86.out
    go_wp2_with fail
    refine (One_any N D N D ⟨n, t, c, l, d⟩ ⟨n, t, C2, l, d⟩ _ HN.out HD.out HN.out HD.out (by simp only; omega) (by simp only; omega) (by simp only; omega) (by simp only; omega)).mono ?_
    rw [HO2.out]
    rintro e w6 ⟨rfl, hB⟩
    have G7 := Lib.hid (G6.out.below hB G6.out.lt)
    have P97 := Lib.hid (P96.out.below hB P96.out.lt)
    have P107 := Lib.hid (P106.out.below hB P106.out.lt)
    have B7 := Lib.hid (B6.out.trans (hB.mono B6.out.size))
    clear hB g0 g1 g2 g3 g4 a0 a1 a2 a3 a4
    obtain ⟨g0, g1, g2, g3, g4⟩ := rr_facts G7.out
    obtain ⟨a0, a1, a2, a3, a4⟩ := rr_facts P97.out
    go_wp2_with fail
    refine (One_any N D N D ⟨n, t, c, l, d⟩ ⟨n, T3, c, l, d⟩ _ HN.out HD.out HN.out HD.out (by simp only; omega) (by simp only; omega) (by simp only; omega) (by simp only; omega)).mono ?_
    rw [HO3.out]
    rintro e w7 ⟨rfl, hB⟩
    have G8 := Lib.hid (G7.out.below hB G7.out.lt)
    have P108 := Lib.hid (P107.out.below hB P107.out.lt)
    have B8 := Lib.hid (B7.out.trans (hB.mono B7.out.size))
    clear hB g0 g1 g2 g3 g4 a0 a1 a2 a3 a4
    obtain ⟨g0, g1, g2, g3, g4⟩ := rr_facts G8.out
    obtain ⟨a0, a1, a2, a3, a4⟩ := rr_facts P108.out
    go_wp2_with fail
    refine (One_any N D NX D ⟨n, t, c, l, d⟩ ⟨1 :: 120 :: n, t, c, l, d⟩ _ HN.out HD.out HNX.out HD.out (by simp only; omega) (by simp; omega) (by simp only; omega) (by simp only; omega)).mono ?_
    rw [HO4.out]
    rintro e w8 ⟨rfl, hB⟩
    go_wp2_with fail
    go_ret
    exact ⟨rfl, B8.out.trans (hB.mono B8.out.size)⟩

theorem u32_nat {n : Int} (h : (Lit.int .u32 n).wf = true) : ∃ k : Nat, n = (k : Int) ∧ k < 4294967296 := by
  have hmin : IntKind.u32.min = 0 := rfl
  have hmax : IntKind.u32.max = 4294967295 := rfl
  simp only [Lit.wf, Bool.and_eq_true, decide_eq_true_eq, hmin, hmax] at h
  exact ⟨n.toNat, by omega, by omega⟩
theorem u8_nat {n : Int} (h : (Lit.int .u8 n).wf = true) : ∃ k : Nat, n = (k : Int) ∧ k < 256 := by
  have hmin : IntKind.u8.min = 0 := rfl
  have hmax : IntKind.u8.max = 255 := rfl
  simp only [Lit.wf, Bool.and_eq_true, decide_eq_true_eq, hmin, hmax] at h
  exact ⟨n.toNat, by omega, by omega⟩
set_option maxHeartbeats 1000000 in
set_option maxRecDepth 20000 in
theorem RecordAges_walk (N D : ByteArray) (t c l tl mo : Int) (w : World) (h1 : (Lit.int .u32 tl).wf = true) (h2 : (Lit.int .u8 mo).wf = true) :
    Calls Try.prog 6 #[.agg (rrA N D t c l), .int .u32 tl, .int .u8 mo] w fun e w' => e = .returned (.bool true) ∧ Below w.heap.size w w' := by
  obtain ⟨tl, rfl, htl⟩ := u32_nat h1
  obtain ⟨mo, rfl, hmo⟩ := u8_nat h2
  cases hf : fewB N.size D.size with
  | false =>
    have hW0 := Whole.new w rrT (rrA N D t c l)
    have HB0 := Lib.hid (show Below w.heap.size w (w.alloc (.cells (rrA N D t c l) rrT)) from (Below.refl _ _).alloc (Nat.le_refl _) _)
    have HW0 := Lib.hid hW0
    have HF := Lib.hid hf
    clear hW0 hf
    unfold rrA at *
    go_enter Try.func6, Try.ntmps6
    go_wp2_with fail
    refine (awake_any _).mono ?_
    rintro e w1 ⟨rfl, hB⟩
    have HB1 := Lib.hid (HB0.out.trans (hB.mono HB0.out.size))
    obtain ⟨k0, k1, k2, k3, k4⟩ := rr_facts (HW0.out.below hB HW0.out.lt)
    clear hB
    go_wp2_with fail
    refine (few_any N D t c l _).mono ?_
    rw [HF.out]
    rintro e w2 ⟨rfl, hB⟩
    have HB2 := Lib.hid (HB1.out.trans (hB.mono HB1.out.size))
    clear hB
    go_wp2_with fail
    refine (awake_any _).mono ?_
    rintro e w3 ⟨rfl, hB⟩
    go_wp2_with fail
    go_ret
    exact ⟨rfl, HB2.out.trans (hB.mono HB2.out.size)⟩
  | true =>
    cases hok : okR (recOf N D t c l) with
    | true => exact ages_ok N D (recOf N D t c l) tl mo w (recOf_n N D t c l) (recOf_d N D t c l) hf hok htl hmo
    | false =>
      obtain ⟨_, hd⟩ := few_is hf (recOf_n N D t c l) (recOf_d N D t c l)
      have hW0 := Whole.new w rrT (rrA N D t c l)
      have HB0 := Lib.hid (show Below w.heap.size w (w.alloc (.cells (rrA N D t c l) rrT)) from (Below.refl _ _).alloc (Nat.le_refl _) _)
      have HW0 := Lib.hid hW0
      have HF := Lib.hid hf
      have HOK := Lib.hid hok
      clear hW0 hf hok
      unfold rrA at *
      go_enter Try.func6, Try.ntmps6
      go_wp2_with fail
      refine (awake_any _).mono ?_
      rintro e w1 ⟨rfl, hB⟩
      have HB1 := Lib.hid (HB0.out.trans (hB.mono HB0.out.size))
      have HW1 := Lib.hid (HW0.out.below hB HW0.out.lt)
      obtain ⟨k0, k1, k2, k3, k4⟩ := rr_facts HW1.out
      clear hB
      go_wp2_with fail
      refine (few_any N D t c l _).mono ?_
      rw [HF.out]
      rintro e w2 ⟨rfl, hB⟩
      have HB2 := Lib.hid (HB1.out.trans (hB.mono HB1.out.size))
      have HW2 := Lib.hid (HW1.out.below hB HW1.out.lt)
      clear hB k0 k1 k2 k3 k4
      obtain ⟨k0, k1, k2, k3, k4⟩ := rr_facts HW2.out
      go_wp2_with fail
      refine (RefRRight_any N D (recOf N D t c l) _ (recOf_n N D t c l) (recOf_d N D t c l) (by omega)).mono ?_
      rw [HOK.out]
      rintro e w3 ⟨rfl, hB⟩
      have HB3 := Lib.hid (HB2.out.trans (hB.mono HB2.out.size))
      clear hB
      go_wp2_with fail
      refine (awake_any _).mono ?_
      rintro e w4 ⟨rfl, hB⟩
      go_wp2_with fail
      go_ret
      exact ⟨rfl, HB3.out.trans (hB.mono HB3.out.size)⟩
end Go.Proofs.Ytdanncclnhkmgaa
