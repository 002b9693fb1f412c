/- Parts of the proofs of the statements of image. No statement of the seat is proved here. -/
import Derived.Test.YtnbapaimpoobkaaGreatDoorRdG
import Derived.Test.YtnbapaimpoobkaaGreatDoorReE
import Derived.Test.YtnbapaimpoobkaaGreatDoorReP
import Derived.Test.YtnbapaimpoobkaaGreatDoorEntC
import Derived.Deep.RegionWith
import Derived.Deep.RegionHeld3
import Derived.StillTailTactics
namespace Go.Proofs.YtnbapaimpoobkaaGreatDoor
open Go.RowKit

theorem wrap_i64n (n : Nat) (h : n ≤ 4294967295) : IntKind.i64.wrap (n : Int) = (n : Int) := by rw [IntKind.wrap_i64]; omega
theorem Number_is (T : ByteArray) (n : Nat) (w : World) (hs : T.size ≤ 8) (hn : numOf T = n) :
    Calls Tryz.prog 50 #[.string T] w fun e w' => e = .returned (.int .u64 (n : Nat)) ∧ w = w' := by
  subst hn
  exact Number_any T w hs
theorem plain_data {M : List UInt8} {p e : Nat} : dataR M p e 0 = some (seg M p e) := by
  have hs : steps M e (partsP 0) p = ([(-4, seg M p e)], some e) := by
    have h1 : partsP 0 = [-4] := rfl
    have hc : cutP M e (-4) p = some (seg M p e, e) := by unfold cutP; simp
    rw [h1, steps_yes hc, steps_nil]
  unfold dataR okS
  rw [hs]
  simp [cat]
/-- what the reference says of a message: the record, where all of the message is one -/
def RefOne (M : List UInt8) (w : World) (e : Ending) (w' : World) : Prop :=
  ∃ (N D : ByteArray) (t c l x z : Int), e = .returned (.tuple #[.agg #[.string N, .int .i64 t, .int .i64 c, .int .i64 l, .string D], .int .i64 x, .int .i64 z]) ∧ (match oneE M with | some r => (N = mk r.n ∧ D = mk r.d ∧ t = r.t ∧ c = r.c ∧ l = r.l) ∧ x = M.length ∧ z = 0 | none => z ≠ 0 ∨ x ≠ M.length) ∧ Below w.heap.size w w'
theorem refone_no {M : List UInt8} {w w' : World} {N D : ByteArray} {t c l x : Int} (h : recR M 0 = none) (hB : Below w.heap.size w w') : RefOne M w (.returned (.tuple #[.agg #[.string N, .int .i64 t, .int .i64 c, .int .i64 l, .string D], .int .i64 x, .int .i64 2])) w' := by
  refine ⟨N, D, t, c, l, x, 2, rfl, ?_, hB⟩
  unfold oneE
  rw [h]
  exact .inl (by decide)
theorem refone_some {M : List UInt8} {w w' : World} {r : Rec} {x : Nat} (h : x = M.length → recR M 0 = some (r, x)) (hx : ∀ r' x', recR M 0 = some (r', x') → x' = x) (hB : Below w.heap.size w w') :
    RefOne M w (.returned (.tuple #[.agg #[.string (mk r.n), .int .i64 r.t, .int .i64 r.c, .int .i64 r.l, .string (mk r.d)], .int .i64 (x : Nat), .int .i64 0])) w' := by
  refine ⟨_, _, _, _, _, (x : Nat), 0, rfl, ?_, hB⟩
  unfold oneE
  by_cases hxl : x = M.length
  · rw [h hxl]
    simp only
    rw [if_pos hxl]
    exact ⟨⟨rfl, rfl, rfl, rfl, rfl⟩, by rw [hxl], by simp⟩
  · cases hr : recR M 0 with
    | none => exact .inr (by omega)
    | some q =>
      obtain ⟨r', x'⟩ := q
      have := hx r' x' hr
      simp only
      rw [if_neg (by omega)]
      exact .inr (by omega)
theorem refone_err {M : List UInt8} {w w' : World} {N D : ByteArray} {t c l x : Int} (h : ∀ r' x', recR M 0 = some (r', x') → x' ≠ M.length) (hB : Below w.heap.size w w') : RefOne M w (.returned (.tuple #[.agg #[.string N, .int .i64 t, .int .i64 c, .int .i64 l, .string D], .int .i64 x, .int .i64 2])) w' := by
  refine ⟨N, D, t, c, l, x, 2, rfl, ?_, hB⟩
  unfold oneE
  cases hr : recR M 0 with
  | none => exact .inl (by decide)
  | some q =>
    obtain ⟨r', x'⟩ := q
    have := h r' x' hr
    simp only
    rw [if_neg this]
    exact .inl (by decide)
theorem typ_num (t c : Int) (k : Nat) : tyd t c k = if typB c ((k : Int) == 0) = true then t else 0 := by
  unfold tyd typB
  cases k with
  | zero => simp
  | succ k =>
    have h : (((k + 1 : Nat) : Int) == 0) = false := by rw [beq_eq_false_iff_ne]; omega
    rw [h]
    simp
section
variable {M : List UInt8} {n : List UInt8} {x : Nat}
theorem recR_short (hr : readR M [] 0 0 none = some (n, x)) (h : M.length < x + 10) : recR M 0 = none := by
  unfold recR
  rw [hr]
  simp only
  by_cases h1 : M.length < x + 8
  · rw [if_pos h1]
  · rw [if_neg h1, if_pos h]
theorem recR_less (hr : readR M [] 0 0 none = some (n, x)) (h : M.length < x + 10 + num (seg M (x + 8) (x + 10))) : recR M 0 = none := by
  unfold recR
  rw [hr]
  simp only
  by_cases h1 : M.length < x + 8
  · rw [if_pos h1]
  · rw [if_neg h1]
    by_cases h2 : M.length < x + 10
    · rw [if_pos h2]
    · rw [if_neg h2, if_pos h]
theorem recR_data (hr : readR M [] 0 0 none = some (n, x)) (h : x + 10 + num (seg M (x + 8) (x + 10)) ≤ M.length) : recR M 0 =
    match dataR M (x + 10) (x + 10 + num (seg M (x + 8) (x + 10))) (tyd (num (seg M x (x + 2))) (num (seg M (x + 2) (x + 4))) (num (seg M (x + 8) (x + 10)))) with
      | none => none
      | some d => some (⟨n, num (seg M x (x + 2)), num (seg M (x + 2) (x + 4)), ageR (num (seg M (x + 4) (x + 8))), d⟩, x + 10 + num (seg M (x + 8) (x + 10))) := by
  conv => lhs; unfold recR
  rw [hr]
  simp only
  rw [if_neg (by omega), if_neg (by omega), if_neg (by omega)]
  generalize dataR M _ _ _ = o
  cases o <;> rfl
end

set_option maxHeartbeats 8000000 in
set_option maxRecDepth 20000 in
theorem RefRRead_one (S : ByteArray) (M : List UInt8) (w : World) (hS : S = mk M) (hM : M.length ≤ 4000) :
    Calls Tryz.prog 107 #[.string S, .int .i64 0] w (RefOne M w) := by
  have hsz : S.size = M.length := by rw [hS, mk_size]
  have HB0 := Lib.hid (show Below w.heap.size w (w.alloc (.cells zeroRR rrT)) from (Below.refl _ _).alloc (Nat.le_refl _) _)
  have HW0 := Lib.hid (Whole.new w rrT zeroRR)
  have HS := Lib.hid hS
  clear hS
  cases hr : readR M [] 0 0 none with
  | none =>
    have HN := Lib.hid (show recR M 0 = none by unfold recR; rw [hr])
    have HR := Lib.hid hr
    clear hr
    unfold zeroRR at *
    go_enter Tryz.func107, Tryz.ntmps107
    go_wp2_with fail
    refine (RefRead_in S M 0 _ HS.out (by omega) (Nat.zero_le _)).mono ?_
    rw [HR.out]
    unfold readV
    rintro e w1 ⟨rfl, hB⟩
    have HW1 := Lib.hid (HW0.out.below hB HW0.out.lt)
    have HB1 := Lib.hid (HB0.out.trans (hB.mono HB0.out.size))
    clear hB
    obtain ⟨f0, f1, f2, f3, f4⟩ := rr_frozen HW1.out
    obtain ⟨e0, e1, e2, e3, e4⟩ := soa5 HW1.out
    go_wp2_with fail
    refine ret5 (R := RefOne M w) rfl rfl rfl rfl rfl (five_put HW1.out _ _ _ _ _) ?_
    exact refone_no HN.out (five_below HB1.out (Nat.le_refl _) _ _ _ _ _)
  | some q =>
    obtain ⟨n, x⟩ := q
    have hx : x ≤ M.length := by have := (read_name hr).2.2; omega
    have HR := Lib.hid hr
    unfold zeroRR at *
    go_enter Tryz.func107, Tryz.ntmps107
    go_wp2_with fail
    refine (RefRead_in S M 0 _ HS.out (by omega) (Nat.zero_le _)).mono ?_
    rw [HR.out]
    unfold readV
    rintro e w1 ⟨rfl, hB⟩
    have HW1 := Lib.hid (HW0.out.below hB HW0.out.lt)
    have HB1 := Lib.hid (HB0.out.trans (hB.mono HB0.out.size))
    clear hB hr
    by_cases h10 : M.length < x + 10
    · have HN := Lib.hid (recR_short HR.out h10)
      have g1 : (S.size : Int) - (x : Int) < 10 := by omega
      have g2 : wrap64 ((S.size : Int) - (x : Int)) < 10 := by unfold wrap64; omega
      obtain ⟨f0, f1, f2, f3, f4⟩ := rr_frozen HW1.out
      obtain ⟨e0, e1, e2, e3, e4⟩ := soa5 HW1.out
      go_wp2_with fail
      refine ret5 (R := RefOne M w) rfl rfl rfl rfl rfl (five_put HW1.out _ _ _ _ _) ?_
      exact refone_no HN.out (five_below HB1.out (Nat.le_refl _) _ _ _ _ _)
    · obtain ⟨t, ht⟩ : ∃ t, t = num (seg M x (x + 2)) := ⟨_, rfl⟩
      obtain ⟨c, hc⟩ : ∃ c, c = num (seg M (x + 2) (x + 4)) := ⟨_, rfl⟩
      obtain ⟨l, hl⟩ : ∃ l, l = num (seg M (x + 4) (x + 8)) := ⟨_, rfl⟩
      obtain ⟨k, hk⟩ : ∃ k, k = num (seg M (x + 8) (x + 10)) := ⟨_, rfl⟩
      have l1 : t < 65536 := by have := seg_num_lt M x 2 (by omega); rw [ht]; omega
      have l2 : c < 65536 := by have := seg_num_lt M (x + 2) 2 (by omega); rw [show x + 2 + 2 = x + 4 by omega] at this; rw [hc]; omega
      have l3 : l < 4294967296 := by have := seg_num_lt M (x + 4) 4 (by omega); rw [show x + 4 + 4 = x + 8 by omega] at this; rw [hl]; omega
      have l4 : k < 65536 := by have := seg_num_lt M (x + 8) 2 (by omega); rw [show x + 8 + 2 = x + 10 by omega] at this; rw [hk]; omega
      have hext : ∀ a b, S.extract a b = mk (seg M a b) := fun a b => mk_sg HS.out a b
      have N1 := Lib.hid (show (S.extract x ((x : Int) + 2).toNat).size ≤ 8 ∧ numOf (S.extract x ((x : Int) + 2).toNat) = t by rw [show ((x : Int) + 2).toNat = x + 2 by omega, hext, mk_num, mk_size, seg_len (by omega), ht]; exact ⟨by omega, rfl⟩)
      have N2 := Lib.hid (show (S.extract ((x : Int) + 2).toNat ((x : Int) + 4).toNat).size ≤ 8 ∧ numOf (S.extract ((x : Int) + 2).toNat ((x : Int) + 4).toNat) = c by rw [show ((x : Int) + 2).toNat = x + 2 by omega, show ((x : Int) + 4).toNat = x + 4 by omega, hext, mk_num, mk_size, seg_len (by omega), hc]; exact ⟨by omega, rfl⟩)
      have N3 := Lib.hid (show (S.extract ((x : Int) + 4).toNat ((x : Int) + 8).toNat).size ≤ 8 ∧ numOf (S.extract ((x : Int) + 4).toNat ((x : Int) + 8).toNat) = l by rw [show ((x : Int) + 4).toNat = x + 4 by omega, show ((x : Int) + 8).toNat = x + 8 by omega, hext, mk_num, mk_size, seg_len (by omega), hl]; exact ⟨by omega, rfl⟩)
      have N4 := Lib.hid (show (S.extract (x + 8) (x + 10)).size ≤ 8 ∧ numOf (S.extract (x + 8) (x + 10)) = k by rw [hext, mk_num, mk_size, seg_len (by omega), hk]; exact ⟨by omega, rfl⟩)
      have HTT := Lib.hid ht
      have HCC := Lib.hid hc
      have HLL := Lib.hid hl
      have HKK := Lib.hid hk
      have HEX := Lib.hid hext
      clear ht hc hl hk hext
      have g1 : ¬ (wrap64 ((S.size : Int) - (x : Int)) < 10) := by unfold wrap64; omega
      have g0 : (0 : Int) ≤ (x : Int) := by omega
      have g3 : (x : Int) + 2 ≤ (S.size : Int) := by omega
      have g4 : (x : Int) + 4 ≤ (S.size : Int) := by omega
      have g5 : (x : Int) + 8 ≤ (S.size : Int) := by omega
      have g6 : (x : Int) + 10 ≤ (S.size : Int) := by omega
      have y2 : IntKind.i64.wrap ((x : Int) + 2) = (x : Int) + 2 := by rw [IntKind.wrap_i64]; omega
      have y4 : IntKind.i64.wrap ((x : Int) + 4) = (x : Int) + 4 := by rw [IntKind.wrap_i64]; omega
      have y8 : IntKind.i64.wrap ((x : Int) + 8) = (x : Int) + 8 := by rw [IntKind.wrap_i64]; omega
      have yF : IntKind.i64.wrap ((x : Int) + 10) = (x : Int) + 10 := by rw [IntKind.wrap_i64]; omega
      have z2 : (0 : Int) ≤ (x : Int) + 2 := by omega
      have z4 : (0 : Int) ≤ (x : Int) + 4 := by omega
      have z8 : (0 : Int) ≤ (x : Int) + 8 := by omega
      have zF : (0 : Int) ≤ (x : Int) + 10 := by omega
      have b2 : (x : Int) ≤ (x : Int) + 2 := by omega
      have b4 : (x : Int) + 2 ≤ (x : Int) + 4 := by omega
      have b8 : (x : Int) + 4 ≤ (x : Int) + 8 := by omega
      have bF : (x : Int) + 8 ≤ (x : Int) + 10 := by omega
      have HSZ := Lib.hid hsz
      clear hsz
      have u1 : IntKind.i64.wrap (t : Int) = (t : Int) := wrap_i64n _ (by omega)
      have u2 : IntKind.i64.wrap (c : Int) = (c : Int) := wrap_i64n _ (by omega)
      have u3 : IntKind.i64.wrap (l : Int) = (l : Int) := wrap_i64n _ (by omega)
      have u4 : IntKind.i64.wrap (k : Int) = (k : Int) := wrap_i64n _ (by omega)
      go_wp2_with fail
      go_cut [10] (fun p V => p = .pointer (some ⟨w1.heap.size, 0, none⟩) ∧ V = (w1.alloc (.cells #[.string (mk n), .int .i64 (t : Nat), .int .i64 (c : Nat), .int .i64 (l : Nat), .string ⟨#[]⟩] rrT)).drew)
      case first =>
        go_region_held3 (fun _ => True) (go_keep) (first
          | (go_at_call 50; (with_reducible refine (Number_is (S.extract x ((x : Int) + 2).toNat) t _ N1.out.1 N1.out.2).mono ?_; rintro e w' ⟨rfl, rfl⟩))
          | (go_at_call 50; (with_reducible refine (Number_is (S.extract ((x : Int) + 2).toNat ((x : Int) + 4).toNat) c _ N2.out.1 N2.out.2).mono ?_; rintro e w' ⟨rfl, rfl⟩))
          | (go_at_call 50; (with_reducible refine (Number_is (S.extract ((x : Int) + 4).toNat ((x : Int) + 8).toNat) l _ N3.out.1 N3.out.2).mono ?_; rintro e w' ⟨rfl, rfl⟩)))
        all_goals (go_wp2_with fail; go_meet; exact ⟨rfl, rfl⟩)
      case rest =>
        obtain ⟨rfl, rfl⟩ := hcut
        have HW5 := Lib.hid (Whole.new w1 rrT #[.string (mk n), .int .i64 (t : Nat), .int .i64 (c : Nat), .int .i64 (l : Nat), .string ⟨#[]⟩]).drew
        have HX5 := Lib.hid (HW1.out.alloc (.cells #[.string (mk n), .int .i64 (t : Nat), .int .i64 (c : Nat), .int .i64 (l : Nat), .string ⟨#[]⟩] rrT)).drew
        have HB5 := Lib.hid (HB1.out.alloc HB1.out.size (.cells #[.string (mk n), .int .i64 (t : Nat), .int .i64 (c : Nat), .int .i64 (l : Nat), .string ⟨#[]⟩] rrT)).drew
        have hgt : w.heap.size < w1.heap.size := HW1.out.lt
        revert HW5 HX5 HB5 hgt
        generalize (w1.alloc (.cells #[.string (mk n), .int .i64 (t : Nat), .int .i64 (c : Nat), .int .i64 (l : Nat), .string ⟨#[]⟩] rrT)).drew = V
        generalize w1.heap.size = g
        intro HW5 HX5 HB5 hgt
        have n1 : ¬ (g = w.heap.size) := by omega
        have n2 : ¬ (w.heap.size = g) := by omega
        obtain ⟨d0, d1, d2, d3, d4⟩ := rr_facts HW5.out
        have f3 := HW5.out.frozen 3
        go_wp2_with fail
        refine (Number_is (S.extract (x + 8) (x + 10)) k _ N4.out.1 N4.out.2).mono ?_
        rintro e w' ⟨rfl, rfl⟩
        have hl2 : (l ≤ 2147483647 ∧ ageR l = l) ∨ (2147483647 < l ∧ ageR l = 0) := by
          unfold ageR
          by_cases h : 2147483647 < l
          · exact .inr ⟨h, if_pos h⟩
          · exact .inl ⟨by omega, if_neg h⟩
        rcases hl2 with ⟨h1, h2⟩ | ⟨h1, h2⟩
        case' inl =>
          have ga : ¬ ((2147483647 : Int) < (l : Int)) := by omega
          have HW6 := Lib.hid (show Whole V g rrT #[.string (mk n), .int .i64 (t : Nat), .int .i64 (c : Nat), .int .i64 (ageR l : Nat), .string ⟨#[]⟩] by rw [h2]; exact HW5.out)
          have HX6 := HX5
          have HB6 := HB5
          clear h2
          go_upto_region 10 with fail
          generalize V = V2 at HW6 HX6 HB6 ⊢
          clear HW5 HX5 HB5 d0 d1 d2 d3 d4 f3 ga
        case' inr =>
          have ga : (2147483647 : Int) < (l : Int) := by omega
          have HW6 := Lib.hid (show Whole (V.setCell ⟨g, 3, none⟩ (.int .i64 0)) g rrT #[.string (mk n), .int .i64 (t : Nat), .int .i64 (c : Nat), .int .i64 (ageR l : Nat), .string ⟨#[]⟩] by rw [h2]; simpa using HW5.out.put 3 (.int .i64 0))
          have HX6 := Lib.hid (HX5.out.far (p := ⟨g, 3, none⟩) n2 (.int .i64 0))
          have HB6 := Lib.hid (HB5.out.setCell (p := ⟨g, 3, none⟩) (by simp only; omega) (.int .i64 0))
          clear h2
          go_upto_region 10 with fail
          generalize V.setCell ⟨g, 3, none⟩ (.int .i64 0) = V2 at HW6 HX6 HB6 ⊢
          clear HW5 HX5 HB5 d0 d1 d2 d3 d4 f3 ga
        all_goals (
          clear h1
          obtain ⟨d0, d1, d2, d3, d4⟩ := rr_facts HW6.out
          obtain ⟨e0, e1, e2, e3, e4⟩ := soa5 HX6.out
          obtain ⟨f0, f1, f2, f3, f4⟩ := rr_frozen HX6.out
          by_cases hs : M.length < x + 10 + k
          · have HN := Lib.hid (recR_less HR.out (by rw [← HKK.out]; exact hs))
            have gs : wrap64 ((S.size : Int) - ((x : Int) + 10)) < (k : Int) := by have := HSZ.out; unfold wrap64; omega
            go_wp2_with fail
            refine ret5 (R := RefOne M w) rfl rfl rfl rfl rfl (five_put HX6.out _ _ _ _ _) ?_
            exact refone_no HN.out (five_below HB6.out (Nat.le_refl _) _ _ _ _ _)
          · have gs : ¬ (wrap64 ((S.size : Int) - ((x : Int) + 10)) < (k : Int)) := by have := HSZ.out; unfold wrap64; omega
            have hs2 : (x : Int) + 10 + (k : Int) ≤ (S.size : Int) := by have := HSZ.out; omega
            have h4 := HW6.out.frozen 4
            have hE : ((x + 10 + k : Nat) : Int) = (x : Int) + 10 + (k : Int) := by omega
            have hrd := recR_data HR.out (by rw [← HKK.out]; omega)
            rw [← HTT.out, ← HCC.out, ← HLL.out, ← HKK.out] at hrd
            have HRD := Lib.hid hrd
            have HE := Lib.hid hE
            have HD0 := Lib.hid (show S.extract (x + 10) (x + 10 + k) = mk (seg M (x + 10) (x + 10 + k)) from HEX.out _ _)
            have HW7 := Lib.hid (show Whole (V2.setCell ⟨g, 4, none⟩ (.string (S.extract (x + 10) (x + 10 + k)))) g rrT #[.string (mk n), .int .i64 (t : Nat), .int .i64 (c : Nat), .int .i64 (ageR l : Nat), .string (S.extract (x + 10) (x + 10 + k))] from by simpa using HW6.out.put 4 (.string (S.extract (x + 10) (x + 10 + k))))
            have HX7 := Lib.hid (HX6.out.far (p := ⟨g, 4, none⟩) n2 (.string (S.extract (x + 10) (x + 10 + k))))
            have HB7 := Lib.hid (HB6.out.setCell (p := ⟨g, 4, none⟩) (by simp only; omega) (.string (S.extract (x + 10) (x + 10 + k))))
            clear hrd hE
            go_wp2_with fail
            revert HW7 HX7 HB7
            generalize V2.setCell ⟨g, 4, none⟩ (.string (S.extract (x + 10) (x + 10 + k))) = V3
            intro HW7 HX7 HB7
            clear d0 d1 d2 d3 d4 e0 e1 e2 e3 e4 f0 f1 f2 f3 f4 h4 HW6 HX6 HB6
            have HTY := Lib.hid (typ_num (t : Int) (c : Int) k)
            refine (typed_any _ _ _).mono ?_
            rintro e w' ⟨rfl, rfl⟩
            rw [HD0.out] at HW7
            obtain ⟨d0, d1, d2, d3, d4⟩ := rr_facts HW7.out
            obtain ⟨e0, e1, e2, e3, e4⟩ := soa5 HX7.out
            obtain ⟨f0, f1, f2, f3, f4⟩ := rr_frozen HX7.out
            cases hy : typB (c : Int) ((k : Int) == 0) with
            | false =>
              have HRE := Lib.hid (show recR M 0 = some (⟨n, t, c, ageR l, seg M (x + 10) (x + 10 + k)⟩, x + 10 + k) by rw [HRD.out, HTY.out, hy]; simp only [Bool.false_eq_true, if_false]; rw [plain_data])
              clear hy
              go_wp2_with fail
              refine ret5 (R := RefOne M w) rfl rfl rfl rfl rfl (five_put HX7.out _ _ _ _ _) ?_
              have := refone_some (fun _ => HRE.out) (fun r' x' h => by rw [HRE.out] at h; injection h with h; injection h with h1 h2; exact h2.symm) (five_below HB7.out (Nat.le_refl _) (.string (mk n)) (.int .i64 (t : Nat)) (.int .i64 (c : Nat)) (.int .i64 (ageR l : Nat)) (.string (mk (seg M (x + 10) (x + 10 + k)))))
              rw [HE.out] at this
              exact this
            | true =>
              have HTT2 := Lib.hid (show tyd t c k = t by rw [HTY.out, hy]; simp)
              clear hy
              obtain ⟨E, hEE⟩ : ∃ E, E = x + 10 + k := ⟨_, rfl⟩
              have hEM : E ≤ M.length := by omega
              have hWH : ∀ W : World, Calls Tryz.prog 129 #[.string S, .int .i64 ((x : Int) + 10), .int .i64 ((x : Int) + 10 + (k : Int)), .int .i64 (t : Nat)] W fun en w' => en = .returned (.tuple #[.string (mk (wholeA (x + 10) t (M.take E))), .bool (wholeC (x + 10) t (M.take E))]) ∧ Below W.heap.size W w' := by
                intro W
                have hTz : (mk (M.take E)).size = E := by rw [mk_size, List.length_take]; omega
                have := RefWhole_at S (mk (M.take E)) (M.take E) (x + 10) (t : Int) W (by rw [hTz, HS.out, mk_extract, List.drop_zero]) (by rw [hTz]; have := HSZ.out; omega) (by rw [List.length_take]; omega) rfl (by rw [List.length_take]; omega)
                rw [hTz, show ((E : Nat) : Int) = (x : Int) + 10 + (k : Int) by omega, show ((x + 10 : Nat) : Int) = (x : Int) + 10 by omega] at this
                exact this
              obtain ⟨D, hD⟩ : ∃ D, D = wholeA (x + 10) t (M.take E) := ⟨_, rfl⟩
              rw [← hD] at hWH
              have HWH := Lib.hid hWH
              have HDD := Lib.hid hD
              have HEE := Lib.hid hEE
              clear hWH hD hEE
              cases hc : wholeC (x + 10) t (M.take E) with
              | false =>
                have HNO := Lib.hid (show ∀ r' x', recR M 0 = some (r', x') → x' ≠ M.length from by
                  intro r' x' h hx'
                  rw [HRD.out, HTT2.out, ← HEE.out] at h
                  cases hd : dataR M (x + 10) E t with
                  | none => rw [hd] at h; cases h
                  | some d =>
                    rw [hd] at h
                    simp only [Option.some.injEq, Prod.mk.injEq] at h
                    have hEl : E = M.length := by rw [h.2]; exact hx'
                    rw [hEl] at hd
                    have := (whole_some hM hd).2
                    rw [hEl, List.take_length] at hc
                    rw [hc] at this
                    cases this)
                have HC := Lib.hid hc
                clear hc
                go_wp2_with fail
                refine (HWH.out _).mono ?_
                rw [HC.out]
                rintro en w2 ⟨rfl, hB⟩
                have HX8 := Lib.hid (HX7.out.below hB HX7.out.lt)
                have HB8 := Lib.hid (HB7.out.trans (hB.mono HB7.out.size))
                clear hB d0 d1 d2 d3 d4 e0 e1 e2 e3 e4 f0 f1 f2 f3 f4
                obtain ⟨e0, e1, e2, e3, e4⟩ := soa5 HX8.out
                obtain ⟨f0, f1, f2, f3, f4⟩ := rr_frozen HX8.out
                go_wp2_with fail
                refine ret5 (R := RefOne M w) rfl rfl rfl rfl rfl (five_put HX8.out _ _ _ _ _) ?_
                exact refone_err HNO.out (five_below HB8.out (Nat.le_refl _) _ _ _ _ _)
              | true =>
                have HSO := Lib.hid (show E = M.length → recR M 0 = some (⟨n, t, c, ageR l, D⟩, E) from by
                  intro hEl
                  rw [HRD.out, HTT2.out, ← HEE.out]
                  rw [hEl, List.take_length] at hc
                  have hDD := HDD.out
                  rw [hEl, List.take_length] at hDD
                  cases hd : dataR M (x + 10) E t with
                  | none => rw [hEl] at hd; rw [whole_none hd] at hc; cases hc
                  | some d =>
                    rw [hEl] at hd
                    have := (whole_some hM hd).1
                    rw [← hDD] at this
                    rw [this])
                have HX2 := Lib.hid (show ∀ r' x', recR M 0 = some (r', x') → x' = E from by
                  intro r' x' h
                  rw [HRD.out, HTT2.out, ← HEE.out] at h
                  cases hd : dataR M (x + 10) E t with
                  | none => rw [hd] at h; cases h
                  | some d =>
                    rw [hd] at h
                    simp only [Option.some.injEq, Prod.mk.injEq] at h
                    exact h.2.symm)
                have HC := Lib.hid hc
                clear hc
                go_wp2_with fail
                refine (HWH.out _).mono ?_
                rw [HC.out]
                rintro en w2 ⟨rfl, hB⟩
                have HW8 := Lib.hid (HW7.out.below hB HW7.out.lt)
                have HX8 := Lib.hid (HX7.out.below hB HX7.out.lt)
                have HB8 := Lib.hid (HB7.out.trans (hB.mono HB7.out.size))
                have HW9 := Lib.hid (show Whole (w2.setCell ⟨g, 4, none⟩ (.string (mk D))) g rrT #[.string (mk n), .int .i64 (t : Nat), .int .i64 (c : Nat), .int .i64 (ageR l : Nat), .string (mk D)] from by simpa using HW8.out.put 4 (.string (mk D)))
                have HX9 := Lib.hid (HX8.out.far (p := ⟨g, 4, none⟩) n2 (.string (mk D)))
                have HB9 := Lib.hid (HB8.out.setCell (p := ⟨g, 4, none⟩) (by simp only; omega) (.string (mk D)))
                have h4 := HW8.out.frozen 4
                have h5 := HW8.out.cell 4
                clear hB d0 d1 d2 d3 d4 e0 e1 e2 e3 e4 f0 f1 f2 f3 f4
                go_upto_region 19 with fail
                revert HW9 HX9 HB9
                generalize w2.setCell ⟨g, 4, none⟩ (.string (mk D)) = V4
                intro HW9 HX9 HB9
                clear h4 h5
                obtain ⟨d0, d1, d2, d3, d4⟩ := rr_facts HW9.out
                obtain ⟨e0, e1, e2, e3, e4⟩ := soa5 HX9.out
                obtain ⟨f0, f1, f2, f3, f4⟩ := rr_frozen HX9.out
                go_wp2_with fail
                refine ret5 (R := RefOne M w) rfl rfl rfl rfl rfl (five_put HX9.out _ _ _ _ _) ?_
                have := refone_some HSO.out HX2.out (five_below HB9.out (Nat.le_refl _) (.string (mk n)) (.int .i64 (t : Nat)) (.int .i64 (c : Nat)) (.int .i64 (ageR l : Nat)) (.string (mk D)))
                rw [show ((E : Nat) : Int) = (x : Int) + 10 + (k : Int) by rw [HEE.out]; exact HE.out] at this
                exact this)
end Go.Proofs.YtnbapaimpoobkaaGreatDoor
