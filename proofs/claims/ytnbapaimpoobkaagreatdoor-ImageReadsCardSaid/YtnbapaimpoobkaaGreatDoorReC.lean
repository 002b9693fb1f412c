/- Parts of the proofs of the statements of image. No statement of the seat is proved here. -/
import Derived.Test.YtnbapaimpoobkaaGreatDoorReP
import Derived.Test.YtnbapaimpoobkaaGreatDoorPaC
import Derived.Test.YtnbapaimpoobkaaGreatDoorOcD
import Derived.Deep.RegionHeld3
import Derived.Deep.DeepCutAuto
import Derived.Test.YtnbapaimpoobkaaGreatDoorReA
namespace Go.Proofs.YtnbapaimpoobkaaGreatDoor
open Go.RowKit

def recV : Option (Rec × Nat) → Value
  | some (r, x) => .tuple #[.agg #[.string (mk r.n), .int .i64 r.t, .int .i64 r.c, .int .i64 r.l, .string (mk r.d)], .int .i64 (x : Int), .int .i64 0]
  | none => .tuple #[.agg #[.string ⟨#[]⟩, .int .i64 0, .int .i64 0, .int .i64 0, .string ⟨#[]⟩], .int .i64 0, .int .i64 2]

set_option maxHeartbeats 2000000 in
set_option maxRecDepth 20000 in
theorem RRead_no1 (S : ByteArray) (M : List UInt8) (p : Nat) (w : World) (hS : S = mk M) (hM : M.length ≤ 800000) (hp : p ≤ M.length) (hr : readR M [] p p none = none) :
    Calls Tryz.prog 103 #[.string S, .int .i64 (p : Nat)] w fun e w' => e = .returned (recV none) ∧ Below w.heap.size w w' := by
  have HS := Lib.hid hS
  have HR := Lib.hid hr
  clear hr
  have HB0 := Lib.hid (show Below w.heap.size w (w.alloc (.cells zeroRR rrT)) from (Below.refl _ _).alloc (Nat.le_refl _) _)
  have HW0 := Lib.hid (Whole.new w rrT zeroRR)
  clear hS
  unfold zeroRR at *
  go_enter Tryz.func103, Tryz.ntmps103
  go_wp2_with fail
  refine (Read_in S M p _ HS.out (by omega) hp).mono ?_
  rw [HR.out]
  unfold readV
  rintro e w1 ⟨rfl, hB⟩
  have HW1 := Lib.hid (HW0.out.below hB HW0.out.lt)
  have HB1 := Lib.hid (HB0.out.trans (hB.mono HB0.out.size))
  clear hB
  obtain ⟨f0, f1, f2, f3, f4⟩ := rr_frozen HW1.out
  obtain ⟨e0, e1, e2, e3, e4⟩ := soa5 HW1.out
  go_wp2_with fail
  refine ret5 rfl rfl rfl rfl rfl (five_put HW1.out _ _ _ _ _) ⟨?_, five_below HB1.out (Nat.le_refl _) _ _ _ _ _⟩
  rfl

set_option maxHeartbeats 2000000 in
set_option maxRecDepth 20000 in
theorem RRead_no2 (S : ByteArray) (M : List UInt8) (p : Nat) (w : World) (hS : S = mk M) (hM : M.length ≤ 800000) (hp : p ≤ M.length) (T : ByteArray) (n : List UInt8) (x : Nat) (hr : readR M [] p p none = some (n, x)) (hx : x ≤ M.length) (hT : S.extract x S.size = T) (hsp : splitR T [2, 2, 4] = ([], empty, 2)) :
    Calls Tryz.prog 103 #[.string S, .int .i64 (p : Nat)] w fun e w' => e = .returned (recV none) ∧ Below w.heap.size w w' := by
  have hsz : S.size = M.length := by rw [hS, mk_size]
  have hTz : T.size ≤ 1073741824 := by rw [← hT]; simp; omega
  have gx : (x : Int) ≤ (S.size : Int) := by omega
  have gx2 : x ≤ S.size := by omega
  have gx0 : (0 : Int) ≤ (x : Int) := by omega
  have rx : IntKind.i64.wrap (x : Int) = (x : Int) := by rw [IntKind.wrap_i64]; omega
  clear hsz
  have HS := Lib.hid hS
  have HR := Lib.hid hr
  have HT := Lib.hid hT
  have HSP := Lib.hid hsp
  clear hr hT hsp
  have HB0 := Lib.hid (show Below w.heap.size w (w.alloc (.cells zeroRR rrT)) from (Below.refl _ _).alloc (Nat.le_refl _) _)
  have HW0 := Lib.hid (Whole.new w rrT zeroRR)
  clear hS
  unfold zeroRR at *
  go_enter Tryz.func103, Tryz.ntmps103
  go_wp2_with fail
  refine (Read_in S M p _ HS.out (by omega) hp).mono ?_
  rw [HR.out]
  unfold readV
  rintro e w1 ⟨rfl, hB⟩
  have HW1 := Lib.hid (HW0.out.below hB HW0.out.lt)
  have HB1 := Lib.hid (HB0.out.trans (hB.mono HB0.out.size))
  clear hB
  go_wp2_with fail
  have hT' := HT.out
  have k0 := (HW1.out.cell 0).trans (show _ = some (Value.string ⟨#[]⟩) from rfl)
  go_region_held3 (fun w' => w'.cell? ⟨w.heap.size, 0, none⟩ = some (.string ⟨#[]⟩)) (go_keep) (first
    | (go_at_call 147; (refine (headWidths_any _).mono ?_; rintro e w2 ⟨g2, rfl, hs2, hB2⟩; have hB2 := (Below.refl _ _).drew.trans hB2; have k0' := (hB2.cell (p := ⟨w.heap.size, 0, none⟩) HW1.out.lt).trans k0))
    | (go_at_call 44; (refine (Split_any T _ 3 3 _ [2, 2, 4] _ hs2 (by decide) (Nat.le_refl _) hTz).mono ?_; unfold SplitLeaves; rw [HSP.out]; rintro e w3 ⟨A3, c3, rfl, hs3, hB3⟩; have k0'' := (hB3.cell (p := ⟨w.heap.size, 0, none⟩) (Nat.lt_of_lt_of_le HW1.out.lt hB2.size)).trans k0')))
  all_goals (
    have hB23 : Below w1.heap.size w1 w3 := hB2.trans (hB3.mono hB2.size)
    have HW3 := Lib.hid (HW1.out.below hB23 HW1.out.lt)
    have HB3 := Lib.hid (HB1.out.trans (hB23.mono HB1.out.size))
    clear hB2 hB3 hB23 hs2 hs3 hT' rx gx gx2 gx0
    obtain ⟨f0, f1, f2, f3, f4⟩ := rr_frozen HW3.out
    obtain ⟨e0, e1, e2, e3, e4⟩ := soa5 HW3.out
    go_wp2_with fail
    refine ret5 rfl rfl rfl rfl rfl (five_put HW3.out _ _ _ _ _) ⟨?_, five_below HB3.out (Nat.le_refl _) _ _ _ _ _⟩
    rfl)

set_option maxHeartbeats 2000000 in
set_option maxRecDepth 20000 in
theorem RRead_no3 (S : ByteArray) (M : List UInt8) (p : Nat) (w : World) (hS : S = mk M) (hM : M.length ≤ 800000) (hp : p ≤ M.length) (T R : ByteArray) (n : List UInt8) (x : Nat) (t c l : Nat) (hr : readR M [] p p none = some (n, x)) (hx : x ≤ M.length) (hT : S.extract x S.size = T) (hsp : splitR T [2, 2, 4] = ([(t : Int), (c : Int), (l : Int)], R, 0)) (hRz : R.size ≤ 1073741824) (hcut : cutR R 2 = (empty, empty, 2)) :
    Calls Tryz.prog 103 #[.string S, .int .i64 (p : Nat)] w fun e w' => e = .returned (recV none) ∧ Below w.heap.size w w' := by
  have hsz : S.size = M.length := by rw [hS, mk_size]
  have hTz : T.size ≤ 1073741824 := by rw [← hT]; simp; omega
  have gx : (x : Int) ≤ (S.size : Int) := by omega
  have gx2 : x ≤ S.size := by omega
  have gx0 : (0 : Int) ≤ (x : Int) := by omega
  have rx : IntKind.i64.wrap (x : Int) = (x : Int) := by rw [IntKind.wrap_i64]; omega
  clear hsz
  have HS := Lib.hid hS
  have HR := Lib.hid hr
  have HT := Lib.hid hT
  have HSP := Lib.hid hsp
  have HC := Lib.hid hcut
  clear hr hT hsp hcut
  have HB0 := Lib.hid (show Below w.heap.size w (w.alloc (.cells zeroRR rrT)) from (Below.refl _ _).alloc (Nat.le_refl _) _)
  have HW0 := Lib.hid (Whole.new w rrT zeroRR)
  clear hS
  unfold zeroRR at *
  go_enter Tryz.func103, Tryz.ntmps103
  go_wp2_with fail
  refine (Read_in S M p _ HS.out (by omega) hp).mono ?_
  rw [HR.out]
  unfold readV
  rintro e w1 ⟨rfl, hB⟩
  have HW1 := Lib.hid (HW0.out.below hB HW0.out.lt)
  have HB1 := Lib.hid (HB0.out.trans (hB.mono HB0.out.size))
  clear hB
  go_wp2_with fail
  have hT' := HT.out
  have k0 := (HW1.out.cell 0).trans (show _ = some (Value.string ⟨#[]⟩) from rfl)
  go_region_held3 (fun w' => w'.cell? ⟨w.heap.size, 0, none⟩ = some (.string ⟨#[]⟩)) (go_keep) (first
    | (go_at_call 147; (refine (headWidths_any _).mono ?_; rintro e w2 ⟨g2, rfl, hs2, hB2⟩; have hB2 := (Below.refl _ _).drew.trans hB2; have k0' := (hB2.cell (p := ⟨w.heap.size, 0, none⟩) HW1.out.lt).trans k0))
    | (go_at_call 44; (refine (Split_any T _ 3 3 _ [2, 2, 4] _ hs2 (by decide) (Nat.le_refl _) hTz).mono ?_; unfold SplitLeaves; rw [HSP.out]; rintro e w3 ⟨A3, c3, rfl, hs3, hB3⟩; have k0'' := (hB3.cell (p := ⟨w.heap.size, 0, none⟩) (Nat.lt_of_lt_of_le HW1.out.lt hB2.size)).trans k0')))
  all_goals (
    have hB23 : Below w1.heap.size w1 w3 := hB2.trans (hB3.mono hB2.size)
    have HW3 := Lib.hid (HW1.out.below hB23 HW1.out.lt)
    have HB3 := Lib.hid (HB1.out.trans (hB23.mono HB1.out.size))
    clear hB2 hB3 hB23 hs2 hs3 hT' rx gx gx2 gx0
    go_wp2_with fail
    refine (Cut_any R 2 _ hRz).mono ?_
    rw [HC.out]
    rintro e w4 ⟨rfl, hB4⟩
    have HW4 := Lib.hid (HW3.out.below hB4 HW3.out.lt)
    have HB4 := Lib.hid (HB3.out.trans (hB4.mono HB3.out.size))
    clear hB4
    obtain ⟨f0, f1, f2, f3, f4⟩ := rr_frozen HW4.out
    obtain ⟨e0, e1, e2, e3, e4⟩ := soa5 HW4.out
    go_wp2_with fail
    refine ret5 rfl rfl rfl rfl rfl (five_put HW4.out _ _ _ _ _) ⟨?_, five_below HB4.out (Nat.le_refl _) _ _ _ _ _⟩
    rfl)

set_option maxHeartbeats 2000000 in
set_option maxRecDepth 20000 in
theorem RRead_no4 (S T R Z : ByteArray) (M n : List UInt8) (p x k t c l : Nat) (w : World) (hS : S = mk M) (hM : M.length ≤ 800000) (hp : p ≤ M.length) (hr : readR M [] p p none = some (n, x)) (hx : x ≤ M.length)
    (hT : S.extract x S.size = T) (hsp : splitR T [2, 2, 4] = ([(t : Int), (c : Int), (l : Int)], R, 0)) (hcut : cutR R 2 = (Z, (S.extract (x + 10 + k) S.size), 0)) (hZ : Z.size = k) (hend : x + 10 + k ≤ M.length)
    (ht : t ≤ 65535) (hc : c ≤ 65535) (hl : l ≤ 4294967295) (hk : k ≤ 65535) (hd : dataR M (x + 10) (x + 10 + k) (tyd t c k) = none) :
    Calls Tryz.prog 103 #[.string S, .int .i64 (p : Nat)] w fun e w' => e = .returned (recV none) ∧ Below w.heap.size w w' := by
  have hsz : S.size = M.length := by rw [hS, mk_size]
  obtain ⟨R2, hR2⟩ : ∃ R2, R2 = S.extract (x + 10 + k) S.size := ⟨_, rfl⟩
  have hR2z : R2.size + (x + 10 + k) = S.size := by rw [hR2]; simp; omega
  rw [← hR2] at hcut
  have hTz : T.size ≤ 1073741824 := by rw [← hT]; simp; omega
  have hRz : R.size ≤ 1073741824 := by
    have h1 : splitF T [2, 2, 4] = some ([(t : Int), (c : Int), (l : Int)], R) := by
      unfold splitR at hsp
      rw [if_pos (by decide)] at hsp
      cases h : splitF T [2, 2, 4] with
      | none => rw [h] at hsp; simp at hsp
      | some q => rw [h] at hsp; simp only [Prod.mk.injEq] at hsp; obtain ⟨q1, q2⟩ := q; simp at hsp; rw [hsp.1, hsp.2]
    simp only [splitF] at h1
    split at h1
    · cases h1
    · rename_i h2
      split at h1
      · simp at h1
      · split at h1
        · simp at h1
        · simp only [Option.map_some, Option.some.injEq, Prod.mk.injEq] at h1
          rw [← h1.2]; simp; omega
  have HS := Lib.hid hS
  have HR := Lib.hid hr
  have HT := Lib.hid hT
  have HSP := Lib.hid hsp
  have HC := Lib.hid hcut
  have HD := Lib.hid hd
  have HZ := Lib.hid hZ
  have HB0 := Lib.hid (show Below w.heap.size w (w.alloc (.cells zeroRR rrT)) from (Below.refl _ _).alloc (Nat.le_refl _) _)
  have HW0 := Lib.hid (Whole.new w rrT zeroRR)
  have gx : (x : Int) ≤ (S.size : Int) := by omega
  have gx2 : x ≤ S.size := by omega
  have gx0 : (0 : Int) ≤ (x : Int) := by omega
  have rx : IntKind.i64.wrap (x : Int) = (x : Int) := by rw [IntKind.wrap_i64]; omega
  have HRZ := Lib.hid hR2z
  have HSS := Lib.hid hsz
  clear hS hr hT hsp hcut hd hR2 hZ hR2z hsz
  unfold zeroRR at *
  go_enter Tryz.func103, Tryz.ntmps103
  go_wp2_with fail
  refine (Read_in S M p _ HS.out (by omega) hp).mono ?_
  rw [HR.out]
  unfold readV
  rintro e w1 ⟨rfl, hB⟩
  have HW1 := Lib.hid (HW0.out.below hB HW0.out.lt)
  have HB1 := Lib.hid (HB0.out.trans (hB.mono HB0.out.size))
  clear hB
  go_wp2_with fail
  have hT' := HT.out
  have k0 := (HW1.out.cell 0).trans (show _ = some (Value.string ⟨#[]⟩) from rfl)
  go_region_held3 (fun w' => w'.cell? ⟨w.heap.size, 0, none⟩ = some (.string ⟨#[]⟩)) (go_keep) (first
    | (go_at_call 147; (refine (headWidths_any _).mono ?_; rintro e w2 ⟨g2, rfl, hs2, hB2⟩; have hB2 := (Below.refl _ _).drew.trans hB2; have k0' := (hB2.cell (p := ⟨w.heap.size, 0, none⟩) HW1.out.lt).trans k0))
    | (go_at_call 44; (refine (Split_any T _ 3 3 _ [2, 2, 4] _ hs2 (by decide) (Nat.le_refl _) hTz).mono ?_; unfold SplitLeaves; rw [HSP.out]; rintro e w3 ⟨A3, c3, rfl, hs3, hB3⟩; have k0'' := (hB3.cell (p := ⟨w.heap.size, 0, none⟩) (Nat.lt_of_lt_of_le HW1.out.lt hB2.size)).trans k0')))
  all_goals (
    have hB23 : Below w1.heap.size w1 w3 := hB2.trans (hB3.mono hB2.size)
    have HW3 := Lib.hid (HW1.out.below hB23 HW1.out.lt)
    have HB3 := Lib.hid (HB1.out.trans (hB23.mono HB1.out.size))
    obtain ⟨b4, off4, rfl, hb4, hc4⟩ := hs3.addr (by simp)
    have v0 : w3.cell? ⟨b4, off4, none⟩ = some (.int .u64 (t : Nat)) := hc4 0 _ rfl
    have v1 : w3.cell? ⟨b4, off4 + 1, none⟩ = some (.int .u64 (c : Nat)) := hc4 1 _ rfl
    have v2 : w3.cell? ⟨b4, off4 + 2, none⟩ = some (.int .u64 (l : Nat)) := hc4 2 _ rfl
    clear hB2 hB3 hB23 hs2 hs3 hc4 hT' rx gx gx2 gx0
    go_wp2_with fail
    refine (Cut_any R 2 _ hRz).mono ?_
    rw [HC.out]
    rintro e w4 ⟨rfl, hB4⟩
    have u0 := (hB4.cell (p := ⟨b4, off4, none⟩) hb4).trans v0
    have u1 := (hB4.cell (p := ⟨b4, off4 + 1, none⟩) hb4).trans v1
    have u2 := (hB4.cell (p := ⟨b4, off4 + 2, none⟩) hb4).trans v2
    have HW4 := Lib.hid (HW3.out.below hB4 HW3.out.lt)
    have HB4 := Lib.hid (HB3.out.trans (hB4.mono HB3.out.size))
    clear hB4 v0 v1 v2
    have wt : IntKind.i64.wrap (t : Int) = (t : Int) := by rw [IntKind.wrap_i64]; omega
    have wc : IntKind.i64.wrap (c : Int) = (c : Int) := by rw [IntKind.wrap_i64]; omega
    go_wp2_with fail
    go_region_held3 (fun w' => w'.cell? ⟨b4, off4, none⟩ = some (.int .u64 (t : Nat)) ∧ w'.cell? ⟨b4, off4 + 1, none⟩ = some (.int .u64 (c : Nat)) ∧ w'.cell? ⟨b4, off4 + 2, none⟩ = some (.int .u64 (l : Nat))) (go_keep) (first
      | (go_at_call 148; (refine (ttlOf_any l _ hl).mono ?_; rintro e w' ⟨rfl, rfl⟩)))
    all_goals (
      clear u0 u1 u2 wt wc
      obtain ⟨E, hE⟩ : ∃ E, E = x + 10 + k := ⟨_, rfl⟩
      obtain ⟨F, hF⟩ : ∃ F, F = x + 10 := ⟨_, rfl⟩
      have hFk : F + k ≤ M.length := by omega
      have hRZ := HRZ.out
      have r1 : (S.size : Int) - (R2.size : Int) = (E : Int) := by omega
      have r2 : IntKind.i64.wrap ((S.size : Int) - (R2.size : Int)) = (E : Int) := by rw [IntKind.wrap_i64]; omega
      have r3 : (E : Int) - (k : Int) = (F : Int) := by omega
      have r4 : IntKind.i64.wrap ((E : Int) - (k : Int)) = (F : Int) := by rw [IntKind.wrap_i64]; omega
      have r5 : IntKind.i64.wrap (E : Int) = (E : Int) := by rw [IntKind.wrap_i64]; omega
      have r6 : IntKind.i64.wrap (k : Int) = (k : Int) := by rw [IntKind.wrap_i64]; omega
      have R7 := Lib.hid (show wrap64 (F : Int) = (F : Int) by unfold wrap64; omega)
      have hZ := HZ.out
      have hgg : w.heap.size < w4.heap.size := HW4.out.lt
      have HE := Lib.hid hE
      have HF := Lib.hid hF
      have HW5 := Lib.hid (Whole.new w4 rrT #[.string (mk n), .int .i64 (t : Nat), .int .i64 (c : Nat), .int .i64 (ageR l : Nat), .string ⟨#[]⟩])
      have HX5 := Lib.hid (HW4.out.alloc (.cells #[.string (mk n), .int .i64 (t : Nat), .int .i64 (c : Nat), .int .i64 (ageR l : Nat), .string ⟨#[]⟩] rrT))
      have HB5 := Lib.hid (HB4.out.alloc HB4.out.size (.cells #[.string (mk n), .int .i64 (t : Nat), .int .i64 (c : Nat), .int .i64 (ageR l : Nat), .string ⟨#[]⟩] rrT))
      obtain ⟨d0, d1, d2, d3, d4⟩ := rr_facts HW5.out
      obtain ⟨g, hg⟩ : ∃ g, g = w4.heap.size := ⟨_, rfl⟩
      have HGG := Lib.hid hg
      clear hE hF hRZ hg
      go_wp2_with fail
      refine (typeOf_any (t : Int) (c : Int) k _).mono ?_
      rintro e w' ⟨rfl, rfl⟩
      go_wp2_with fail
      try rw [R7.out]
      refine (DRead_any S M F k (tyd t c k) _ HS.out (by omega) hFk hk).mono ?_
      rw [show dataR M F (F + k) (tyd t c k) = none by rw [HF.out]; exact HD.out]
      unfold rdV
      rintro e w5 ⟨rfl, hB⟩
      have HW6 := Lib.hid (HW5.out.drew.below hB HW5.out.drew.lt)
      have HX6 := Lib.hid (HX5.out.drew.below hB HX5.out.drew.lt)
      have HB6 := Lib.hid (HB5.out.drew.trans (hB.mono HB5.out.drew.size))
      clear hB d0 d1 d2 d3 d4 r1 r2 r3 r4 r5 r6 hZ
      obtain ⟨d0, d1, d2, d3, d4⟩ := rr_facts HW6.out
      obtain ⟨_, _, _, _, f4⟩ := rr_frozen HW6.out
      have HX7 := Lib.hid (HX6.out.far (p := ⟨w4.heap.size, 4, none⟩) (by simp only; omega) (.string (mk [])))
      have HB7 := Lib.hid (HB6.out.setCell (p := ⟨w4.heap.size, 4, none⟩) (by simp only; omega) (.string (mk [])))
      go_upto_region 13 with fail
      revert HX7 HB7
      generalize w5.setCell ⟨w4.heap.size, 4, none⟩ (.string (mk [])) = V
      intro HX7 HB7
      clear d0 d1 d2 d3 d4 f4
      obtain ⟨f0, f1, f2, f3, f4⟩ := rr_frozen HX7.out
      obtain ⟨e0, e1, e2, e3, e4⟩ := soa5 HX7.out
      go_wp2_with fail
      refine ret5 rfl rfl rfl rfl rfl (five_put HX7.out _ _ _ _ _) ⟨?_, five_below HB7.out (Nat.le_refl _) _ _ _ _ _⟩
      rfl))

theorem split_no {M : List UInt8} {x : Nat} (hx : x ≤ M.length) (h : M.length < x + 8) : splitR (mk (M.drop x)) [2, 2, 4] = ([], empty, 2) := by
  refine splitR_none (by decide) ?_
  have e2 : ((2 : Int)).toNat = 2 := rfl
  have e4 : ((4 : Int)).toNat = 4 := rfl
  have hs : (mk (M.drop x)).size = M.length - x := by rw [mk_size, List.length_drop]
  simp only [splitF, e2, e4]
  by_cases h1 : ((mk (M.drop x)).size : Int) < 2
  · rw [if_pos h1]
  · rw [if_neg h1]
    by_cases h2 : (((mk (M.drop x)).extract 2 (mk (M.drop x)).size).size : Int) < 2
    · rw [if_pos h2]; rfl
    · rw [if_neg h2, if_pos (by simp at h2 ⊢; omega)]; rfl
theorem cut_no {M : List UInt8} {y : Nat} (h : M.length < y + 2 ∨ M.length < y + 2 + num (seg M y (y + 2))) : cutR (mk (M.drop y)) 2 = (empty, empty, 2) := by
  have e2 : ((2 : Int)).toNat = 2 := rfl
  have hs : (mk (M.drop y)).size = M.length - y := by rw [mk_size, List.length_drop]
  have hn : numOf ((mk (M.drop y)).extract 0 2) = num (seg M y (y + 2)) := by rw [mk_extract, mk_num, List.drop_zero, seg_take]
  unfold cutR
  rw [if_pos (by decide), e2, hn, hs, if_pos (by omega)]
theorem RRead_any (S : ByteArray) (M : List UInt8) (p : Nat) (w : World) (hS : S = mk M) (hM : M.length ≤ 800000) (hp : p ≤ M.length) :
    Calls Tryz.prog 103 #[.string S, .int .i64 (p : Nat)] w fun e w' => e = .returned (recV (recR M p)) ∧ Below w.heap.size w w' := by
  cases h : recR M p with
  | some q =>
    obtain ⟨r, x⟩ := q
    exact RRead_of S M p x r w hS hM hp h
  | none =>
    unfold recR at h
    cases hr : readR M [] p p none with
    | none => exact RRead_no1 S M p w hS hM hp hr
    | some q =>
      obtain ⟨n, x⟩ := q
      rw [hr] at h
      simp only at h
      have hx : x ≤ M.length := by have := (read_name hr).2.2; omega
      have hsz : S.size = M.length := by rw [hS, mk_size]
      have ext : ∀ a, S.extract a S.size = mk (M.drop a) := fun a => by rw [hsz, hS, mk_extract, List.take_length]
      by_cases h1 : M.length < x + 8
      · exact RRead_no2 S M p w hS hM hp (mk (M.drop x)) n x hr hx (ext x) (split_no hx h1)
      · rw [if_neg h1] at h
        have hsp := head_split (M := M) (x := x) (by omega)
        have hRz : (mk (M.drop (x + 8))).size ≤ 1073741824 := by rw [mk_size, List.length_drop]; omega
        by_cases h2 : M.length < x + 10
        · exact RRead_no3 S M p w hS hM hp _ _ n x _ _ _ hr hx (ext x) hsp hRz (cut_no (by omega))
        · rw [if_neg h2] at h
          by_cases h3 : M.length < x + 10 + num (seg M (x + 8) (x + 10))
          · exact RRead_no3 S M p w hS hM hp _ _ n x _ _ _ hr hx (ext x) hsp hRz (cut_no (by rw [show x + 8 + 2 = x + 10 by omega]; omega))
          · rw [if_neg h3] at h
            obtain ⟨k, hk⟩ : ∃ k, k = num (seg M (x + 8) (x + 10)) := ⟨_, rfl⟩
            rw [← hk] at h h3
            cases hd : dataR M (x + 10) (x + 10 + k) (tyd (num (seg M x (x + 2))) (num (seg M (x + 2) (x + 4))) k) with
            | some d => rw [hd] at h; cases h
            | none =>
              have l1 := seg_num_lt M x 2 (by omega)
              have l2 := seg_num_lt M (x + 2) 2 (by omega)
              have l3 := seg_num_lt M (x + 4) 4 (by omega)
              have l4 := seg_num_lt M (x + 8) 2 (by omega)
              rw [show x + 2 + 2 = x + 4 by omega] at l2
              rw [show x + 4 + 4 = x + 8 by omega] at l3
              rw [show x + 8 + 2 = x + 10 by omega, ← hk] at l4
              have hcut := size_cut (M := M) (y := x + 8) (k := k) (by rw [hk]) (by omega)
              rw [show x + 8 + 2 = x + 10 by omega] at hcut
              exact RRead_no4 S (mk (M.drop x)) (mk (M.drop (x + 8))) (mk (seg M (x + 10) (x + 10 + k))) M n p x k _ _ _ w hS hM hp hr hx (ext x) hsp (by rw [ext]; exact hcut) (by rw [mk_size, seg_len (by omega)]; omega) (by omega) (by omega) (by omega) (by omega) (by omega) hd
end Go.Proofs.YtnbapaimpoobkaaGreatDoor
namespace Go.Proofs.YtnbapaimpoobkaaGreatDoor
open Go.RowKit

theorem two_new (w : World) (a b : Array Value) (ta tb : TypeId) :
    Whole ((w.alloc (.cells a ta)).alloc (.cells b tb)) w.heap.size ta a ∧ Whole ((w.alloc (.cells a ta)).alloc (.cells b tb)) (w.heap.size + 1) tb b ∧ Below w.heap.size w ((w.alloc (.cells a ta)).alloc (.cells b tb)) := by
  have h0 := Whole.new w ta a
  have h1 := Whole.new (w.alloc (.cells a ta)) tb b
  simp only [World.size_alloc] at h1
  exact ⟨h0.alloc _, h1, ((Below.refl _ _).alloc (Nat.le_refl _) _).alloc (by simp) _⟩
theorem said_beq (x y : List UInt8) : ((mk x).toList == (mk y).toList) = (x == y) := mk_beq x y

set_option maxHeartbeats 2000000 in
set_option maxRecDepth 20000 in
theorem One_any (N D N' D' : ByteArray) (a b : Rec) (w : World) (hN : N = mk a.n) (hD : D = mk a.d) (hN' : N' = mk b.n) (hD' : D' = mk b.d) (hn : a.n.length ≤ 1073741824) (hn' : b.n.length ≤ 1073741824) (hd : a.d.length ≤ 65535) (hd' : b.d.length ≤ 65535) :
    Calls Tryz.prog 68 #[.agg (rrA N D a.t a.c a.l), .agg (rrA N' D' b.t b.c b.l)] w fun e w' => e = .returned (.bool (oneR a b)) ∧ Below w.heap.size w w' := by
  obtain ⟨n, t, c, l, d⟩ := a
  obtain ⟨n', t', c', l', d'⟩ := b
  simp only at hN hD hn hd hN' hD' hn' hd' ⊢
  have hok : oneR ⟨n, t, c, l, d⟩ ⟨n', t', c', l', d'⟩ = (t == t' && (c == c' && (alikeN n n' && saidR t d == saidR t' d'))) := rfl
  have HN := Lib.hid hN
  have HD := Lib.hid hD
  have HN' := Lib.hid hN'
  have HD' := Lib.hid hD'
  obtain ⟨W, hW⟩ : ∃ W, W = (w.alloc (.cells #[.string N, .int .i64 t, .int .i64 c, .int .i64 l, .string D] 27)).alloc (.cells #[.string N', .int .i64 t', .int .i64 c', .int .i64 l', .string D'] 27) := ⟨_, rfl⟩
  obtain ⟨h, hh⟩ : ∃ h, h = w.heap.size + 1 := ⟨_, rfl⟩
  obtain ⟨g, hg⟩ : ∃ g, g = w.heap.size := ⟨_, rfl⟩
  obtain ⟨hW0, hW1, hB0⟩ := two_new w (rrA N D t c l) (rrA N' D' t' c' l') rrT rrT
  unfold rrA at hW0 hW1 hB0
  rw [← hW, ← hh] at hW1
  rw [← hW, ← hg] at hW0
  rw [← hW] at hB0
  have HB0 := Lib.hid hB0
  have HWW := Lib.hid hW
  have HG := Lib.hid hg
  have HH := Lib.hid hh
  obtain ⟨d0, d1, d2, d3, d4⟩ := rr_later hW0
  obtain ⟨e0, e1, e2, e3, e4⟩ := rr_later hW1
  obtain ⟨SA, hSA⟩ : ∃ SA, SA = mk (saidR t d) := ⟨_, rfl⟩
  obtain ⟨SB, hSB⟩ : ∃ SB, SB = mk (saidR t' d') := ⟨_, rfl⟩
  have hse : (SA.toList == SB.toList) = (saidR t d == saidR t' d') := by rw [hSA, hSB]; exact said_beq _ _
  have HLA := Lib.hid (show ∀ q : Later W, Calls Tryz.prog 123 #[.agg #[.string N, .int .i64 t, .int .i64 c, .int .i64 l, .string D]] q.val fun e w'' => e = .returned (.string SA) ∧ ∃ q' : Later W, w'' = q'.val from
    fun q => later_call (by rw [hSA]; exact Said_any N D t c l d _ hD hd))
  have HLB := Lib.hid (show ∀ q : Later W, Calls Tryz.prog 123 #[.agg #[.string N', .int .i64 t', .int .i64 c', .int .i64 l', .string D']] q.val fun e w'' => e = .returned (.string SB) ∧ ∃ q' : Later W, w'' = q'.val from
    fun q => later_call (by rw [hSB]; exact Said_any N' D' t' c' l' d' _ hD' hd'))
  clear hN hD hN' hD' hW0 hW1 hB0 hW hg hh hSA hSB
  unfold rrA
  cases h1 : (t == t') with
  | false =>
    have HO := Lib.hid (show oneR ⟨n, t, c, l, d⟩ ⟨n', t', c', l', d'⟩ = false by rw [hok, h1]; rfl)
    clear hok
    go_enter Tryz.func68, Tryz.ntmps68
    go_wp2_with fail
    rw [← HWW.out, ← HH.out, ← HG.out]
    refine region_later (by kernel_rfl) ?_
    repeat (go_big_quiet_step (fail))
    refine wpQuiet_nil ?_
    rintro _ ⟨q2, rfl⟩
    go_wp2_with fail
    go_ret
    exact ⟨by rw [HO.out]; rfl, HB0.out.trans (q2.below.mono HB0.out.size)⟩
  | true =>
    cases h2 : (c == c') with
    | false =>
      have HO := Lib.hid (show oneR ⟨n, t, c, l, d⟩ ⟨n', t', c', l', d'⟩ = false by rw [hok, h1, h2]; rfl)
      clear hok
      go_enter Tryz.func68, Tryz.ntmps68
      go_wp2_with fail
      rw [← HWW.out, ← HH.out, ← HG.out]
      refine region_later (by kernel_rfl) ?_
      repeat (go_big_quiet_step (fail))
      refine wpQuiet_nil ?_
      rintro _ ⟨q2, rfl⟩
      go_wp2_with fail
      go_ret
      exact ⟨by rw [HO.out]; rfl, HB0.out.trans (q2.below.mono HB0.out.size)⟩
    | true =>
      cases h3 : alikeN n n' with
      | false =>
        have HO := Lib.hid (show oneR ⟨n, t, c, l, d⟩ ⟨n', t', c', l', d'⟩ = false by rw [hok, h1, h2, h3]; rfl)
        have H3 := Lib.hid h3
        clear hok h3
        go_enter Tryz.func68, Tryz.ntmps68
        go_wp2_with fail
        rw [← HWW.out, ← HH.out, ← HG.out]
        refine region_later (by kernel_rfl) ?_
        repeat (go_big_quiet_step ((go_at_call 124; refine later_call (v := .bool false) ?_; rw [← H3.out]; exact Alike_any N N' n n' _ HN.out HN'.out hn hn')))
        refine wpQuiet_nil ?_
        rintro _ ⟨q2, rfl⟩
        go_wp2_with fail
        go_ret
        exact ⟨by rw [HO.out]; rfl, HB0.out.trans (q2.below.mono HB0.out.size)⟩
      | true =>
        have HO := Lib.hid (show oneR ⟨n, t, c, l, d⟩ ⟨n', t', c', l', d'⟩ = (saidR t d == saidR t' d') by rw [hok, h1, h2, h3]; rfl)
        have H3 := Lib.hid h3
        clear hok h3
        go_enter Tryz.func68, Tryz.ntmps68
        go_wp2_with fail
        rw [← HWW.out, ← HH.out, ← HG.out]
        refine region_later (by kernel_rfl) ?_
        repeat (go_big_quiet_step ((first
          | (go_at_call 124; refine later_call (v := .bool true) ?_; rw [← H3.out]; exact Alike_any N N' n n' _ HN.out HN'.out hn hn')
          | (go_at_call 123; with_reducible exact HLA.out _)
          | (go_at_call 123; with_reducible exact HLB.out _))))
        refine wpQuiet_nil ?_
        rintro _ ⟨q2, rfl⟩
        go_wp2_with fail
        go_ret
        exact ⟨by rw [HO.out]; rfl, HB0.out.trans (q2.below.mono HB0.out.size)⟩
end Go.Proofs.YtnbapaimpoobkaaGreatDoor
namespace Go.Proofs.YtnbapaimpoobkaaGreatDoor
open Go.RowKit

theorem sees3 (w : World) (ty : TypeId) (x y z : Int) : Sees (w.alloc (.cells #[.int .i64 x, .int .i64 y, .int .i64 z] ty)) (w.heap.size + 1) (some ⟨w.heap.size, 0, none⟩) 3 (ints .i64 [x, y, z]) := sees_whole (Whole.new w ty #[.int .i64 x, .int .i64 y, .int .i64 z])

set_option maxHeartbeats 2000000 in
set_option maxRecDepth 20000 in
theorem RCompare_any (N D N' D' : ByteArray) (a b : Rec) (w : World) (hN : N = mk a.n) (hD : D = mk a.d) (hN' : N' = mk b.n) (hD' : D' = mk b.d) (hn : a.n.length ≤ 1073741824) (hn' : b.n.length ≤ 1073741824) (hd : a.d.length ≤ 65535) (hd' : b.d.length ≤ 65535) :
    Calls Tryz.prog 65 #[.agg (rrA N D a.t a.c a.l), .agg (rrA N' D' b.t b.c b.l)] w fun e w' => e = .returned (.int .i64 (cmpR a b)) ∧ Below w.heap.size w w' := by
  obtain ⟨n, t, c, l, d⟩ := a
  obtain ⟨n', t', c', l', d'⟩ := b
  simp only at hN hD hn hd hN' hD' hn' hd' ⊢
  have hok : cmpR ⟨n, t, c, l, d⟩ ⟨n', t', c', l', d'⟩ = orI (orI (cmpN n n') (orI (sgn t t') (sgn c c'))) (cmpB (saidR t d) (saidR t' d')) := rfl
  have HN := Lib.hid hN
  have HN' := Lib.hid hN'
  obtain ⟨W, hW⟩ : ∃ W, W = (w.alloc (.cells #[.string N, .int .i64 t, .int .i64 c, .int .i64 l, .string D] 27)).alloc (.cells #[.string N', .int .i64 t', .int .i64 c', .int .i64 l', .string D'] 27) := ⟨_, rfl⟩
  obtain ⟨h, hh⟩ : ∃ h, h = w.heap.size + 1 := ⟨_, rfl⟩
  obtain ⟨g, hg⟩ : ∃ g, g = w.heap.size := ⟨_, rfl⟩
  obtain ⟨hW0, hW1, hB0⟩ := two_new w (rrA N D t c l) (rrA N' D' t' c' l') rrT rrT
  unfold rrA at hW0 hW1 hB0
  rw [← hW, ← hh] at hW1
  rw [← hW, ← hg] at hW0
  rw [← hW] at hB0
  have HB0 := Lib.hid hB0
  have HWW := Lib.hid hW
  have HG := Lib.hid hg
  have HH := Lib.hid hh
  have HW0 := Lib.hid hW0
  have HW1 := Lib.hid hW1
  obtain ⟨c0, c1, c2, _, _⟩ := rr_facts hW0
  obtain ⟨e0, e1, e2, _, _⟩ := rr_facts hW1
  obtain ⟨SA, hSA⟩ : ∃ SA, SA = mk (saidR t d) := ⟨_, rfl⟩
  obtain ⟨SB, hSB⟩ : ∃ SB, SB = mk (saidR t' d') := ⟨_, rfl⟩
  have HLA := Lib.hid (show ∀ (V : World) (q : Later V), Calls Tryz.prog 123 #[.agg #[.string N, .int .i64 t, .int .i64 c, .int .i64 l, .string D]] q.val fun e w'' => e = .returned (.string SA) ∧ ∃ q' : Later V, w'' = q'.val from
    fun V q => later_call (by rw [hSA]; exact Said_any N D t c l d _ hD hd))
  have HLB := Lib.hid (show ∀ (V : World) (q : Later V), Calls Tryz.prog 123 #[.agg #[.string N', .int .i64 t', .int .i64 c', .int .i64 l', .string D']] q.val fun e w'' => e = .returned (.string SB) ∧ ∃ q' : Later V, w'' = q'.val from
    fun V q => later_call (by rw [hSB]; exact Said_any N' D' t' c' l' d' _ hD' hd'))
  have HLC := Lib.hid (show ∀ (V : World) (q : Later V), Calls Tryz.prog 122 #[.string SA, .string SB] q.val fun e w'' => e = .returned (.int .i64 (cmpB (saidR t d) (saidR t' d'))) ∧ ∃ q' : Later V, w'' = q'.val from
    fun V q => later_same (strCmp_any SA SB _ _ _ hSA hSB))
  obtain ⟨X1, hX1⟩ : ∃ X1, X1 = cmpN n n' := ⟨_, rfl⟩
  obtain ⟨X, hX⟩ : ∃ X, X = orI X1 (orI (sgn t t') (sgn c c')) := ⟨_, rfl⟩
  rw [← hX1, ← hX] at hok
  have HX := Lib.hid hX
  have HX1 := Lib.hid hX1
  clear hN hD hN' hD' hW0 hW1 hB0 hW hg hh hSA hSB hX hX1
  unfold rrA
  by_cases hx : X = 0
  · have HO := Lib.hid (show cmpR ⟨n, t, c, l, d⟩ ⟨n', t', c', l', d'⟩ = cmpB (saidR t d) (saidR t' d') by rw [hok, hx, orI_0])
    have gx : (X == 0) = true := by rw [hx]; rfl
    clear hok hx
    go_enter Tryz.func65, Tryz.ntmps65
    go_wp2_with fail
    rw [← HWW.out, ← HH.out, ← HG.out]
    go_region_held3 (fun w' => w'.cell? ⟨g, 0, none⟩ = some (.string N) ∧ w'.cell? ⟨g, 1, none⟩ = some (.int .i64 t) ∧ w'.cell? ⟨g, 2, none⟩ = some (.int .i64 c) ∧ w'.cell? ⟨h, 0, none⟩ = some (.string N') ∧ w'.cell? ⟨h, 1, none⟩ = some (.int .i64 t') ∧ w'.cell? ⟨h, 2, none⟩ = some (.int .i64 c')) (go_keep) (first
      | (go_at_call 120; (refine (Compare_any N N' n n' _ HN.out HN'.out hn hn').mono ?_; rw [← HX1.out]; rintro e w1 ⟨rfl, hB1⟩; have hB1 := (Below.refl _ _).drew.trans hB1; have hw0 := HW0.out.below hB1 HW0.out.lt; have hw1 := HW1.out.below hB1 HW1.out.lt; obtain ⟨k0, k1, k2, _, _⟩ := rr_facts hw0; obtain ⟨m0, m1, m2, _, _⟩ := rr_facts hw1))
      | (go_at_call 121; (refine (cmpInt_any _ _ _).mono ?_; rintro e w2 ⟨rfl, rfl⟩))
      | (go_at_call 119; (refine (Or3_any _ _ _ X1 (sgn t t') (sgn c c') _ (sees3 _ _ _ _ _)).mono ?_; rw [← HX.out]; rintro e w3 ⟨rfl, rfl⟩)))
    all_goals (
      have HW2 := Lib.hid (hw0.alloc (.cells #[.int .i64 X1, .int .i64 (sgn t t'), .int .i64 (sgn c c')] 3))
      have HW3 := Lib.hid (hw1.alloc (.cells #[.int .i64 X1, .int .i64 (sgn t t'), .int .i64 (sgn c c')] 3))
      have HB2 := Lib.hid (show Below W.heap.size W (w1.alloc (.cells #[.int .i64 X1, .int .i64 (sgn t t'), .int .i64 (sgn c c')] 3)) from hB1.alloc hB1.size _)
      clear hw0 hw1 hB1 k0 k1 k2 m0 m1 m2 c0 c1 c2 e0 e1 e2
      go_wp2_with fail
      revert HW2 HW3 HB2
      generalize w1.alloc (.cells #[.int .i64 X1, .int .i64 (sgn t t'), .int .i64 (sgn c c')] 3) = V
      intro HW2 HW3 HB2
      obtain ⟨d0, d1, d2, d3, d4⟩ := rr_later HW2.out
      obtain ⟨e0, e1, e2, e3, e4⟩ := rr_later HW3.out
      refine region_later (by kernel_rfl) ?_
      repeat (go_big_quiet_step ((first
        | (go_at_call 123; with_reducible exact HLA.out _ _)
        | (go_at_call 123; with_reducible exact HLB.out _ _)
        | (go_at_call 122; with_reducible exact HLC.out _ _))))
      refine wpQuiet_nil ?_
      rintro _ ⟨q2, rfl⟩
      go_wp2_with fail
      go_ret
      exact ⟨by rw [HO.out]; rfl, HB0.out.trans ((HB2.out.trans (q2.below.mono HB2.out.size)).mono HB0.out.size)⟩)
  · have HO := Lib.hid (show cmpR ⟨n, t, c, l, d⟩ ⟨n', t', c', l', d'⟩ = X by rw [hok]; unfold orI; rw [if_neg hx])
    have gx : (X == 0) = false := by rw [beq_eq_false_iff_ne]; exact hx
    clear hok hx
    go_enter Tryz.func65, Tryz.ntmps65
    go_wp2_with fail
    rw [← HWW.out, ← HH.out, ← HG.out]
    go_region_held3 (fun w' => w'.cell? ⟨g, 0, none⟩ = some (.string N) ∧ w'.cell? ⟨g, 1, none⟩ = some (.int .i64 t) ∧ w'.cell? ⟨g, 2, none⟩ = some (.int .i64 c) ∧ w'.cell? ⟨h, 0, none⟩ = some (.string N') ∧ w'.cell? ⟨h, 1, none⟩ = some (.int .i64 t') ∧ w'.cell? ⟨h, 2, none⟩ = some (.int .i64 c')) (go_keep) (first
      | (go_at_call 120; (refine (Compare_any N N' n n' _ HN.out HN'.out hn hn').mono ?_; rw [← HX1.out]; rintro e w1 ⟨rfl, hB1⟩; have hB1 := (Below.refl _ _).drew.trans hB1; have hw0 := HW0.out.below hB1 HW0.out.lt; have hw1 := HW1.out.below hB1 HW1.out.lt; obtain ⟨k0, k1, k2, _, _⟩ := rr_facts hw0; obtain ⟨m0, m1, m2, _, _⟩ := rr_facts hw1))
      | (go_at_call 121; (refine (cmpInt_any _ _ _).mono ?_; rintro e w2 ⟨rfl, rfl⟩))
      | (go_at_call 119; (refine (Or3_any _ _ _ X1 (sgn t t') (sgn c c') _ (sees3 _ _ _ _ _)).mono ?_; rw [← HX.out]; rintro e w3 ⟨rfl, rfl⟩)))
    all_goals (
      go_wp2_with fail
      go_ret
      exact ⟨by rw [HO.out]; rfl, HB0.out.trans ((hB1.alloc hB1.size _).mono HB0.out.size)⟩)
end Go.Proofs.YtnbapaimpoobkaaGreatDoor
