/- Parts of the proofs of the statements of image. No statement of the seat is proved here. -/
import Derived.Test.YtmpginmdaeclaaaGreatDoorReP
import Derived.Test.YtmpginmdaeclaaaGreatDoorPaC
import Derived.Test.YtmpginmdaeclaaaGreatDoorOcD
import Derived.Deep.RegionHeld3
import Derived.Deep.DeepCutAuto
set_option maxHeartbeats 32000000
set_option maxRecDepth 20000
namespace Go.Proofs.YtmpginmdaeclaaaGreatDoor
open Go.RowKit
def recV : Option (Rec × Nat) -> Value
  | some (r, x) => .tuple #[.agg #[.string (mk r.n), .int .i64 r.t, .int .i64 r.c, .int .i64 r.l, .string (mk r.d)], .int .i64 (x : Int), .int .i64 0]
  | none => .tuple #[.agg #[.string ⟨#[]⟩, .int .i64 0, .int .i64 0, .int .i64 0, .string ⟨#[]⟩], .int .i64 0, .int .i64 2]
theorem RRead_no1 (S : ByteArray) (M : List UInt8) (p : Nat) (w : World) (hS : S = mk M) (hM : M.length <= 800000) (hp : p <= M.length) (hr : readR M [] p p none = none) :
    Calls Tryz.prog 166 #[.string S, .int .i64 (p : Nat)] w fun e w' => e = .returned (recV none) /\ Below w.heap.size w w' := by
  have HS := Ha hS
  have HR := Ha hr
  clear hr
  have HB0 := Ha (show Below w.heap.size w (w.alloc (.cells zeroRR rrT)) from (Below.refl _ _).alloc (Nat.le_refl _) _)
  have HW0 := Ha (Whole.new w rrT zeroRR)
  clear hS
  unfold zeroRR at *
  go_enter Tryz.func166, Tryz.ntmps166
  go_wp2_with fail
  refine (Read_in S M p _ HS.out (by omega) hp).mono ?_
  rw [HR.out]
  unfold readV
  rintro e w1 ⟨rfl, hB⟩
  have HW1 := Ha (HW0.out.below hB HW0.out.lt)
  have HB1 := thB HB0 hB
  clear hB
  obtain ⟨f0, f1, f2, f3, f4⟩ := rr_frozen HW1.out
  obtain ⟨e0, e1, e2, e3, e4⟩ := soa5 HW1.out
  go_wp2_with fail
  refine ret5 rfl rfl rfl rfl rfl (five_put HW1.out _ _ _ _ _) ⟨?_, five_below HB1.out (Nat.le_refl _) _ _ _ _ _⟩
  rfl
theorem RRead_no2 (S : ByteArray) (M : List UInt8) (p : Nat) (w : World) (hS : S = mk M) (hM : M.length <= 800000) (hp : p <= M.length) (T : ByteArray) (n : List UInt8) (x : Nat) (hr : readR M [] p p none = some (n, x)) (hx : x <= M.length) (hT : S.extract x S.size = T) (hsp : splitR T [2, 2, 4] = ([], empty, 2)) :
    Calls Tryz.prog 166 #[.string S, .int .i64 (p : Nat)] w fun e w' => e = .returned (recV none) /\ Below w.heap.size w w' := by
  have hsz : S.size = M.length := by rw [hS, mk_size]
  have hTz : T.size <= 1073741824 := by rw [<-hT]; simp; omega
  have gx : (x : Int) <= (S.size : Int) := by omega
  have gx2 : x <= S.size := by omega
  have gx0 : (0 : Int) <= (x : Int) := by omega
  have rx : IntKind.i64.wrap (x : Int) = (x : Int) := by rw [IntKind.wrap_i64]; omega
  clear hsz
  have HS := Ha hS
  have HR := Ha hr
  have HT := Ha hT
  have HSP := Ha hsp
  clear hr hT hsp
  have HB0 := Ha (show Below w.heap.size w (w.alloc (.cells zeroRR rrT)) from (Below.refl _ _).alloc (Nat.le_refl _) _)
  have HW0 := Ha (Whole.new w rrT zeroRR)
  clear hS
  unfold zeroRR at *
  go_enter Tryz.func166, Tryz.ntmps166
  go_wp2_with fail
  refine (Read_in S M p _ HS.out (by omega) hp).mono ?_
  rw [HR.out]
  unfold readV
  rintro e w1 ⟨rfl, hB⟩
  have HW1 := Ha (HW0.out.below hB HW0.out.lt)
  have HB1 := thB HB0 hB
  clear hB
  go_wp2_with fail
  have hT' := HT.out
  have k0 := (HW1.out.cell 0).trans (show _ = some (Value.string ⟨#[]⟩) from rfl)
  go_region_held3 (fun w' => w'.cell? ⟨w.heap.size, 0, none⟩ = some (.string ⟨#[]⟩)) (go_keep) (first
    | (go_at_call 214; (refine (headWidths_any _).mono ?_; rintro e w2 ⟨g2, rfl, hs2, hB2⟩; have hB2 := (Below.refl _ _).drew.trans hB2; have k0' := (hB2.cell (p := ⟨w.heap.size, 0, none⟩) HW1.out.lt).trans k0))
    | (go_at_call 110; (refine (Split_any T _ 3 3 _ [2, 2, 4] _ hs2 (by decide) (Nat.le_refl _) hTz).mono ?_; unfold SplitLeaves; rw [HSP.out]; rintro e w3 ⟨A3, c3, rfl, hs3, hB3⟩; have k0'' := (hB3.cell (p := ⟨w.heap.size, 0, none⟩) (Nat.lt_of_lt_of_le HW1.out.lt hB2.size)).trans k0')))
  all_goals (
    have hB23 : Below w1.heap.size w1 w3 := hB2.trans (hB3.mono hB2.size)
    have HW3 := Ha (HW1.out.below hB23 HW1.out.lt)
    have HB3 := thB HB1 hB23
    clear hB2 hB3 hB23 hs2 hs3 hT' rx gx gx2 gx0; obtain ⟨f0, f1, f2, f3, f4⟩ := rr_frozen HW3.out
    obtain ⟨e0, e1, e2, e3, e4⟩ := soa5 HW3.out
    go_wp2_with fail
    refine ret5 rfl rfl rfl rfl rfl (five_put HW3.out _ _ _ _ _) ⟨?_, five_below HB3.out (Nat.le_refl _) _ _ _ _ _⟩
    rfl)
theorem RRead_no3 (S : ByteArray) (M : List UInt8) (p : Nat) (w : World) (hS : S = mk M) (hM : M.length <= 800000) (hp : p <= M.length) (T R : ByteArray) (n : List UInt8) (x : Nat) (t c l : Nat) (hr : readR M [] p p none = some (n, x)) (hx : x <= M.length) (hT : S.extract x S.size = T) (hsp : splitR T [2, 2, 4] = ([(t : Int), (c : Int), (l : Int)], R, 0)) (hRz : R.size <= 1073741824) (hcut : cutR R 2 = (empty, empty, 2)) :
    Calls Tryz.prog 166 #[.string S, .int .i64 (p : Nat)] w fun e w' => e = .returned (recV none) /\ Below w.heap.size w w' := by
  have hsz : S.size = M.length := by rw [hS, mk_size]
  have hTz : T.size <= 1073741824 := by rw [<-hT]; simp; omega
  have gx : (x : Int) <= (S.size : Int) := by omega
  have gx2 : x <= S.size := by omega
  have gx0 : (0 : Int) <= (x : Int) := by omega
  have rx : IntKind.i64.wrap (x : Int) = (x : Int) := by rw [IntKind.wrap_i64]; omega
  clear hsz
  have HS := Ha hS
  have HR := Ha hr
  have HT := Ha hT
  have HSP := Ha hsp
  have HC := Ha hcut
  clear hr hT hsp hcut
  have HB0 := Ha (show Below w.heap.size w (w.alloc (.cells zeroRR rrT)) from (Below.refl _ _).alloc (Nat.le_refl _) _)
  have HW0 := Ha (Whole.new w rrT zeroRR)
  clear hS
  unfold zeroRR at *
  go_enter Tryz.func166, Tryz.ntmps166
  go_wp2_with fail
  refine (Read_in S M p _ HS.out (by omega) hp).mono ?_
  rw [HR.out]
  unfold readV
  rintro e w1 ⟨rfl, hB⟩
  have HW1 := Ha (HW0.out.below hB HW0.out.lt)
  have HB1 := thB HB0 hB
  clear hB
  go_wp2_with fail
  have hT' := HT.out
  have k0 := (HW1.out.cell 0).trans (show _ = some (Value.string ⟨#[]⟩) from rfl)
  go_region_held3 (fun w' => w'.cell? ⟨w.heap.size, 0, none⟩ = some (.string ⟨#[]⟩)) (go_keep) (first
    | (go_at_call 214; (refine (headWidths_any _).mono ?_; rintro e w2 ⟨g2, rfl, hs2, hB2⟩; have hB2 := (Below.refl _ _).drew.trans hB2; have k0' := (hB2.cell (p := ⟨w.heap.size, 0, none⟩) HW1.out.lt).trans k0))
    | (go_at_call 110; (refine (Split_any T _ 3 3 _ [2, 2, 4] _ hs2 (by decide) (Nat.le_refl _) hTz).mono ?_; unfold SplitLeaves; rw [HSP.out]; rintro e w3 ⟨A3, c3, rfl, hs3, hB3⟩; have k0'' := (hB3.cell (p := ⟨w.heap.size, 0, none⟩) (Nat.lt_of_lt_of_le HW1.out.lt hB2.size)).trans k0')))
  all_goals (
    have hB23 : Below w1.heap.size w1 w3 := hB2.trans (hB3.mono hB2.size)
    have HW3 := Ha (HW1.out.below hB23 HW1.out.lt)
    have HB3 := thB HB1 hB23
    clear hB2 hB3 hB23 hs2 hs3 hT' rx gx gx2 gx0; go_wp2_with fail
    refine (Cut_any R 2 _ hRz).mono ?_
    rw [HC.out]
    rintro e w4 ⟨rfl, hB4⟩; have HW4 := Ha (HW3.out.below hB4 HW3.out.lt)
    have HB4 := thB HB3 hB4
    clear hB4; obtain ⟨f0, f1, f2, f3, f4⟩ := rr_frozen HW4.out
    obtain ⟨e0, e1, e2, e3, e4⟩ := soa5 HW4.out
    go_wp2_with fail
    refine ret5 rfl rfl rfl rfl rfl (five_put HW4.out _ _ _ _ _) ⟨?_, five_below HB4.out (Nat.le_refl _) _ _ _ _ _⟩
    rfl)
theorem RRead_no4 (S T R Z : ByteArray) (M n : List UInt8) (p x k t c l : Nat) (w : World) (hS : S = mk M) (hM : M.length <= 800000) (hp : p <= M.length) (hr : readR M [] p p none = some (n, x)) (hx : x <= M.length)
    (hT : S.extract x S.size = T) (hsp : splitR T [2, 2, 4] = ([(t : Int), (c : Int), (l : Int)], R, 0)) (hcut : cutR R 2 = (Z, (S.extract (x + 10 + k) S.size), 0)) (hZ : Z.size = k) (hend : x + 10 + k <= M.length)
    (ht : t <= 65535) (hc : c <= 65535) (hl : l <= 4294967295) (hk : k <= 65535) (hd : dataR M (x + 10) (x + 10 + k) (tyd t c k) = none) :
    Calls Tryz.prog 166 #[.string S, .int .i64 (p : Nat)] w fun e w' => e = .returned (recV none) /\ Below w.heap.size w w' := by
  have hsz : S.size = M.length := by rw [hS, mk_size]
  obtain ⟨R2, hR2⟩ : ∃ R2, R2 = S.extract (x + 10 + k) S.size := ⟨_, rfl⟩
  have hR2z : R2.size + (x + 10 + k) = S.size := by rw [hR2]; simp; omega
  rw [<-hR2] at hcut
  have hTz : T.size <= 1073741824 := by rw [<-hT]; simp; omega
  have hRz : R.size <= 1073741824 := by
    have h1 : splitF T [2, 2, 4] = some ([(t : Int), (c : Int), (l : Int)], R) := by
      unfold splitR at hsp
      rw [if_pos (by decide)] at hsp
      cases h : splitF T [2, 2, 4] with
      | none => rw [h] at hsp; simp at hsp
      | some q => rw [h] at hsp; simp only [Prod.mk.injEq] at hsp; obtain ⟨q1, q2⟩ := q; simp at hsp; rw [hsp.1, hsp.2]
    simp only [splitF] at h1
    split at h1
    · cases h1
    · rename_i h2
      split at h1
      · simp at h1
      · split at h1
        · simp at h1
        · simp only [Option.map_some, Option.some.injEq, Prod.mk.injEq] at h1
          rw [<-h1.2]; simp; omega
  have HS := Ha hS
  have HR := Ha hr
  have HT := Ha hT
  have HSP := Ha hsp
  have HC := Ha hcut
  have HD := Ha hd
  have HZ := Ha hZ
  have HB0 := Ha (show Below w.heap.size w (w.alloc (.cells zeroRR rrT)) from (Below.refl _ _).alloc (Nat.le_refl _) _)
  have HW0 := Ha (Whole.new w rrT zeroRR)
  have gx : (x : Int) <= (S.size : Int) := by omega
  have gx2 : x <= S.size := by omega
  have gx0 : (0 : Int) <= (x : Int) := by omega
  have rx : IntKind.i64.wrap (x : Int) = (x : Int) := by rw [IntKind.wrap_i64]; omega
  have HRZ := Ha hR2z
  have HSS := Ha hsz
  clear hS hr hT hsp hcut hd hR2 hZ hR2z hsz
  unfold zeroRR at *
  go_enter Tryz.func166, Tryz.ntmps166
  go_wp2_with fail
  refine (Read_in S M p _ HS.out (by omega) hp).mono ?_
  rw [HR.out]
  unfold readV
  rintro e w1 ⟨rfl, hB⟩
  have HW1 := Ha (HW0.out.below hB HW0.out.lt)
  have HB1 := thB HB0 hB
  clear hB
  go_wp2_with fail
  have hT' := HT.out
  have k0 := (HW1.out.cell 0).trans (show _ = some (Value.string ⟨#[]⟩) from rfl)
  go_region_held3 (fun w' => w'.cell? ⟨w.heap.size, 0, none⟩ = some (.string ⟨#[]⟩)) (go_keep) (first
    | (go_at_call 214; (refine (headWidths_any _).mono ?_; rintro e w2 ⟨g2, rfl, hs2, hB2⟩; have hB2 := (Below.refl _ _).drew.trans hB2; have k0' := (hB2.cell (p := ⟨w.heap.size, 0, none⟩) HW1.out.lt).trans k0))
    | (go_at_call 110; (refine (Split_any T _ 3 3 _ [2, 2, 4] _ hs2 (by decide) (Nat.le_refl _) hTz).mono ?_; unfold SplitLeaves; rw [HSP.out]; rintro e w3 ⟨A3, c3, rfl, hs3, hB3⟩; have k0'' := (hB3.cell (p := ⟨w.heap.size, 0, none⟩) (Nat.lt_of_lt_of_le HW1.out.lt hB2.size)).trans k0')))
  all_goals (
    have hB23 : Below w1.heap.size w1 w3 := hB2.trans (hB3.mono hB2.size)
    have HW3 := Ha (HW1.out.below hB23 HW1.out.lt)
    have HB3 := thB HB1 hB23
    obtain ⟨b4, off4, rfl, hb4, hc4⟩ := hs3.addr (by simp)
    have v0 : w3.cell? ⟨b4, off4, none⟩ = some (.int .u64 (t : Nat)) := hc4 0 _ rfl
    have v1 : w3.cell? ⟨b4, off4 + 1, none⟩ = some (.int .u64 (c : Nat)) := hc4 1 _ rfl
    have v2 : w3.cell? ⟨b4, off4 + 2, none⟩ = some (.int .u64 (l : Nat)) := hc4 2 _ rfl
    clear hB2 hB3 hB23 hs2 hs3 hc4 hT' rx gx gx2 gx0; go_wp2_with fail
    refine (Cut_any R 2 _ hRz).mono ?_
    rw [HC.out]
    rintro e w4 ⟨rfl, hB4⟩; have u0 := (hB4.cell (p := ⟨b4, off4, none⟩) hb4).trans v0
    have u1 := (hB4.cell (p := ⟨b4, off4 + 1, none⟩) hb4).trans v1
    have u2 := (hB4.cell (p := ⟨b4, off4 + 2, none⟩) hb4).trans v2
    have HW4 := Ha (HW3.out.below hB4 HW3.out.lt)
    have HB4 := thB HB3 hB4
    clear hB4 v0 v1 v2; have wt : IntKind.i64.wrap (t : Int) = (t : Int) := by rw [IntKind.wrap_i64]; omega
    have wc : IntKind.i64.wrap (c : Int) = (c : Int) := by rw [IntKind.wrap_i64]; omega
    go_wp2_with fail
    go_region_held3 (fun w' => w'.cell? ⟨b4, off4, none⟩ = some (.int .u64 (t : Nat)) /\ w'.cell? ⟨b4, off4 + 1, none⟩ = some (.int .u64 (c : Nat)) /\ w'.cell? ⟨b4, off4 + 2, none⟩ = some (.int .u64 (l : Nat))) (go_keep) (first
      | (go_at_call 215; (refine (ttlOf_any l _ hl).mono ?_; rintro e w' ⟨rfl, rfl⟩)))
    all_goals (
      clear u0 u1 u2 wt wc; obtain ⟨E, hE⟩ : ∃ E, E = x + 10 + k := ⟨_, rfl⟩
      obtain ⟨F, hF⟩ : ∃ F, F = x + 10 := ⟨_, rfl⟩
      have hFk : F + k <= M.length := by omega
      have hRZ := HRZ.out
      have r1 : (S.size : Int) - (R2.size : Int) = (E : Int) := by omega
      have r2 : IntKind.i64.wrap ((S.size : Int) - (R2.size : Int)) = (E : Int) := by rw [IntKind.wrap_i64]; omega
      have r3 : (E : Int) - (k : Int) = (F : Int) := by omega
      have r4 : IntKind.i64.wrap ((E : Int) - (k : Int)) = (F : Int) := by rw [IntKind.wrap_i64]; omega
      have r5 : IntKind.i64.wrap (E : Int) = (E : Int) := by rw [IntKind.wrap_i64]; omega
      have r6 : IntKind.i64.wrap (k : Int) = (k : Int) := by rw [IntKind.wrap_i64]; omega
      have R7 := Ha (show wrap64 (F : Int) = (F : Int) by unfold wrap64; omega)
      have hZ := HZ.out
      have hgg : w.heap.size < w4.heap.size := HW4.out.lt
      have HE := Ha hE
      have HF := Ha hF
      have HW5 := Ha (Whole.new w4 rrT #[.string (mk n), .int .i64 (t : Nat), .int .i64 (c : Nat), .int .i64 (ageR l : Nat), .string ⟨#[]⟩])
      have HX5 := Ha (HW4.out.alloc (.cells #[.string (mk n), .int .i64 (t : Nat), .int .i64 (c : Nat), .int .i64 (ageR l : Nat), .string ⟨#[]⟩] rrT))
      have HB5 := Ha (HB4.out.alloc HB4.out.size (.cells #[.string (mk n), .int .i64 (t : Nat), .int .i64 (c : Nat), .int .i64 (ageR l : Nat), .string ⟨#[]⟩] rrT))
      obtain ⟨d0, d1, d2, d3, d4⟩ := rr_facts HW5.out
      obtain ⟨g, hg⟩ : ∃ g, g = w4.heap.size := ⟨_, rfl⟩
      have HGG := Ha hg
      clear hE hF hRZ hg; go_wp2_with fail
      refine (typeOf_any (t : Int) (c : Int) k _).mono ?_
      rintro e w' ⟨rfl, rfl⟩; go_wp2_with fail
      try rw [R7.out]
      refine (DRead_any S M F k (tyd t c k) _ HS.out (by omega) hFk hk).mono ?_
      rw [show dataR M F (F + k) (tyd t c k) = none by rw [HF.out]; exact HD.out]
      unfold rdV; rintro e w5 ⟨rfl, hB⟩; have HW6 := Ha (HW5.out.drew.below hB HW5.out.drew.lt)
      have HX6 := Ha (HX5.out.drew.below hB HX5.out.drew.lt)
      have HB6 := Ha (HB5.out.drew.trans (hB.mono HB5.out.drew.size))
      clear hB d0 d1 d2 d3 d4 r1 r2 r3 r4 r5 r6 hZ; obtain ⟨d0, d1, d2, d3, d4⟩ := rr_facts HW6.out
      obtain ⟨_, _, _, _, f4⟩ := rr_frozen HW6.out
      have HX7 := Ha (HX6.out.far (p := ⟨w4.heap.size, 4, none⟩) (by simp only; omega) (.string (mk [])))
      have HB7 := Ha (HB6.out.setCell (p := ⟨w4.heap.size, 4, none⟩) (by simp only; omega) (.string (mk [])))
      go_upto_region 13 with fail
      revert HX7 HB7
      generalize w5.setCell ⟨w4.heap.size, 4, none⟩ (.string (mk [])) = V
      intro HX7 HB7
      clear d0 d1 d2 d3 d4 f4; obtain ⟨f0, f1, f2, f3, f4⟩ := rr_frozen HX7.out
      obtain ⟨e0, e1, e2, e3, e4⟩ := soa5 HX7.out
      go_wp2_with fail
      refine ret5 rfl rfl rfl rfl rfl (five_put HX7.out _ _ _ _ _) ⟨?_, five_below HB7.out (Nat.le_refl _) _ _ _ _ _⟩
      rfl))
theorem split_no {M : List UInt8} {x : Nat} (hx : x <= M.length) (h : M.length < x + 8) : splitR (mk (M.drop x)) [2, 2, 4] = ([], empty, 2) := by
  refine splitR_none (by decide) ?_
  have e2 : ((2 : Int)).toNat = 2 := rfl
  have e4 : ((4 : Int)).toNat = 4 := rfl
  have hs : (mk (M.drop x)).size = M.length - x := by rw [mk_size, List.length_drop]
  simp only [splitF, e2, e4]
  by_cases h1 : ((mk (M.drop x)).size : Int) < 2
  · rw [if_pos h1]
  · rw [if_neg h1]
    by_cases h2 : (((mk (M.drop x)).extract 2 (mk (M.drop x)).size).size : Int) < 2
    · rw [if_pos h2]; rfl
    · rw [if_neg h2, if_pos (by simp at h2 ⊢; omega)]; rfl
theorem cut_no {M : List UInt8} {y : Nat} (h : M.length < y + 2 \/ M.length < y + 2 + num (seg M y (y + 2))) : cutR (mk (M.drop y)) 2 = (empty, empty, 2) := by
  have e2 : ((2 : Int)).toNat = 2 := rfl
  have hs : (mk (M.drop y)).size = M.length - y := by rw [mk_size, List.length_drop]
  have hn : numOf ((mk (M.drop y)).extract 0 2) = num (seg M y (y + 2)) := by rw [mk_extract, mk_num, List.drop_zero, seg_take]
  unfold cutR
  rw [if_pos (by decide), e2, hn, hs, if_pos (by omega)]
theorem RRead_any (S : ByteArray) (M : List UInt8) (p : Nat) (w : World) (hS : S = mk M) (hM : M.length <= 800000) (hp : p <= M.length) :
    Calls Tryz.prog 166 #[.string S, .int .i64 (p : Nat)] w fun e w' => e = .returned (recV (recR M p)) /\ Below w.heap.size w w' := by
  cases h : recR M p with
  | some q =>
    obtain ⟨r, x⟩ := q
    exact RRead_of S M p x r w hS hM hp h
  | none =>
    unfold recR at h
    cases hr : readR M [] p p none with
    | none => exact RRead_no1 S M p w hS hM hp hr
    | some q =>
      obtain ⟨n, x⟩ := q
      rw [hr] at h
      simp only at h
      have hx : x <= M.length := by have := (read_name hr).2.2; omega
      have hsz : S.size = M.length := by rw [hS, mk_size]
      have ext : ∀ a, S.extract a S.size = mk (M.drop a) := fun a => by rw [hsz, hS, mk_extract, List.take_length]
      by_cases h1 : M.length < x + 8
      · exact RRead_no2 S M p w hS hM hp (mk (M.drop x)) n x hr hx (ext x) (split_no hx h1)
      · rw [if_neg h1] at h
        have hsp := head_split (M := M) (x := x) (by omega)
        have hRz : (mk (M.drop (x + 8))).size <= 1073741824 := by rw [mk_size, List.length_drop]; omega
        by_cases h2 : M.length < x + 10
        · exact RRead_no3 S M p w hS hM hp _ _ n x _ _ _ hr hx (ext x) hsp hRz (cut_no (by omega))
        · rw [if_neg h2] at h
          by_cases h3 : M.length < x + 10 + num (seg M (x + 8) (x + 10))
          · exact RRead_no3 S M p w hS hM hp _ _ n x _ _ _ hr hx (ext x) hsp hRz (cut_no (by rw [show x + 8 + 2 = x + 10 by omega]; omega))
          · rw [if_neg h3] at h
            obtain ⟨k, hk⟩ : ∃ k, k = num (seg M (x + 8) (x + 10)) := ⟨_, rfl⟩
            rw [<-hk] at h h3
            cases hd : dataR M (x + 10) (x + 10 + k) (tyd (num (seg M x (x + 2))) (num (seg M (x + 2) (x + 4))) k) with
            | some d => rw [hd] at h; cases h
            | none =>
              have l1 := seg_num_lt M x 2 (by omega)
              have l2 := seg_num_lt M (x + 2) 2 (by omega)
              have l3 := seg_num_lt M (x + 4) 4 (by omega)
              have l4 := seg_num_lt M (x + 8) 2 (by omega)
              rw [show x + 2 + 2 = x + 4 by omega] at l2
              rw [show x + 4 + 4 = x + 8 by omega] at l3
              rw [show x + 8 + 2 = x + 10 by omega, <-hk] at l4
              have hcut := size_cut (M := M) (y := x + 8) (k := k) (by rw [hk]) (by omega)
              rw [show x + 8 + 2 = x + 10 by omega] at hcut
              exact RRead_no4 S (mk (M.drop x)) (mk (M.drop (x + 8))) (mk (seg M (x + 10) (x + 10 + k))) M n p x k _ _ _ w hS hM hp hr hx (ext x) hsp (by rw [ext]; exact hcut) (by rw [mk_size, seg_len (by omega)]; omega) (by omega) (by omega) (by omega) (by omega) (by omega) hd
end Go.Proofs.YtmpginmdaeclaaaGreatDoor
