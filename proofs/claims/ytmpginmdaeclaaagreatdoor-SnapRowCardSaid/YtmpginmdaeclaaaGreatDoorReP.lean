/- Parts of the proofs of the statements of image. No statement of the seat is proved here. -/
import Derived.Test.YtmpginmdaeclaaaGreatDoorReI
import Derived.Test.YtmpginmdaeclaaaGreatDoorPaC
import Derived.Test.YtmpginmdaeclaaaGreatDoorOcD
import Derived.Deep.RegionHeld3
import Derived.Deep.DeepCutAuto
set_option maxHeartbeats 32000000
set_option maxRecDepth 20000
namespace Go.Proofs.YtmpginmdaeclaaaGreatDoor
open Go.RowKit
theorem ttlOf_any (n : Nat) (w : World) (h : n <= 4294967295) : Calls Tryz.prog 215 #[.int .u64 (n : Nat)] w fun e w' => e = .returned (.int .i64 (ageR n : Nat)) /\ w = w' := by
  by_cases hn : n <= 2147483647
  · have HE := Ha (show ageR n = n by unfold ageR; rw [if_neg (by omega)])
    have g1 : decide ((2147483647 : Int) < (n : Int)) = false := by rw [decide_eq_false_iff_not]; omega
    have g2 : decide ((2147483647 : Nat) < n) = false := by rw [decide_eq_false_iff_not]; omega
    have g3 : IntKind.i64.wrap (n : Int) = (n : Int) := by rw [IntKind.wrap_i64]; omega
    go_enter Tryz.func215, Tryz.ntmps215
    go_wp2_with fail
    go_ret
    exact ⟨by rw [HE.out]; rfl, rfl⟩
  · have HE := Ha (show ageR n = 0 by unfold ageR; rw [if_pos (by omega)])
    have g1 : decide ((2147483647 : Int) < (n : Int)) = true := by rw [decide_eq_true_iff]; omega
    have g2 : decide ((2147483647 : Nat) < n) = true := by rw [decide_eq_true_iff]; omega
    clear hn; go_enter Tryz.func215, Tryz.ntmps215
    go_wp2_with fail
    go_ret
    exact ⟨by rw [HE.out]; rfl, rfl⟩
theorem rr_size : (Tryz.prog.info? rrT).map (·.size) = some 5 := by kernel_rfl
theorem ret5 {fn : Func} {R : Ending -> World -> Prop} {a : Act} {w : World} {p u z r : Nat} {a0 a1 a2 a3 a4 x y : Value} (hf : fn.results = #[.cell p rrT, .tmp u, .tmp z]) (hd : a.defers = []) (hp : a.tmps.getD p undef = .pointer (some ⟨r, 0, none⟩)) (hx : a.tmps.getD u undef = x) (hy : a.tmps.getD z undef = y)
    (h : Whole w r rrT #[a0, a1, a2, a3, a4]) (hR : R (.returned (.tuple #[.agg #[a0, a1, a2, a3, a4], x, y])) w) : bodyPost Tryz.prog fn R .ret a w := by
  refine bodyPost_ret ?_ hd hR
  have hp' : a.tmps[p]?.getD undef = .pointer (some ⟨r, 0, none⟩) := by simpa using hp
  have hx' : a.tmps[u]?.getD undef = x := by simpa using hx
  have hy' : a.tmps[z]?.getD undef = y := by simpa using hy
  simp [results, hf, hp', hx', hy', asAddr, run_loadVar_row w r rrT _ _ (0, 0) _ h Tryz.underlying46 rfl rr_size, Result.andThen]
theorem five_put {w : World} {r t : Nat} {x0 x1 x2 x3 x4 : Value} (h : Whole w r t #[x0, x1, x2, x3, x4]) (a0 a1 a2 a3 a4 : Value) :
    Whole (((((w.setCell ⟨r, 0, none⟩ a0).setCell ⟨r, 1, none⟩ a1).setCell ⟨r, 2, none⟩ a2).setCell ⟨r, 3, none⟩ a3).setCell ⟨r, 4, none⟩ a4) r t #[a0, a1, a2, a3, a4] := by
  have := ((((h.put 0 a0).put 1 a1).put 2 a2).put 3 a3).put 4 a4
  simpa using this
theorem five_below {B : Nat} {a w : World} {r : Nat} (h : Below B a w) (hr : B <= r) (a0 a1 a2 a3 a4 : Value) :
    Below B a (((((w.setCell ⟨r, 0, none⟩ a0).setCell ⟨r, 1, none⟩ a1).setCell ⟨r, 2, none⟩ a2).setCell ⟨r, 3, none⟩ a3).setCell ⟨r, 4, none⟩ a4) :=
  ((((h.setCell hr a0).setCell hr a1).setCell hr a2).setCell hr a3).setCell hr a4
theorem rr_frozen {w : World} {g t : Nat} {cs : Array Value} (h : Whole w g t cs) : w.frozen? ⟨g, 0, none⟩ = false /\ w.frozen? ⟨g, 1, none⟩ = false /\ w.frozen? ⟨g, 2, none⟩ = false /\ w.frozen? ⟨g, 3, none⟩ = false /\ w.frozen? ⟨g, 4, none⟩ = false :=
  ⟨h.frozen 0, h.frozen 1, h.frozen 2, h.frozen 3, h.frozen 4⟩
theorem soa5 {w : World} {r t : Nat} {a0 a1 a2 a3 a4 : Value} (h : Whole w r t #[a0, a1, a2, a3, a4]) :
    w.cell? ⟨r, 0, none⟩ = some a0 /\ w.cell? ⟨r, 1, none⟩ = some a1 /\ w.cell? ⟨r, 2, none⟩ = some a2 /\ w.cell? ⟨r, 3, none⟩ = some a3 /\ w.cell? ⟨r, 4, none⟩ = some a4 :=
  ⟨(h.cell 0).trans rfl, (h.cell 1).trans rfl, (h.cell 2).trans rfl, (h.cell 3).trans rfl, (h.cell 4).trans rfl⟩
def zeroRR : Array Value := #[.string ⟨#[]⟩, .int .i64 0, .int .i64 0, .int .i64 0, .string ⟨#[]⟩]
theorem RRead_back (S T R Z : ByteArray) (M n d : List UInt8) (p x k t c l : Nat) (w : World) (hS : S = mk M) (hM : M.length <= 800000) (hp : p <= M.length) (hr : readR M [] p p none = some (n, x)) (hx : x <= M.length)
    (hT : S.extract x S.size = T) (hsp : splitR T [2, 2, 4] = ([(t : Int), (c : Int), (l : Int)], R, 0)) (hcut : cutR R 2 = (Z, (S.extract (x + 10 + k) S.size), 0)) (hZ : Z.size = k) (hend : x + 10 + k <= M.length)
    (ht : t <= 65535) (hc : c <= 65535) (hl : l <= 4294967295) (hk : k <= 65535) (hd : dataR M (x + 10) (x + 10 + k) (tyd t c k) = some d) :
    Calls Tryz.prog 166 #[.string S, .int .i64 (p : Nat)] w fun e w' => e = .returned (.tuple #[.agg #[.string (mk n), .int .i64 (t : Nat), .int .i64 (c : Nat), .int .i64 (ageR l : Nat), .string (mk d)], .int .i64 ((x + 10 + k : Nat) : Int), .int .i64 0]) /\ Below w.heap.size w w' := by
  have hsz : S.size = M.length := by rw [hS, mk_size]
  obtain ⟨R2, hR2⟩ : ∃ R2, R2 = S.extract (x + 10 + k) S.size := ⟨_, rfl⟩
  have hR2z : R2.size + (x + 10 + k) = S.size := by rw [hR2]; simp; omega
  rw [<-hR2] at hcut
  have hTz : T.size <= 1073741824 := by rw [<-hT]; simp; omega
  have hRz : R.size <= 1073741824 := by
    have h1 : splitF T [2, 2, 4] = some ([(t : Int), (c : Int), (l : Int)], R) := by
      unfold splitR at hsp
      rw [if_pos (by decide)] at hsp
      cases h : splitF T [2, 2, 4] with
      | none => rw [h] at hsp; simp at hsp
      | some q => rw [h] at hsp; simp only [Prod.mk.injEq] at hsp; obtain ⟨q1, q2⟩ := q; simp at hsp; rw [hsp.1, hsp.2]
    simp only [splitF] at h1
    split at h1
    · cases h1
    · rename_i h2
      split at h1
      · simp at h1
      · split at h1
        · simp at h1
        · simp only [Option.map_some, Option.some.injEq, Prod.mk.injEq] at h1
          rw [<-h1.2]; simp; omega
  have HS := Ha hS
  have HR := Ha hr
  have HT := Ha hT
  have HSP := Ha hsp
  have HC := Ha hcut
  have HD := Ha hd
  have HZ := Ha hZ
  have HB0 := Ha (show Below w.heap.size w (w.alloc (.cells zeroRR rrT)) from (Below.refl _ _).alloc (Nat.le_refl _) _)
  have HW0 := Ha (Whole.new w rrT zeroRR)
  have gx : (x : Int) <= (S.size : Int) := by omega
  have gx2 : x <= S.size := by omega
  have gx0 : (0 : Int) <= (x : Int) := by omega
  have rx : IntKind.i64.wrap (x : Int) = (x : Int) := by rw [IntKind.wrap_i64]; omega
  have HRZ := Ha hR2z
  have HSS := Ha hsz
  clear hS hr hT hsp hcut hd hR2 hZ hR2z hsz
  unfold zeroRR at *
  go_enter Tryz.func166, Tryz.ntmps166
  go_wp2_with fail
  refine (Read_in S M p _ HS.out (by omega) hp).mono ?_
  rw [HR.out]
  unfold readV
  rintro e w1 ⟨rfl, hB⟩
  have HW1 := Ha (HW0.out.below hB HW0.out.lt)
  have HB1 := thB HB0 hB
  clear hB
  go_wp2_with fail
  have hT' := HT.out
  have k0 := (HW1.out.cell 0).trans (show _ = some (Value.string ⟨#[]⟩) from rfl)
  go_region_held3 (fun w' => w'.cell? ⟨w.heap.size, 0, none⟩ = some (.string ⟨#[]⟩)) (go_keep) (first
    | (go_at_call 214; (refine (headWidths_any _).mono ?_; rintro e w2 ⟨g2, rfl, hs2, hB2⟩; have hB2 := (Below.refl _ _).drew.trans hB2; have k0' := (hB2.cell (p := ⟨w.heap.size, 0, none⟩) HW1.out.lt).trans k0))
    | (go_at_call 110; (refine (Split_any T _ 3 3 _ [2, 2, 4] _ hs2 (by decide) (Nat.le_refl _) hTz).mono ?_; unfold SplitLeaves; rw [HSP.out]; rintro e w3 ⟨A3, c3, rfl, hs3, hB3⟩; have k0'' := (hB3.cell (p := ⟨w.heap.size, 0, none⟩) (Nat.lt_of_lt_of_le HW1.out.lt hB2.size)).trans k0')))
  all_goals (
    have hB23 : Below w1.heap.size w1 w3 := hB2.trans (hB3.mono hB2.size)
    have HW3 := Ha (HW1.out.below hB23 HW1.out.lt)
    have HB3 := thB HB1 hB23
    obtain ⟨b4, off4, rfl, hb4, hc4⟩ := hs3.addr (by simp)
    have v0 : w3.cell? ⟨b4, off4, none⟩ = some (.int .u64 (t : Nat)) := hc4 0 _ rfl
    have v1 : w3.cell? ⟨b4, off4 + 1, none⟩ = some (.int .u64 (c : Nat)) := hc4 1 _ rfl
    have v2 : w3.cell? ⟨b4, off4 + 2, none⟩ = some (.int .u64 (l : Nat)) := hc4 2 _ rfl
    clear hB2 hB3 hB23 hs2 hs3 hc4 hT' rx gx gx2 gx0; go_wp2_with fail
    refine (Cut_any R 2 _ hRz).mono ?_
    rw [HC.out]
    rintro e w4 ⟨rfl, hB4⟩; have u0 := (hB4.cell (p := ⟨b4, off4, none⟩) hb4).trans v0
    have u1 := (hB4.cell (p := ⟨b4, off4 + 1, none⟩) hb4).trans v1
    have u2 := (hB4.cell (p := ⟨b4, off4 + 2, none⟩) hb4).trans v2
    have HW4 := Ha (HW3.out.below hB4 HW3.out.lt)
    have HB4 := thB HB3 hB4
    clear hB4 v0 v1 v2; have wt : IntKind.i64.wrap (t : Int) = (t : Int) := by rw [IntKind.wrap_i64]; omega
    have wc : IntKind.i64.wrap (c : Int) = (c : Int) := by rw [IntKind.wrap_i64]; omega
    go_wp2_with fail
    go_region_held3 (fun w' => w'.cell? ⟨b4, off4, none⟩ = some (.int .u64 (t : Nat)) /\ w'.cell? ⟨b4, off4 + 1, none⟩ = some (.int .u64 (c : Nat)) /\ w'.cell? ⟨b4, off4 + 2, none⟩ = some (.int .u64 (l : Nat))) (go_keep) (first
      | (go_at_call 215; (refine (ttlOf_any l _ hl).mono ?_; rintro e w' ⟨rfl, rfl⟩)))
    all_goals (
      clear u0 u1 u2 wt wc; obtain ⟨E, hE⟩ : ∃ E, E = x + 10 + k := ⟨_, rfl⟩
      obtain ⟨F, hF⟩ : ∃ F, F = x + 10 := ⟨_, rfl⟩
      have hFk : F + k <= M.length := by omega
      have hRZ := HRZ.out
      have r1 : (S.size : Int) - (R2.size : Int) = (E : Int) := by omega
      have r2 : IntKind.i64.wrap ((S.size : Int) - (R2.size : Int)) = (E : Int) := by rw [IntKind.wrap_i64]; omega
      have r3 : (E : Int) - (k : Int) = (F : Int) := by omega
      have r4 : IntKind.i64.wrap ((E : Int) - (k : Int)) = (F : Int) := by rw [IntKind.wrap_i64]; omega
      have r5 : IntKind.i64.wrap (E : Int) = (E : Int) := by rw [IntKind.wrap_i64]; omega
      have r6 : IntKind.i64.wrap (k : Int) = (k : Int) := by rw [IntKind.wrap_i64]; omega
      have R7 := Ha (show wrap64 (F : Int) = (F : Int) by unfold wrap64; omega)
      have hZ := HZ.out
      have hgg : w.heap.size < w4.heap.size := HW4.out.lt
      have HE := Ha hE
      have HF := Ha hF
      have HW5 := Ha (Whole.new w4 rrT #[.string (mk n), .int .i64 (t : Nat), .int .i64 (c : Nat), .int .i64 (ageR l : Nat), .string ⟨#[]⟩])
      have HX5 := Ha (HW4.out.alloc (.cells #[.string (mk n), .int .i64 (t : Nat), .int .i64 (c : Nat), .int .i64 (ageR l : Nat), .string ⟨#[]⟩] rrT))
      have HB5 := Ha (HB4.out.alloc HB4.out.size (.cells #[.string (mk n), .int .i64 (t : Nat), .int .i64 (c : Nat), .int .i64 (ageR l : Nat), .string ⟨#[]⟩] rrT))
      obtain ⟨d0, d1, d2, d3, d4⟩ := rr_facts HW5.out
      obtain ⟨g, hg⟩ : ∃ g, g = w4.heap.size := ⟨_, rfl⟩
      have HGG := Ha hg
      clear hE hF hRZ hg; go_wp2_with fail
      refine (typeOf_any (t : Int) (c : Int) k _).mono ?_
      rintro e w' ⟨rfl, rfl⟩; go_wp2_with fail
      try rw [R7.out]
      refine (DRead_any S M F k (tyd t c k) _ HS.out (by omega) hFk hk).mono ?_
      rw [show dataR M F (F + k) (tyd t c k) = some d by rw [HF.out]; exact HD.out]
      unfold rdV; rintro e w5 ⟨rfl, hB⟩; have HW6 := Ha (HW5.out.drew.below hB HW5.out.drew.lt)
      have HX6 := Ha (HX5.out.drew.below hB HX5.out.drew.lt)
      have HB6 := Ha (HB5.out.drew.trans (hB.mono HB5.out.drew.size))
      clear hB d0 d1 d2 d3 d4 r1 r2 r3 r4 r5 r6 hZ; obtain ⟨d0, d1, d2, d3, d4⟩ := rr_facts HW6.out
      obtain ⟨_, _, _, _, f4⟩ := rr_frozen HW6.out
      have HW7 := Ha (show Whole (w5.setCell ⟨w4.heap.size, 4, none⟩ (.string (mk d))) w4.heap.size rrT #[.string (mk n), .int .i64 (t : Nat), .int .i64 (c : Nat), .int .i64 (ageR l : Nat), .string (mk d)] from by simpa using HW6.out.put 4 (.string (mk d)))
      have HX7 := Ha (HX6.out.far (p := ⟨w4.heap.size, 4, none⟩) (by simp only; omega) (.string (mk d)))
      have HB7 := Ha (HB6.out.setCell (p := ⟨w4.heap.size, 4, none⟩) (by simp only; omega) (.string (mk d)))
      go_upto_region 13 with fail
      revert HW7 HX7 HB7
      generalize w5.setCell ⟨w4.heap.size, 4, none⟩ (.string (mk d)) = V
      intro HW7 HX7 HB7
      clear d0 d1 d2 d3 d4 f4; obtain ⟨d0, d1, d2, d3, d4⟩ := rr_facts HW7.out
      obtain ⟨e0, e1, e2, e3, e4⟩ := soa5 HX7.out
      obtain ⟨f0, f1, f2, f3, f4⟩ := rr_frozen HX7.out
      have n1 : ¬ (w4.heap.size = w.heap.size) := by omega
      have n2 : ¬ (w.heap.size = w4.heap.size) := by omega
      have HE2 := Ha (show ((E : Nat) : Int) = ((x + 10 + k : Nat) : Int) by rw [HE.out])
      go_wp2_with fail
      refine ret5 rfl rfl rfl rfl rfl (five_put HX7.out _ _ _ _ _) ⟨?_, five_below HB7.out (Nat.le_refl _) _ _ _ _ _⟩
      rw [<-HE2.out]
      rfl))
end Go.Proofs.YtmpginmdaeclaaaGreatDoor
namespace Go.Proofs.YtmpginmdaeclaaaGreatDoor
open Go.RowKit
theorem splitF_cons {m : List UInt8} {k : Nat} (h : k <= m.length) (ws : List Int) : splitF (mk m) ((k : Int) :: ws) = (splitF (mk (m.drop k)) ws).map fun (p : List Int × ByteArray) => ((num (m.take k) : Int) :: p.1, p.2) := by
  have h1 : ¬ (((mk m).size : Int) < (k : Int)) := by rw [mk_size]; omega
  have e0 : ((k : Int)).toNat = k := by omega
  have e1 : (mk m).extract k (mk m).size = mk (m.drop k) := by rw [mk_extract, mk_size, List.take_length]
  have e2 : numOf ((mk m).extract 0 k) = num (m.take k) := by rw [mk_extract, mk_num, List.drop_zero]
  rw [splitF, if_neg h1, e0, e1, e2]
theorem seg_take (M : List UInt8) (a k : Nat) : (M.drop a).take k = seg M a (a + k) := by
  unfold seg; rw [List.drop_take]; congr 1; omega
theorem seg_num_lt (M : List UInt8) (a k : Nat) (h : a + k <= M.length) : num (seg M a (a + k)) < 256 ^ k := by
  have := num_lt (seg M a (a + k))
  rwa [seg_len h, show a + k - a = k by omega] at this
theorem head_split {M : List UInt8} {x : Nat} (h : x + 8 <= M.length) : splitR (mk (M.drop x)) [2, 2, 4] = ([(num (seg M x (x + 2)) : Int), (num (seg M (x + 2) (x + 4)) : Int), (num (seg M (x + 4) (x + 8)) : Int)], mk (M.drop (x + 8)), 0) := by
  refine splitR_some (by decide) ?_
  have e1 := splitF_cons (m := M.drop x) (k := 2) (by rw [List.length_drop]; omega) [2, 4]
  have e2 := splitF_cons (m := M.drop (x + 2)) (k := 2) (by rw [List.length_drop]; omega) [4]
  have e3 := splitF_cons (m := M.drop (x + 4)) (k := 4) (by rw [List.length_drop]; omega) []
  rw [seg_take, List.drop_drop] at e1 e2 e3
  rw [show splitF (mk (M.drop x)) [2, 2, 4] = splitF (mk (M.drop x)) (((2 : Nat) : Int) :: [2, 4]) from rfl, e1,
    show splitF (mk (M.drop (x + 2))) [2, 4] = splitF (mk (M.drop (x + 2))) (((2 : Nat) : Int) :: [4]) from rfl, e2, show x + 2 + 2 = x + 4 by omega,
    show splitF (mk (M.drop (x + 4))) [4] = splitF (mk (M.drop (x + 4))) (((4 : Nat) : Int) :: []) from rfl, e3, show x + 4 + 4 = x + 8 by omega]
  rfl
theorem size_cut {M : List UInt8} {y k : Nat} (hk : k = num (seg M y (y + 2))) (h : y + 2 + k <= M.length) : cutR (mk (M.drop y)) 2 = (mk (seg M (y + 2) (y + 2 + k)), mk (M.drop (y + 2 + k)), 0) := by
  have hn : numOf ((mk (M.drop y)).extract 0 2) = k := by rw [mk_extract, mk_num, List.drop_zero, seg_take, hk]
  have hs : (mk (M.drop y)).size = M.length - y := by rw [mk_size, List.length_drop]
  have e2 : ((2 : Int)).toNat = 2 := rfl
  unfold cutR
  rw [if_pos (by decide), e2, hn, hs, if_neg (by omega)]
  have ex : (mk (M.drop y)).extract 2 (M.length - y) = mk (M.drop (y + 2)) := by
    rw [mk_extract, List.take_of_length_le (by rw [List.length_drop]; omega), List.drop_drop]
  rw [ex, mk_extract, mk_extract, List.drop_zero, seg_take, List.take_of_length_le (by rw [List.length_drop]; omega), List.drop_drop]
theorem RRead_of (S : ByteArray) (M : List UInt8) (p E : Nat) (r : Rec) (w : World) (hS : S = mk M) (hM : M.length <= 800000) (hp : p <= M.length) (h : recR M p = some (r, E)) :
    Calls Tryz.prog 166 #[.string S, .int .i64 (p : Nat)] w fun e w' => e = .returned (.tuple #[.agg #[.string (mk r.n), .int .i64 r.t, .int .i64 r.c, .int .i64 r.l, .string (mk r.d)], .int .i64 (E : Int), .int .i64 0]) /\ Below w.heap.size w w' := by
  unfold recR at h
  cases hr : readR M [] p p none with
  | none => rw [hr] at h; cases h
  | some q =>
    obtain ⟨n, x⟩ := q
    rw [hr] at h
    simp only at h
    split at h
    · cases h
    · split at h
      · cases h
      · split at h
        · cases h
        · rename_i h1 h2 h3
          obtain ⟨k, hk⟩ : ∃ k, k = num (seg M (x + 8) (x + 10)) := ⟨_, rfl⟩
          rw [<-hk] at h h3
          cases hd : dataR M (x + 10) (x + 10 + k) (tyd (num (seg M x (x + 2))) (num (seg M (x + 2) (x + 4))) k) with
          | none => rw [hd] at h; cases h
          | some d =>
            rw [hd] at h
            simp only [Option.some.injEq, Prod.mk.injEq] at h
            obtain ⟨rfl, rfl⟩ := h
            have hx := (read_name hr).2.2
            have l1 := seg_num_lt M x 2 (by omega)
            have l2 := seg_num_lt M (x + 2) 2 (by omega)
            have l3 := seg_num_lt M (x + 4) 4 (by omega)
            have l4 := seg_num_lt M (x + 8) 2 (by omega)
            rw [show x + 2 + 2 = x + 4 by omega] at l2
            rw [show x + 4 + 4 = x + 8 by omega] at l3
            rw [show x + 8 + 2 = x + 10 by omega, <-hk] at l4
            have hcut := size_cut (M := M) (y := x + 8) (k := k) (by rw [hk]) (by omega)
            rw [show x + 8 + 2 = x + 10 by omega] at hcut
            have hsz : S.size = M.length := by rw [hS, mk_size]
            have ext : ∀ a, S.extract a S.size = mk (M.drop a) := fun a => by rw [hsz, hS, mk_extract, List.take_length]
            refine RRead_back S (mk (M.drop x)) (mk (M.drop (x + 8))) (mk (seg M (x + 10) (x + 10 + k))) M n d p x k _ _ _ w hS hM hp hr hx (ext x) (head_split (by omega)) (by rw [ext]; exact hcut) (by rw [mk_size, seg_len (by omega)]; omega) (by omega) (by omega) (by omega) (by omega) (by omega) hd
end Go.Proofs.YtmpginmdaeclaaaGreatDoor
