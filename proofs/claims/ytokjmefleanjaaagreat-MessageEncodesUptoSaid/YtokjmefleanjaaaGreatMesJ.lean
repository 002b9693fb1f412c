/- readQuestion of the program. No statement of the seat is proved here. -/
import Derived.Test.YtokjmefleanjaaaGreatMesA
import Derived.Test.YtokjmefleanjaaaGreatMesI
import Derived.StillTailTactics
namespace Go.Proofs.YtokjmefleanjaaaGreat
open Go.RowKit

theorem que_split {M : List UInt8} {x : Nat} (h : x + 4 ≤ M.length) : splitR (mk (M.drop x)) [2, 2] = ([(num (seg M x (x + 2)) : Int), (num (seg M (x + 2) (x + 4)) : Int)], mk (M.drop (x + 4)), 0) := by
  refine splitR_some (by decide) ?_
  have e1 := splitF_cons (m := M.drop x) (k := 2) (by rw [List.length_drop]; omega) [2]
  have e2 := splitF_cons (m := M.drop (x + 2)) (k := 2) (by rw [List.length_drop]; omega) []
  rw [seg_take, List.drop_drop] at e1 e2
  rw [show splitF (mk (M.drop x)) [2, 2] = splitF (mk (M.drop x)) (((2 : Nat) : Int) :: [2]) from rfl, e1,
    show splitF (mk (M.drop (x + 2))) [2] = splitF (mk (M.drop (x + 2))) (((2 : Nat) : Int) :: []) from rfl, e2, show x + 2 + 2 = x + 4 by omega]
  rfl
theorem que_none {M : List UInt8} {x : Nat} (h : M.length < x + 4) : splitR (mk (M.drop x)) [2, 2] = ([], empty, 2) := by
  refine splitR_none (by decide) ?_
  have hl : (M.drop x).length < 4 := by rw [List.length_drop]; omega
  rw [show splitF (mk (M.drop x)) [2, 2] = splitF (mk (M.drop x)) (((2 : Nat) : Int) :: [2]) from rfl]
  by_cases h1 : (M.drop x).length < 2
  · exact splitF_less h1 _
  · rw [splitF_cons (by omega), List.drop_drop, show splitF (mk (M.drop (x + 2))) [2] = splitF (mk (M.drop (x + 2))) (((2 : Nat) : Int) :: []) from rfl]
    rw [List.length_drop] at h1
    rw [splitF_less (by rw [List.length_drop]; omega)]
    rfl
theorem qu_size : (Tryz.prog.info? quT).map (·.size) = some 3 := by kernel_rfl
theorem retq {fn : Func} {R : Ending → World → Prop} {a : Act} {w : World} {p u z r : Nat} {a0 a1 a2 x y : Value} (hf : fn.results = #[.cell p quT, .tmp u, .tmp z]) (hd : a.defers = []) (hp : a.tmps.getD p undef = .pointer (some ⟨r, 0, none⟩)) (hx : a.tmps.getD u undef = x) (hy : a.tmps.getD z undef = y)
    (h : Whole w r quT #[a0, a1, a2]) (hR : R (.returned (.tuple #[.agg #[a0, a1, a2], x, y])) w) : bodyPost Tryz.prog fn R .ret a w := by
  refine bodyPost_ret ?_ hd hR
  have hp' : a.tmps[p]?.getD undef = .pointer (some ⟨r, 0, none⟩) := by simpa using hp
  have hx' : a.tmps[u]?.getD undef = x := by simpa using hx
  have hy' : a.tmps[z]?.getD undef = y := by simpa using hy
  simp [results, hf, hp', hx', hy', asAddr, run_loadVar_row w r quT _ _ (0, 0) _ h Tryz.underlying45 rfl qu_size, Result.andThen]
def noQue : Ending := .returned (.tuple #[.agg #[.string ⟨#[]⟩, .int .i64 0, .int .i64 0], .int .i64 0, .int .i64 2])
def zeroQ : Array Value := #[.string ⟨#[]⟩, .int .i64 0, .int .i64 0]
theorem qu_cells {w : World} {g t : Nat} {a0 a1 a2 : Value} (h : Whole w g t #[a0, a1, a2]) : w.cell? ⟨g, 0, none⟩ = some a0 ∧ w.cell? ⟨g, 1, none⟩ = some a1 ∧ w.cell? ⟨g, 2, none⟩ = some a2 ∧ w.frozen? ⟨g, 0, none⟩ = false ∧ w.frozen? ⟨g, 1, none⟩ = false ∧ w.frozen? ⟨g, 2, none⟩ = false :=
  ⟨(h.cell 0).trans rfl, (h.cell 1).trans rfl, (h.cell 2).trans rfl, h.frozen 0, h.frozen 1, h.frozen 2⟩
theorem putq {w : World} {g t : Nat} {x0 x1 x2 : Value} (h : Whole w g t #[x0, x1, x2]) (a0 a1 a2 : Value) : Whole (((w.setCell ⟨g, 0, none⟩ a0).setCell ⟨g, 1, none⟩ a1).setCell ⟨g, 2, none⟩ a2) g t #[a0, a1, a2] :=
  whole_new_row [a0, a1, a2] h rfl
theorem belowq {B : Nat} {a w : World} {g : Nat} (h : Below B a w) (hg : B ≤ g) (a0 a1 a2 : Value) : Below B a (((w.setCell ⟨g, 0, none⟩ a0).setCell ⟨g, 1, none⟩ a1).setCell ⟨g, 2, none⟩ a2) := putAll_below hg [a0, a1, a2] 0 h

set_option maxHeartbeats 4000000 in
set_option maxRecDepth 20000 in
theorem readQue_none (S : ByteArray) (M : List UInt8) (p : Nat) (w : World) (hS : S = mk M) (hM : M.length ≤ 800000) (hp : p ≤ M.length) (h : queR M p = none) :
    Calls Tryz.prog 36 #[.string S, .int .i64 (p : Nat)] w fun e w' => e = noQue ∧ Below w.heap.size w w' := by
  have hsz : S.size = M.length := by rw [hS, mk_size]
  have HS := Lib.hid hS
  have HB0 := Lib.hid (show Below w.heap.size w (w.alloc (.cells zeroQ quT)) from (Below.refl _ _).alloc (Nat.le_refl _) _)
  have HW0 := Lib.hid (Whole.new w quT zeroQ)
  unfold zeroQ at *
  unfold queR at h
  cases hr : readR M [] p p none with
  | none =>
    have HR := Lib.hid hr
    clear hS hr h hsz
    go_enter Tryz.func36, Tryz.ntmps36
    go_wp2_with fail
    refine (Read_in S M p _ HS.out (by omega) hp).mono ?_
    rw [HR.out]
    unfold readV
    rintro e w1 ⟨rfl, hB⟩
    have HW1 := Lib.hid (HW0.out.below hB HW0.out.lt)
    have HB1 := Lib.hid (HB0.out.trans (hB.mono HB0.out.size))
    clear hB
    obtain ⟨e0, e1, e2, f0, f1, f2⟩ := qu_cells HW1.out
    go_wp2_with fail
    exact retq rfl rfl rfl rfl rfl (putq HW1.out _ _ _) ⟨rfl, belowq HB1.out (Nat.le_refl _) _ _ _⟩
  | some q =>
    obtain ⟨n, x⟩ := q
    have hx := (read_name hr).2.2
    rw [hr] at h
    simp only at h hx
    have hno : M.length < x + 4 := by
      by_cases h1 : M.length < x + 4
      · exact h1
      · rw [if_neg h1] at h; cases h
    have hT : S.extract x S.size = mk (M.drop x) := by rw [hsz, hS, mk_extract, List.take_length]
    obtain ⟨T, hTT⟩ : ∃ T, T = mk (M.drop x) := ⟨_, rfl⟩
    rw [← hTT] at hT
    have hTz : T.size ≤ 1073741824 := by rw [hTT, mk_size, List.length_drop]; omega
    have HSP := Lib.hid (show splitR T [2, 2] = ([], empty, 2) by rw [hTT]; exact que_none hno)
    have HR := Lib.hid hr
    have HT := Lib.hid hT
    have gx : (x : Int) ≤ (S.size : Int) := by omega
    have gx2 : x ≤ S.size := by omega
    have gx0 : (0 : Int) ≤ (x : Int) := by omega
    have rx : IntKind.i64.wrap (x : Int) = (x : Int) := by rw [IntKind.wrap_i64]; omega
    clear hS hr hT hTT hsz h hno
    go_enter Tryz.func36, Tryz.ntmps36
    go_wp2_with fail
    refine (Read_in S M p _ HS.out (by omega) hp).mono ?_
    rw [HR.out]
    unfold readV
    rintro e w1 ⟨rfl, hB⟩
    have HW1 := Lib.hid (HW0.out.below hB HW0.out.lt)
    have HB1 := Lib.hid (HB0.out.trans (hB.mono HB0.out.size))
    clear hB
    go_wp2_with fail
    have hT' := HT.out
    have k0 := (HW1.out.cell 0).trans (show _ = some (Value.string ⟨#[]⟩) from rfl)
    go_region_held3 (fun w' => w'.cell? ⟨w.heap.size, 0, none⟩ = some (.string ⟨#[]⟩)) (go_keep) (first
      | (go_at_call 45; (refine (queWidths_any _).mono ?_; rintro e w2 ⟨g2, rfl, hs2, hB2⟩; have hB2 := (Below.refl _ _).drew.trans hB2; have k0' := (hB2.cell (p := ⟨w.heap.size, 0, none⟩) HW1.out.lt).trans k0))
      | (go_at_call 63; (refine (Split_any T _ 2 2 _ [2, 2] _ hs2 (by decide) (Nat.le_refl _) hTz).mono ?_; unfold SplitLeaves; rw [HSP.out]; rintro e w3 ⟨A3, c3, rfl, hs3, hB3⟩; have k0'' := (hB3.cell (p := ⟨w.heap.size, 0, none⟩) (Nat.lt_of_lt_of_le HW1.out.lt hB2.size)).trans k0')))
    all_goals (
      have hB23 : Below w1.heap.size w1 w3 := hB2.trans (hB3.mono hB2.size)
      have HW3 := Lib.hid (HW1.out.below hB23 HW1.out.lt)
      have HB3 := Lib.hid (HB1.out.trans (hB23.mono HB1.out.size))
      clear hB2 hB3 hB23 hs2 hs3 hT' rx gx gx2 gx0 k0
      obtain ⟨e0, e1, e2, f0, f1, f2⟩ := qu_cells HW3.out
      go_wp2_with fail
      exact retq rfl rfl rfl rfl rfl (putq HW3.out _ _ _) ⟨rfl, belowq HB3.out (Nat.le_refl _) _ _ _⟩)

theorem u64_apart {w : World} {g b off : Nat} {x y z : Int} {s : ByteArray} (h : Whole w g quT #[.string s, .int .i64 x, .int .i64 y]) (k : w.cell? ⟨b, off, none⟩ = some (.int .u64 z)) : b ≠ g := by
  rintro rfl
  rw [h.cell] at k
  match off, k with
  | 0, k => simp at k
  | 1, k => simp at k
  | 2, k => simp at k
  | n + 3, k => simp at k
set_option maxHeartbeats 4000000 in
set_option maxRecDepth 20000 in
theorem readQue_some (S : ByteArray) (M : List UInt8) (p E : Nat) (q : Que) (w : World) (hS : S = mk M) (hM : M.length ≤ 800000) (hp : p ≤ M.length) (h : queR M p = some (q, E)) :
    Calls Tryz.prog 36 #[.string S, .int .i64 (p : Nat)] w fun e w' => e = .returned (.tuple #[.agg #[.string (mk q.n), .int .i64 q.t, .int .i64 q.c], .int .i64 (E : Nat), .int .i64 0]) ∧ Below w.heap.size w w' := by
  have hsz : S.size = M.length := by rw [hS, mk_size]
  have HS := Lib.hid hS
  have HB0 := Lib.hid (show Below w.heap.size w (w.alloc (.cells zeroQ quT)) from (Below.refl _ _).alloc (Nat.le_refl _) _)
  have HW0 := Lib.hid (Whole.new w quT zeroQ)
  unfold zeroQ at *
  unfold queR at h
  cases hr : readR M [] p p none with
  | none => rw [hr] at h; cases h
  | some r =>
    obtain ⟨n, x⟩ := r
    have hx := (read_name hr).2.2
    rw [hr] at h
    simp only at h hx
    have hyes : x + 4 ≤ M.length := by
      by_cases h1 : M.length < x + 4
      · rw [if_pos h1] at h; cases h
      · omega
    rw [if_neg (by omega)] at h
    simp only [Option.some.injEq, Prod.mk.injEq] at h
    obtain ⟨rfl, rfl⟩ := h
    simp only
    have hT : S.extract x S.size = mk (M.drop x) := by rw [hsz, hS, mk_extract, List.take_length]
    obtain ⟨T, hTT⟩ : ∃ T, T = mk (M.drop x) := ⟨_, rfl⟩
    rw [← hTT] at hT
    obtain ⟨R, hRR⟩ : ∃ R, R = mk (M.drop (x + 4)) := ⟨_, rfl⟩
    have hRz : R.size + (x + 4) = S.size := by rw [hRR, mk_size, List.length_drop]; omega
    have hTz : T.size ≤ 1073741824 := by rw [hTT, mk_size, List.length_drop]; omega
    obtain ⟨t, ht⟩ : ∃ t, t = num (seg M x (x + 2)) := ⟨_, rfl⟩
    obtain ⟨c, hc⟩ : ∃ c, c = num (seg M (x + 2) (x + 4)) := ⟨_, rfl⟩
    have l1 := seg_num_lt M x 2 (by omega)
    have l2 := seg_num_lt M (x + 2) 2 (by omega)
    rw [show x + 2 + 2 = x + 4 by omega] at l2
    rw [← ht] at l1 ⊢
    rw [← hc] at l2 ⊢
    have HSP := Lib.hid (show splitR T [2, 2] = ([(t : Int), (c : Int)], R, 0) by rw [hTT, hRR, ht, hc]; exact que_split hyes)
    obtain ⟨E, hE⟩ : ∃ E, E = x + 4 := ⟨_, rfl⟩
    rw [← hE]
    have R1 := Lib.hid (show (S.size : Int) - (R.size : Int) = (E : Int) by omega)
    have R2 := Lib.hid (show IntKind.i64.wrap ((S.size : Int) - (R.size : Int)) = (E : Int) by rw [IntKind.wrap_i64]; omega)
    have R3 := Lib.hid (show IntKind.i64.wrap (E : Int) = (E : Int) by rw [IntKind.wrap_i64]; omega)
    have WT := Lib.hid (show IntKind.i64.wrap (t : Int) = (t : Int) by rw [IntKind.wrap_i64]; omega)
    have WC := Lib.hid (show IntKind.i64.wrap (c : Int) = (c : Int) by rw [IntKind.wrap_i64]; omega)
    have HR := Lib.hid hr
    have HT := Lib.hid hT
    have gx : (x : Int) ≤ (S.size : Int) := by omega
    have gx2 : x ≤ S.size := by omega
    have gx0 : (0 : Int) ≤ (x : Int) := by omega
    have rx : IntKind.i64.wrap (x : Int) = (x : Int) := by rw [IntKind.wrap_i64]; omega
    have hEI : (E : Int) ≤ 9223372036854775807 := by omega
    clear hS hr hT hTT hRR hyes ht hc l1 l2 hE hRz hsz
    go_enter Tryz.func36, Tryz.ntmps36
    go_wp2_with fail
    refine (Read_in S M p _ HS.out (by omega) hp).mono ?_
    rw [HR.out]
    unfold readV
    rintro e w1 ⟨rfl, hB⟩
    have HW1 := Lib.hid (HW0.out.below hB HW0.out.lt)
    have HB1 := Lib.hid (HB0.out.trans (hB.mono HB0.out.size))
    clear hB
    go_wp2_with fail
    have hT' := HT.out
    have k0 := (HW1.out.cell 0).trans (show _ = some (Value.string ⟨#[]⟩) from rfl)
    go_region_held3 (fun w' => w'.cell? ⟨w.heap.size, 0, none⟩ = some (.string ⟨#[]⟩)) (go_keep) (first
      | (go_at_call 45; (refine (queWidths_any _).mono ?_; rintro e w2 ⟨g2, rfl, hs2, hB2⟩; have hB2 := (Below.refl _ _).drew.trans hB2; have k0' := (hB2.cell (p := ⟨w.heap.size, 0, none⟩) HW1.out.lt).trans k0))
      | (go_at_call 63; (refine (Split_any T _ 2 2 _ [2, 2] _ hs2 (by decide) (Nat.le_refl _) hTz).mono ?_; unfold SplitLeaves; rw [HSP.out]; rintro e w3 ⟨A3, c3, rfl, hs3, hB3⟩; have k0'' := (hB3.cell (p := ⟨w.heap.size, 0, none⟩) (Nat.lt_of_lt_of_le HW1.out.lt hB2.size)).trans k0')))
    all_goals (
      have hB23 : Below w1.heap.size w1 w3 := hB2.trans (hB3.mono hB2.size)
      have HW3 := Lib.hid (HW1.out.below hB23 HW1.out.lt)
      have HB3 := Lib.hid (HB1.out.trans (hB23.mono HB1.out.size))
      obtain ⟨b4, off4, rfl, hb4, hc4⟩ := hs3.addr (by simp)
      have v0 : w3.cell? ⟨b4, off4, none⟩ = some (.int .u64 (t : Nat)) := hc4 0 _ rfl
      have v1 : w3.cell? ⟨b4, off4 + 1, none⟩ = some (.int .u64 (c : Nat)) := hc4 1 _ rfl
      clear hB2 hB3 hB23 hs2 hs3 hT' rx gx gx2 gx0 k0 hc4
      have r1 := R1.out
      have r2 := R2.out
      have r3 := R3.out
      have wt := WT.out
      have wc := WC.out
      go_wp2_with fail
      have HNE := u64_apart HW3.out v0
      have n1 : ¬ (b4 = w.heap.size) := HNE
      have n2 : ¬ (w.heap.size = b4) := fun e => HNE e.symm
      obtain ⟨e0, e1, e2, f0, f1, f2⟩ := qu_cells HW3.out
      go_region_held3 (fun w' => w'.cell? ⟨b4, off4, none⟩ = some (.int .u64 (t : Nat)) ∧ w'.cell? ⟨b4, off4 + 1, none⟩ = some (.int .u64 (c : Nat))) (go_keep) (fail)
      all_goals (
        go_wp2_with fail
        first
        | exact retq rfl rfl rfl rfl rfl (putq HW3.out _ _ _) ⟨rfl, belowq HB3.out (Nat.le_refl _) _ _ _⟩
        | exact retq rfl rfl rfl rfl rfl (putq HW3.out.drew _ _ _) ⟨rfl, belowq HB3.out.drew (Nat.le_refl _) _ _ _⟩))
end Go.Proofs.YtokjmefleanjaaaGreat
