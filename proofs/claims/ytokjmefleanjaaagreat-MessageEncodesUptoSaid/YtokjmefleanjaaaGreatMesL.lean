/- readHead of the program. No statement of the seat is proved here. -/
import Derived.Test.YtokjmefleanjaaaGreatMesC
import Derived.Test.YtokjmefleanjaaaGreatMesK
import Derived.Test.YtokjmefleanjaaaGreatMesO
namespace Go.Proofs.YtokjmefleanjaaaGreat
open Go.RowKit

/-- the numbers of two bytes from a place on -/
def numsR (M : List UInt8) : Nat → Nat → List Int
  | _, 0 => []
  | x, k + 1 => (num (seg M x (x + 2)) : Int) :: numsR M (x + 2) k
theorem twos_some (M : List UInt8) : ∀ (k x : Nat), x + 2 * k ≤ M.length → splitF (mk (M.drop x)) (List.replicate k 2) = some (numsR M x k, mk (M.drop (x + 2 * k))) := by
  intro k
  induction k with
  | zero => intro x _; simp [splitF, numsR]
  | succ k ih =>
    intro x h
    rw [List.replicate_succ, show ((2 : Int) :: List.replicate k 2) = (((2 : Nat) : Int) :: List.replicate k 2) from rfl, splitF_cons (by rw [List.length_drop]; omega), List.drop_drop, ih (x + 2) (by omega), seg_take]
    simp only [Option.map_some, numsR]
    rw [show x + 2 + 2 * k = x + 2 * (k + 1) by omega]
theorem twos_none (M : List UInt8) : ∀ (k x : Nat), M.length < x + 2 * k → x ≤ M.length → splitF (mk (M.drop x)) (List.replicate k 2) = none := by
  intro k
  induction k with
  | zero => intro x h h2; omega
  | succ k ih =>
    intro x h h2
    rw [List.replicate_succ, show ((2 : Int) :: List.replicate k 2) = (((2 : Nat) : Int) :: List.replicate k 2) from rfl]
    by_cases h1 : (M.drop x).length < 2
    · exact splitF_less h1 _
    · rw [splitF_cons (by omega), List.drop_drop]
      rw [List.length_drop] at h1
      rw [ih (x + 2) (by omega) (by omega)]
      rfl
theorem head_yes {M : List UInt8} (h : 12 ≤ M.length) : splitR (mk M) [2, 2, 2, 2, 2, 2] = ([(num (seg M 0 2) : Int), (num (seg M 2 4) : Int), (num (seg M 4 6) : Int), (num (seg M 6 8) : Int), (num (seg M 8 10) : Int), (num (seg M 10 12) : Int)], mk (M.drop 12), 0) := by
  refine splitR_some (by decide) ?_
  have := twos_some M 6 0 (by omega)
  rwa [List.drop_zero] at this
theorem head_no {M : List UInt8} (h : M.length < 12) : splitR (mk M) [2, 2, 2, 2, 2, 2] = ([], empty, 2) := by
  refine splitR_none (by decide) ?_
  have := twos_none M 6 0 (by omega) (by omega)
  rwa [List.drop_zero] at this

theorem retm4 {fn : Func} {R : Ending → World → Prop} {a : Act} {w : World} {p u z t r : Nat} {cs : Array Value} {x y v : Value} (hf : fn.results = #[.cell p msT, .tmp u, .tmp z, .tmp t]) (hd : a.defers = []) (hp : a.tmps.getD p undef = .pointer (some ⟨r, 0, none⟩)) (hx : a.tmps.getD u undef = x) (hy : a.tmps.getD z undef = y) (hv : a.tmps.getD t undef = v)
    (h : Whole w r msT cs) (hc : (Tryz.prog.info? msT).map (·.size) = some cs.size) (hR : R (.returned (.tuple #[.agg cs, x, y, v])) w) : bodyPost Tryz.prog fn R .ret a w := by
  refine bodyPost_ret ?_ hd hR
  have hp' : a.tmps[p]?.getD undef = .pointer (some ⟨r, 0, none⟩) := by simpa using hp
  have hx' : a.tmps[u]?.getD undef = x := by simpa using hx
  have hy' : a.tmps[z]?.getD undef = y := by simpa using hy
  have hv' : a.tmps[t]?.getD undef = v := by simpa using hv
  simp [results, hf, hp', hx', hy', hv', asAddr, run_loadVar_row w r msT _ _ (0, 0) _ h Tryz.underlying26 rfl hc, Result.andThen]
theorem retm2 {fn : Func} {R : Ending → World → Prop} {a : Act} {w : World} {p u r : Nat} {cs : Array Value} {x : Value} (hf : fn.results = #[.cell p msT, .tmp u]) (hd : a.defers = []) (hp : a.tmps.getD p undef = .pointer (some ⟨r, 0, none⟩)) (hx : a.tmps.getD u undef = x)
    (h : Whole w r msT cs) (hc : (Tryz.prog.info? msT).map (·.size) = some cs.size) (hR : R (.returned (.tuple #[.agg cs, x])) w) : bodyPost Tryz.prog fn R .ret a w := by
  refine bodyPost_ret ?_ hd hR
  have hp' : a.tmps[p]?.getD undef = .pointer (some ⟨r, 0, none⟩) := by simpa using hp
  have hx' : a.tmps[u]?.getD undef = x := by simpa using hx
  simp [results, hf, hp', hx', asAddr, run_loadVar_row w r msT _ _ (0, 0) _ h Tryz.underlying26 rfl hc, Result.andThen]
abbrev nilS : Value := .slice none 0 0
def zeroM : Array Value := #[.int .i64 0, .bool false, .int .i64 0, .bool false, .bool false, .bool false, .bool false, .int .i64 0, .int .i64 0, .slice none 0 0, .slice none 0 0, .slice none 0 0, .slice none 0 0]
theorem zeroM_is : zeroM = msA zeroH nilS nilS nilS nilS := rfl
def HeadOut (M : List UInt8) (w : World) (e : Ending) (w' : World) : Prop :=
  Below w.heap.size w w' ∧
  if M.length < 12 then e = .returned (.tuple #[.agg (msA zeroH nilS nilS nilS nilS), .slice none 0 0, .int .i64 0, .int .i64 2])
  else ∃ b off c, e = .returned (.tuple #[.agg (msA (hdOf (num (seg M 0 2)) (num (seg M 2 4))) nilS nilS nilS nilS), .slice (some ⟨b, off, none⟩) 4 c, .int .i64 12, .int .i64 0]) ∧ b < w'.heap.size ∧
    w'.cell? ⟨b, off, none⟩ = some (.int .u64 (num (seg M 4 6) : Nat)) ∧ w'.cell? ⟨b, off + 1, none⟩ = some (.int .u64 (num (seg M 6 8) : Nat)) ∧ w'.cell? ⟨b, off + 2, none⟩ = some (.int .u64 (num (seg M 8 10) : Nat)) ∧ w'.cell? ⟨b, off + 3, none⟩ = some (.int .u64 (num (seg M 10 12) : Nat))
theorem head_out_no {M : List UInt8} {w w' : World} {e : Ending} (h : M.length < 12) (hb : Below w.heap.size w w') (he : e = .returned (.tuple #[.agg (msA zeroH nilS nilS nilS nilS), .slice none 0 0, .int .i64 0, .int .i64 2])) : HeadOut M w e w' := ⟨hb, by rw [if_pos h]; exact he⟩
theorem grown_to_below {w w' : World} {g : Nat} (h : w.grownBy w' (some g)) (hg : g ≤ w.heap.size) : Below g w w' := ⟨h.os, h.tape, h.output, h.size, fun k hk => h.block k (by omega) (fun e => by have := Option.some.inj e; omega)⟩

set_option maxHeartbeats 8000000 in
set_option maxRecDepth 20000 in
theorem readHead_no (S : ByteArray) (M : List UInt8) (w : World) (hS : S = mk M) (hno : M.length < 12) :
    Calls Tryz.prog 34 #[.string S] w fun e w' => HeadOut M w e w' := by
  have HSP := Lib.hid (show splitR S [2, 2, 2, 2, 2, 2] = ([], empty, 2) by rw [hS]; exact head_no hno)
  have hsz : S.size ≤ 1073741824 := by rw [hS, mk_size]; omega
  have HNO := Lib.hid hno
  have HB0 := Lib.hid (show Below w.heap.size w (w.alloc (.cells zeroM msT)) from (Below.refl _ _).alloc (Nat.le_refl _) _)
  have HW0 := Lib.hid (Whole.new w msT zeroM)
  clear hS hno
  unfold zeroM at *
  go_enter Tryz.func34, Tryz.ntmps34
  go_wp2_with fail
  refine (mheadWidths_any _).mono ?_
  rintro e w1 ⟨g1, rfl, hs1, hB1⟩
  have HB1 := Lib.hid (HB0.out.trans (hB1.mono HB0.out.size))
  have HW1 := Lib.hid (HW0.out.below hB1 HW0.out.lt)
  have HS1 := Lib.hid hs1
  clear hs1 hB1
  go_wp2_with fail
  refine (Split_any S _ 6 6 _ [2, 2, 2, 2, 2, 2] _ HS1.out (by decide) (Nat.le_refl _) hsz).mono ?_
  unfold SplitLeaves
  rw [HSP.out]
  rintro e w3 ⟨A3, c3, rfl, hs3, hB3⟩
  have HB3 := Lib.hid (HB1.out.trans (hB3.mono HB1.out.size))
  have HW3 := Lib.hid (HW1.out.below hB3 HW1.out.lt)
  clear hs3 hB3
  obtain ⟨e0, e1, e2, e3, e4, e5, e6, e7, e8, e9, e10, e11, e12⟩ := ms_facts (h := zeroH) (q := nilS) (a := nilS) (n := nilS) (d := nilS) HW3.out
  obtain ⟨f0, f1, f2, f3, f4, f5, f6, f7, f8, f9, f10, f11, f12⟩ := ms_frozen HW3.out
  go_wp2_with fail
  refine retm4 rfl rfl rfl rfl rfl rfl (whole_new_row (msL zeroH nilS nilS nilS nilS) HW3.out rfl) ms_size (head_out_no HNO.out (putAll_below (Nat.le_refl _) (msL zeroH nilS nilS nilS nilS) 0 HB3.out) rfl)

set_option maxHeartbeats 16000000 in
set_option maxRecDepth 20000 in
theorem readHead_yes (S : ByteArray) (M : List UInt8) (w : World) (hS : S = mk M) (hM : M.length ≤ 800000) (hyes : 12 ≤ M.length) :
    Calls Tryz.prog 34 #[.string S] w fun e w' => HeadOut M w e w' := by
  obtain ⟨R, hR⟩ : ∃ R, R = mk (M.drop 12) := ⟨_, rfl⟩
  have hRz : R.size + 12 = S.size := by rw [hR, hS, mk_size, mk_size, List.length_drop]; omega
  have nn : ∀ a, a + 2 ≤ M.length → num (seg M a (a + 2)) < 65536 := fun a ha => by
    have := num_lt (seg M a (a + 2))
    rwa [seg_len ha, show a + 2 - a = 2 by omega] at this
  obtain ⟨n0, h0⟩ : ∃ n0, n0 = num (seg M 0 2) := ⟨_, rfl⟩
  obtain ⟨n1, h1⟩ : ∃ n1, n1 = num (seg M 2 4) := ⟨_, rfl⟩
  obtain ⟨n2, h2⟩ : ∃ n2, n2 = num (seg M 4 6) := ⟨_, rfl⟩
  obtain ⟨n3, h3⟩ : ∃ n3, n3 = num (seg M 6 8) := ⟨_, rfl⟩
  obtain ⟨n4, h4⟩ : ∃ n4, n4 = num (seg M 8 10) := ⟨_, rfl⟩
  obtain ⟨n5, h5⟩ : ∃ n5, n5 = num (seg M 10 12) := ⟨_, rfl⟩
  have l0 : n0 < 65536 := by rw [h0]; exact nn 0 (by omega)
  have l1 : n1 < 65536 := by rw [h1]; exact nn 2 (by omega)
  have HSP := Lib.hid (show splitR S [2, 2, 2, 2, 2, 2] = ([(n0 : Int), (n1 : Int), (n2 : Int), (n3 : Int), (n4 : Int), (n5 : Int)], R, 0) by rw [hS, hR, h0, h1, h2, h3, h4, h5]; exact head_yes hyes)
  have HOUT := Lib.hid (show ∀ (w' : World) (e : Ending), Below w.heap.size w w' → (∃ b off c, e = .returned (.tuple #[.agg (msA (hdOf n0 n1) nilS nilS nilS nilS), .slice (some ⟨b, off, none⟩) 4 c, .int .i64 12, .int .i64 0]) ∧ b < w'.heap.size ∧
      w'.cell? ⟨b, off, none⟩ = some (.int .u64 (n2 : Nat)) ∧ w'.cell? ⟨b, off + 1, none⟩ = some (.int .u64 (n3 : Nat)) ∧ w'.cell? ⟨b, off + 2, none⟩ = some (.int .u64 (n4 : Nat)) ∧ w'.cell? ⟨b, off + 3, none⟩ = some (.int .u64 (n5 : Nat))) → HeadOut M w e w' from fun w' e hb h => ⟨hb, by rw [if_neg (by omega), ← h0, ← h1, ← h2, ← h3, ← h4, ← h5]; exact h⟩)
  have hsz : S.size ≤ 1073741824 := by rw [hS, mk_size]; omega
  have R1 := Lib.hid (show (S.size : Int) - (R.size : Int) = 12 by omega)
  have R2 := Lib.hid (show IntKind.i64.wrap ((S.size : Int) - (R.size : Int)) = 12 by rw [IntKind.wrap_i64]; omega)
  have HB0 := Lib.hid (show Below w.heap.size w (w.alloc (.cells zeroM msT)) from (Below.refl _ _).alloc (Nat.le_refl _) _)
  have HW0 := Lib.hid (Whole.new w msT zeroM)
  have W0 := Lib.hid (show IntKind.i64.wrap (n0 : Int) = (n0 : Int) by rw [IntKind.wrap_i64]; omega)
  clear hS hyes hR hRz nn h0 h1 h2 h3 h4 h5
  unfold zeroM at *
  go_enter Tryz.func34, Tryz.ntmps34
  go_wp2_with fail
  refine (mheadWidths_any _).mono ?_
  rintro e w1 ⟨g1, rfl, hs1, hB1⟩
  have HB1 := Lib.hid (HB0.out.trans (hB1.mono HB0.out.size))
  have HW1 := Lib.hid (HW0.out.below hB1 HW0.out.lt)
  have HS1 := Lib.hid hs1
  clear hs1 hB1
  go_wp2_with fail
  refine (Split_good2 S _ 6 6 _ [2, 2, 2, 2, 2, 2] _ HS1.out (by decide) (Nat.le_refl _) hsz (by decide)).mono ?_
  unfold SplitLeaves2
  rw [HSP.out]
  rintro e w3 ⟨A3, c3, rfl, hs3, hB3, hcap⟩
  have HB3 := Lib.hid (HB1.out.trans (hB3.mono HB1.out.size))
  have HW3 := Lib.hid (HW1.out.below hB3 HW1.out.lt)
  obtain ⟨b4, off4, rfl, hb4, hc4⟩ := hs3.addr (by simp)
  have v0 : w3.cell? ⟨b4, off4, none⟩ = some (.int .u64 (n0 : Nat)) := hc4 0 _ rfl
  have v1 : w3.cell? ⟨b4, off4 + 1, none⟩ = some (.int .u64 (n1 : Nat)) := hc4 1 _ rfl
  have V2 := Lib.hid (show w3.cell? ⟨b4, off4 + 2, none⟩ = some (.int .u64 (n2 : Nat)) from hc4 2 _ rfl)
  have V3 := Lib.hid (show w3.cell? ⟨b4, off4 + 2 + 1, none⟩ = some (.int .u64 (n3 : Nat)) from hc4 3 _ rfl)
  have V4 := Lib.hid (show w3.cell? ⟨b4, off4 + 2 + 2, none⟩ = some (.int .u64 (n4 : Nat)) from hc4 4 _ rfl)
  have V5 := Lib.hid (show w3.cell? ⟨b4, off4 + 2 + 3, none⟩ = some (.int .u64 (n5 : Nat)) from hc4 5 _ rfl)
  have hcap6 : 6 ≤ c3 := hcap
  have w0 := W0.out
  clear hs3 hB3 hc4 hcap
  have HBN := Lib.hid (show Below w3.heap.size w3 (w3.alloc (.cells (msA ⟨(n0 : Nat), false, 0, false, false, false, false, 0, 0⟩ nilS nilS nilS nilS) msT)) from (Below.refl _ _).alloc (Nat.le_refl _) _)
  have HWN := Lib.hid (Whole.new w3 msT (msA ⟨(n0 : Nat), false, 0, false, false, false, false, 0, 0⟩ nilS nilS nilS nilS))
  have v1' := (HBN.out.cell (p := ⟨b4, off4 + 1, none⟩) hb4).trans v1
  go_wp2_with fail
  refine (setBits_any n0 n1 w3.heap.size nilS nilS nilS nilS _ HWN.out l1).mono ?_
  rintro e w5 ⟨rfl, hw5, hg5⟩
  obtain ⟨HD, hHD⟩ : ∃ HD, HD = hdOf n0 n1 := ⟨_, rfl⟩
  have HHD := Lib.hid hHD
  rw [← hHD] at hw5
  obtain ⟨g9, hg9⟩ : ∃ g9, g9 = w3.heap.size := ⟨_, rfl⟩
  have HB5 := Lib.hid (show Below w3.heap.size w3 w5 from HBN.out.trans (grown_to_below hg5 HBN.out.size))
  have HBX := Lib.hid (HB3.out.trans (HB5.out.mono HB3.out.size))
  have HW5 := Lib.hid (HW3.out.below HB5.out HW3.out.lt)
  rw [← hg9] at hw5 ⊢
  have HM5 := Lib.hid hw5
  have hw9 := HW3.out.lt
  have n1' : ¬ (w.heap.size = g9) := by omega
  have n2' : ¬ (g9 = w.heap.size) := by omega
  have nb : b4 ≠ w.heap.size := fun e => by
    rw [e] at v0
    have := HW3.out.cell off4
    rw [v0] at this
    match off4, this with
    | 0, h => simp at h
    | 1, h => simp at h
    | 2, h => simp at h
    | 3, h => simp at h
    | 4, h => simp at h
    | 5, h => simp at h
    | 6, h => simp at h
    | 7, h => simp at h
    | 8, h => simp at h
    | 9, h => simp at h
    | 10, h => simp at h
    | 11, h => simp at h
    | 12, h => simp at h
    | k + 13, h => simp at h
  have NB := Lib.hid nb
  have HB4 := Lib.hid hb4
  have X2 := Lib.hid ((HB5.out.cell (p := ⟨b4, off4 + 2, none⟩) hb4).trans V2.out)
  have X3 := Lib.hid ((HB5.out.cell (p := ⟨b4, off4 + 2 + 1, none⟩) hb4).trans V3.out)
  have X4 := Lib.hid ((HB5.out.cell (p := ⟨b4, off4 + 2 + 2, none⟩) hb4).trans V4.out)
  have X5 := Lib.hid ((HB5.out.cell (p := ⟨b4, off4 + 2 + 3, none⟩) hb4).trans V5.out)
  have FIN := Lib.hid (show HeadOut M w (.returned (.tuple #[.agg (msL HD nilS nilS nilS nilS).toArray, .slice (some ⟨b4, off4 + 2, none⟩) 4 (c3 - 2), .int .i64 12, .int .i64 0])) (putAll w5 w.heap.size 0 (msL HD nilS nilS nilS nilS)).drew from by
    have hF : (putAll w5 w.heap.size 0 (msL HD nilS nilS nilS nilS)).heap.size = w5.heap.size := putAll_size _ _
    have hbF := putAll_below (Nat.le_refl w.heap.size) (msL HD nilS nilS nilS nilS) 0 HBX.out
    have y2 := (putAll_cell (w := w5) (p := ⟨b4, off4 + 2, none⟩) NB.out (msL HD nilS nilS nilS nilS) 0).trans X2.out
    have y3 := (putAll_cell (w := w5) (p := ⟨b4, off4 + 2 + 1, none⟩) NB.out (msL HD nilS nilS nilS nilS) 0).trans X3.out
    have y4 := (putAll_cell (w := w5) (p := ⟨b4, off4 + 2 + 2, none⟩) NB.out (msL HD nilS nilS nilS nilS) 0).trans X4.out
    have y5 := (putAll_cell (w := w5) (p := ⟨b4, off4 + 2 + 3, none⟩) NB.out (msL HD nilS nilS nilS nilS) 0).trans X5.out
    generalize putAll w5 w.heap.size 0 (msL HD nilS nilS nilS nilS) = F at hF hbF y2 y3 y4 y5 ⊢
    refine HOUT.out _ _ hbF.drew ⟨b4, off4 + 2, c3 - 2, by rw [← HHD.out]; rfl, ?_, y2, y3, y4, y5⟩
    show b4 < F.heap.size
    rw [hF]
    exact Nat.lt_of_lt_of_le HB4.out HB5.out.size)
  clear hw5 hg5 hg9 hHD v0 v1 v1' nb w0 hb4
  obtain ⟨c0, c1, c2, c3', c4, c5, c6, c7, c8, c9, c10, c11, c12⟩ := ms_facts HM5.out
  obtain ⟨d0, d1, d2, d3, d4, d5, d6, d7, d8, d9, d10, d11, d12⟩ := ms_facts (h := zeroH) (q := nilS) (a := nilS) (n := nilS) (d := nilS) HW5.out
  obtain ⟨f0, f1, f2, f3, f4, f5, f6, f7, f8, f9, f10, f11, f12⟩ := ms_frozen HW5.out
  have q1 : ¬ (c3 = 2) := by omega
  have q2 : (2 : Int) ≤ (c3 : Int) := by omega
  have q3 : (6 : Int) ≤ (c3 : Int) := by omega
  have r1 := R1.out
  have r2 := R2.out
  have r3 : IntKind.i64.wrap 12 = 12 := by decide
  go_wp2_with fail
  go_region_held3 (fun w' => w'.cell? ⟨g9, 0, none⟩ = some (.int .i64 HD.id) ∧ w'.cell? ⟨g9, 1, none⟩ = some (.bool HD.qr) ∧ w'.cell? ⟨g9, 2, none⟩ = some (.int .i64 HD.op) ∧ w'.cell? ⟨g9, 3, none⟩ = some (.bool HD.aa) ∧ w'.cell? ⟨g9, 4, none⟩ = some (.bool HD.tc) ∧ w'.cell? ⟨g9, 5, none⟩ = some (.bool HD.rd) ∧ w'.cell? ⟨g9, 6, none⟩ = some (.bool HD.ra) ∧ w'.cell? ⟨g9, 7, none⟩ = some (.int .i64 HD.z) ∧ w'.cell? ⟨g9, 8, none⟩ = some (.int .i64 HD.rc) ∧ w'.cell? ⟨g9, 9, none⟩ = some (.slice none 0 0) ∧ w'.cell? ⟨g9, 10, none⟩ = some (.slice none 0 0) ∧ w'.cell? ⟨g9, 11, none⟩ = some (.slice none 0 0) ∧ w'.cell? ⟨g9, 12, none⟩ = some (.slice none 0 0)) (go_keep) (fail)
  all_goals (
    go_wp2_with fail
    exact retm4 rfl rfl rfl rfl rfl rfl (whole_new_row (msL HD nilS nilS nilS nilS) HW5.out rfl).drew ms_size FIN.out)
theorem readHead_any (S : ByteArray) (M : List UInt8) (w : World) (hS : S = mk M) (hM : M.length ≤ 800000) :
    Calls Tryz.prog 34 #[.string S] w fun e w' => HeadOut M w e w' := by
  by_cases h : M.length < 12
  · exact readHead_no S M w hS h
  · exact readHead_yes S M w hS hM (by omega)
end Go.Proofs.YtokjmefleanjaaaGreat
