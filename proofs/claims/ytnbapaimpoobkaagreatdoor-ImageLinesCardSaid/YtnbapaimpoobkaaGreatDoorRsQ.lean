/- Parts of the proofs of the statements of image. No statement of the seat is proved here. -/
import Derived.Test.YtnbapaimpoobkaaGreatDoorSrtA
import Derived.Test.YtnbapaimpoobkaaGreatDoorZonM
import Derived.Lib.SliceRun
import Derived.Test.YtnbapaimpoobkaaGreatDoorRrE
import Derived.Test.YtnbapaimpoobkaaGreatDoorRrA
namespace Go.Proofs.YtnbapaimpoobkaaGreatDoor
open Go.RowKit Go.Op

def pickL (f : Nat → Bool) (xs : List Rrd) (k : Nat) : List Rrd := (List.range k).flatMap fun i => if f i then xs[i]?.toList else []
theorem pickL_step (f : Nat → Bool) {xs : List Rrd} {k : Nat} {x : Rrd} (hx : xs[k]? = some x) : pickL f xs (k + 1) = pickL f xs k ++ if f k then [x] else [] := by
  unfold pickL
  rw [List.range_succ, List.flatMap_append]
  simp [hx]
theorem pickL_le (f : Nat → Bool) (xs : List Rrd) : ∀ k, (pickL f xs k).length ≤ k
  | 0 => by simp [pickL]
  | k + 1 => by
    have ih := pickL_le f xs k
    cases h : xs[k]? with
    | none =>
      have e : pickL f xs (k + 1) = pickL f xs k := by unfold pickL; rw [List.range_succ, List.flatMap_append]; simp [h]
      rw [e]; omega
    | some x =>
      rw [pickL_step f h]
      split
      · simp; omega
      · simp; omega
theorem one_any {x y : Rrd} (hx : OkX x) (hy : OkX y) (w : World) :
    Calls Tryz.prog 68 #[.agg #[.string x.s, .int .i64 x.t, .int .i64 x.c, .int .i64 x.l, .string x.d], .agg #[.string y.s, .int .i64 y.t, .int .i64 y.c, .int .i64 y.l, .string y.d]] w fun e w' => e = .returned (.bool (decide (cmpX x y = 0))) ∧ Below w.heap.size w w' := by
  rw [← oneX hx hy]
  exact One_any x.s x.d y.s y.d x.toRec y.toRec w (rrd_name x) (rrd_data x) (rrd_name y) (rrd_data y) (by have := hx.name; omega) (by have := hy.name; omega) (by have := hx.data; omega) (by have := hy.data; omega)

theorem RowX.sees {base g n c : Nat} {D : List Rrd} {w : World} (h : RowX base g n c D w) : SeesR w w.heap.size (some ⟨g, 0, none⟩) n D :=
  ⟨h.len, fun _ => ⟨g, 0, rfl, h.lt, fun j x hx => by rw [Nat.zero_add]; exact h.five hx⟩⟩
set_option maxHeartbeats 8000000 in
set_option maxRecDepth 20000 in
theorem pick_any (fid : Nat) (p : Value) (hent : ∀ (args : Array Value) (w : World), (callFunc fid args).run Tryz.prog w = .ok (.enter fid args) w) (f : Nat → Bool) (A : Option Addr) (n c : Nat) (xs : List Rrd) (w : World) (hx : SeesR w w.heap.size A n xs) (hn : n ≤ 1000000)
    (hf : ∀ (k : Nat) (wr : World), k < n → Below w.heap.size w wr → Calls Tryz.prog fid #[.int .i64 (k : Nat), p] wr fun e w' => e = .returned (.bool (f k)) ∧ Below wr.heap.size wr w') :
    Calls Tryz.prog 66 #[.slice A n c, .func (.func fid) #[] #[p]] w fun e w' =>
      ∃ v, e = .returned v ∧ w'.ownsRow w.heap.size 27 5 v (pickL f xs n).length (rcells (pickL f xs n)) ∧ Below w.heap.size w w' := by
  have HX := Lib.hid hx
  have HF := Lib.hid hf
  have HENT := Lib.hid hent
  clear hx hf hent
  go_enter Tryz.func66, Tryz.ntmps66
  go_wp2_with fail
  go_loopw [5, 10] (fun v i wr => ∃ k : Nat, k ≤ n ∧ i = .int .i64 (k : Nat) ∧ wr.ownsRow w.heap.size 27 5 v (pickL f xs k).length (rcells (pickL f xs k)) ∧ Below w.heap.size w wr) (fun _ i _ => n - (intOf i).toNat)
  case atStart => exact ⟨0, Nat.zero_le _, rfl, own_nil _ _ _ _, Below.refl _ _⟩
  case round =>
    obtain ⟨k, hk, rfl, hO, hB⟩ := hrel
    have HO := Lib.hid hO
    have HB := Lib.hid hB
    clear hO hB
    by_cases hkn : k < n
    · have g2 : (k : Int) < (n : Int) := by omega
      have g0 : (0 : Int) ≤ (k : Int) := by omega
      obtain ⟨b, off, x, rfl, hb, hxk, ht⟩ := (HX.out.keep HB.out).at hkn
      obtain ⟨x0, x1, x2, x3, x4⟩ := ht
      have HST := Lib.hid (pickL_step f hxk)
      obtain ⟨g, hg⟩ : ∃ g, g = wr.heap.size := ⟨_, rfl⟩
      have HBX := Lib.hid (show Five (wr.alloc (.cells #[.string x.s, .int .i64 x.t, .int .i64 x.c, .int .i64 x.l, .string x.d] 27)) g 0 x by rw [hg]; exact box_five wr x)
      have HGL := Lib.hid (show g < (wr.alloc (.cells #[.string x.s, .int .i64 x.t, .int .i64 x.c, .int .i64 x.l, .string x.d] 27)).heap.size by rw [hg]; simp)
      have HBA := Lib.hid (show Below w.heap.size w (wr.alloc (.cells #[.string x.s, .int .i64 x.t, .int .i64 x.c, .int .i64 x.l, .string x.d] 27)) from HB.out.alloc HB.out.size _)
      have HOA := Lib.hid (HO.out.alloc (.cells #[.string x.s, .int .i64 x.t, .int .i64 x.c, .int .i64 x.l, .string x.d] 27))
      have HLE := Lib.hid (show (pickL f xs k).length + 1 ≤ 1073741824 by have := pickL_le f xs k; omega)
      have HGG := Lib.hid hg
      clear hxk hg
      go_wp2_with fail
      rw [← HGG.out]
      rw [HENT.out, Oper.upon_enter]
      refine (HF.out k _ hkn HBA.out).mono ?_
      rintro e w1 ⟨rfl, hB1⟩
      have HO1 := Lib.hid (own_keep HOA.out hB1)
      have HB1 := Lib.hid (HBA.out.trans (hB1.mono HBA.out.size))
      have HF1 := Lib.hid (HBX.out.keep hB1 HGL.out)
      clear hB1 x0 x1 x2 x3 x4
      cases hfk : f k with
      | false =>
        have HS2 := Lib.hid (show pickL f xs (k + 1) = pickL f xs k by rw [HST.out, hfk]; simp)
        go_wp2_with fail
        go_roundw
        case rel => exact ⟨k + 1, by omega, by go_num, by rw [HS2.out]; exact HO1.out, HB1.out⟩
        case measure => simp [intOf]; omega
      | true =>
        have HS2 := Lib.hid (show pickL f xs (k + 1) = pickL f xs k ++ [x] by rw [HST.out, hfk]; simp)
        obtain ⟨x0, x1, x2, x3, x4⟩ := HF1.out
        have HQ3 := Lib.hid (HO1.out.alloc (.cells #[.string x.s, .int .i64 x.t, .int .i64 x.c, .int .i64 x.l, .string x.d] 27))
        have HD3 := Lib.hid (show Below w.heap.size w (w1.alloc (.cells #[.string x.s, .int .i64 x.t, .int .i64 x.c, .int .i64 x.l, .string x.d] 27)) from HB1.out.alloc HB1.out.size _)
        have HA3 := Lib.hid (show w.heap.size ≤ (w1.alloc (.cells #[.string x.s, .int .i64 x.t, .int .i64 x.c, .int .i64 x.l, .string x.d] 27)).heap.size from HD3.out.size)
        go_wp2_with (at_builtin; (refine wpList_append_R rfl _ _ rfl w.heap.size _ _ (pickL f xs k) rfl HQ3.out (w1.heap.size + 1) _ _ _ _ rfl (SeesR.one _ x) HLE.out HA3.out ?_); intro v3 w3 ho hg; (have HO3 := Lib.hid (show w3.ownsRow w.heap.size 27 5 v3 (pickL f xs k ++ [x]).length (rcells (pickL f xs k ++ [x])) by simpa using ho)); (have HB3 := Lib.hid (HD3.out.grown hg HA3.out (own_block_ge HQ3.out))); clear ho hg x0 x1 x2 x3 x4)
        go_roundw
        case rel => exact ⟨k + 1, by omega, by go_num, by rw [HS2.out]; exact HO3.out, HB3.out⟩
        case measure => simp [intOf]; omega
    · obtain rfl : k = n := by omega
      have g2 : ¬ ((k : Int) < (k : Int)) := by omega
      go_wp2_with fail
      go_ret
      exact ⟨_, rfl, HO.out, HB.out⟩
set_option maxHeartbeats 8000000 in
set_option maxRecDepth 20000 in
theorem pick2_any (fid : Nat) (p q : Value) (hent : ∀ (args : Array Value) (w : World), (callFunc fid args).run Tryz.prog w = .ok (.enter fid args) w) (f : Nat → Bool) (A : Option Addr) (n c : Nat) (xs : List Rrd) (w : World) (hx : SeesR w w.heap.size A n xs) (hn : n ≤ 1000000)
    (hf : ∀ (k : Nat) (wr : World), k < n → Below w.heap.size w wr → Calls Tryz.prog fid #[.int .i64 (k : Nat), p, q] wr fun e w' => e = .returned (.bool (f k)) ∧ Below wr.heap.size wr w') :
    Calls Tryz.prog 66 #[.slice A n c, .func (.func fid) #[] #[p, q]] w fun e w' =>
      ∃ v, e = .returned v ∧ w'.ownsRow w.heap.size 27 5 v (pickL f xs n).length (rcells (pickL f xs n)) ∧ Below w.heap.size w w' := by
  have HX := Lib.hid hx
  have HF := Lib.hid hf
  have HENT := Lib.hid hent
  clear hx hf hent
  go_enter Tryz.func66, Tryz.ntmps66
  go_wp2_with fail
  go_loopw [5, 10] (fun v i wr => ∃ k : Nat, k ≤ n ∧ i = .int .i64 (k : Nat) ∧ wr.ownsRow w.heap.size 27 5 v (pickL f xs k).length (rcells (pickL f xs k)) ∧ Below w.heap.size w wr) (fun _ i _ => n - (intOf i).toNat)
  case atStart => exact ⟨0, Nat.zero_le _, rfl, own_nil _ _ _ _, Below.refl _ _⟩
  case round =>
    obtain ⟨k, hk, rfl, hO, hB⟩ := hrel
    have HO := Lib.hid hO
    have HB := Lib.hid hB
    clear hO hB
    by_cases hkn : k < n
    · have g2 : (k : Int) < (n : Int) := by omega
      have g0 : (0 : Int) ≤ (k : Int) := by omega
      obtain ⟨b, off, x, rfl, hb, hxk, ht⟩ := (HX.out.keep HB.out).at hkn
      obtain ⟨x0, x1, x2, x3, x4⟩ := ht
      have HST := Lib.hid (pickL_step f hxk)
      obtain ⟨g, hg⟩ : ∃ g, g = wr.heap.size := ⟨_, rfl⟩
      have HBX := Lib.hid (show Five (wr.alloc (.cells #[.string x.s, .int .i64 x.t, .int .i64 x.c, .int .i64 x.l, .string x.d] 27)) g 0 x by rw [hg]; exact box_five wr x)
      have HGL := Lib.hid (show g < (wr.alloc (.cells #[.string x.s, .int .i64 x.t, .int .i64 x.c, .int .i64 x.l, .string x.d] 27)).heap.size by rw [hg]; simp)
      have HBA := Lib.hid (show Below w.heap.size w (wr.alloc (.cells #[.string x.s, .int .i64 x.t, .int .i64 x.c, .int .i64 x.l, .string x.d] 27)) from HB.out.alloc HB.out.size _)
      have HOA := Lib.hid (HO.out.alloc (.cells #[.string x.s, .int .i64 x.t, .int .i64 x.c, .int .i64 x.l, .string x.d] 27))
      have HLE := Lib.hid (show (pickL f xs k).length + 1 ≤ 1073741824 by have := pickL_le f xs k; omega)
      have HGG := Lib.hid hg
      clear hxk hg
      go_wp2_with fail
      rw [← HGG.out]
      rw [HENT.out, Oper.upon_enter]
      refine (HF.out k _ hkn HBA.out).mono ?_
      rintro e w1 ⟨rfl, hB1⟩
      have HO1 := Lib.hid (own_keep HOA.out hB1)
      have HB1 := Lib.hid (HBA.out.trans (hB1.mono HBA.out.size))
      have HF1 := Lib.hid (HBX.out.keep hB1 HGL.out)
      clear hB1 x0 x1 x2 x3 x4
      cases hfk : f k with
      | false =>
        have HS2 := Lib.hid (show pickL f xs (k + 1) = pickL f xs k by rw [HST.out, hfk]; simp)
        go_wp2_with fail
        go_roundw
        case rel => exact ⟨k + 1, by omega, by go_num, by rw [HS2.out]; exact HO1.out, HB1.out⟩
        case measure => simp [intOf]; omega
      | true =>
        have HS2 := Lib.hid (show pickL f xs (k + 1) = pickL f xs k ++ [x] by rw [HST.out, hfk]; simp)
        obtain ⟨x0, x1, x2, x3, x4⟩ := HF1.out
        have HQ3 := Lib.hid (HO1.out.alloc (.cells #[.string x.s, .int .i64 x.t, .int .i64 x.c, .int .i64 x.l, .string x.d] 27))
        have HD3 := Lib.hid (show Below w.heap.size w (w1.alloc (.cells #[.string x.s, .int .i64 x.t, .int .i64 x.c, .int .i64 x.l, .string x.d] 27)) from HB1.out.alloc HB1.out.size _)
        have HA3 := Lib.hid (show w.heap.size ≤ (w1.alloc (.cells #[.string x.s, .int .i64 x.t, .int .i64 x.c, .int .i64 x.l, .string x.d] 27)).heap.size from HD3.out.size)
        go_wp2_with (at_builtin; (refine wpList_append_R rfl _ _ rfl w.heap.size _ _ (pickL f xs k) rfl HQ3.out (w1.heap.size + 1) _ _ _ _ rfl (SeesR.one _ x) HLE.out HA3.out ?_); intro v3 w3 ho hg; (have HO3 := Lib.hid (show w3.ownsRow w.heap.size 27 5 v3 (pickL f xs k ++ [x]).length (rcells (pickL f xs k ++ [x])) by simpa using ho)); (have HB3 := Lib.hid (HD3.out.grown hg HA3.out (own_block_ge HQ3.out))); clear ho hg x0 x1 x2 x3 x4)
        go_roundw
        case rel => exact ⟨k + 1, by omega, by go_num, by rw [HS2.out]; exact HO3.out, HB3.out⟩
        case measure => simp [intOf]; omega
    · obtain rfl : k = n := by omega
      have g2 : ¬ ((k : Int) < (k : Int)) := by omega
      go_wp2_with fail
      go_ret
      exact ⟨_, rfl, HO.out, HB.out⟩
/-- is the record at k the last of its equals, in a list in order? -/
def lastW (D : List Rrd) (k : Nat) : Bool := match D[k]?, D[k + 1]? with | some x, some y => !decide (cX x y = 0) | _, _ => true
set_option maxHeartbeats 8000000 in
set_option maxRecDepth 20000 in
theorem wanted_any (base b g n c : Nat) (D : List Rrd) (w : World) (hD : OkL D) (hrow : RowX base g n c D w) (hb : w.cell? ⟨b, 0, none⟩ = some (.slice (some ⟨g, 0, none⟩) n c)) (hn : n ≤ 1000000) (k : Nat) (hk : k < n) :
    Calls Tryz.prog 67 #[.int .i64 (k : Nat), .pointer (some ⟨b, 0, none⟩)] w fun e w' => e = .returned (.bool (lastW D k)) ∧ Below w.heap.size w w' := by
  have hbl : ∀ q : Later w, q.val.cell? ⟨b, 0, none⟩ = some (.slice (some ⟨g, 0, none⟩) n c) := fun q => (q.below.cell (World.block_lt_of_cell? w _ hb)).trans hb
  by_cases hl : k + 1 = n
  · have z1 : (n : Int) - 1 = (k : Int) := by omega
    have g1 : ((k : Int) == (k : Int)) = true := by simp
    have HE := Lib.hid (show lastW D k = true by
      unfold lastW
      rw [List.getElem?_eq_none (show D.length ≤ k + 1 by rw [hrow.len]; omega)]
      split
      · rename_i h; cases h
      · rfl)
    clear hrow
    go_enter Tryz.func67, Tryz.ntmps67
    go_wp2_with fail
    refine region_later (by kernel_rfl) ?_
    repeat (go_big_quiet_step (fail))
    refine wpQuiet_nil ?_
    rintro _ ⟨q2, rfl⟩
    go_wp2_with fail
    go_ret
    exact ⟨by rw [HE.out]; rfl, q2.below⟩
  · obtain ⟨p, hp⟩ : ∃ p, p = n - 1 := ⟨_, rfl⟩
    obtain ⟨j, hj⟩ : ∃ j, j = k + 1 := ⟨_, rfl⟩
    have z1 : (n : Int) - 1 = (p : Int) := by omega
    have z2 : (k : Int) + 1 = (j : Int) := by omega
    have g1 : ((k : Int) == (p : Int)) = false := by rw [beq_eq_false_iff_ne]; omega
    have g2 : (k : Int) < (n : Int) := by omega
    have g3 : (j : Int) < (n : Int) := by omega
    have g4 : (0 : Int) ≤ (k : Int) := by omega
    have g5 : (0 : Int) ≤ (j : Int) := by omega
    obtain ⟨x, hx⟩ : ∃ x, D[k]? = some x := ⟨D[k]'(by rw [hrow.len]; exact hk), List.getElem?_eq_getElem _⟩
    obtain ⟨y, hy⟩ : ∃ y, D[j]? = some y := ⟨D[j]'(by rw [hrow.len]; omega), List.getElem?_eq_getElem _⟩
    obtain ⟨d0, d1, d2, d3, d4⟩ := (hrow.five hx).later hrow.lt
    obtain ⟨e0, e1, e2, e3, e4⟩ := (hrow.five hy).later hrow.lt
    have HX := Lib.hid (hD.at hx)
    have HY := Lib.hid (hD.at hy)
    obtain ⟨q, hq⟩ : ∃ q, q = decide (cX x y = 0) := ⟨_, rfl⟩
    have HE := Lib.hid (show lastW D k = !q by unfold lastW; rw [hx, ← hj, hy, hq])
    have HS := Lib.hid (show ∀ q' : Later w, Calls Tryz.prog 68 #[.agg #[.string x.s, .int .i64 x.t, .int .i64 x.c, .int .i64 x.l, .string x.d], .agg #[.string y.s, .int .i64 y.t, .int .i64 y.c, .int .i64 y.l, .string y.d]] q'.val fun e w'' => e = .returned (.bool q) ∧ ∃ q2 : Later w, w'' = q2.val from
      fun q' => later_call (by rw [hq, ← cX_is HX.out HY.out]; exact one_any HX.out HY.out _))
    clear hrow hx hy hq hp hj hl
    go_enter Tryz.func67, Tryz.ntmps67
    go_wp2_with fail
    refine region_later (by kernel_rfl) ?_
    repeat (go_big_quiet_step ((go_at_call 68; with_reducible exact HS.out _)))
    refine wpQuiet_nil ?_
    rintro _ ⟨q2, rfl⟩
    go_wp2_with fail
    go_ret
    exact ⟨by rw [HE.out]; rfl, q2.below⟩

/-! ### the last of equals are picked -/
theorem pickL_cons (f : Nat → Bool) (x : Rrd) (xs : List Rrd) : ∀ k, pickL f (x :: xs) (k + 1) = (if f 0 then [x] else []) ++ pickL (fun i => f (i + 1)) xs k
  | 0 => by unfold pickL; simp [List.range_succ]
  | k + 1 => by
    have ih := pickL_cons f x xs k
    unfold pickL at ih ⊢
    rw [List.range_succ, List.flatMap_append, ih, List.range_succ, List.flatMap_append]
    simp
theorem lastW_cons (x : Rrd) (xs : List Rrd) : (fun i => lastW (x :: xs) (i + 1)) = lastW xs := by
  funext i
  unfold lastW
  rw [List.getElem?_cons_succ, List.getElem?_cons_succ]
theorem pickL_last : ∀ D : List Rrd, pickL (lastW D) D D.length = lastX D
  | [] => rfl
  | [x] => by rw [List.length_singleton, pickL_cons]; simp [lastW, pickL, lastX]
  | x :: y :: D => by
    have ih := pickL_last (y :: D)
    rw [List.length_cons, pickL_cons, lastW_cons, ih]
    have e : lastW (x :: y :: D) 0 = !decide (cX x y = 0) := rfl
    rw [e, lastX]
    by_cases c : cX x y = 0
    · rw [if_pos c]; simp [c]
    · rw [if_neg c]; simp [c]

/-! ### Of -/
set_option maxHeartbeats 8000000 in
theorem Of_any (A : Option Addr) (n c : Nat) (xs : List Rrd) (w : World) (hx : SeesR w w.heap.size A n xs) (hok : OkL xs) (hn : n ≤ 60000) :
    Calls Tryz.prog 28 #[.slice A n c] w fun e w' => ∃ v, e = .returned v ∧ w'.ownsRow w.heap.size 27 5 v (ofC xs).length (rcells (ofC xs)) ∧ Below w.heap.size w w' := by
  have HX := Lib.hid hx
  have HOK := Lib.hid hok
  clear hx hok
  go_enter Tryz.func28, Tryz.ntmps28
  go_wp2_with fail
  refine (RClone_any A n c xs _ HX.out (by omega)).mono ?_
  rintro e w1 ⟨v, rfl, hown, hB⟩
  have HB := Lib.hid hB
  have hv : (n = 0 ∧ xs = [] ∧ ∃ A0 c0, v = .slice A0 0 c0) ∨ (0 < n ∧ ∃ g cap, v = .slice (some ⟨g, 0, none⟩) n cap ∧ w.heap.size ≤ g ∧ RowX w.heap.size g n cap xs w1) := by
    have hxs : n = 0 → xs = [] := fun e => List.eq_nil_of_length_eq_zero (by rw [HX.out.1, e])
    rcases hown.2 with ⟨e, e0⟩ | ⟨g, cap, cur, e, hbase, _, _, _, _⟩
    · exact .inl ⟨e0, hxs e0, none, 0, e⟩
    · rcases Nat.eq_zero_or_pos n with e0 | e0
      · exact .inl ⟨e0, hxs e0, some ⟨g, 0, none⟩, cap, by rw [e, e0]⟩
      · refine .inr ⟨e0, g, cap, e, hbase, ?_⟩
        unfold RowX
        rw [← e]; exact hown
  clear hown
  rcases hv with ⟨e0, exs, A0, c0, ev⟩ | ⟨h0, g, cap, ev, hbase, hrow⟩
  · subst e0 exs ev
    have HB1 := Lib.hid (show Below w.heap.size w (w1.alloc (.cells #[.slice A0 0 c0] 22)) from hB.alloc hB.size _)
    clear hB
    go_wp2_with fail
    refine (sort_none A0 c0 _).mono ?_
    rintro e w2 ⟨rfl, rfl⟩
    go_wp2_with fail
    refine (pick_any 67 _ (enters_of Tryz.func67 (by kernel_rfl) rfl) (fun _ => true) A0 0 c0 [] _ ⟨rfl, fun h => absurd h (by omega)⟩ (by omega) (fun k wr h => absurd h (by omega))).mono ?_
    rintro e w3 ⟨v3, rfl, ho, hB3⟩
    have HO3 := Lib.hid (own_less ho HB1.out.size)
    have HB3 := Lib.hid (HB1.out.trans (hB3.mono HB1.out.size))
    clear ho hB3
    go_wp2_with fail
    go_ret
    exact ⟨_, rfl, HO3.out, HB3.out⟩
  · subst ev
    obtain ⟨b, hb⟩ : ∃ b, b = w1.heap.size := ⟨_, rfl⟩
    obtain ⟨W, hW⟩ : ∃ W, W = w1.alloc (.cells #[.slice (some ⟨g, 0, none⟩) n cap] 22) := ⟨_, rfl⟩
    have HBX := Lib.hid (show W.cell? ⟨b, 0, none⟩ = some (.slice (some ⟨g, 0, none⟩) n cap) by rw [hW, hb]; exact (Whole.new w1 _ _).cell1)
    have HROW := Lib.hid (show RowX w.heap.size g n cap xs W by rw [hW]; exact own_keep hrow ((Below.refl _ _).alloc (Nat.le_refl _) _))
    have HNE := Lib.hid (show some b ≠ some g by rw [hb]; intro e; injection e with e; have := hrow.lt; omega)
    have HB1 := Lib.hid (show Below w.heap.size w W by rw [hW]; exact hB.alloc hB.size _)
    have HG := Lib.hid hbase
    have HWW := Lib.hid hW
    have HBB := Lib.hid hb
    clear hb hW hB hbase hrow
    go_wp2_with fail
    rw [← HWW.out, ← HBB.out]
    refine (sort_big _ g n cap xs _ h0 hn HOK.out HROW.out).mono ?_
    rintro e w2 ⟨rfl, D, hs, hst, hr2, hg2⟩
    have hbx2 := hg2.cell HBX.out HNE.out
    have HP := Lib.hid (show OkL D from fun x hx => HOK.out x (hst.mem.2 hx))
    have HS := Lib.hid (show lastX D = ofC xs from lastX_of hs hst)
    have HR2 := Lib.hid hr2
    have HBX2 := Lib.hid hbx2
    have HB2 := Lib.hid (show Below w.heap.size w w2 from HB1.out.grown hg2 HB1.out.size (fun j hj => by injection hj with hj; rw [← hj]; exact HG.out))
    have hlen : D.length = n := hr2.len
    have HLEN := Lib.hid hlen
    clear hs hst hr2 hg2 hlen
    go_wp2_with fail
    refine (pick_any 67 _ (enters_of Tryz.func67 (by kernel_rfl) rfl) (lastW D) _ n cap D _ HR2.out.sees (by omega) (fun k wr hk hBw => wanted_any w.heap.size b g n cap D wr HP.out (HR2.out.below hBw) ((hBw.cell (World.block_lt_of_cell? w2 _ HBX2.out)).trans HBX2.out) (by omega) k hk)).mono ?_
    rintro e w3 ⟨v3, rfl, ho, hB3⟩
    have ho2 : w3.ownsRow w.heap.size 27 5 v3 (ofC xs).length (rcells (ofC xs)) := by
      have h1 := own_less ho HB2.out.size
      have h2 := pickL_last D
      rw [HLEN.out, HS.out] at h2
      rw [h2] at h1
      exact h1
    have HO3 := Lib.hid ho2
    have HB3 := Lib.hid (HB2.out.trans (hB3.mono HB2.out.size))
    clear ho hB3 ho2
    go_wp2_with fail
    go_ret
    exact ⟨_, rfl, HO3.out, HB3.out⟩
end Go.Proofs.YtnbapaimpoobkaaGreatDoor
namespace Go.Proofs.YtnbapaimpoobkaaGreatDoor
open Go.RowKit Go.Op

theorem own_sees {w : World} {base : Nat} {v : Value} {n : Nat} {xs : List Rrd} (h : w.ownsRow base 27 5 v n (rcells xs)) :
    ∃ A c, v = .slice A n c ∧ SeesR w w.heap.size A n xs ∧ InCap A n c := by
  obtain ⟨A, c, rfl, hs⟩ := SeesR.own h
  refine ⟨A, c, rfl, hs, ?_⟩
  rcases h.2 with ⟨e, hn⟩ | ⟨g, cap, cur, e, hb, hg, h1, h2, h3, h4⟩
  · obtain ⟨rfl, rfl, rfl⟩ : A = none ∧ n = 0 ∧ c = 0 := by simpa using e
    exact ⟨Nat.le_refl _, by omega, fun _ => rfl, fun ad h => by cases h⟩
  · obtain ⟨rfl, rfl⟩ : A = some ⟨g, 0, none⟩ ∧ c = cap := by simpa using e
    unfold maxLen at h2
    exact ⟨h1, by omega, fun h => (by cases h), fun ad h _ => (by cases h; rfl)⟩
end Go.Proofs.YtnbapaimpoobkaaGreatDoor
namespace Go.Proofs.YtnbapaimpoobkaaGreatDoor
open Go.RowKit Go.Op

theorem putX_c {r : Rrd} (hr : OkX r) : ∀ {l : List Rrd}, OkL l → putX cmpX r l = putX cX r l
  | [], _ => rfl
  | x :: l, h => by
    have e := cX_is (h x (by simp)) hr
    have ih := putX_c hr (l := l) (fun y hy => h y (List.mem_cons_of_mem _ hy))
    unfold putX
    rw [e, ih]
theorem SetL_c {l : List Rrd} (h : OkL l) : SetL cmpX l ↔ SetL cX l := by
  unfold SetL
  constructor
  · intro k
    refine List.Pairwise.imp_of_mem ?_ k
    intro a b ha hb e
    rw [← cX_is (h a ha) (h b hb)]; exact e
  · intro k
    refine List.Pairwise.imp_of_mem ?_ k
    intro a b ha hb e
    rw [cX_is (h a ha) (h b hb)]; exact e
theorem ofC_snoc (l : List Rrd) (x : Rrd) : ofC (l ++ [x]) = putX cX x (ofC l) := by unfold ofC; rw [List.foldl_append]; rfl
theorem ofC_mem (l : List Rrd) : ∀ y ∈ ofC l, y ∈ l := by
  have h : ∀ (l : List Rrd) (D : List Rrd), ∀ y ∈ l.foldl (fun D r => putX cX r D) D, y ∈ l ∨ y ∈ D := by
    intro l
    induction l with
    | nil => intro D y hy; exact .inr hy
    | cons x l ih =>
      intro D y hy
      rcases ih _ y hy with h | h
      · exact .inl (List.mem_cons_of_mem _ h)
      · rcases putX_mem x D y h with rfl | h
        · exact .inl (by simp)
        · exact .inr h
  intro y hy
  rcases h l [] y hy with h | h
  · exact h
  · cases h
theorem OkL.ofC {l : List Rrd} (h : OkL l) : OkL (ofC l) := fun y hy => h y (ofC_mem l y hy)
theorem ofC_set (l : List Rrd) : SetL cX (ofC l) := by
  have h : ∀ (l : List Rrd) (D : List Rrd), SetL cX D → SetL cX (l.foldl (fun D r => putX cX r D) D) := by
    intro l
    induction l with
    | nil => intro D hD; exact hD
    | cons x l ih => intro D hD; exact ih _ (putX_set ordAll trivial D (fun _ _ => trivial) hD)
  exact h l [] List.Pairwise.nil
theorem putX_len (r : Rrd) (l : List Rrd) : (putX cX r l).length ≤ l.length + 1 := by
  induction l with
  | nil => simp [putX]
  | cons x l ih =>
    unfold putX
    split
    · simp; omega
    · split
      · simp
      · simp
theorem ofC_len (l : List Rrd) : (ofC l).length ≤ l.length := by
  have h : ∀ (l : List Rrd) (D : List Rrd), (l.foldl (fun D r => putX cX r D) D).length ≤ D.length + l.length := by
    intro l
    induction l with
    | nil => intro D; simp
    | cons x l ih => intro D; have h1 := ih (putX cX x D); have h2 := putX_len x D; simp only [List.foldl_cons, List.length_cons]; omega
  have := h l []
  simpa [ofC] using this
theorem refP_ofC {r : Rrd} {l : List Rrd} (hr : OkX r) (h : OkL l) : refP cmpX r (ofC l) false = ofC (l ++ [r]) := by
  rw [ofC_snoc, refP_set ordX hr (ofC l) h.ofC ((SetL_c h.ofC).2 (ofC_set l)), putX_c hr h.ofC]

set_option maxHeartbeats 8000000 in
set_option maxRecDepth 20000 in
theorem RefOf_any (A : Option Addr) (n c : Nat) (xs : List Rrd) (w : World) (hx : SeesR w w.heap.size A n xs) (hok : OkL xs) (hn : n ≤ 100000) :
    Calls Tryz.prog 33 #[.slice A n c] w fun e w' => ∃ v, e = .returned v ∧ w'.ownsRow w.heap.size 27 5 v (ofC xs).length (rcells (ofC xs)) ∧ Below w.heap.size w w' := by
  have HX := Lib.hid hx
  have HOK := Lib.hid hok
  have HN := Lib.hid hx.1
  clear hx hok
  go_enter Tryz.func33, Tryz.ntmps33
  go_wp2_with fail
  go_loopw [3, 4] (fun v i wr => ∃ k : Nat, k ≤ n ∧ i = .int .i64 (k : Nat) ∧ wr.ownsRow w.heap.size 27 5 v (ofC (xs.take k)).length (rcells (ofC (xs.take k))) ∧ Below w.heap.size w wr) (fun _ i _ => n - (intOf i).toNat)
  case atStart => exact ⟨0, Nat.zero_le _, rfl, own_nil _ _ _ _, Below.refl _ _⟩
  case round =>
    obtain ⟨k, hk, rfl, hO, hB⟩ := hrel
    have HO := Lib.hid hO
    have HB := Lib.hid hB
    clear hO hB
    by_cases hkn : k < n
    · have g2 : (k : Int) < (n : Int) := by omega
      have g0 : (0 : Int) ≤ (k : Int) := by omega
      obtain ⟨b, off, x, rfl, hb, hxk, ht⟩ := (HX.out.keep HB.out).at hkn
      obtain ⟨x0, x1, x2, x3, x4⟩ := ht
      obtain ⟨A1, c1, ev, hs1, _⟩ := own_sees HO.out
      subst ev
      have HS1 := Lib.hid hs1
      have HXK := Lib.hid (HOK.out.at hxk)
      have hot : OkL (xs.take k) := fun y hy => HOK.out y (List.mem_of_mem_take hy)
      have HOT := Lib.hid hot
      have HST := Lib.hid (show refP cmpX x (ofC (xs.take k)) false = ofC (xs.take (k + 1)) by
        rw [refP_ofC HXK.out hot, List.take_add_one, hxk]; rfl)
      have HLN := Lib.hid (show (ofC (xs.take k)).length ≤ 1000000 by have h1 := ofC_len (xs.take k); rw [List.length_take] at h1; omega)
      clear hxk hs1 hot
      go_wp2_with fail
      refine (RefPut_any A1 _ c1 (ofC (xs.take k)) x _ HS1.out HOT.out.ofC HXK.out HLN.out).mono ?_
      rw [HST.out]
      rintro e w1 ⟨v1, rfl, ho, hB1⟩
      have HO1 := Lib.hid (own_less ho HB.out.size)
      have HB1 := Lib.hid (HB.out.trans (hB1.mono HB.out.size))
      clear ho hB1 x0 x1 x2 x3 x4
      go_wp2_with fail
      go_roundw
      case rel => exact ⟨k + 1, by omega, by go_num, HO1.out, HB1.out⟩
      case measure => simp [intOf]; omega
    · obtain rfl : k = n := by omega
      have g2 : ¬ ((k : Int) < (k : Int)) := by omega
      go_wp2_with fail
      go_ret
      refine ⟨_, rfl, ?_, HB.out⟩
      have := HO.out
      rwa [List.take_of_length_le (by rw [HN.out]; exact Nat.le_refl _)] at this

end Go.Proofs.YtnbapaimpoobkaaGreatDoor
