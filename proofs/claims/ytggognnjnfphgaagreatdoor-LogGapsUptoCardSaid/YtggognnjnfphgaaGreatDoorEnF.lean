/- EnF: texts EntF, EntG of our own, joined. No statement of the seat is proved here. -/
import Derived.Test.YtggognnjnfphgaaGreatDoorEnC
import Derived.Test.YtggognnjnfphgaaGreatDoorReN
import Derived.Test.YtggognnjnfphgaaGreatDoorOcA
import Derived.BigQuiet
namespace Go.Proofs.YtggognnjnfphgaaGreatDoor
open Go.RowKit Go.Op

def fewR (x : Rrd) : Bool := decide (x.s.size ≤ 600) && decide (x.d.size ≤ 2000)
theorem fewR_is {x : Rrd} : fewR x = true ↔ x.s.size ≤ 600 ∧ x.d.size ≤ 2000 := by unfold fewR; simp
def fewE (xs ys : List Rrd) : Bool := (xs ++ ys).all fewR && decide ((xs ++ ys).length ≤ 30)
set_option maxHeartbeats 8000000 in
set_option maxRecDepth 20000 in
theorem Few_any (f t : Int) (A A' : Option Addr) (n c n' c' : Nat) (xs ys : List Rrd) (w : World) (h1 : SeesR w w.heap.size A n xs) (h2 : SeesR w w.heap.size A' n' ys) (hn : n ≤ 100000000) (hn' : n' ≤ 100000000) :
    Calls Tryz.prog 19 #[.agg (enA f t A n c A' n' c')] w fun e w' => e = .returned (.bool (fewE xs ys)) ∧ Below w.heap.size w w' := by
  obtain ⟨W, hW⟩ : ∃ W, W = w.alloc (.cells (enA f t A n c A' n' c') enT) := ⟨_, rfl⟩
  obtain ⟨g, hg⟩ : ∃ g, g = w.heap.size := ⟨_, rfl⟩
  have HB0 := Lib.hid (show Below w.heap.size w W by rw [hW]; exact (Below.refl _ _).alloc (Nat.le_refl _) _)
  have HW0 := Lib.hid (show Whole W g enT (enA f t A n c A' n' c') by rw [hW, hg]; exact Whole.new w enT _)
  have HX := Lib.hid ((h1.keep HB0.out).more HB0.out.size)
  have HY := Lib.hid ((h2.keep HB0.out).more HB0.out.size)
  have HWW := Lib.hid hW
  have HG := Lib.hid hg
  have HMV := Lib.hid (show enA f t A n c A' n' c' = #[.int .u32 f, .int .u32 t, .slice A n c, .slice A' n' c'] from rfl)
  clear hW hg h1 h2
  obtain ⟨_, _, c2, c3⟩ := en_facts HW0.out
  have HWE := Lib.hid (HW0.out.alloc (.cells #[] 76))
  have HBE := Lib.hid (show Below W.heap.size W (W.alloc (.cells #[] 76)) from (Below.refl _ _).alloc (Nat.le_refl _) _)
  have HOE := Lib.hid (own_noneR W W.heap.size (Nat.le_refl _))
  obtain ⟨_, _, e2, e3⟩ := en_facts HWE.out
  rw [HMV.out]
  go_enter Tryz.func19, Tryz.ntmps19
  go_wp2_with fail
  rw [← HMV.out, ← HWW.out, ← HG.out]
  go_region_held3 (fun w' => w'.cell? ⟨g, 2, none⟩ = some (.slice A n c) ∧ w'.cell? ⟨g, 3, none⟩ = some (.slice A' n' c')) (go_keep) (first
    | (refine step_append_R (by rfl) (.tmp 5) (.tmp 7) (by rfl) W.heap.size (.slice (some ⟨W.heap.size, 0, none⟩) 0 0) 0 [] (by rfl) (own_below HOE.out (Below.refl _ _).drew) (by simp) W.heap.size A n c xs (by rfl) (HX.out.keep HBE.out.drew) n (Nat.zero_add _) (rcells xs) (by rfl) (by omega) HBE.out.drew.size ?_; intro v1 w1 hown1 hgrow1 hne1; have HB1 := Lib.hid (HBE.out.drew.grown hgrow1 HBE.out.drew.size (fun z hz => by simp [Value.ownBlock] at hz; omega)); have HO1 := Lib.hid hown1; have HN1 := Lib.hid hne1; clear hown1 hgrow1 hne1; obtain ⟨_, _, j2, j3⟩ := en_facts (HW0.out.below HB1.out HW0.out.lt))
    | (refine step_append_R (by rfl) (.tmp 8) (.tmp 10) (by rfl) W.heap.size v1 n (rcells xs) (by rfl) HO1.out HN1.out W.heap.size A' n' c' ys (by rfl) (HY.out.keep HB1.out) (n + n') rfl (rcells (xs ++ ys)) (by rw [rcells_append]) (by omega) HB1.out.size ?_; intro v3 w3 hown3 hgrow3 hne3; have HB3 := Lib.hid (HB1.out.grown hgrow3 HB1.out.size (fun z hz => (HO1.out.lt z hz).1)); obtain ⟨A3, c3', rfl, hsee3⟩ := SeesR.own hown3; have HS3 := Lib.hid hsee3; clear hown3 hgrow3 hne3 hsee3; obtain ⟨_, _, i2, i3⟩ := en_facts (HW0.out.below HB3.out HW0.out.lt)))
  all_goals (
    have HB := Lib.hid (HB0.out.trans (HB3.out.mono HB0.out.size))
    clear c2 c3 e2 e3 j2 j3 i2 i3
    obtain ⟨all, hall⟩ : ∃ all, all = xs ++ ys := ⟨_, rfl⟩
    obtain ⟨N, hN⟩ : ∃ N, N = n + n' := ⟨_, rfl⟩
    rw [← hall, ← hN] at HS3
    rw [← hN]
    have hN2 : N ≤ 300000000 := by omega
    have HAL := Lib.hid (show all.length = N from HS3.out.1)
    have HFE := Lib.hid (show fewE xs ys = (all.all fewR && decide (N ≤ 30)) by unfold fewE; rw [← hall, HAL.out])
    clear hall hN
    go_wp2_with fail
    go_loopw [4] (fun i wr => ∃ k : Nat, k ≤ N ∧ i = .int .i64 (k : Nat) ∧ Upto fewR all k ∧ w3 = wr) (fun i _ => N - (intOf i).toNat)
    case atStart => exact ⟨0, Nat.zero_le _, rfl, Upto.zero _ _, rfl⟩
    case round =>
      obtain ⟨k, hk, rfl, hup, rfl⟩ := hrel
      have HU := Lib.hid hup
      clear hup
      by_cases hkn : k < N
      · have g2 : (k : Int) < (N : Int) := by omega
        obtain ⟨b, off, y, rfl, hb, hyk, ht⟩ := HS3.out.at hkn
        obtain ⟨x0, _, _, _, x4⟩ := ht
        have HYK := Lib.hid hyk
        clear hyk
        by_cases h6 : y.s.size ≤ 600
        · have g3 : decide ((600 : Int) < (y.s.size : Int)) = false := by rw [decide_eq_false_iff_not]; omega
          by_cases h7 : y.d.size ≤ 2000
          · have g4 : decide ((2000 : Int) < (y.d.size : Int)) = false := by rw [decide_eq_false_iff_not]; omega
            have HU2 := Lib.hid (HU.out.succ HYK.out (fewR_is.2 ⟨h6, h7⟩))
            clear h6 h7
            go_wp2_with fail
            go_roundw
            case rel => exact ⟨k + 1, by omega, by go_num, HU2.out, trivial⟩
            case measure => simp [intOf]; omega
          · have g4 : (2000 : Int) < (y.d.size : Int) := by omega
            have HO := Lib.hid (show fewE xs ys = false by rw [HFE.out, not_all HYK.out (by unfold fewR; simp; omega)]; rfl)
            clear h6 h7
            go_wp2_with fail
            go_ret
            exact ⟨by rw [HO.out]; rfl, HB.out⟩
        · have g3 : (600 : Int) < (y.s.size : Int) := by omega
          have HO := Lib.hid (show fewE xs ys = false by rw [HFE.out, not_all HYK.out (by unfold fewR; simp; omega)]; rfl)
          clear h6
          go_wp2_with fail
          go_ret
          exact ⟨by rw [HO.out]; rfl, HB.out⟩
      · obtain rfl : k = N := by omega
        have hu := HU.out
        rw [← HAL.out] at hu
        have HO := Lib.hid (show fewE xs ys = decide (k ≤ 30) by rw [HFE.out, hu.all]; rfl)
        clear hu
        by_cases h30 : k ≤ 30
        · have g3 : decide ((k : Int) ≤ 30) = true := by rw [decide_eq_true_iff]; omega
          have HO2 := Lib.hid (show fewE xs ys = true by rw [HO.out]; simp [h30])
          clear h30
          go_wp2_with fail
          go_ret
          exact ⟨by rw [HO2.out]; rfl, HB.out⟩
        · have g3 : decide ((k : Int) ≤ 30) = false := by rw [decide_eq_false_iff_not]; omega
          have HO2 := Lib.hid (show fewE xs ys = false by rw [HO.out]; simp [h30])
          clear h30
          go_wp2_with fail
          go_ret
          exact ⟨by rw [HO2.out]; rfl, HB.out⟩)

def rowR (l : List Rrd) (k : Nat) : List UInt8 := rowE (((l.take k).map Rrd.toRec).map ownE)
theorem rowR_succ {all : List Rrd} {k : Nat} {x : Rrd} (h : all[k]? = some x) : rowR all (k + 1) = rowR all k ++ (be (ownE x.toRec).length 4 ++ ownE x.toRec) := by
  unfold rowR
  rw [List.take_add_one, h]
  simp only [Option.toList_some, List.map_append, List.map_cons, List.map_nil, rowE_append, rowE, List.append_nil]
end Go.Proofs.YtggognnjnfphgaaGreatDoor
namespace Go.Proofs.YtggognnjnfphgaaGreatDoor
open Go.RowKit Go.Op

set_option maxHeartbeats 8000000 in
set_option maxRecDepth 20000 in
theorem Formed_any (f t : Int) (A A' : Option Addr) (n c n' c' : Nat) (xs ys : List Rrd) (w : World) (h1 : SeesR w w.heap.size A n xs) (h2 : SeesR w w.heap.size A' n' ys) (hn : n ≤ 1000) (hn' : n' ≤ 1000) (hsm : ∀ x ∈ xs ++ ys, x.s.size ≤ 600 ∧ x.d.size ≤ 2000) :
    Calls Tryz.prog 21 #[.agg (enA f t A n c A' n' c')] w fun e w' => e = .returned (.bool (okE (entOf f t xs ys))) ∧ Below w.heap.size w w' := by
  obtain ⟨W, hW⟩ : ∃ W, W = w.alloc (.cells (enA f t A n c A' n' c') enT) := ⟨_, rfl⟩
  obtain ⟨g, hg⟩ : ∃ g, g = w.heap.size := ⟨_, rfl⟩
  have HB0 := Lib.hid (show Below w.heap.size w W by rw [hW]; exact (Below.refl _ _).alloc (Nat.le_refl _) _)
  have HW0 := Lib.hid (show Whole W g enT (enA f t A n c A' n' c') by rw [hW, hg]; exact Whole.new w enT _)
  have HX := Lib.hid ((h1.keep HB0.out).more HB0.out.size)
  have HY := Lib.hid ((h2.keep HB0.out).more HB0.out.size)
  have HNX := Lib.hid h1.1
  have HNY := Lib.hid h2.1
  have HSM := Lib.hid hsm
  have HOK := Lib.hid (okE_is (f := f) (t := t) (xs := xs) (ys := ys))
  have HWW := Lib.hid hW
  have HG := Lib.hid hg
  have HMV := Lib.hid (show enA f t A n c A' n' c' = #[.int .u32 f, .int .u32 t, .slice A n c, .slice A' n' c'] from rfl)
  clear hW hg h1 h2 hsm
  rw [HMV.out]
  go_enter Tryz.func21, Tryz.ntmps21
  go_wp2_with fail
  rw [← HMV.out, ← HWW.out, ← HG.out]
  go_wp2_with fail
  go_loopw [3] (fun i wr => ∃ k : Nat, k ≤ n ∧ i = .int .i64 (k : Nat) ∧ Upto (fun x : Rrd => okR x.toRec) xs k ∧ Below W.heap.size W wr) (fun i _ => n - (intOf i).toNat)
  case atStart => exact ⟨0, Nat.zero_le _, rfl, Upto.zero _ _, Below.refl _ _⟩
  case round =>
    obtain ⟨k, hk, rfl, hup, hB⟩ := hrel
    have HU := Lib.hid hup
    have HB := Lib.hid hB
    obtain ⟨_, _, c2, c3⟩ := en_facts (HW0.out.below hB HW0.out.lt)
    clear hup hB
    by_cases hkn : k < n
    · have g2 : (k : Int) < (n : Int) := by omega
      have g0 : (0 : Int) ≤ (k : Int) := by omega
      obtain ⟨b, off, x, eA, hb, hxk, hx5⟩ := (HX.out.keep HB.out).at hkn
      rw [eA] at c2
      obtain ⟨x0, x1, x2, x3, x4⟩ := hx5
      have hx6 := (HSM.out x (by have := List.mem_of_getElem? hxk; simp [this])).2
      have hdl : x.toRec.d.length ≤ 2000 := by rw [rrd_data x, mk_size] at hx6; exact hx6
      have HRR := Lib.hid (fun (W : World) => (RefRRight_any x.s x.d x.toRec W (rrd_name x) (rrd_data x) (by omega) :
        Calls Tryz.prog 46 #[.agg #[.string x.s, .int .i64 x.t, .int .i64 x.c, .int .i64 x.l, .string x.d]] W fun e w' => e = .returned (.bool (okR x.toRec)) ∧ Below W.heap.size W w'))
      have HXK := Lib.hid hxk
      clear hxk hx6 hdl eA
      cases hok : okR x.toRec with
      | false =>
        have HN := Lib.hid (show okE (entOf f t xs ys) = false by rw [HOK.out]; exact not_all (xs := xs ++ ys) (k := k) (by rw [List.getElem?_append_left (by have := (List.getElem?_eq_some_iff.1 HXK.out).1; exact this)]; exact HXK.out) hok)
        have HO := Lib.hid hok
        clear hok
        go_wp2_with fail
        refine (HRR.out _).mono ?_
        rw [HO.out]
        rintro e w1 ⟨rfl, hB1⟩
        have HB1 := Lib.hid (HB0.out.trans ((HB.out.trans (hB1.mono HB.out.size)).mono HB0.out.size))
        clear hB1
        go_wp2_with fail
        go_ret
        exact ⟨by rw [HN.out]; rfl, HB1.out⟩
      | true =>
        have HU2 := Lib.hid (HU.out.succ HXK.out hok)
        have HO := Lib.hid hok
        clear hok
        go_wp2_with fail
        refine (HRR.out _).mono ?_
        rw [HO.out]
        rintro e w1 ⟨rfl, hB1⟩
        have HB1 := Lib.hid (HB.out.trans (hB1.mono HB.out.size))
        clear hB1
        go_wp2_with fail
        go_roundw
        case rel => exact ⟨k + 1, by omega, by go_num, HU2.out, HB1.out⟩
        case measure => simp [intOf]; omega
    · obtain rfl : k = n := by omega
      have hu := HU.out
      rw [← HNX.out] at hu
      have HXA := Lib.hid hu.all
      have HBX := Lib.hid HB.out
      clear hu
      go_wp2_with fail
      go_loopw [4] (fun i wr => ∃ k : Nat, k ≤ n' ∧ i = .int .i64 (k : Nat) ∧ Upto (fun x : Rrd => okR x.toRec) ys k ∧ Below W.heap.size W wr) (fun i _ => n' - (intOf i).toNat)
      case atStart => exact ⟨0, Nat.zero_le _, rfl, Upto.zero _ _, HBX.out⟩
      case round =>
        obtain ⟨k, hk, rfl, hup, hB⟩ := hrel
        have HU := Lib.hid hup
        have HB := Lib.hid hB
        obtain ⟨_, _, c2, c3⟩ := en_facts (HW0.out.below hB HW0.out.lt)
        clear hup hB
        by_cases hkn : k < n'
        · have g2 : (k : Int) < (n' : Int) := by omega
          have g0 : (0 : Int) ≤ (k : Int) := by omega
          obtain ⟨b, off, x, eA, hb, hxk, hx5⟩ := (HY.out.keep HB.out).at hkn
          rw [eA] at c3
          obtain ⟨x0, x1, x2, x3, x4⟩ := hx5
          have hx6 := (HSM.out x (by have := List.mem_of_getElem? hxk; simp [this])).2
          have hdl : x.toRec.d.length ≤ 2000 := by rw [rrd_data x, mk_size] at hx6; exact hx6
          have HRR := Lib.hid (fun (W : World) => (RefRRight_any x.s x.d x.toRec W (rrd_name x) (rrd_data x) (by omega) :
            Calls Tryz.prog 46 #[.agg #[.string x.s, .int .i64 x.t, .int .i64 x.c, .int .i64 x.l, .string x.d]] W fun e w' => e = .returned (.bool (okR x.toRec)) ∧ Below W.heap.size W w'))
          have HXK := Lib.hid hxk
          clear hxk hx6 hdl eA
          cases hok : okR x.toRec with
          | false =>
            have HN := Lib.hid (show okE (entOf f t xs ys) = false by rw [HOK.out]; exact not_all (xs := xs ++ ys) (k := xs.length + k) (by rw [List.getElem?_append_right (by omega), Nat.add_sub_cancel_left]; exact HXK.out) hok)
            have HO := Lib.hid hok
            clear hok
            go_wp2_with fail
            refine (HRR.out _).mono ?_
            rw [HO.out]
            rintro e w1 ⟨rfl, hB1⟩
            have HB1 := Lib.hid (HB0.out.trans ((HB.out.trans (hB1.mono HB.out.size)).mono HB0.out.size))
            clear hB1
            go_wp2_with fail
            go_ret
            exact ⟨by rw [HN.out]; rfl, HB1.out⟩
          | true =>
            have HU2 := Lib.hid (HU.out.succ HXK.out hok)
            have HO := Lib.hid hok
            clear hok
            go_wp2_with fail
            refine (HRR.out _).mono ?_
            rw [HO.out]
            rintro e w1 ⟨rfl, hB1⟩
            have HB1 := Lib.hid (HB.out.trans (hB1.mono HB.out.size))
            clear hB1
            go_wp2_with fail
            go_roundw
            case rel => exact ⟨k + 1, by omega, by go_num, HU2.out, HB1.out⟩
            case measure => simp [intOf]; omega
        · obtain rfl : k = n' := by omega
          have hu := HU.out
          rw [← HNY.out] at hu
          have HALL := Lib.hid (show okE (entOf f t xs ys) = true by rw [HOK.out, List.all_append, HXA.out, hu.all]; rfl)
          clear hu
          go_wp2_with fail
          go_ret
          exact ⟨by rw [HALL.out]; rfl, HB0.out.trans (HB.out.mono HB0.out.size)⟩

theorem rowE_le {l : List Rrd} (hok : ∀ x ∈ l, okR x.toRec = true) (hd : ∀ x ∈ l, x.s.size ≤ 600 ∧ x.d.size ≤ 2000) : (rowE ((l.map Rrd.toRec).map ownE)).length ≤ l.length * 2269 := by
  have := rowE_len 2265 ((l.map Rrd.toRec).map ownE) (fun y hy => by
    obtain ⟨r, hr, rfl⟩ := List.mem_map.1 hy
    obtain ⟨x, hx, rfl⟩ := List.mem_map.1 hr
    have h1 := own_len (hok x hx)
    have h2 := (hd x hx).2
    rw [rrd_data x, mk_size] at h2
    omega)
  simpa using this
set_option maxHeartbeats 4000000 in
set_option maxRecDepth 20000 in
theorem ESame_yes (f t : Int) (A A' B B' : Option Addr) (n c n' c' m k m' k' : Nat) (xs ys : List Rrd) (w : World) (h1 : SeesR w w.heap.size A n xs) (h2 : SeesR w w.heap.size A' n' ys) (h3 : SeesR w w.heap.size B m xs) (h4 : SeesR w w.heap.size B' m' ys) (hn : n ≤ 1073741824) (hn' : n' ≤ 1073741824) :
    Calls Tryz.prog 36 #[.agg (enA f t A n c A' n' c'), .agg (enA f t B m k B' m' k')] w fun e w' => e = .returned (.bool true) ∧ Below w.heap.size w w' := by
  obtain ⟨W, hW⟩ : ∃ W, W = (w.alloc (.cells (enA f t A n c A' n' c') enT)).alloc (.cells (enA f t B m k B' m' k') enT) := ⟨_, rfl⟩
  have hb1 : Below w.heap.size w W := by rw [hW]; exact ((Below.refl _ _).alloc (Nat.le_refl _) _).alloc (by simp) _
  have hw1 : Whole W w.heap.size enT (enA f t A n c A' n' c') := by rw [hW]; exact (Whole.new w enT _).alloc _
  have hw2 : Whole W (w.heap.size + 1) enT (enA f t B m k B' m' k') := by
    rw [hW]
    have := Whole.new (w.alloc (.cells (enA f t A n c A' n' c') enT)) enT (enA f t B m k B' m' k')
    rw [World.size_alloc] at this
    exact this
  have HB1 := Lib.hid hb1
  have HW1 := Lib.hid hw1
  have HW2 := Lib.hid hw2
  have H1 := Lib.hid ((h1.keep hb1).more hb1.size)
  have H2 := Lib.hid ((h2.keep hb1).more hb1.size)
  have H3 := Lib.hid ((h3.keep hb1).more hb1.size)
  have H4 := Lib.hid ((h4.keep hb1).more hb1.size)
  obtain ⟨c0, c1, c2, c3⟩ := en_facts hw1
  obtain ⟨d0, d1, d2, d3⟩ := en_facts hw2
  have HWW := Lib.hid hW
  clear hW hb1 hw1 hw2 h1 h2 h3 h4
  have HMV := Lib.hid (show enA f t A n c A' n' c' = #[.int .u32 f, .int .u32 t, .slice A n c, .slice A' n' c'] from rfl)
  have HMW := Lib.hid (show enA f t B m k B' m' k' = #[.int .u32 f, .int .u32 t, .slice B m k, .slice B' m' k'] from rfl)
  rw [HMV.out, HMW.out]
  go_enter Tryz.func36, Tryz.ntmps36
  go_wp2_with fail
  rw [← HMV.out, ← HMW.out, ← HWW.out]
  go_wp2_with fail
  refine (SameR_yes A B n c m k xs _ H1.out H3.out hn).mono ?_
  rintro e w1 ⟨rfl, hB⟩
  have HB2 := Lib.hid (HB1.out.trans (hB.mono HB1.out.size))
  have K2 := Lib.hid ((H2.out.keep hB).more hB.size)
  have K4 := Lib.hid ((H4.out.keep hB).more hB.size)
  obtain ⟨_, _, _, e3⟩ := en_facts (HW1.out.below hB HW1.out.lt)
  obtain ⟨_, _, _, f3⟩ := en_facts (HW2.out.below hB HW2.out.lt)
  clear hB c0 c1 c2 c3 d0 d1 d2 d3
  go_wp2_with fail
  refine (SameR_yes A' B' n' c' m' k' ys _ K2.out K4.out hn').mono ?_
  rintro e w2 ⟨rfl, hB⟩
  have HB3 := Lib.hid (HB2.out.trans (hB.mono HB2.out.size))
  clear hB
  go_wp2_with fail
  go_ret
  exact ⟨rfl, HB3.out⟩
end Go.Proofs.YtggognnjnfphgaaGreatDoor
