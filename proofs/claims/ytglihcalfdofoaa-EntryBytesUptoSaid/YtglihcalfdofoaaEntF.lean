/- The reference's Few, Own, four, Pieces, Formed, Bytes, Same. No statement of the seat is proved here. -/
import Derived.Test.YtglihcalfdofoaaEntD
import Derived.Test.YtglihcalfdofoaaReN
import Derived.Test.YtglihcalfdofoaaOcA
import Derived.BigQuiet
namespace Go.Proofs.Ytglihcalfdofoaa
open Go.RowKit Go.Op

def fewR (x : Rrd) : Bool := decide (x.s.size ≤ 600) && decide (x.d.size ≤ 2000)
theorem fewR_is {x : Rrd} : fewR x = true ↔ x.s.size ≤ 600 ∧ x.d.size ≤ 2000 := by unfold fewR; simp
def fewE (xs ys : List Rrd) : Bool := (xs ++ ys).all fewR && decide ((xs ++ ys).length ≤ 30)
set_option maxHeartbeats 8000000 in
set_option maxRecDepth 20000 in
theorem Few_any (f t : Int) (A A' : Option Addr) (n c n' c' : Nat) (xs ys : List Rrd) (w : World) (h1 : SeesR w w.heap.size A n xs) (h2 : SeesR w w.heap.size A' n' ys) (hn : n ≤ 100000000) (hn' : n' ≤ 100000000) :
    Calls Try.prog 8 #[.agg (enA f t A n c A' n' c')] w fun e w' => e = .returned (.bool (fewE xs ys)) ∧ Below w.heap.size w w' := by
  obtain ⟨W, hW⟩ : ∃ W, W = w.alloc (.cells (enA f t A n c A' n' c') enT) := ⟨_, rfl⟩
  obtain ⟨g, hg⟩ : ∃ g, g = w.heap.size := ⟨_, rfl⟩
  have HB0 := Lib.hid (show Below w.heap.size w W by rw [hW]; exact (Below.refl _ _).alloc (Nat.le_refl _) _)
  have HW0 := Lib.hid (show Whole W g enT (enA f t A n c A' n' c') by rw [hW, hg]; exact Whole.new w enT _)
  have HX := Lib.hid ((h1.keep HB0.out).more HB0.out.size)
  have HY := Lib.hid ((h2.keep HB0.out).more HB0.out.size)
  have HWW := Lib.hid hW
  have HG := Lib.hid hg
  have HMV := Lib.hid (show enA f t A n c A' n' c' = #[.int .u32 f, .int .u32 t, .slice A n c, .slice A' n' c'] from rfl)
  clear hW hg h1 h2
  obtain ⟨_, _, c2, c3⟩ := en_facts HW0.out
  have HWE := Lib.hid (HW0.out.alloc (.cells #[] 44))
  have HBE := Lib.hid (show Below W.heap.size W (W.alloc (.cells #[] 44)) from (Below.refl _ _).alloc (Nat.le_refl _) _)
  have HOE := Lib.hid (own_noneR W W.heap.size (Nat.le_refl _))
  obtain ⟨_, _, e2, e3⟩ := en_facts HWE.out
  rw [HMV.out]
  go_enter Try.func8, Try.ntmps8
  go_wp2_with fail
  rw [← HMV.out, ← HWW.out, ← HG.out]
  go_region_held3 (fun w' => w'.cell? ⟨g, 2, none⟩ = some (.slice A n c) ∧ w'.cell? ⟨g, 3, none⟩ = some (.slice A' n' c')) (go_keep) (first
    | (refine step_append_R (by rfl) (.tmp 5) (.tmp 7) (by rfl) W.heap.size (.slice (some ⟨W.heap.size, 0, none⟩) 0 0) 0 [] (by rfl) (own_below HOE.out (Below.refl _ _).drew) (by simp) W.heap.size A n c xs (by rfl) (HX.out.keep HBE.out.drew) n (Nat.zero_add _) (rcells xs) (by rfl) (by omega) HBE.out.drew.size ?_; intro v1 w1 hown1 hgrow1 hne1; have HB1 := Lib.hid (HBE.out.drew.grown hgrow1 HBE.out.drew.size (fun z hz => by simp [Value.ownBlock] at hz; omega)); have HO1 := Lib.hid hown1; have HN1 := Lib.hid hne1; clear hown1 hgrow1 hne1; obtain ⟨_, _, j2, j3⟩ := en_facts (HW0.out.below HB1.out HW0.out.lt))
    | (refine step_append_R (by rfl) (.tmp 8) (.tmp 10) (by rfl) W.heap.size v1 n (rcells xs) (by rfl) HO1.out HN1.out W.heap.size A' n' c' ys (by rfl) (HY.out.keep HB1.out) (n + n') rfl (rcells (xs ++ ys)) (by rw [rcells_append]) (by omega) HB1.out.size ?_; intro v3 w3 hown3 hgrow3 hne3; have HB3 := Lib.hid (HB1.out.grown hgrow3 HB1.out.size (fun z hz => (HO1.out.lt z hz).1)); obtain ⟨A3, c3', rfl, hsee3⟩ := SeesR.own hown3; have HS3 := Lib.hid hsee3; clear hown3 hgrow3 hne3 hsee3; obtain ⟨_, _, i2, i3⟩ := en_facts (HW0.out.below HB3.out HW0.out.lt)))
  all_goals (
    have HB := Lib.hid (HB0.out.trans (HB3.out.mono HB0.out.size))
    clear c2 c3 e2 e3 j2 j3 i2 i3
    obtain ⟨all, hall⟩ : ∃ all, all = xs ++ ys := ⟨_, rfl⟩
    obtain ⟨N, hN⟩ : ∃ N, N = n + n' := ⟨_, rfl⟩
    rw [← hall, ← hN] at HS3
    rw [← hN]
    have hN2 : N ≤ 300000000 := by omega
    have HAL := Lib.hid (show all.length = N from HS3.out.1)
    have HFE := Lib.hid (show fewE xs ys = (all.all fewR && decide (N ≤ 30)) by unfold fewE; rw [← hall, HAL.out])
    clear hall hN
    go_wp2_with fail
    go_loopw [4] (fun i wr => ∃ k : Nat, k ≤ N ∧ i = .int .i64 (k : Nat) ∧ Upto fewR all k ∧ w3 = wr) (fun i _ => N - (intOf i).toNat)
    case atStart => exact ⟨0, Nat.zero_le _, rfl, Upto.zero _ _, rfl⟩
    case round =>
      obtain ⟨k, hk, rfl, hup, rfl⟩ := hrel
      have HU := Lib.hid hup
      clear hup
      by_cases hkn : k < N
      · have g2 : (k : Int) < (N : Int) := by omega
        obtain ⟨b, off, y, rfl, hb, hyk, ht⟩ := HS3.out.at hkn
        obtain ⟨x0, _, _, _, x4⟩ := ht
        have HYK := Lib.hid hyk
        clear hyk
        by_cases h6 : y.s.size ≤ 600
        · have g3 : decide ((600 : Int) < (y.s.size : Int)) = false := by rw [decide_eq_false_iff_not]; omega
          by_cases h7 : y.d.size ≤ 2000
          · have g4 : decide ((2000 : Int) < (y.d.size : Int)) = false := by rw [decide_eq_false_iff_not]; omega
            have HU2 := Lib.hid (HU.out.succ HYK.out (fewR_is.2 ⟨h6, h7⟩))
            clear h6 h7
            go_wp2_with fail
            go_roundw
            case rel => exact ⟨k + 1, by omega, by go_num, HU2.out, trivial⟩
            case measure => simp [intOf]; omega
          · have g4 : (2000 : Int) < (y.d.size : Int) := by omega
            have HO := Lib.hid (show fewE xs ys = false by rw [HFE.out, not_all HYK.out (by unfold fewR; simp; omega)]; rfl)
            clear h6 h7
            go_wp2_with fail
            go_ret
            exact ⟨by rw [HO.out]; rfl, HB.out⟩
        · have g3 : (600 : Int) < (y.s.size : Int) := by omega
          have HO := Lib.hid (show fewE xs ys = false by rw [HFE.out, not_all HYK.out (by unfold fewR; simp; omega)]; rfl)
          clear h6
          go_wp2_with fail
          go_ret
          exact ⟨by rw [HO.out]; rfl, HB.out⟩
      · obtain rfl : k = N := by omega
        have hu := HU.out
        rw [← HAL.out] at hu
        have HO := Lib.hid (show fewE xs ys = decide (k ≤ 30) by rw [HFE.out, hu.all]; rfl)
        clear hu
        by_cases h30 : k ≤ 30
        · have g3 : decide ((k : Int) ≤ 30) = true := by rw [decide_eq_true_iff]; omega
          have HO2 := Lib.hid (show fewE xs ys = true by rw [HO.out]; simp [h30])
          clear h30
          go_wp2_with fail
          go_ret
          exact ⟨by rw [HO2.out]; rfl, HB.out⟩
        · have g3 : decide ((k : Int) ≤ 30) = false := by rw [decide_eq_false_iff_not]; omega
          have HO2 := Lib.hid (show fewE xs ys = false by rw [HO.out]; simp [h30])
          clear h30
          go_wp2_with fail
          go_ret
          exact ⟨by rw [HO2.out]; rfl, HB.out⟩)

theorem rp_field (N : ByteArray) (A : Option Addr) (l c : Nat) (w : World) : (Instr.field rpT (.agg #[.string N, .slice A l c]) 0).run Try.prog w = .ok (.string N) w := by
  have a1 := Try.isAgg9
  unfold Instr.field
  simp [Sem.run_bind, run_underlying Try.underlying77, part, asAgg, Result.andThen, a1]
set_option maxHeartbeats 2000000 in
set_option maxRecDepth 20000 in
theorem RefOwn_any (N D : ByteArray) (r : Rec) (w : World) (hN : N = mk r.n) (hD : D = mk r.d) (hok : okR r = true) :
    Calls Try.prog 20 #[.agg (rrA N D r.t r.c r.l)] w fun e w' => e = .returned (.string (mk (ownE r))) ∧ Below w.heap.size w w' := by
  have HB0 := Lib.hid (show Below w.heap.size w (w.alloc (.cells (rrA N D r.t r.c r.l) rrT)) from (Below.refl _ _).alloc (Nat.le_refl _) _)
  have HW0 := Lib.hid (Whole.new w rrT (rrA N D r.t r.c r.l))
  obtain ⟨c0, c1, c2, c3, c4⟩ := rr_facts HW0.out
  have HN := Lib.hid hN
  have HD := Lib.hid hD
  have HOK := Lib.hid hok
  clear hN hD hok
  unfold rrA at *
  go_enter Try.func20, Try.ntmps20
  go_wp2_with fail
  refine (RefRWrite_any _ [] noneK _ N D r (RefPk.zero _) (by simp) HN.out HD.out HOK.out InvK.none).mono ?_
  rintro e w1 ⟨v', rfl, hr, hB⟩
  obtain ⟨A1, m1, k1, KL1, rfl, _⟩ := hr
  have HB1 := Lib.hid (HB0.out.trans (hB.mono HB0.out.size))
  clear hB c0 c1 c2 c3 c4
  unfold rpV
  have hfl : ∀ (N : ByteArray) (A : Option Addr) (l c : Nat) (w : World), (Instr.field 77 (.agg #[.string N, .slice A l c]) 0).run Try.prog w = .ok (.string N) w := rp_field
  go_wp2_with fail
  go_ret
  exact ⟨rfl, HB1.out⟩
set_option maxHeartbeats 1000000 in
theorem four17_any (n : Nat) (w : World) (hn : n < 4294967296) : Calls Try.prog 25 #[.int .u64 (n : Nat)] w fun en w' => en = .returned (.string (mk (be n 4))) ∧ Below w.heap.size w w' := by
  go_enter Try.func25, Try.ntmps25
  go_wp2_with fail
  refine (RefBytes_any n 4 _ (by omega) (by omega)).mono ?_
  rintro en w1 ⟨rfl, hB⟩
  go_wp2_with fail
  go_ret
  exact ⟨rfl, hB⟩
def rowR (l : List Rrd) (k : Nat) : List UInt8 := rowE (((l.take k).map Rrd.toRec).map ownE)
theorem rowR_succ {all : List Rrd} {k : Nat} {x : Rrd} (h : all[k]? = some x) : rowR all (k + 1) = rowR all k ++ (be (ownE x.toRec).length 4 ++ ownE x.toRec) := by
  unfold rowR
  rw [List.take_add_one, h]
  simp only [Option.toList_some, List.map_append, List.map_cons, List.map_nil, rowE_append, rowE, List.append_nil]
set_option maxHeartbeats 4000000 in
set_option maxRecDepth 20000 in
theorem RefPieces17_any (A : Option Addr) (n c : Nat) (xs : List Rrd) (w : World) (h : SeesR w w.heap.size A n xs) (hn : n ≤ 30) (hok : ∀ x ∈ xs, okR x.toRec = true) (hsm : ∀ x ∈ xs, x.s.size ≤ 600 ∧ x.d.size ≤ 2000) :
    Calls Try.prog 26 #[.slice A n c] w fun e w' => e = .returned (.string (mk (rowE ((xs.map Rrd.toRec).map ownE)))) ∧ Below w.heap.size w w' := by
  have HX := Lib.hid h
  have HL := Lib.hid (show rowE ((xs.map Rrd.toRec).map ownE) = rowR xs n by unfold rowR; rw [← h.1, List.take_length])
  have HOK := Lib.hid hok
  have HSM := Lib.hid hsm
  clear h hok hsm
  go_enter Try.func26, Try.ntmps26
  go_wp2_with fail
  go_loopw [3, 4] (fun s i wr => ∃ k : Nat, k ≤ n ∧ i = .int .i64 (k : Nat) ∧ s = .string (mk (rowR xs k)) ∧ (rowR xs k).length ≤ k * 2269 ∧ Below w.heap.size w wr) (fun _ i _ => n - (intOf i).toNat)
  case atStart => exact ⟨0, Nat.zero_le _, rfl, rfl, by simp [rowR, rowE], Below.refl _ _⟩
  case round =>
    obtain ⟨k, hk, rfl, rfl, hlen, hB⟩ := hrel
    have HB := Lib.hid hB
    by_cases hkn : k < n
    · have g2 : (k : Int) < (n : Int) := by omega
      have g0 : (0 : Int) ≤ (k : Int) := by omega
      obtain ⟨b, off, x, rfl, hb, hxk, hx5⟩ := (HX.out.keep HB.out).at hkn
      have hok := HOK.out x (List.mem_of_getElem? hxk)
      have hx6 := HSM.out x (List.mem_of_getElem? hxk)
      have hdl : x.toRec.d.length ≤ 2000 := by have := hx6.2; rw [rrd_data x, mk_size] at this; exact this
      have hol : (ownE x.toRec).length ≤ 2265 := by have := own_len hok; omega
      have HOW := Lib.hid (fun (W : World) => (RefOwn_any x.s x.d x.toRec W (rrd_name x) (rrd_data x) hok :
        Calls Try.prog 20 #[.agg #[.string x.s, .int .i64 x.t, .int .i64 x.c, .int .i64 x.l, .string x.d]] W fun e w' => e = .returned (.string (mk (ownE x.toRec))) ∧ Below W.heap.size W w'))
      have hsu := rowR_succ hxk
      have hL2 : (rowR xs (k + 1)).length ≤ (k + 1) * 2269 := by rw [hsu]; simp only [List.length_append, be_length]; omega
      have hk30 : k * 2269 ≤ 68070 := by omega
      have HL2 := Lib.hid hL2
      obtain ⟨O, hO⟩ : ∃ O, O = ownE x.toRec := ⟨_, rfl⟩
      rw [← hO] at hsu hol HOW
      have hz1 : (mk (be O.length 4)).size + (mk O).size ≤ 100000 := by rw [mk_size, mk_size, be_length]; omega
      have hz2 : (mk (rowR xs k)).size + (mk (be O.length 4) ++ mk O).size ≤ 1000000 := by rw [mk_append, mk_size, mk_size, List.length_append, be_length]; omega
      have hoz : (mk O).size = O.length := mk_size O
      have u1 : IntKind.u64.wrap (O.length : Int) = (O.length : Int) := by rw [IntKind.wrap_u64]; omega
      have HSU := Lib.hid (show mk (rowR xs k) ++ (mk (be O.length 4) ++ mk O) = mk (rowR xs (k + 1)) by rw [mk_append, mk_append, hsu])
      obtain ⟨x0, x1, x2, x3, x4⟩ := hx5
      have HO := Lib.hid hO
      clear hB hxk hok hx6 hdl hsu hL2 hO
      go_wp2_with fail
      refine (HOW.out _).mono ?_
      rintro e w1 ⟨rfl, hB1⟩
      have HB1 := Lib.hid (HB.out.trans (hB1.mono HB.out.size))
      clear hB1 x0 x1 x2 x3 x4
      go_wp2_with fail
      refine (four17_any O.length _ (by omega)).mono ?_
      rintro e w2 ⟨rfl, hB2⟩
      have HB2 := Lib.hid (HB1.out.trans (hB2.mono HB1.out.size))
      clear hB2
      go_wp2_with fail
      go_roundw
      case rel => exact ⟨k + 1, by omega, by go_num, by rw [← HSU.out], HL2.out, HB2.out⟩
      case measure => simp [intOf]; omega
    · obtain rfl : k = n := by omega
      go_wp2_with fail
      go_ret
      exact ⟨by rw [HL.out]; rfl, HB.out⟩
end Go.Proofs.Ytglihcalfdofoaa
