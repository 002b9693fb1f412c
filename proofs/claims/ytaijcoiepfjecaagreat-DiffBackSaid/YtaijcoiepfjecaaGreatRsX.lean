/- RsX: texts RsX, RsZ of our own, joined. No statement of the seat is proved here. -/
import Derived.Test.YtaijcoiepfjecaaGreatRsW
namespace Go.Proofs.YtaijcoiepfjecaaGreat
open Go.RowKit

theorem sym_all : ∀ N, SymN N := by
  intro N
  induction N with
  | zero =>
    intro base g n c a m b P L R Q w hN _ _ _ hL _
    have := List.length_pos_iff.2 hL
    omega
  | succ N IH =>
    intro base g n c a m b P L R Q w hN ha hm hb hL hR hs hsR hNL hNR hn h
    have l1 := List.length_pos_iff.2 hL
    have l2 := List.length_pos_iff.2 hR
    by_cases e1 : L.length = 1
    · obtain ⟨x, rfl⟩ := List.length_eq_one_iff.1 e1
      exact sym_left base g n c a m b P R Q x w ha (by simpa using hm) (by simpa using hb) hsR (hNL x (by simp)) hNR hn h
    · by_cases e2 : R.length = 1
      · obtain ⟨y, rfl⟩ := List.length_eq_one_iff.1 e2
        exact sym_right base g n c a m b P L Q y w ha hm (by simpa using hb) e1 hs (hNR y (by simp)) hNL hn h
      · by_cases e3 : (a + b) / 2 < m
        · exact sym_hi N base g n c a m b _ P L R Q w IH hN ha hm hb (by omega) (by omega) rfl e3 hs hsR hNL hNR hn h
        · exact sym_lo N base g n c a m b _ P L R Q w IH hN ha hm hb (by omega) (by omega) rfl (by omega) hs hsR hNL hNR hn h

theorem insertion_none (A : Option Addr) (n c a : Nat) (w : World) (ha : a ≤ 1000000) :
    Calls Tryz.prog 132 #[.slice A n c, .int .i64 (a : Nat), .int .i64 (a : Nat), cmpF] w fun e w' => e = .returned (.tuple #[]) ∧ w' = w := by
  have g1 : ¬ (a : Int) + 1 < (a : Int) := by omega
  go_enter Tryz.func132, Tryz.ntmps132
  go_wp2_with fail
  refine wp_loop_rounds 1 ?_
  rw [rounds_succ]
  go_wp2_with fail
  go_end0
  exact ⟨rfl, rfl⟩

/-- what the sort leaves -/
def SortedX (base g n c : Nat) (D : List Rrd) (w : World) (e : Ending) (w' : World) : Prop :=
  e = .returned (.tuple #[]) ∧ ∃ D', Srt cX D' ∧ St cX D D' ∧ RowX base g n c D' w' ∧ w.grownBy w' (some g)

set_option maxHeartbeats 4000000 in
theorem stable_under (base g n c : Nat) (D : List Rrd) (w : World) (h0 : 0 < n) (hn : n < 20) (hN : OkL D) (h : RowX base g n c D w) :
    Calls Tryz.prog 98 #[.slice (some ⟨g, 0, none⟩) n c, .int .i64 (n : Nat), cmpF] w (SortedX base g n c D w) := by
  have hl := h.len
  have g1 : ¬ (20 : Int) ≤ (n : Int) := by omega
  have g2 : ¬ (20 : Int) < (n : Int) := by omega
  have hD : D ≠ [] := List.length_pos_iff.1 (by omega)
  have HL := Lib.hid hl
  have HN := Lib.hid hN
  have HD := Lib.hid hD
  have H := Lib.hid (show RowX base g n c ([] ++ D ++ []) w by simpa using h)
  clear hl hN hD h
  go_enter Tryz.func98, Tryz.ntmps98
  go_wp2_with fail
  refine wp_loop_rounds 1 ?_
  rw [rounds_succ]
  go_wp2_with fail
  refine (insertion_any base g n c 0 n [] D [] _ rfl (by have := HL.out; simp; omega) HD.out HN.out (by omega) H.out).mono ?_
  rintro e w1 ⟨rfl, D', k1, k2, k3, k4⟩
  have K1 := Lib.hid k1
  have K2 := Lib.hid k2
  have K3 := Lib.hid k3
  have K4 := Lib.hid k4
  clear k1 k2 k3 k4
  go_wp2_with fail
  refine wp_loop_rounds 1 ?_
  rw [rounds_succ]
  go_wp2_with fail
  go_end0
  exact ⟨rfl, D', K1.out, K2.out, by simpa using K3.out, K4.out⟩

set_option maxHeartbeats 4000000 in
theorem stable_at (base g c : Nat) (D : List Rrd) (w : World) (hN : OkL D) (h : RowX base g 20 c D w) :
    Calls Tryz.prog 98 #[.slice (some ⟨g, 0, none⟩) 20 c, .int .i64 (20 : Nat), cmpF] w (SortedX base g 20 c D w) := by
  have hl := h.len
  have hD : D ≠ [] := List.length_pos_iff.1 (by omega)
  have HL := Lib.hid hl
  have HN := Lib.hid hN
  have HD := Lib.hid hD
  have H := Lib.hid (show RowX base g 20 c ([] ++ D ++ []) w by simpa using h)
  clear hl hN hD h
  go_enter Tryz.func98, Tryz.ntmps98
  go_wp2_with fail
  refine wp_loop_rounds 2 ?_
  rw [rounds_succ]
  go_wp2_with fail
  refine (insertion_any base g 20 c 0 20 [] D [] _ rfl (by have := HL.out; simp; omega) HD.out HN.out (by omega) H.out).mono ?_
  rintro e w1 ⟨rfl, D', k1, k2, k3, k4⟩
  have K1 := Lib.hid k1
  have K2 := Lib.hid k2
  have K3 := Lib.hid k3
  have K4 := Lib.hid k4
  clear k1 k2 k3 k4
  go_wp2_with fail
  rw [rounds_succ]
  go_wp2_with fail
  refine (insertion_none (some ⟨g, 0, none⟩) 20 c 20 _ (by omega)).mono ?_
  rintro e w2 ⟨rfl, rfl⟩
  go_wp2_with fail
  refine wp_loop_rounds 1 ?_
  rw [rounds_succ]
  go_wp2_with fail
  go_end0
  exact ⟨rfl, D', K1.out, K2.out, by simpa using K3.out, K4.out⟩

set_option maxHeartbeats 4000000 in
theorem stable_over (base g n c : Nat) (D : List Rrd) (w : World) (h0 : 20 < n) (hn : n < 40) (hN : OkL D) (h : RowX base g n c D w) :
    Calls Tryz.prog 98 #[.slice (some ⟨g, 0, none⟩) n c, .int .i64 (n : Nat), cmpF] w (SortedX base g n c D w) := by
  have hl := h.len
  have g1 : (20 : Int) ≤ (n : Int) := by omega
  have g2 : (20 : Int) < (n : Int) := by omega
  have g3 : ¬ (40 : Int) ≤ (n : Int) := by omega
  have g4 : ¬ (40 : Int) < (n : Int) := by omega
  have hsp := List.take_append_drop 20 D
  obtain ⟨D1, hD1⟩ : ∃ D1, D1 = D.take 20 := ⟨_, rfl⟩
  obtain ⟨D2, hD2⟩ : ∃ D2, D2 = D.drop 20 := ⟨_, rfl⟩
  have l1 : D1.length = 20 := by rw [hD1, List.length_take]; omega
  have l2 : D2.length = n - 20 := by rw [hD2, List.length_drop]; omega
  rw [← hD1, ← hD2] at hsp
  subst hsp
  have HN1 := Lib.hid hN.left
  have HN2 := Lib.hid hN.right
  have L1 := Lib.hid l1
  have L2 := Lib.hid l2
  have E1 := Lib.hid (show D1 ≠ [] from List.length_pos_iff.1 (by omega))
  have E2 := Lib.hid (show D2 ≠ [] from List.length_pos_iff.1 (by omega))
  have H := Lib.hid (show RowX base g n c ([] ++ D1 ++ D2) w by simpa using h)
  clear hl hN h l1 l2 hD1 hD2
  go_enter Tryz.func98, Tryz.ntmps98
  go_wp2_with fail
  refine wp_loop_rounds 2 ?_
  rw [rounds_succ]
  go_wp2_with fail
  refine (insertion_any base g n c 0 20 [] D1 D2 _ rfl (by have := L1.out; simp; omega) E1.out HN1.out (by omega) H.out).mono ?_
  rintro e w1 ⟨rfl, M1, k1, k2, k3, k4⟩
  have K1 := Lib.hid k1
  have K2 := Lib.hid k2
  have K3 := Lib.hid (show RowX base g n c (M1 ++ D2 ++ []) w1 by simpa using k3)
  have K4 := Lib.hid k4
  have LM1 := Lib.hid (show M1.length = 20 by rw [← k2.1.length_eq]; exact L1.out)
  clear k1 k2 k3 k4
  go_wp2_with fail
  rw [rounds_succ]
  go_wp2_with fail
  refine (insertion_any base g n c 20 n M1 D2 [] _ LM1.out.symm (by have := LM1.out; have := L2.out; omega) E2.out HN2.out (by omega) K3.out).mono ?_
  rintro e w2 ⟨rfl, M2, k1, k2, k3, k4⟩
  have K5 := Lib.hid k1
  have K6 := Lib.hid k2
  have K7 := Lib.hid (show RowX base g n c ([] ++ M1 ++ M2 ++ []) w2 by simpa using k3)
  have K8 := Lib.hid (grown_trans K4.out k4)
  have LM2 := Lib.hid (show M2.length = n - 20 by rw [← k2.1.length_eq]; exact L2.out)
  have F1 := Lib.hid (show M1 ≠ [] from List.length_pos_iff.1 (by rw [LM1.out]; omega))
  have F2 := Lib.hid (show M2 ≠ [] from List.length_pos_iff.1 (by rw [LM2.out]; omega))
  clear k1 k2 k3 k4
  go_wp2_with fail
  refine wp_loop_rounds 2 ?_
  rw [rounds_succ]
  go_wp2_with fail
  refine wp_loop_rounds 1 ?_
  rw [rounds_succ]
  go_wp2_with fail
  refine (sym_all _ base g n c 0 20 n [] M1 M2 [] _ (Nat.le_refl _) rfl (by have := LM1.out; simp; omega) (by have := LM1.out; have := LM2.out; simp; omega) F1.out F2.out K1.out K5.out (HN1.out.st K2.out) (HN2.out.st K6.out) (by omega) K7.out).mono ?_
  rintro e w3 ⟨rfl, M, k1, k2, k3, k4⟩
  have K9 := Lib.hid k1
  have K10 := Lib.hid ((K2.out.append K6.out).trans k2)
  have K11 := Lib.hid (show RowX base g n c M w3 by simpa using k3)
  have K12 := Lib.hid (grown_trans K8.out k4)
  clear k1 k2 k3 k4
  go_wp2_with fail
  rw [rounds_succ]
  go_wp2_with fail
  go_end0
  exact ⟨rfl, M, K9.out, K10.out, K11.out, K12.out⟩

theorem sort_any (base g n c : Nat) (D : List Rrd) (w : World) (h0 : 0 < n) (hn : n < 40) (hN : OkL D) (h : RowX base g n c D w) :
    Calls Tryz.prog 66 #[.slice (some ⟨g, 0, none⟩) n c, cmpF] w (SortedX base g n c D w) := by
  have hc : Calls Tryz.prog 98 #[.slice (some ⟨g, 0, none⟩) n c, .int .i64 (n : Nat), cmpF] w (SortedX base g n c D w) := by
    rcases Nat.lt_trichotomy n 20 with h1 | h1 | h1
    · exact stable_under base g n c D w h0 h1 hN h
    · subst h1; exact stable_at base g c D w hN h
    · exact stable_over base g n c D w h1 hn hN h
  clear h hN
  go_enter Tryz.func66, Tryz.ntmps66
  go_wp2_with fail
  refine hc.mono ?_
  rintro e w1 ⟨rfl, D', k1, k2, k3, k4⟩
  have K : Hid (SortedX base g n c D w (.returned (.tuple #[])) w1) := Lib.hid ⟨rfl, D', k1, k2, k3, k4⟩
  clear k1 k2 k3 k4 hc
  go_wp2_with fail
  go_end0
  exact K.out
theorem sort_none (A : Option Addr) (c : Nat) (w : World) :
    Calls Tryz.prog 66 #[.slice A 0 c, cmpF] w fun e w' => e = .returned (.tuple #[]) ∧ w' = w := by
  have hc : Calls Tryz.prog 98 #[.slice A 0 c, .int .i64 (0 : Nat), cmpF] w fun e w' => e = .returned (.tuple #[]) ∧ w' = w := by
    go_enter Tryz.func98, Tryz.ntmps98
    go_wp2_with fail
    refine wp_loop_rounds 1 ?_
    rw [rounds_succ]
    go_wp2_with fail
    refine (insertion_none A 0 c 0 _ (by omega)).mono ?_
    rintro e w2 ⟨rfl, rfl⟩
    go_wp2_with fail
    refine wp_loop_rounds 1 ?_
    rw [rounds_succ]
    go_wp2_with fail
    go_end0
    exact ⟨rfl, rfl⟩
  go_enter Tryz.func66, Tryz.ntmps66
  go_wp2_with fail
  refine hc.mono ?_
  rintro e w1 ⟨rfl, rfl⟩
  go_wp2_with fail
  go_end0
  exact ⟨rfl, rfl⟩
end Go.Proofs.YtaijcoiepfjecaaGreat
namespace Go.Proofs.YtaijcoiepfjecaaGreat
open Go.RowKit

set_option maxHeartbeats 8000000 in
set_option maxRecDepth 20000 in
theorem stable_forty (base g c : Nat) (D : List Rrd) (w : World) (hN : OkL D) (h : RowX base g 40 c D w) :
    Calls Tryz.prog 98 #[.slice (some ⟨g, 0, none⟩) 40 c, .int .i64 (40 : Nat), cmpF] w (SortedX base g 40 c D w) := by
  have hl := h.len
  have hsp := List.take_append_drop 20 D
  have hsq := List.take_append_drop 20 (D.drop 20)
  obtain ⟨D1, hD1⟩ : ∃ D1, D1 = D.take 20 := ⟨_, rfl⟩
  obtain ⟨D2, hD2⟩ : ∃ D2, D2 = (D.drop 20).take 20 := ⟨_, rfl⟩
  obtain ⟨D3, hD3⟩ : ∃ D3, D3 = (D.drop 20).drop 20 := ⟨_, rfl⟩
  have l1 : D1.length = 20 := by rw [hD1, List.length_take]; omega
  have l2 : D2.length = 20 := by rw [hD2, List.length_take, List.length_drop]; omega
  have l3 : D3.length = 40 - 40 := by rw [hD3, List.length_drop, List.length_drop]; omega
  rw [← hD2, ← hD3] at hsq
  rw [← hD1, ← hsq] at hsp
  clear hD1 hD2 hD3 hsq
  subst hsp
  have HN1 := Lib.hid (show OkL D1 from hN.left)
  have HN2 := Lib.hid (show OkL D2 from hN.right.left)
  have HN3 := Lib.hid (show OkL D3 from hN.right.right)
  have L1 := Lib.hid l1
  have L2 := Lib.hid l2
  have L3 := Lib.hid l3
  have E1 := Lib.hid (show D1 ≠ [] from List.length_pos_iff.1 (by omega))
  have E2 := Lib.hid (show D2 ≠ [] from List.length_pos_iff.1 (by omega))
  have E3 := Lib.hid (show D3 = [] from List.eq_nil_of_length_eq_zero (by omega))
  have H := Lib.hid (show RowX base g 40 c ([] ++ D1 ++ (D2 ++ D3)) w by simpa using h)
  clear hl hN h l1 l2 l3
  go_enter Tryz.func98, Tryz.ntmps98
  go_wp2_with fail
  refine wp_loop_rounds 3 ?_
  rw [rounds_succ]
  go_wp2_with fail
  refine (insertion_any base g 40 c 0 20 [] D1 (D2 ++ D3) _ rfl (by have := L1.out; simp; omega) E1.out HN1.out (by omega) H.out).mono ?_
  rintro e w1 ⟨rfl, M1, k1, k2, k3, k4⟩
  have KA1 := Lib.hid k1
  have KB1 := Lib.hid k2
  have KC1 := Lib.hid (show RowX base g 40 c (M1 ++ D2 ++ D3) w1 by simpa using k3)
  have KD1 := Lib.hid k4
  have LM1 := Lib.hid (show M1.length = 20 by rw [← k2.1.length_eq]; exact L1.out)
  have F1 := Lib.hid (show M1 ≠ [] from List.length_pos_iff.1 (by rw [LM1.out]; omega))
  clear k1 k2 k3 k4
  go_wp2_with fail
  rw [rounds_succ]
  go_wp2_with fail
  refine (insertion_any base g 40 c 20 40 M1 D2 D3 _ LM1.out.symm (by have := LM1.out; have := L2.out; omega) E2.out HN2.out (by omega) KC1.out).mono ?_
  rintro e w2 ⟨rfl, M2, k1, k2, k3, k4⟩
  have KA2 := Lib.hid k1
  have KB2 := Lib.hid k2
  have KC2 := Lib.hid (show RowX base g 40 c ([] ++ M1 ++ M2 ++ D3) w2 by simpa using k3)
  have KD2 := Lib.hid (grown_trans KD1.out k4)
  have LM2 := Lib.hid (show M2.length = 20 by rw [← k2.1.length_eq]; exact L2.out)
  have F2 := Lib.hid (show M2 ≠ [] from List.length_pos_iff.1 (by rw [LM2.out]; omega))
  clear k1 k2 k3 k4
  go_wp2_with fail
  rw [rounds_succ]
  go_wp2_with fail
  refine (insertion_none (some ⟨g, 0, none⟩) 40 c 40 _ (by omega)).mono ?_
  rintro e w9 ⟨rfl, rfl⟩
  go_wp2_with fail
  refine wp_loop_rounds 2 ?_
  rw [rounds_succ]
  go_wp2_with fail
  refine wp_loop_rounds 2 ?_
  rw [rounds_succ]
  go_wp2_with fail
  refine (sym_all _ base g 40 c 0 20 40 [] M1 M2 D3 _ (Nat.le_refl _) rfl (by have := LM1.out; simp; omega) (by have := LM1.out; have := LM2.out; simp; omega) F1.out F2.out KA1.out KA2.out (HN1.out.st KB1.out) (HN2.out.st KB2.out) (by omega) KC2.out).mono ?_
  rintro e w4 ⟨rfl, M, k1, k2, k3, k4⟩
  have KA4 := Lib.hid k1
  have KB4 := Lib.hid ((KB1.out.append KB2.out).trans k2)
  have KC4 := Lib.hid (show RowX base g 40 c (M ++ D3) w4 by simpa using k3)
  have KD4 := Lib.hid (grown_trans KD2.out k4)
  have LM4 := Lib.hid (show M.length = 40 by rw [← KB4.out.1.length_eq, List.length_append]; have := L1.out; have := L2.out; omega)
  have HN4 := Lib.hid ((show OkL (D1 ++ D2) from fun x hx => (List.mem_append.1 hx).elim (HN1.out x) (HN2.out x)).st KB4.out)
  have F4 := Lib.hid (show M ≠ [] from List.length_pos_iff.1 (by rw [LM4.out]; omega))
  clear k1 k2 k3 k4
  go_wp2_with fail
  rw [rounds_succ]
  go_wp2_with fail
  rw [rounds_succ]
  go_wp2_with fail
  go_end0
  exact ⟨rfl, M, KA4.out, by rw [E3.out]; simpa using KB4.out, by have := KC4.out; rw [E3.out] at this; simpa using this, KD4.out⟩

set_option maxHeartbeats 8000000 in
set_option maxRecDepth 20000 in
theorem stable_fifty (base g n c : Nat) (D : List Rrd) (w : World) (h0 : 40 < n) (hn : n < 60) (hN : OkL D) (h : RowX base g n c D w) :
    Calls Tryz.prog 98 #[.slice (some ⟨g, 0, none⟩) n c, .int .i64 (n : Nat), cmpF] w (SortedX base g n c D w) := by
  have hl := h.len
  have g1 : (20 : Int) ≤ (n : Int) := by omega
  have g2 : (20 : Int) < (n : Int) := by omega
  have g3 : (40 : Int) ≤ (n : Int) := by omega
  have g4 : (40 : Int) < (n : Int) := by omega
  have g5 : ¬ (60 : Int) ≤ (n : Int) := by omega
  have g6 : ¬ (60 : Int) < (n : Int) := by omega
  have g7 : ¬ (80 : Int) ≤ (n : Int) := by omega
  have g8 : ¬ (80 : Int) < (n : Int) := by omega
  have hsp := List.take_append_drop 20 D
  have hsq := List.take_append_drop 20 (D.drop 20)
  obtain ⟨D1, hD1⟩ : ∃ D1, D1 = D.take 20 := ⟨_, rfl⟩
  obtain ⟨D2, hD2⟩ : ∃ D2, D2 = (D.drop 20).take 20 := ⟨_, rfl⟩
  obtain ⟨D3, hD3⟩ : ∃ D3, D3 = (D.drop 20).drop 20 := ⟨_, rfl⟩
  have l1 : D1.length = 20 := by rw [hD1, List.length_take]; omega
  have l2 : D2.length = 20 := by rw [hD2, List.length_take, List.length_drop]; omega
  have l3 : D3.length = n - 40 := by rw [hD3, List.length_drop, List.length_drop]; omega
  rw [← hD2, ← hD3] at hsq
  rw [← hD1, ← hsq] at hsp
  clear hD1 hD2 hD3 hsq
  subst hsp
  have HN1 := Lib.hid (show OkL D1 from hN.left)
  have HN2 := Lib.hid (show OkL D2 from hN.right.left)
  have HN3 := Lib.hid (show OkL D3 from hN.right.right)
  have L1 := Lib.hid l1
  have L2 := Lib.hid l2
  have L3 := Lib.hid l3
  have E1 := Lib.hid (show D1 ≠ [] from List.length_pos_iff.1 (by omega))
  have E2 := Lib.hid (show D2 ≠ [] from List.length_pos_iff.1 (by omega))
  have E3 := Lib.hid (show D3 ≠ [] from List.length_pos_iff.1 (by omega))
  have H := Lib.hid (show RowX base g n c ([] ++ D1 ++ (D2 ++ D3)) w by simpa using h)
  clear hl hN h l1 l2 l3
  go_enter Tryz.func98, Tryz.ntmps98
  go_wp2_with fail
  refine wp_loop_rounds 3 ?_
  rw [rounds_succ]
  go_wp2_with fail
  refine (insertion_any base g n c 0 20 [] D1 (D2 ++ D3) _ rfl (by have := L1.out; simp; omega) E1.out HN1.out (by omega) H.out).mono ?_
  rintro e w1 ⟨rfl, M1, k1, k2, k3, k4⟩
  have KA1 := Lib.hid k1
  have KB1 := Lib.hid k2
  have KC1 := Lib.hid (show RowX base g n c (M1 ++ D2 ++ D3) w1 by simpa using k3)
  have KD1 := Lib.hid k4
  have LM1 := Lib.hid (show M1.length = 20 by rw [← k2.1.length_eq]; exact L1.out)
  have F1 := Lib.hid (show M1 ≠ [] from List.length_pos_iff.1 (by rw [LM1.out]; omega))
  clear k1 k2 k3 k4
  go_wp2_with fail
  rw [rounds_succ]
  go_wp2_with fail
  refine (insertion_any base g n c 20 40 M1 D2 D3 _ LM1.out.symm (by have := LM1.out; have := L2.out; omega) E2.out HN2.out (by omega) KC1.out).mono ?_
  rintro e w2 ⟨rfl, M2, k1, k2, k3, k4⟩
  have KA2 := Lib.hid k1
  have KB2 := Lib.hid k2
  have KC2 := Lib.hid (show RowX base g n c ((M1 ++ M2) ++ D3 ++ []) w2 by simpa using k3)
  have KD2 := Lib.hid (grown_trans KD1.out k4)
  have LM2 := Lib.hid (show M2.length = 20 by rw [← k2.1.length_eq]; exact L2.out)
  have F2 := Lib.hid (show M2 ≠ [] from List.length_pos_iff.1 (by rw [LM2.out]; omega))
  clear k1 k2 k3 k4
  go_wp2_with fail
  rw [rounds_succ]
  go_wp2_with fail
  refine (insertion_any base g n c 40 n (M1 ++ M2) D3 [] _ (by simp; have := LM1.out; have := LM2.out; omega) (by simp; have := LM1.out; have := LM2.out; have := L3.out; omega) E3.out HN3.out (by omega) KC2.out).mono ?_
  rintro e w3 ⟨rfl, M3, k1, k2, k3, k4⟩
  have KA3 := Lib.hid k1
  have KB3 := Lib.hid k2
  have KC3 := Lib.hid (show RowX base g n c ([] ++ M1 ++ M2 ++ M3) w3 by simpa using k3)
  have KD3 := Lib.hid (grown_trans KD2.out k4)
  have LM3 := Lib.hid (show M3.length = n - 40 by rw [← k2.1.length_eq]; exact L3.out)
  have F3 := Lib.hid (show M3 ≠ [] from List.length_pos_iff.1 (by rw [LM3.out]; omega))
  clear k1 k2 k3 k4
  go_wp2_with fail
  refine wp_loop_rounds 3 ?_
  rw [rounds_succ]
  go_wp2_with fail
  refine wp_loop_rounds 2 ?_
  rw [rounds_succ]
  go_wp2_with fail
  refine (sym_all _ base g n c 0 20 40 [] M1 M2 M3 _ (Nat.le_refl _) rfl (by have := LM1.out; simp; omega) (by have := LM1.out; have := LM2.out; simp; omega) F1.out F2.out KA1.out KA2.out (HN1.out.st KB1.out) (HN2.out.st KB2.out) (by omega) KC3.out).mono ?_
  rintro e w4 ⟨rfl, M, k1, k2, k3, k4⟩
  have KA4 := Lib.hid k1
  have KB4 := Lib.hid ((KB1.out.append KB2.out).trans k2)
  have KC4 := Lib.hid (show RowX base g n c ([] ++ M ++ M3 ++ []) w4 by simpa using k3)
  have KD4 := Lib.hid (grown_trans KD3.out k4)
  have LM4 := Lib.hid (show M.length = 40 by rw [← KB4.out.1.length_eq, List.length_append]; have := L1.out; have := L2.out; omega)
  have HN4 := Lib.hid ((show OkL (D1 ++ D2) from fun x hx => (List.mem_append.1 hx).elim (HN1.out x) (HN2.out x)).st KB4.out)
  have F4 := Lib.hid (show M ≠ [] from List.length_pos_iff.1 (by rw [LM4.out]; omega))
  clear k1 k2 k3 k4
  go_wp2_with fail
  rw [rounds_succ]
  go_wp2_with fail
  rw [rounds_succ]
  go_wp2_with fail
  refine wp_loop_rounds 1 ?_
  rw [rounds_succ]
  go_wp2_with fail
  refine (sym_all _ base g n c 0 40 n [] M M3 [] _ (Nat.le_refl _) rfl (by have := LM4.out; simp; omega) (by have := LM4.out; have := LM3.out; simp; omega) F4.out F3.out KA4.out KA3.out HN4.out (HN3.out.st KB3.out) (by omega) KC4.out).mono ?_
  rintro e w5 ⟨rfl, Z, k1, k2, k3, k4⟩
  have KA5 := Lib.hid k1
  have KB5 := Lib.hid ((KB4.out.append KB3.out).trans k2)
  have KC5 := Lib.hid (show RowX base g n c Z w5 by simpa using k3)
  have KD5 := Lib.hid (grown_trans KD4.out k4)
  clear k1 k2 k3 k4
  go_wp2_with fail
  rw [rounds_succ]
  go_wp2_with fail
  go_end0
  exact ⟨rfl, Z, KA5.out, by have := KB5.out; simpa using this, KC5.out, KD5.out⟩

set_option maxHeartbeats 8000000 in
set_option maxRecDepth 20000 in
theorem stable_sixty (base g c : Nat) (D : List Rrd) (w : World) (hN : OkL D) (h : RowX base g 60 c D w) :
    Calls Tryz.prog 98 #[.slice (some ⟨g, 0, none⟩) 60 c, .int .i64 (60 : Nat), cmpF] w (SortedX base g 60 c D w) := by
  have hl := h.len
  have hsp := List.take_append_drop 20 D
  have hsq := List.take_append_drop 20 (D.drop 20)
  obtain ⟨D1, hD1⟩ : ∃ D1, D1 = D.take 20 := ⟨_, rfl⟩
  obtain ⟨D2, hD2⟩ : ∃ D2, D2 = (D.drop 20).take 20 := ⟨_, rfl⟩
  obtain ⟨D3, hD3⟩ : ∃ D3, D3 = (D.drop 20).drop 20 := ⟨_, rfl⟩
  have l1 : D1.length = 20 := by rw [hD1, List.length_take]; omega
  have l2 : D2.length = 20 := by rw [hD2, List.length_take, List.length_drop]; omega
  have l3 : D3.length = 60 - 40 := by rw [hD3, List.length_drop, List.length_drop]; omega
  rw [← hD2, ← hD3] at hsq
  rw [← hD1, ← hsq] at hsp
  clear hD1 hD2 hD3 hsq
  subst hsp
  have HN1 := Lib.hid (show OkL D1 from hN.left)
  have HN2 := Lib.hid (show OkL D2 from hN.right.left)
  have HN3 := Lib.hid (show OkL D3 from hN.right.right)
  have L1 := Lib.hid l1
  have L2 := Lib.hid l2
  have L3 := Lib.hid l3
  have E1 := Lib.hid (show D1 ≠ [] from List.length_pos_iff.1 (by omega))
  have E2 := Lib.hid (show D2 ≠ [] from List.length_pos_iff.1 (by omega))
  have E3 := Lib.hid (show D3 ≠ [] from List.length_pos_iff.1 (by omega))
  have H := Lib.hid (show RowX base g 60 c ([] ++ D1 ++ (D2 ++ D3)) w by simpa using h)
  clear hl hN h l1 l2 l3
  go_enter Tryz.func98, Tryz.ntmps98
  go_wp2_with fail
  refine wp_loop_rounds 4 ?_
  rw [rounds_succ]
  go_wp2_with fail
  refine (insertion_any base g 60 c 0 20 [] D1 (D2 ++ D3) _ rfl (by have := L1.out; simp; omega) E1.out HN1.out (by omega) H.out).mono ?_
  rintro e w1 ⟨rfl, M1, k1, k2, k3, k4⟩
  have KA1 := Lib.hid k1
  have KB1 := Lib.hid k2
  have KC1 := Lib.hid (show RowX base g 60 c (M1 ++ D2 ++ D3) w1 by simpa using k3)
  have KD1 := Lib.hid k4
  have LM1 := Lib.hid (show M1.length = 20 by rw [← k2.1.length_eq]; exact L1.out)
  have F1 := Lib.hid (show M1 ≠ [] from List.length_pos_iff.1 (by rw [LM1.out]; omega))
  clear k1 k2 k3 k4
  go_wp2_with fail
  rw [rounds_succ]
  go_wp2_with fail
  refine (insertion_any base g 60 c 20 40 M1 D2 D3 _ LM1.out.symm (by have := LM1.out; have := L2.out; omega) E2.out HN2.out (by omega) KC1.out).mono ?_
  rintro e w2 ⟨rfl, M2, k1, k2, k3, k4⟩
  have KA2 := Lib.hid k1
  have KB2 := Lib.hid k2
  have KC2 := Lib.hid (show RowX base g 60 c ((M1 ++ M2) ++ D3 ++ []) w2 by simpa using k3)
  have KD2 := Lib.hid (grown_trans KD1.out k4)
  have LM2 := Lib.hid (show M2.length = 20 by rw [← k2.1.length_eq]; exact L2.out)
  have F2 := Lib.hid (show M2 ≠ [] from List.length_pos_iff.1 (by rw [LM2.out]; omega))
  clear k1 k2 k3 k4
  go_wp2_with fail
  rw [rounds_succ]
  go_wp2_with fail
  refine (insertion_any base g 60 c 40 60 (M1 ++ M2) D3 [] _ (by simp; have := LM1.out; have := LM2.out; omega) (by simp; have := LM1.out; have := LM2.out; have := L3.out; omega) E3.out HN3.out (by omega) KC2.out).mono ?_
  rintro e w3 ⟨rfl, M3, k1, k2, k3, k4⟩
  have KA3 := Lib.hid k1
  have KB3 := Lib.hid k2
  have KC3 := Lib.hid (show RowX base g 60 c ([] ++ M1 ++ M2 ++ M3) w3 by simpa using k3)
  have KD3 := Lib.hid (grown_trans KD2.out k4)
  have LM3 := Lib.hid (show M3.length = 60 - 40 by rw [← k2.1.length_eq]; exact L3.out)
  have F3 := Lib.hid (show M3 ≠ [] from List.length_pos_iff.1 (by rw [LM3.out]; omega))
  clear k1 k2 k3 k4
  go_wp2_with fail
  rw [rounds_succ]
  go_wp2_with fail
  refine (insertion_none (some ⟨g, 0, none⟩) 60 c 60 _ (by omega)).mono ?_
  rintro e w9 ⟨rfl, rfl⟩
  go_wp2_with fail
  refine wp_loop_rounds 3 ?_
  rw [rounds_succ]
  go_wp2_with fail
  refine wp_loop_rounds 2 ?_
  rw [rounds_succ]
  go_wp2_with fail
  refine (sym_all _ base g 60 c 0 20 40 [] M1 M2 M3 _ (Nat.le_refl _) rfl (by have := LM1.out; simp; omega) (by have := LM1.out; have := LM2.out; simp; omega) F1.out F2.out KA1.out KA2.out (HN1.out.st KB1.out) (HN2.out.st KB2.out) (by omega) KC3.out).mono ?_
  rintro e w4 ⟨rfl, M, k1, k2, k3, k4⟩
  have KA4 := Lib.hid k1
  have KB4 := Lib.hid ((KB1.out.append KB2.out).trans k2)
  have KC4 := Lib.hid (show RowX base g 60 c ([] ++ M ++ M3 ++ []) w4 by simpa using k3)
  have KD4 := Lib.hid (grown_trans KD3.out k4)
  have LM4 := Lib.hid (show M.length = 40 by rw [← KB4.out.1.length_eq, List.length_append]; have := L1.out; have := L2.out; omega)
  have HN4 := Lib.hid ((show OkL (D1 ++ D2) from fun x hx => (List.mem_append.1 hx).elim (HN1.out x) (HN2.out x)).st KB4.out)
  have F4 := Lib.hid (show M ≠ [] from List.length_pos_iff.1 (by rw [LM4.out]; omega))
  clear k1 k2 k3 k4
  go_wp2_with fail
  rw [rounds_succ]
  go_wp2_with fail
  rw [rounds_succ]
  go_wp2_with fail
  refine wp_loop_rounds 1 ?_
  rw [rounds_succ]
  go_wp2_with fail
  refine (sym_all _ base g 60 c 0 40 60 [] M M3 [] _ (Nat.le_refl _) rfl (by have := LM4.out; simp; omega) (by have := LM4.out; have := LM3.out; simp; omega) F4.out F3.out KA4.out KA3.out HN4.out (HN3.out.st KB3.out) (by omega) KC4.out).mono ?_
  rintro e w5 ⟨rfl, Z, k1, k2, k3, k4⟩
  have KA5 := Lib.hid k1
  have KB5 := Lib.hid ((KB4.out.append KB3.out).trans k2)
  have KC5 := Lib.hid (show RowX base g 60 c Z w5 by simpa using k3)
  have KD5 := Lib.hid (grown_trans KD4.out k4)
  clear k1 k2 k3 k4
  go_wp2_with fail
  rw [rounds_succ]
  go_wp2_with fail
  go_end0
  exact ⟨rfl, Z, KA5.out, by have := KB5.out; simpa using this, KC5.out, KD5.out⟩

theorem sort_big (base g n c : Nat) (D : List Rrd) (w : World) (h0 : 0 < n) (hn : n ≤ 60) (hN : OkL D) (h : RowX base g n c D w) :
    Calls Tryz.prog 66 #[.slice (some ⟨g, 0, none⟩) n c, cmpF] w (SortedX base g n c D w) := by
  have hc : Calls Tryz.prog 98 #[.slice (some ⟨g, 0, none⟩) n c, .int .i64 (n : Nat), cmpF] w (SortedX base g n c D w) := by
    rcases Nat.lt_trichotomy n 20 with h1 | h1 | h1
    · exact stable_under base g n c D w h0 h1 hN h
    · subst h1; exact stable_at base g c D w hN h
    · rcases Nat.lt_trichotomy n 40 with h2 | h2 | h2
      · exact stable_over base g n c D w h1 h2 hN h
      · subst h2; exact stable_forty base g c D w hN h
      · rcases Nat.lt_or_ge n 60 with h3 | h3
        · exact stable_fifty base g n c D w h2 h3 hN h
        · obtain rfl : n = 60 := by omega
          exact stable_sixty base g c D w hN h
  clear h hN
  go_enter Tryz.func66, Tryz.ntmps66
  go_wp2_with fail
  refine hc.mono ?_
  rintro e w1 ⟨rfl, D', k1, k2, k3, k4⟩
  have K : Hid (SortedX base g n c D w (.returned (.tuple #[])) w1) := Lib.hid ⟨rfl, D', k1, k2, k3, k4⟩
  clear k1 k2 k3 k4 hc
  go_wp2_with fail
  go_end0
  exact K.out
end Go.Proofs.YtaijcoiepfjecaaGreat
