/- First of package frame where the number fits; Scan. No statement of the seat is proved here. -/
import Derived.Test.YtmbnlmihpmicjaaFrmA
namespace Go.Proofs.Ytmbnlmihpmicjaa
open Go.RowKit

set_option maxHeartbeats 1000000 in
theorem First_long (l : List UInt8) (w : World) (h8 : ¬ l.length < 8) (hl : l.length ≤ 1073741824) (h2 : ¬ (16777216 < num (l.take 4) ∨ l.length - 8 < num (l.take 4))) :
    Calls Try.prog 12 #[.string (mk l)] w (FirstSays l w) := by
  have hHS := split44 l h8
  have hOK := fun h3 => firstL_ok h8 h2 h3
  have hNO := fun h3 => firstL_sum h8 h2 h3
  have hz : (mk l).size ≤ 1073741824 := by rw [mk_size]; omega
  have hR : (mk (l.drop 8)).size = l.length - 8 := by rw [mk_size, List.length_drop]
  have hz4 : 4 ≤ (mk l).size := by rw [mk_size]; omega
  have hA : ((mk l).extract 0 4).data.toList = l.take 4 := by rw [mk_extract]; simp [mk]
  have hT : (mk (l.drop 8)).extract 0 (num (l.take 4)) = mk ((l.drop 8).take (num (l.take 4))) := by rw [mk_extract, List.drop_zero]
  obtain ⟨S, hS⟩ : ∃ S, S = mk l := ⟨_, rfl⟩
  obtain ⟨R, hRe⟩ : ∃ R, R = mk (l.drop 8) := ⟨_, rfl⟩
  obtain ⟨n, hn⟩ : ∃ n, n = num (l.take 4) := ⟨_, rfl⟩
  obtain ⟨q, hq⟩ : ∃ q, q = num ((l.drop 4).take 4) := ⟨_, rfl⟩
  have hn1 : n ≤ 16777216 := by rw [hn]; omega
  have hn2 : n ≤ R.size := by rw [hRe, hR, hn]; omega
  have hR2 : R.size ≤ 1073741824 := by rw [hRe, hR]; omega
  rw [← hRe, ← hn, ← hq, ← hS] at hHS
  rw [← hS] at hz hz4 hA ⊢
  rw [← hRe, ← hn] at hT
  rw [← hn, ← hq] at hOK hNO
  have HS := Lib.hid hHS
  replace hS := Lib.hid hS
  have HA := Lib.hid hA
  have HT := Lib.hid hT
  have HOK := Lib.hid hOK
  have HNO := Lib.hid hNO
  clear hHS h8 h2 hR hn hq hRe hOK hNO hA hT
  have g4 : ¬ (16777216 : Int) < (n : Int) := by omega
  have g5 : ¬ (R.size : Int) < (n : Int) := by omega
  have hwR : IntKind.u64.wrap (R.size : Int) = R.size := wraps_u64 _ (by omega) (by omega)
  go_enter Try.func12, Try.ntmps12
  go_wp2_with fail
  refine (Split_any S _ 2 2 _ [4, 4] _ (two_w w) (by decide) (Nat.le_refl _) hz).mono ?_
  rintro e w1 ⟨A, c, he, hs1, hB1⟩
  rw [HS.out] at he hs1
  subst he
  have hB := (Below.refl w.heap.size w).alloc (Nat.le_refl _) (.cells #[.int .i64 4, .int .i64 4] 3)
  have hB2 := hB.trans (hB1.mono hB.size)
  obtain ⟨g, off, rfl, hg, c0, c1⟩ := two_at hs1
  clear hs1 hB hB1
  go_wp2_with fail
  go_quiet (fail)
  go_wp2_with fail
  refine (checksum_any _ _ _ (by simp; omega) (by simp; omega)).mono ?_
  obtain ⟨u, hu⟩ : ∃ u, u = sumOf ((S.extract 0 4).data.toList ++ (R.extract 0 n).data.toList) := ⟨_, rfl⟩
  have hul : u < 4294967296 := by rw [hu]; exact sumOf_lt _
  rw [← hu]
  have hu2 : u = sumOf (l.take 4 ++ (l.drop 8).take n) := by rw [hu, HA.out, HT.out]; simp [mk]
  replace hu2 := Lib.hid hu2
  clear hu
  rintro e w2 ⟨rfl, hB2'⟩
  have hB3 := (below_drewN hB2 _).trans (hB2'.mono (below_drewN hB2 _).size)
  have hwu : IntKind.u64.wrap (u : Int) = u := wraps_u64 _ (by omega) (by omega)
  obtain ⟨T, hTe⟩ : ∃ T, T = R.extract 0 n := ⟨_, rfl⟩
  have hTz : T.size = n := by rw [hTe]; simp; omega
  have hTz2 : T.size ≤ 1073741824 := by omega
  have HTz := Lib.hid hTz
  have hTm : T = mk ((l.drop 8).take n) := by rw [hTe, HT.out]
  rw [← hTe]
  have HTm := Lib.hid hTm
  clear hTz hTm hTe
  by_cases hqu : u = q
  · have HF := HOK.out (by rw [← hu2.out]; exact hqu)
    have HF2 := Lib.hid HF
    subst hqu
    have gq : ((u : Int) != (u : Int)) = false := by simp
    clear HF
    go_wp2_with fail
    refine (Size_any T _ hTz2).mono ?_
    rintro e w' ⟨rfl, rfl⟩
    go_wp2_with fail
    go_ret3
    refine ⟨?_, hB3⟩
    rw [HF2.out, HTm.out.symm]
    show Ending.returned _ = Ending.returned (.tuple #[.string T, .int .i64 ((8 + n : Nat) : Int), .int .i64 0])
    rw [← HTz.out]
    rfl
  · have HF := HNO.out (by rw [← hu2.out]; exact hqu)
    have HF2 := Lib.hid HF
    have gq : ((u : Int) != (q : Int)) = true := by rw [bne_iff_ne]; omega
    clear HF hqu
    go_wp2_with fail
    go_ret3
    exact ⟨by rw [HF2.out]; rfl, hB3⟩

theorem First_any (l : List UInt8) (w : World) (hl : l.length ≤ 1073741824) : Calls Try.prog 12 #[.string (mk l)] w (FirstSays l w) := by
  by_cases h8 : l.length < 8
  · exact First_less l w h8
  by_cases h2 : 16777216 < num (l.take 4) ∨ l.length - 8 < num (l.take 4)
  · exact First_form l w h8 hl h2
  · exact First_long l w h8 hl h2
end Go.Proofs.Ytmbnlmihpmicjaa
