/- The functions of package frame but Scan: each returns what the plain mathematics says. No statement of the seat is proved here. -/
import Derived.Test.YtmbnlmihpmicjaaFrmM
import Derived.Test.YtmbnlmihpmicjaaCrcC
import Derived.Test.YtmbnlmihpmicjaaOctD
namespace Go.Proofs.Ytmbnlmihpmicjaa
open Go.RowKit

theorem sees_whole {w : World} {g : Nat} {t : TypeId} {cs : Array Value} (h : Whole w g t cs) {n : Nat} (hn : cs.size = n) : Sees w w.heap.size (some ⟨g, 0, none⟩) n cs.toList := by
  refine ⟨by simpa using hn, fun _ => ⟨g, 0, rfl, h.lt, fun j u hu => ?_⟩⟩
  rw [show (0 : Nat) + j = j from Nat.zero_add j, h.cell]
  simpa using hu

theorem join4 (n : Nat) (h : n < 4294967296) : joinR [(n : Int)] [4] = (mk (be n 4), 0) := by
  have hf : fitB n 4 = true := by simp [fitB]; omega
  have hw : ([4] : List Int).all wB = true := rfl
  refine joinR_some hw rfl ?_
  rw [joinF, Int.toNat_natCast, show ((4 : Int)).toNat = 4 from rfl, if_pos hf]
  simp [joinF]

set_option maxHeartbeats 400000 in
theorem encode_any (n : Nat) (w : World) (h : n < 4294967296) :
    Calls Try.prog 17 #[.int .u32 n] w fun e w' => e = .returned (.string (mk (be n 4))) ∧ Below w.heap.size w w' := by
  have hwr : IntKind.u64.wrap (n : Int) = n := wraps_u64 _ (by omega) (by omega)
  obtain ⟨N, hN⟩ : ∃ N, N = mk (be n 4) := ⟨_, rfl⟩
  have HJ := Lib.hid (join4 n h)
  rw [← hN] at HJ ⊢
  replace hN := Lib.hid hN
  have hu : U64s [(n : Int)] := by intro z hz; rw [List.mem_singleton] at hz; subst hz; exact ⟨by omega, by omega⟩
  have HU := Lib.hid hu
  clear hu
  go_enter Try.func17, Try.ntmps17
  go_wp2_with fail
  have h1 := sees_whole ((Whole.new w 43 #[.int .u64 n]).alloc (.cells #[.int .i64 4] 3)) (n := 1) rfl
  have h2 := sees_whole (Whole.new (w.alloc (.cells #[.int .u64 n] 43)) 3 #[.int .i64 4]) (n := 1) rfl
  simp only [World.size_alloc] at h1 h2
  refine (Join_any _ _ 1 1 1 1 _ _ [(n : Int)] [4] _ h1 h2 (by simp) (by simp) (by decide) (by decide) HU.out).mono ?_
  rintro e w1 ⟨he, hB1⟩
  rw [HJ.out] at he
  subst he
  have hB := (((Below.refl w.heap.size w).alloc (Nat.le_refl _) (.cells #[.int .u64 n] 43)).alloc (by simp) (.cells #[.int .i64 4] 3))
  have hB2 := hB.trans (hB1.mono hB.size)
  clear h1 h2 hB hB1
  go_wp2_with fail
  go_ret
  exact ⟨rfl, hB2⟩

theorem flat2 (a b : ByteArray) : flat [a, b] = a.data.toList ++ b.data.toList := by simp [flat]
theorem getD2 (a b : ByteArray) (ha : a.size ≤ 1073741824) (hb : b.size ≤ 1073741824) (k : Nat) : (([a, b] : List ByteArray).getD k ByteArray.empty).size ≤ 1073741824 := by
  rcases k with _ | _ | k
  · exact ha
  · exact hb
  · exact Nat.zero_le _

set_option maxHeartbeats 400000 in
theorem checksum_any (a b : ByteArray) (w : World) (ha : a.size ≤ 1073741824) (hb : b.size ≤ 1073741824) :
    Calls Try.prog 18 #[.string a, .string b] w fun e w' => e = .returned (.int .u32 (sumOf (a.data.toList ++ b.data.toList) : Nat)) ∧ Below w.heap.size w w' := by
  have HZ := Lib.hid (getD2 a b ha hb)
  have HF := Lib.hid (flat2 a b)
  go_enter Try.func18, Try.ntmps18
  go_wp2_with fail
  have h1 := sees_whole (Whole.new w 9 #[.string a, .string b]) (n := 2) rfl
  refine (Parts_any _ 2 2 _ [a, b] _ h1 (by decide) (Nat.le_refl _) HZ.out).mono ?_
  rw [HF.out]
  rintro e w1 ⟨rfl, hB1⟩
  have hB := (Below.refl w.heap.size w).alloc (Nat.le_refl _) (.cells #[.string a, .string b] 9)
  have hB2 := hB.trans (hB1.mono hB.size)
  clear h1 hB hB1
  go_wp2_with fail
  go_ret
  exact ⟨rfl, hB2⟩

theorem Size_any (s : ByteArray) (w : World) (hs : s.size ≤ 1073741824) :
    Calls Try.prog 11 #[.string s] w fun e w' => e = .returned (.int .i64 (8 + (s.size : Int))) ∧ w = w' := by
  go_enter Try.func11, Try.ntmps11
  go_wp2_with fail
  go_ret
  exact ⟨rfl, rfl⟩

set_option maxHeartbeats 400000 in
theorem Frame_any (x : List UInt8) (w : World) (hx : x.length ≤ 16777216) :
    Calls Try.prog 9 #[.string (mk x)] w fun e w' => e = .returned (.tuple #[.string (mk (frameL x)), .int .i64 0]) ∧ Below w.heap.size w w' := by
  obtain ⟨S, hS⟩ : ∃ S, S = mk x := ⟨_, rfl⟩
  have hsz : S.size = x.length := by rw [hS, mk_size]
  have h1 : S.size ≤ 16777216 := by omega
  have g1 : ¬ (16777216 : Int) < (S.size : Int) := by omega
  have hwr : IntKind.u32.wrap (S.size : Int) = S.size := wraps_u32 _ (by omega) (by omega)
  have hl : S.data.toList = x := by rw [hS]; simp [mk]
  rw [← hS]
  replace hS := Lib.hid hS
  replace hsz := Lib.hid hsz
  replace hl := Lib.hid hl
  go_enter Try.func9, Try.ntmps9
  go_wp2_with fail
  refine (encode_any S.size _ (by omega)).mono ?_
  rintro e w1 ⟨rfl, hB1⟩
  have hN : (mk (be S.size 4)).size ≤ 8 := by rw [mk_size, be_length]; decide
  obtain ⟨N, hNe⟩ : ∃ N, N = mk (be S.size 4) := ⟨_, rfl⟩
  rw [← hNe] at hN ⊢
  have hNl : N.data.toList = be S.size 4 := by rw [hNe]; simp [mk]
  replace hNe := Lib.hid hNe
  replace hNl := Lib.hid hNl
  go_wp2_with fail
  refine (checksum_any N S _ (by omega) (by omega)).mono ?_
  rintro e w2 ⟨rfl, hB2⟩
  have hq := sumOf_lt (N.data.toList ++ S.data.toList)
  obtain ⟨q, hqe⟩ : ∃ q, q = sumOf (N.data.toList ++ S.data.toList) := ⟨_, rfl⟩
  rw [← hqe] at hq ⊢
  replace hqe := Lib.hid hqe
  have hBB := hB1.trans (hB2.mono hB1.size)
  go_wp2_with fail
  refine (encode_any q _ hq).mono ?_
  rintro e w3 ⟨rfl, hB3⟩
  have hBB3 := hBB.trans (hB3.mono hBB.size)
  have hQz : (mk (be q 4)).size ≤ 8 := by rw [mk_size, be_length]; decide
  obtain ⟨Q, hQ⟩ : ∃ Q, Q = mk (be q 4) := ⟨_, rfl⟩
  rw [← hQ] at hQz ⊢
  replace hQ := Lib.hid hQ
  go_wp2_with fail
  go_ret2
  refine ⟨?_, hBB3⟩
  have : N ++ Q ++ S = mk (frameL x) := by
    rw [hNe.out, hQ.out, hS.out, hqe.out, hNl.out, hl.out, hsz.out, mk_append, mk_append, List.append_assoc]
    rfl
  rw [← this]
  rfl

theorem split44_less (l : List UInt8) (h : l.length < 8) : splitR (mk l) [4, 4] = ([], empty, 2) := by
  refine splitR_none rfl ?_
  rw [splitF]
  by_cases h4 : l.length < 4
  · rw [if_pos (by rw [mk_size]; omega)]
  · rw [if_neg (by rw [mk_size]; omega), splitF, if_pos]
    · rfl
    · rw [show ((4 : Int)).toNat = 4 from rfl, mk_extract, mk_size, mk_size, List.length_drop, List.length_take]; omega
theorem split44 (l : List UInt8) (h : ¬ l.length < 8) : splitR (mk l) [4, 4] = ([(num (l.take 4) : Int), (num ((l.drop 4).take 4) : Int)], mk (l.drop 8), 0) := by
  refine splitR_some rfl ?_
  have e4 : ((4 : Int)).toNat = 4 := rfl
  have e5 : (mk l).extract 4 (mk l).size = mk (l.drop 4) := by rw [mk_extract, mk_size, List.take_length]
  have e6 : (mk (l.drop 4)).extract 4 (mk (l.drop 4)).size = mk (l.drop 8) := by rw [mk_extract, mk_size, List.take_length, List.drop_drop]
  rw [splitF, if_neg (by rw [mk_size]; omega), splitF, e4, e5, if_neg (by rw [mk_size, List.length_drop]; omega), splitF, e6, mk_extract, mk_extract, List.drop_zero, List.drop_zero, mk_num, mk_num]
  rfl

def FirstSays (l : List UInt8) (w : World) (e : Ending) (w' : World) : Prop :=
  e = .returned (.tuple #[.string (mk (firstL l).1), .int .i64 ((firstL l).2.1 : Nat), .int .i64 (firstL l).2.2]) ∧ Below w.heap.size w w'

theorem two_w (w : World) : Sees (w.alloc (.cells #[.int .i64 4, .int .i64 4] 3)) (w.alloc (.cells #[.int .i64 4, .int .i64 4] 3)).heap.size (some ⟨w.heap.size, 0, none⟩) 2 (ints .i64 [4, 4]) :=
  sees_whole (Whole.new w 3 #[.int .i64 4, .int .i64 4]) (n := 2) rfl

set_option maxHeartbeats 400000 in
theorem First_less (l : List UInt8) (w : World) (h8 : l.length < 8) :
    Calls Try.prog 12 #[.string (mk l)] w (FirstSays l w) := by
  have HS := Lib.hid (split44_less l h8)
  have HF := Lib.hid (firstL_less h8)
  have hz : (mk l).size ≤ 1073741824 := by rw [mk_size]; omega
  obtain ⟨S, hS⟩ : ∃ S, S = mk l := ⟨_, rfl⟩
  rw [← hS] at hz HS ⊢
  replace hS := Lib.hid hS
  clear h8
  go_enter Try.func12, Try.ntmps12
  go_wp2_with fail
  refine (Split_any S _ 2 2 _ [4, 4] _ (two_w w) (by decide) (Nat.le_refl _) hz).mono ?_
  rintro e w1 ⟨A, c, he, hs1, hB1⟩
  rw [HS.out] at he hs1
  subst he
  have hB := (Below.refl w.heap.size w).alloc (Nat.le_refl _) (.cells #[.int .i64 4, .int .i64 4] 3)
  have hB2 := hB.trans (hB1.mono hB.size)
  clear hs1 hB hB1
  go_wp2_with fail
  go_ret3
  exact ⟨by rw [HF.out]; rfl, hB2⟩

theorem two_at {w : World} {B : Nat} {A : Option Addr} {a b : Int} (h : Sees w B A 2 (ints .u64 [a, b])) :
    ∃ g off, A = some ⟨g, off, none⟩ ∧ g < B ∧ w.cell? ⟨g, off, none⟩ = some (.int .u64 a) ∧ w.cell? ⟨g, off + 1, none⟩ = some (.int .u64 b) := by
  obtain ⟨g, off, e, hb, hc⟩ := h.addr (by decide)
  exact ⟨g, off, e, hb, by simpa using hc 0 (.int .u64 a) rfl, hc 1 (.int .u64 b) rfl⟩

set_option maxHeartbeats 1000000 in
theorem First_form (l : List UInt8) (w : World) (h8 : ¬ l.length < 8) (hl : l.length ≤ 1073741824) (h2 : 16777216 < num (l.take 4) ∨ l.length - 8 < num (l.take 4)) :
    Calls Try.prog 12 #[.string (mk l)] w (FirstSays l w) := by
  have hHS := split44 l h8
  have HF := Lib.hid (firstL_form h8 h2)
  have hz : (mk l).size ≤ 1073741824 := by rw [mk_size]; omega
  have hR : (mk (l.drop 8)).size = l.length - 8 := by rw [mk_size, List.length_drop]
  obtain ⟨S, hS⟩ : ∃ S, S = mk l := ⟨_, rfl⟩
  obtain ⟨R, hRe⟩ : ∃ R, R = mk (l.drop 8) := ⟨_, rfl⟩
  obtain ⟨n, hn⟩ : ∃ n, n = num (l.take 4) := ⟨_, rfl⟩
  obtain ⟨q, hq⟩ : ∃ q, q = num ((l.drop 4).take 4) := ⟨_, rfl⟩
  have hnl : n < 4294967296 := by
    rw [hn]
    have := num_lt (l.take 4)
    rwa [List.length_take, Nat.min_eq_left (by omega)] at this
  have hR2 : R.size ≤ 1073741824 := by rw [hRe, hR]; omega
  have h3 : 16777216 < n ∨ R.size < n := by rw [hRe, hR, hn]; exact h2
  rw [← hRe, ← hn, ← hq, ← hS] at hHS
  rw [← hS] at hz ⊢
  have HS := Lib.hid hHS
  replace hS := Lib.hid hS
  clear hHS h8 h2 hR hn hq hRe
  have hwR : IntKind.u64.wrap (R.size : Int) = R.size := wraps_u64 _ (by omega) (by omega)
  go_enter Try.func12, Try.ntmps12
  go_wp2_with fail
  refine (Split_any S _ 2 2 _ [4, 4] _ (two_w w) (by decide) (Nat.le_refl _) hz).mono ?_
  rintro e w1 ⟨A, c, he, hs1, hB1⟩
  rw [HS.out] at he hs1
  subst he
  have hB := (Below.refl w.heap.size w).alloc (Nat.le_refl _) (.cells #[.int .i64 4, .int .i64 4] 3)
  have hB2 := hB.trans (hB1.mono hB.size)
  obtain ⟨g, off, rfl, hg, c0, c1⟩ := two_at hs1
  clear hs1 hB hB1
  by_cases h4 : 16777216 < n
  · have g4 : (16777216 : Int) < (n : Int) := by omega
    clear h3
    go_wp2_with fail
    go_quiet (fail)
    go_wp2_with fail
    go_ret3
    exact ⟨by rw [HF.out]; rfl, below_drewN hB2 _⟩
  · have g4 : ¬ (16777216 : Int) < (n : Int) := by omega
    have g5 : (R.size : Int) < (n : Int) := by omega
    clear h3
    go_wp2_with fail
    go_quiet (fail)
    go_wp2_with fail
    go_ret3
    exact ⟨by rw [HF.out]; rfl, below_drewN hB2 _⟩
end Go.Proofs.Ytmbnlmihpmicjaa
