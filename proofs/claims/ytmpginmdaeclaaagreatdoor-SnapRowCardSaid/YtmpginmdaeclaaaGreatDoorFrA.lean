/- Parts of the proofs of the statements of image. No statement of the seat is proved here. -/
import Derived.Test.YtmpginmdaeclaaaGreatDoorOcJ
import Derived.Test.YtmpginmdaeclaaaGreatDoorCrA
import Derived.Test.YtmpginmdaeclaaaGreatDoorOcD
import Derived.WalkMore
set_option maxHeartbeats 32000000
set_option maxRecDepth 20000
namespace Go.Proofs.YtmpginmdaeclaaaGreatDoor
def frameL (l : List UInt8) : List UInt8 := be l.length 4 ++ (be (sumOf (be l.length 4 ++ l)) 4 ++ l)
theorem frameL_len (l : List UInt8) : (frameL l).length = 8 + l.length := by simp [frameL, be_length]; omega
def firstL (l : List UInt8) : List UInt8 × Nat × Int :=
  if l.length < 8 then ([], 0, 2)
  else if 16777216 < num (l.take 4) \/ l.length - 8 < num (l.take 4) then ([], 0, 2)
  else if sumOf (l.take 4 ++ (l.drop 8).take (num (l.take 4))) = num ((l.drop 4).take 4) then ((l.drop 8).take (num (l.take 4)), 8 + num (l.take 4), 0)
  else ([], 0, 7)
theorem firstL_less {l : List UInt8} (h : l.length < 8) : firstL l = ([], 0, 2) := by unfold firstL; rw [if_pos h]
theorem firstL_form {l : List UInt8} (h : ¬ l.length < 8) (h2 : 16777216 < num (l.take 4) \/ l.length - 8 < num (l.take 4)) : firstL l = ([], 0, 2) := by unfold firstL; rw [if_neg h, if_pos h2]
theorem firstL_ok {l : List UInt8} (h : ¬ l.length < 8) (h2 : ¬ (16777216 < num (l.take 4) \/ l.length - 8 < num (l.take 4)))
    (h3 : sumOf (l.take 4 ++ (l.drop 8).take (num (l.take 4))) = num ((l.drop 4).take 4)) : firstL l = ((l.drop 8).take (num (l.take 4)), 8 + num (l.take 4), 0) := by
  unfold firstL; rw [if_neg h, if_neg h2, if_pos h3]
theorem firstL_sum {l : List UInt8} (h : ¬ l.length < 8) (h2 : ¬ (16777216 < num (l.take 4) \/ l.length - 8 < num (l.take 4)))
    (h3 : sumOf (l.take 4 ++ (l.drop 8).take (num (l.take 4))) ≠ num ((l.drop 4).take 4)) : firstL l = ([], 0, 7) := by
  unfold firstL; rw [if_neg h, if_neg h2, if_neg h3]
theorem first_of (a s y : List UInt8) (ha : a.length = 4) (hs : s.length = 4) :
    firstL (a ++ (s ++ y)) = if 16777216 < num a \/ y.length < num a then ([], 0, 2) else if sumOf (a ++ y.take (num a)) = num s then (y.take (num a), 8 + num a, 0) else ([], 0, 7) := by
  have e1 : (a ++ (s ++ y)).take 4 = a := List.take_left' ha
  have e2 : (a ++ (s ++ y)).drop 4 = s ++ y := List.drop_left' ha
  have e3 : (a ++ (s ++ y)).drop 8 = y := by rw [show 8 = 4 + 4 from rfl, <-List.drop_drop, e2, List.drop_left' hs]
  have e4 : (a ++ (s ++ y)).length = 8 + y.length := by simp; omega
  unfold firstL
  rw [e1, e2, e3, e4, List.take_left' hs, if_neg (by omega), show 8 + y.length - 8 = y.length from by omega]
theorem be4_num {v : Nat} (h : v < 4294967296) : num (be v 4) = v := num_be_eq v 4 h
theorem first_frame (x r : List UInt8) (hx : x.length <= 16777216) : firstL (frameL x ++ r) = (x, 8 + x.length, 0) := by
  unfold frameL
  rw [List.append_assoc, List.append_assoc, first_of _ _ _ (be_length _ _) (be_length _ _), be4_num (by omega), be4_num (sumOf_lt _), if_neg (by simp; omega), List.take_left' rfl, if_pos rfl]
end Go.Proofs.YtmpginmdaeclaaaGreatDoor
namespace Go.Proofs.YtmpginmdaeclaaaGreatDoor
open Go.RowKit
theorem frSees_whole {w : World} {g : Nat} {t : TypeId} {cs : Array Value} (h : Whole w g t cs) {n : Nat} (hn : cs.size = n) : Sees w w.heap.size (some ⟨g, 0, none⟩) n cs.toList := by
  refine ⟨by simpa using hn, fun _ => ⟨g, 0, rfl, h.lt, fun j u hu => ?_⟩⟩
  rw [show (0 : Nat) + j = j from Nat.zero_add j, h.cell]
  simpa using hu
theorem join4 (n : Nat) (h : n < 4294967296) : joinR [(n : Int)] [4] = (mk (be n 4), 0) := by
  have hf : fitB n 4 = true := by simp [fitB]; omega
  have hw : ([4] : List Int).all wB = true := rfl
  refine joinR_some hw rfl ?_
  rw [joinF, Int.toNat_natCast, show ((4 : Int)).toNat = 4 from rfl, if_pos hf]
  simp [joinF]
theorem encode_any (n : Nat) (w : World) (h : n < 4294967296) :
    Calls Tryz.prog 83 #[.int .u32 n] w fun e w' => e = .returned (.string (mk (be n 4))) /\ Below w.heap.size w w' := by
  have hwr : IntKind.u64.wrap (n : Int) = n := wraps_u64 _ (by omega) (by omega)
  obtain ⟨N, hN⟩ : ∃ N, N = mk (be n 4) := ⟨_, rfl⟩
  have HJ := Ha (join4 n h)
  rw [<-hN] at HJ ⊢
  replace hN := Ha hN
  have hu : U64s [(n : Int)] := by intro z hz; rw [List.mem_singleton] at hz; subst hz; exact ⟨by omega, by omega⟩
  have HU := Ha hu
  clear hu
  go_enter Tryz.func83, Tryz.ntmps83
  go_wp2_with fail
  have h1 := frSees_whole ((Whole.new w 44 #[.int .u64 n]).alloc (.cells #[.int .i64 4] 3)) (n := 1) rfl
  have h2 := frSees_whole (Whole.new (w.alloc (.cells #[.int .u64 n] 44)) 3 #[.int .i64 4]) (n := 1) rfl
  simp only [World.size_alloc] at h1 h2
  refine (Join_any _ _ 1 1 1 1 _ _ [(n : Int)] [4] _ h1 h2 (by simp) (by simp) (by decide) (by decide) HU.out).mono ?_
  rintro e w1 ⟨he, hB1⟩
  rw [HJ.out] at he
  subst he
  have hB := (((Below.refl w.heap.size w).alloc (Nat.le_refl _) (.cells #[.int .u64 n] 44)).alloc (by simp) (.cells #[.int .i64 4] 3))
  have hB2 := hB.trans (hB1.mono hB.size)
  clear h1 h2 hB hB1
  go_wp2_with fail
  go_ret
  exact ⟨rfl, hB2⟩
theorem flat2 (a b : ByteArray) : flat [a, b] = a.data.toList ++ b.data.toList := by simp [flat]
theorem getD2 (a b : ByteArray) (ha : a.size <= 1073741824) (hb : b.size <= 1073741824) (k : Nat) : (([a, b] : List ByteArray).getD k ByteArray.empty).size <= 1073741824 := by
  rcases k with _ | _ | k
  · exact ha
  · exact hb
  · exact Nat.zero_le _
theorem checksum_any (a b : ByteArray) (w : World) (ha : a.size <= 1073741824) (hb : b.size <= 1073741824) :
    Calls Tryz.prog 84 #[.string a, .string b] w fun e w' => e = .returned (.int .u32 (sumOf (a.data.toList ++ b.data.toList) : Nat)) /\ Below w.heap.size w w' := by
  have HZ := Ha (getD2 a b ha hb)
  have HF := Ha (flat2 a b)
  go_enter Tryz.func84, Tryz.ntmps84
  go_wp2_with fail
  have h1 := frSees_whole (Whole.new w 9 #[.string a, .string b]) (n := 2) rfl
  refine (Parts_any _ 2 2 _ [a, b] _ h1 (by decide) (Nat.le_refl _) HZ.out).mono ?_
  rw [HF.out]
  rintro e w1 ⟨rfl, hB1⟩
  have hB := (Below.refl w.heap.size w).alloc (Nat.le_refl _) (.cells #[.string a, .string b] 9)
  have hB2 := hB.trans (hB1.mono hB.size)
  clear h1 hB hB1
  go_wp2_with fail
  go_ret
  exact ⟨rfl, hB2⟩
theorem Size_any (s : ByteArray) (w : World) (hs : s.size <= 1073741824) :
    Calls Tryz.prog 111 #[.string s] w fun e w' => e = .returned (.int .i64 (8 + (s.size : Int))) /\ w = w' := by
  go_enter Tryz.func111, Tryz.ntmps111
  go_wp2_with fail
  go_ret
  exact ⟨rfl, rfl⟩
theorem Frame_any (x : List UInt8) (w : World) (hx : x.length <= 16777216) :
    Calls Tryz.prog 31 #[.string (mk x)] w fun e w' => e = .returned (.tuple #[.string (mk (frameL x)), .int .i64 0]) /\ Below w.heap.size w w' := by
  obtain ⟨S, hS⟩ : ∃ S, S = mk x := ⟨_, rfl⟩
  have hsz : S.size = x.length := by rw [hS, mk_size]
  have h1 : S.size <= 16777216 := by omega
  have g1 : ¬ (16777216 : Int) < (S.size : Int) := by omega
  have hwr : IntKind.u32.wrap (S.size : Int) = S.size := wraps_u32 _ (by omega) (by omega)
  have hl : S.data.toList = x := by rw [hS]; simp [mk]
  rw [<-hS]
  replace hS := Ha hS
  replace hsz := Ha hsz
  replace hl := Ha hl
  go_enter Tryz.func31, Tryz.ntmps31
  go_wp2_with fail
  refine (encode_any S.size _ (by omega)).mono ?_
  rintro e w1 ⟨rfl, hB1⟩
  have hN : (mk (be S.size 4)).size <= 8 := by rw [mk_size, be_length]; decide
  obtain ⟨N, hNe⟩ : ∃ N, N = mk (be S.size 4) := ⟨_, rfl⟩
  rw [<-hNe] at hN ⊢
  have hNl : N.data.toList = be S.size 4 := by rw [hNe]; simp [mk]
  replace hNe := Ha hNe
  replace hNl := Ha hNl
  go_wp2_with fail
  refine (checksum_any N S _ (by omega) (by omega)).mono ?_
  rintro e w2 ⟨rfl, hB2⟩
  have hq := sumOf_lt (N.data.toList ++ S.data.toList)
  obtain ⟨q, hqe⟩ : ∃ q, q = sumOf (N.data.toList ++ S.data.toList) := ⟨_, rfl⟩
  rw [<-hqe] at hq ⊢
  replace hqe := Ha hqe
  have hBB := hB1.trans (hB2.mono hB1.size)
  go_wp2_with fail
  refine (encode_any q _ hq).mono ?_
  rintro e w3 ⟨rfl, hB3⟩
  have hBB3 := hBB.trans (hB3.mono hBB.size)
  have hQz : (mk (be q 4)).size <= 8 := by rw [mk_size, be_length]; decide
  obtain ⟨Q, hQ⟩ : ∃ Q, Q = mk (be q 4) := ⟨_, rfl⟩
  rw [<-hQ] at hQz ⊢
  replace hQ := Ha hQ
  go_wp2_with fail
  go_ret2
  refine ⟨?_, hBB3⟩
  have : N ++ Q ++ S = mk (frameL x) := by
    rw [hNe.out, hQ.out, hS.out, hqe.out, hNl.out, hl.out, hsz.out, mk_append, mk_append, List.append_assoc]
    rfl
  rw [<-this]
  rfl
theorem split44_less (l : List UInt8) (h : l.length < 8) : splitR (mk l) [4, 4] = ([], empty, 2) := by
  refine splitR_none rfl ?_
  rw [splitF]
  by_cases h4 : l.length < 4
  · rw [if_pos (by rw [mk_size]; omega)]
  · rw [if_neg (by rw [mk_size]; omega), splitF, if_pos]
    · rfl
    · rw [show ((4 : Int)).toNat = 4 from rfl, mk_extract, mk_size, mk_size, List.length_drop, List.length_take]; omega
theorem split44 (l : List UInt8) (h : ¬ l.length < 8) : splitR (mk l) [4, 4] = ([(num (l.take 4) : Int), (num ((l.drop 4).take 4) : Int)], mk (l.drop 8), 0) := by
  refine splitR_some rfl ?_
  have e4 : ((4 : Int)).toNat = 4 := rfl
  have e5 : (mk l).extract 4 (mk l).size = mk (l.drop 4) := by rw [mk_extract, mk_size, List.take_length]
  have e6 : (mk (l.drop 4)).extract 4 (mk (l.drop 4)).size = mk (l.drop 8) := by rw [mk_extract, mk_size, List.take_length, List.drop_drop]
  rw [splitF, if_neg (by rw [mk_size]; omega), splitF, e4, e5, if_neg (by rw [mk_size, List.length_drop]; omega), splitF, e6, mk_extract, mk_extract, List.drop_zero, List.drop_zero, mk_num, mk_num]
  rfl
def FirstSays (l : List UInt8) (w : World) (e : Ending) (w' : World) : Prop :=
  e = .returned (.tuple #[.string (mk (firstL l).1), .int .i64 ((firstL l).2.1 : Nat), .int .i64 (firstL l).2.2]) /\ Below w.heap.size w w'
theorem two_w (w : World) : Sees (w.alloc (.cells #[.int .i64 4, .int .i64 4] 3)) (w.alloc (.cells #[.int .i64 4, .int .i64 4] 3)).heap.size (some ⟨w.heap.size, 0, none⟩) 2 (ints .i64 [4, 4]) :=
  frSees_whole (Whole.new w 3 #[.int .i64 4, .int .i64 4]) (n := 2) rfl
theorem First_less (l : List UInt8) (w : World) (h8 : l.length < 8) :
    Calls Tryz.prog 65 #[.string (mk l)] w (FirstSays l w) := by
  have HS := Ha (split44_less l h8)
  have HF := Ha (firstL_less h8)
  have hz : (mk l).size <= 1073741824 := by rw [mk_size]; omega
  obtain ⟨S, hS⟩ : ∃ S, S = mk l := ⟨_, rfl⟩
  rw [<-hS] at hz HS ⊢
  replace hS := Ha hS
  clear h8
  go_enter Tryz.func65, Tryz.ntmps65
  go_wp2_with fail
  refine (Split_any S _ 2 2 _ [4, 4] _ (two_w w) (by decide) (Nat.le_refl _) hz).mono ?_
  rintro e w1 ⟨A, c, he, hs1, hB1⟩
  rw [HS.out] at he hs1
  subst he
  have hB := (Below.refl w.heap.size w).alloc (Nat.le_refl _) (.cells #[.int .i64 4, .int .i64 4] 3)
  have hB2 := hB.trans (hB1.mono hB.size)
  clear hs1 hB hB1
  go_wp2_with fail
  go_ret3
  exact ⟨by rw [HF.out]; rfl, hB2⟩
theorem two_at {w : World} {B : Nat} {A : Option Addr} {a b : Int} (h : Sees w B A 2 (ints .u64 [a, b])) :
    ∃ g off, A = some ⟨g, off, none⟩ /\ g < B /\ w.cell? ⟨g, off, none⟩ = some (.int .u64 a) /\ w.cell? ⟨g, off + 1, none⟩ = some (.int .u64 b) := by
  obtain ⟨g, off, e, hb, hc⟩ := h.addr (by decide)
  exact ⟨g, off, e, hb, by simpa using hc 0 (.int .u64 a) rfl, hc 1 (.int .u64 b) rfl⟩
theorem First_form (l : List UInt8) (w : World) (h8 : ¬ l.length < 8) (hl : l.length <= 1073741824) (h2 : 16777216 < num (l.take 4) \/ l.length - 8 < num (l.take 4)) :
    Calls Tryz.prog 65 #[.string (mk l)] w (FirstSays l w) := by
  have hHS := split44 l h8
  have HF := Ha (firstL_form h8 h2)
  have hz : (mk l).size <= 1073741824 := by rw [mk_size]; omega
  have hR : (mk (l.drop 8)).size = l.length - 8 := by rw [mk_size, List.length_drop]
  obtain ⟨S, hS⟩ : ∃ S, S = mk l := ⟨_, rfl⟩
  obtain ⟨R, hRe⟩ : ∃ R, R = mk (l.drop 8) := ⟨_, rfl⟩
  obtain ⟨n, hn⟩ : ∃ n, n = num (l.take 4) := ⟨_, rfl⟩
  obtain ⟨q, hq⟩ : ∃ q, q = num ((l.drop 4).take 4) := ⟨_, rfl⟩
  have hnl : n < 4294967296 := by
    rw [hn]
    have := num_lt (l.take 4)
    rwa [List.length_take, Nat.min_eq_left (by omega)] at this
  have hR2 : R.size <= 1073741824 := by rw [hRe, hR]; omega
  have h3 : 16777216 < n \/ R.size < n := by rw [hRe, hR, hn]; exact h2
  rw [<-hRe, <-hn, <-hq, <-hS] at hHS
  rw [<-hS] at hz ⊢
  have HS := Ha hHS
  replace hS := Ha hS
  clear hHS h8 h2 hR hn hq hRe
  have hwR : IntKind.u64.wrap (R.size : Int) = R.size := wraps_u64 _ (by omega) (by omega)
  go_enter Tryz.func65, Tryz.ntmps65
  go_wp2_with fail
  refine (Split_any S _ 2 2 _ [4, 4] _ (two_w w) (by decide) (Nat.le_refl _) hz).mono ?_
  rintro e w1 ⟨A, c, he, hs1, hB1⟩
  rw [HS.out] at he hs1
  subst he
  have hB := (Below.refl w.heap.size w).alloc (Nat.le_refl _) (.cells #[.int .i64 4, .int .i64 4] 3)
  have hB2 := hB.trans (hB1.mono hB.size)
  obtain ⟨g, off, rfl, hg, c0, c1⟩ := two_at hs1
  clear hs1 hB hB1
  by_cases h4 : 16777216 < n
  · have g4 : (16777216 : Int) < (n : Int) := by omega
    clear h3; go_wp2_with fail
    go_quiet (fail)
    go_wp2_with fail
    go_ret3
    exact ⟨by rw [HF.out]; rfl, below_drewN hB2 _⟩
  · have g4 : ¬ (16777216 : Int) < (n : Int) := by omega
    have g5 : (R.size : Int) < (n : Int) := by omega
    clear h3; go_wp2_with fail
    go_quiet (fail)
    go_wp2_with fail
    go_ret3
    exact ⟨by rw [HF.out]; rfl, below_drewN hB2 _⟩
end Go.Proofs.YtmpginmdaeclaaaGreatDoor
namespace Go.Proofs.YtmpginmdaeclaaaGreatDoor
open Go.RowKit
theorem First_long (l : List UInt8) (w : World) (h8 : ¬ l.length < 8) (hl : l.length <= 1073741824) (h2 : ¬ (16777216 < num (l.take 4) \/ l.length - 8 < num (l.take 4))) :
    Calls Tryz.prog 65 #[.string (mk l)] w (FirstSays l w) := by
  have hHS := split44 l h8
  have hOK := fun h3 => firstL_ok h8 h2 h3
  have hNO := fun h3 => firstL_sum h8 h2 h3
  have hz : (mk l).size <= 1073741824 := by rw [mk_size]; omega
  have hR : (mk (l.drop 8)).size = l.length - 8 := by rw [mk_size, List.length_drop]
  have hz4 : 4 <= (mk l).size := by rw [mk_size]; omega
  have hA : ((mk l).extract 0 4).data.toList = l.take 4 := by rw [mk_extract]; simp [mk]
  have hT : (mk (l.drop 8)).extract 0 (num (l.take 4)) = mk ((l.drop 8).take (num (l.take 4))) := by rw [mk_extract, List.drop_zero]
  obtain ⟨S, hS⟩ : ∃ S, S = mk l := ⟨_, rfl⟩
  obtain ⟨R, hRe⟩ : ∃ R, R = mk (l.drop 8) := ⟨_, rfl⟩
  obtain ⟨n, hn⟩ : ∃ n, n = num (l.take 4) := ⟨_, rfl⟩
  obtain ⟨q, hq⟩ : ∃ q, q = num ((l.drop 4).take 4) := ⟨_, rfl⟩
  have hn1 : n <= 16777216 := by rw [hn]; omega
  have hn2 : n <= R.size := by rw [hRe, hR, hn]; omega
  have hR2 : R.size <= 1073741824 := by rw [hRe, hR]; omega
  rw [<-hRe, <-hn, <-hq, <-hS] at hHS
  rw [<-hS] at hz hz4 hA ⊢
  rw [<-hRe, <-hn] at hT
  rw [<-hn, <-hq] at hOK hNO
  have HS := Ha hHS
  replace hS := Ha hS
  have HA := Ha hA
  have HT := Ha hT
  have HOK := Ha hOK
  have HNO := Ha hNO
  clear hHS h8 h2 hR hn hq hRe hOK hNO hA hT
  have g4 : ¬ (16777216 : Int) < (n : Int) := by omega
  have g5 : ¬ (R.size : Int) < (n : Int) := by omega
  have hwR : IntKind.u64.wrap (R.size : Int) = R.size := wraps_u64 _ (by omega) (by omega)
  go_enter Tryz.func65, Tryz.ntmps65
  go_wp2_with fail
  refine (Split_any S _ 2 2 _ [4, 4] _ (two_w w) (by decide) (Nat.le_refl _) hz).mono ?_
  rintro e w1 ⟨A, c, he, hs1, hB1⟩
  rw [HS.out] at he hs1
  subst he
  have hB := (Below.refl w.heap.size w).alloc (Nat.le_refl _) (.cells #[.int .i64 4, .int .i64 4] 3)
  have hB2 := hB.trans (hB1.mono hB.size)
  obtain ⟨g, off, rfl, hg, c0, c1⟩ := two_at hs1
  clear hs1 hB hB1
  go_wp2_with fail
  go_quiet (fail)
  go_wp2_with fail
  refine (checksum_any _ _ _ (by simp; omega) (by simp; omega)).mono ?_
  obtain ⟨u, hu⟩ : ∃ u, u = sumOf ((S.extract 0 4).data.toList ++ (R.extract 0 n).data.toList) := ⟨_, rfl⟩
  have hul : u < 4294967296 := by rw [hu]; exact sumOf_lt _
  rw [<-hu]
  have hu2 : u = sumOf (l.take 4 ++ (l.drop 8).take n) := by rw [hu, HA.out, HT.out]; simp [mk]
  replace hu2 := Ha hu2
  clear hu
  rintro e w2 ⟨rfl, hB2'⟩
  have hB3 := (below_drewN hB2 _).trans (hB2'.mono (below_drewN hB2 _).size)
  have hwu : IntKind.u64.wrap (u : Int) = u := wraps_u64 _ (by omega) (by omega)
  obtain ⟨T, hTe⟩ : ∃ T, T = R.extract 0 n := ⟨_, rfl⟩
  have hTz : T.size = n := by rw [hTe]; simp; omega
  have hTz2 : T.size <= 1073741824 := by omega
  have HTz := Ha hTz
  have hTm : T = mk ((l.drop 8).take n) := by rw [hTe, HT.out]
  rw [<-hTe]
  have HTm := Ha hTm
  clear hTz hTm hTe
  by_cases hqu : u = q
  · have HF := HOK.out (by rw [<-hu2.out]; exact hqu)
    have HF2 := Ha HF
    subst hqu; have gq : ((u : Int) != (u : Int)) = false := by simp
    clear HF; go_wp2_with fail
    refine (Size_any T _ hTz2).mono ?_
    rintro e w' ⟨rfl, rfl⟩; go_wp2_with fail
    go_ret3
    refine ⟨?_, hB3⟩
    rw [HF2.out, HTm.out.symm]
    show Ending.returned _ = Ending.returned (.tuple #[.string T, .int .i64 ((8 + n : Nat) : Int), .int .i64 0])
    rw [<-HTz.out]
    rfl
  · have HF := HNO.out (by rw [<-hu2.out]; exact hqu)
    have HF2 := Ha HF
    have gq : ((u : Int) != (q : Int)) = true := by rw [bne_iff_ne]; omega
    clear HF hqu; go_wp2_with fail
    go_ret3
    exact ⟨by rw [HF2.out]; rfl, hB3⟩
theorem First_any (l : List UInt8) (w : World) (hl : l.length <= 1073741824) : Calls Tryz.prog 65 #[.string (mk l)] w (FirstSays l w) := by
  by_cases h8 : l.length < 8
  · exact First_less l w h8
  by_cases h2 : 16777216 < num (l.take 4) \/ l.length - 8 < num (l.take 4)
  · exact First_form l w h8 hl h2
  · exact First_long l w h8 hl h2
end Go.Proofs.YtmpginmdaeclaaaGreatDoor
namespace Go.Proofs.YtmpginmdaeclaaaGreatDoor
open Go.RowKit
end Go.Proofs.YtmpginmdaeclaaaGreatDoor
