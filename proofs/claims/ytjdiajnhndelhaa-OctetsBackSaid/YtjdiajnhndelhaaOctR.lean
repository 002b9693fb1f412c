/- The law OctetsBack, walked: whatever the arguments, it returns true and writes nothing that was there. -/
import Derived.Test.YtjdiajnhndelhaaOctQ
namespace Go.Proofs.Ytjdiajnhndelhaa
open Go.RowKit

theorem empty_empty : empty.toList.isEmpty = true := by rw [ByteArray.toList_eq]; rfl

set_option maxHeartbeats 1000000 in
theorem back_big1 (s : ByteArray) (A : Option Addr) (n c : Nat) (A' : Option Addr) (n' c' : Nat) (w : World) (h1 : 200 < s.size) :
    Calls Try.prog 7 #[.string s, .slice A n c, .slice A' n' c'] w fun e w' => e = .returned (.bool true) ∧ Below w.heap.size w w' := by
  have g1 : (200 : Int) < (s.size : Int) := by omega
  go_enter Try.func7, Try.ntmps7
  go_wp2_with fail
  refine (awake_any _).mono ?_
  rintro e w1 ⟨rfl, hB1⟩
  go_wp2_with fail
  refine (awake_any _).mono ?_
  rintro e w2 ⟨rfl, hB2⟩
  go_wp2_with fail
  go_ret
  exact ⟨rfl, hB1.trans (hB2.mono hB1.size)⟩

set_option maxHeartbeats 1000000 in
theorem back_big2 (s : ByteArray) (A : Option Addr) (n c : Nat) (A' : Option Addr) (n' c' : Nat) (w : World) (h1 : ¬ 200 < s.size) (h2 : 40 < n) :
    Calls Try.prog 7 #[.string s, .slice A n c, .slice A' n' c'] w fun e w' => e = .returned (.bool true) ∧ Below w.heap.size w w' := by
  have g1 : ¬ (200 : Int) < (s.size : Int) := by omega
  have g2 : (40 : Int) < (n : Int) := by omega
  go_enter Try.func7, Try.ntmps7
  go_wp2_with fail
  refine (awake_any _).mono ?_
  rintro e w1 ⟨rfl, hB1⟩
  go_wp2_with fail
  refine (awake_any _).mono ?_
  rintro e w2 ⟨rfl, hB2⟩
  go_wp2_with fail
  go_ret
  exact ⟨rfl, hB1.trans (hB2.mono hB1.size)⟩

set_option maxHeartbeats 1000000 in
theorem back_big3 (s : ByteArray) (A : Option Addr) (n c : Nat) (A' : Option Addr) (n' c' : Nat) (w : World) (h1 : ¬ 200 < s.size) (h2 : ¬ 40 < n) (h3 : 40 < n') :
    Calls Try.prog 7 #[.string s, .slice A n c, .slice A' n' c'] w fun e w' => e = .returned (.bool true) ∧ Below w.heap.size w w' := by
  have g1 : ¬ (200 : Int) < (s.size : Int) := by omega
  have g2 : ¬ (40 : Int) < (n : Int) := by omega
  have g3 : (40 : Int) < (n' : Int) := by omega
  go_enter Try.func7, Try.ntmps7
  go_wp2_with fail
  refine (awake_any _).mono ?_
  rintro e w1 ⟨rfl, hB1⟩
  go_wp2_with fail
  refine (awake_any _).mono ?_
  rintro e w2 ⟨rfl, hB2⟩
  go_wp2_with fail
  go_ret
  exact ⟨rfl, hB1.trans (hB2.mono hB1.size)⟩

set_option maxHeartbeats 1000000 in
theorem back_yes_yes (s : ByteArray) (A : Option Addr) (n c : Nat) (vs : List Int) (A' : Option Addr) (n' c' : Nat) (ws : List Int) (w : World) (h : Sees w w.heap.size A n (ints .u64 vs)) (h' : Sees w w.heap.size A' n' (ints .i64 ws))
    (hu : U64s vs) (h1 : ¬ 200 < s.size) (h2 : ¬ 40 < n) (h3 : ¬ 40 < n')
    (hs : ∃ p, ws.all wB = true ∧ splitF s ws = some p ∧ splitR s ws = (p.1, p.2, 0))
    (hj : ∃ m, ws.all wB = true ∧ vs.length = ws.length ∧ joinF vs ws = some m ∧ joinR vs ws = (mk m, 0)) :
    Calls Try.prog 7 #[.string s, .slice A n c, .slice A' n' c'] w fun e w' => e = .returned (.bool true) ∧ Below w.heap.size w w' := by
  have g1 : ¬ (200 : Int) < (s.size : Int) := by omega
  have g2 : ¬ (40 : Int) < (n : Int) := by omega
  have g3 : ¬ (40 : Int) < (n' : Int) := by omega
  have HU := Lib.hid hu
  have HL : Hid (vs.length = n) := Lib.hid (show vs.length = n by simpa [ints] using h.len)
  have HL' : Hid (ws.length = n') := Lib.hid (show ws.length = n' by simpa [ints] using h'.len)
  obtain ⟨⟨us, r⟩, hw, hsf, hsr⟩ := hs
  obtain ⟨d, hd, hdr, hus, hul⟩ := back_split s ws _ hw hsf
  simp only at hsr hd hdr hus hul
  have HSR := Lib.hid hsr
  have HD := Lib.hid hd
  have HUS := Lib.hid hus
  have HUL := Lib.hid hul
  have hdsz : d.size ≤ 200 := by have := congrArg ByteArray.size hdr; simp at this; omega
  have hrsz : r.size ≤ 200 := by have := congrArg ByteArray.size hdr; simp at this; omega
  clear hsf hsr hd hus hul hw hu
  obtain ⟨m, hw2, hvl, hjf, hjr⟩ := hj
  have HJR := Lib.hid hjr
  have HSP : Hid (splitR (mk m ++ s) ws = (vs, s, 0)) := Lib.hid (splitR_some hw2 (join_split ws vs m s hw2 hvl HU.out hjf))
  have hmsz : (mk m).size ≤ 320 := by have := joinF_size vs ws m hw2 hjf; have := HL'.out; rw [mk_size]; omega
  obtain ⟨M, hM⟩ : ∃ M, M = mk m := ⟨_, rfl⟩
  rw [← hM] at hmsz
  have HJR' : Hid (joinR vs ws = (M, 0)) := Lib.hid (by rw [hM]; exact HJR.out)
  have HSP' : Hid (splitR (M ++ s) ws = (vs, s, 0)) := Lib.hid (by rw [hM]; exact HSP.out)
  clear hw2 hvl hjf hjr hM HJR HSP
  go_enter Try.func7, Try.ntmps7
  go_wp2_with fail
  refine (awake_any _).mono ?_
  rintro e w1 ⟨rfl, hB1⟩
  have k1 := h.below hB1
  have k1' := h'.below hB1
  have HB1 := Lib.hid hB1
  clear h h' hB1
  go_wp2_with fail
  refine (Split_any s A' n' c' w.heap.size ws _ k1' (by omega) HB1.out.size (by omega)).mono ?_
  rintro e w2 ⟨A2, c2, he, hs2, hB2⟩
  rw [HSR.out] at he hs2
  subst he
  have k2 := k1.below (hB2.mono HB1.out.size)
  have k2' := k1'.below (hB2.mono HB1.out.size)
  have HB2 : Hid (Below w.heap.size w w2) := Lib.hid (HB1.out.trans (hB2.mono HB1.out.size))
  clear k1 k1' hB2
  go_wp2_with fail
  refine (Join_any A2 A' us.length n' c2 c' w2.heap.size w.heap.size us ws _ hs2 k2' (Nat.le_refl _) HB2.out.size (by have := HUL.out; have := HL'.out; omega) (by omega) HUS.out).mono ?_
  rintro e w3 ⟨he, hB3⟩
  rw [HD.out] at he
  subst he
  have k3 := k2.below (hB3.mono HB2.out.size)
  have k3' := k2'.below (hB3.mono HB2.out.size)
  have HB3 : Hid (Below w.heap.size w w3) := Lib.hid (HB2.out.trans (hB3.mono HB2.out.size))
  clear k2 k2' hB3 hs2
  go_wp2_with fail
  refine (Join_any A A' n n' c c' w.heap.size w.heap.size vs ws _ k3 k3' HB3.out.size HB3.out.size (by omega) (by omega) HU.out).mono ?_
  rintro e w4 ⟨he, hB4⟩
  rw [HJR'.out] at he
  subst he
  have k4 := k3.below (hB4.mono HB3.out.size)
  have k4' := k3'.below (hB4.mono HB3.out.size)
  have HB4 : Hid (Below w.heap.size w w4) := Lib.hid (HB3.out.trans (hB4.mono HB3.out.size))
  clear k3 k3' hB4
  go_wp2_with fail
  refine (Split_any (M ++ s) A' n' c' w.heap.size ws _ k4' (by omega) HB4.out.size (by simp; omega)).mono ?_
  rintro e w5 ⟨A5, c5, he, hs5, hB5⟩
  rw [HSP'.out] at he hs5
  subst he
  have k5 := k4.below (hB5.mono HB4.out.size)
  have HB5 : Hid (Below w.heap.size w w5) := Lib.hid (HB4.out.trans (hB5.mono HB4.out.size))
  rw [← HL.out] at k5
  clear k4 k4' hB5
  go_wp2_with fail
  have hn2 := HL.out
  subst hn2
  refine (Same_yes A5 A _ _ _ _ _ vs _ hs5 k5 (by omega)).mono ?_
  rintro e w6 ⟨rfl, q, rfl⟩
  go_wp2_with fail
  go_ret
  exact ⟨rfl, below_drewN HB5.out q⟩

set_option maxHeartbeats 1000000 in
theorem back_yes_no (s : ByteArray) (A : Option Addr) (n c : Nat) (vs : List Int) (A' : Option Addr) (n' c' : Nat) (ws : List Int) (w : World) (h : Sees w w.heap.size A n (ints .u64 vs)) (h' : Sees w w.heap.size A' n' (ints .i64 ws))
    (hu : U64s vs) (h1 : ¬ 200 < s.size) (h2 : ¬ 40 < n) (h3 : ¬ 40 < n')
    (hs : ∃ p, ws.all wB = true ∧ splitF s ws = some p ∧ splitR s ws = (p.1, p.2, 0))
    (hj : joinR vs ws = (empty, 1)) :
    Calls Try.prog 7 #[.string s, .slice A n c, .slice A' n' c'] w fun e w' => e = .returned (.bool true) ∧ Below w.heap.size w w' := by
  have g1 : ¬ (200 : Int) < (s.size : Int) := by omega
  have g2 : ¬ (40 : Int) < (n : Int) := by omega
  have g3 : ¬ (40 : Int) < (n' : Int) := by omega
  have HU := Lib.hid hu
  have HL : Hid (vs.length = n) := Lib.hid (show vs.length = n by simpa [ints] using h.len)
  have HL' : Hid (ws.length = n') := Lib.hid (show ws.length = n' by simpa [ints] using h'.len)
  obtain ⟨⟨us, r⟩, hw, hsf, hsr⟩ := hs
  obtain ⟨d, hd, hdr, hus, hul⟩ := back_split s ws _ hw hsf
  simp only at hsr hd hdr hus hul
  have HSR := Lib.hid hsr
  have HD := Lib.hid hd
  have HUS := Lib.hid hus
  have HUL := Lib.hid hul
  have hdsz : d.size ≤ 200 := by have := congrArg ByteArray.size hdr; simp at this; omega
  have hrsz : r.size ≤ 200 := by have := congrArg ByteArray.size hdr; simp at this; omega
  clear hsf hsr hd hus hul hw hu
  have HJR' := Lib.hid hj
  have hemp := empty_empty
  clear hj
  go_enter Try.func7, Try.ntmps7
  go_wp2_with fail
  refine (awake_any _).mono ?_
  rintro e w1 ⟨rfl, hB1⟩
  have k1 := h.below hB1
  have k1' := h'.below hB1
  have HB1 := Lib.hid hB1
  clear h h' hB1
  go_wp2_with fail
  refine (Split_any s A' n' c' w.heap.size ws _ k1' (by omega) HB1.out.size (by omega)).mono ?_
  rintro e w2 ⟨A2, c2, he, hs2, hB2⟩
  rw [HSR.out] at he hs2
  subst he
  have k2 := k1.below (hB2.mono HB1.out.size)
  have k2' := k1'.below (hB2.mono HB1.out.size)
  have HB2 : Hid (Below w.heap.size w w2) := Lib.hid (HB1.out.trans (hB2.mono HB1.out.size))
  clear k1 k1' hB2
  go_wp2_with fail
  refine (Join_any A2 A' us.length n' c2 c' w2.heap.size w.heap.size us ws _ hs2 k2' (Nat.le_refl _) HB2.out.size (by have := HUL.out; have := HL'.out; omega) (by omega) HUS.out).mono ?_
  rintro e w3 ⟨he, hB3⟩
  rw [HD.out] at he
  subst he
  have k3 := k2.below (hB3.mono HB2.out.size)
  have k3' := k2'.below (hB3.mono HB2.out.size)
  have HB3 : Hid (Below w.heap.size w w3) := Lib.hid (HB2.out.trans (hB3.mono HB2.out.size))
  clear k2 k2' hB3 hs2
  go_wp2_with fail
  refine (Join_any A A' n n' c c' w.heap.size w.heap.size vs ws _ k3 k3' HB3.out.size HB3.out.size (by omega) (by omega) HU.out).mono ?_
  rintro e w4 ⟨he, hB4⟩
  rw [HJR'.out] at he
  subst he
  have k4 := k3.below (hB4.mono HB3.out.size)
  have k4' := k3'.below (hB4.mono HB3.out.size)
  have HB4 : Hid (Below w.heap.size w w4) := Lib.hid (HB3.out.trans (hB4.mono HB3.out.size))
  clear k3 k3' hB4
  go_wp2_with fail
  go_ret
  exact ⟨rfl, HB4.out⟩

set_option maxHeartbeats 1000000 in
theorem back_no_yes (s : ByteArray) (A : Option Addr) (n c : Nat) (vs : List Int) (A' : Option Addr) (n' c' : Nat) (ws : List Int) (w : World) (h : Sees w w.heap.size A n (ints .u64 vs)) (h' : Sees w w.heap.size A' n' (ints .i64 ws))
    (hu : U64s vs) (h1 : ¬ 200 < s.size) (h2 : ¬ 40 < n) (h3 : ¬ 40 < n')
    (hs : (splitR s ws).2.2 ≠ 0)
    (hj : ∃ m, ws.all wB = true ∧ vs.length = ws.length ∧ joinF vs ws = some m ∧ joinR vs ws = (mk m, 0)) :
    Calls Try.prog 7 #[.string s, .slice A n c, .slice A' n' c'] w fun e w' => e = .returned (.bool true) ∧ Below w.heap.size w w' := by
  have g1 : ¬ (200 : Int) < (s.size : Int) := by omega
  have g2 : ¬ (40 : Int) < (n : Int) := by omega
  have g3 : ¬ (40 : Int) < (n' : Int) := by omega
  have HU := Lib.hid hu
  have HL : Hid (vs.length = n) := Lib.hid (show vs.length = n by simpa [ints] using h.len)
  have HL' : Hid (ws.length = n') := Lib.hid (show ws.length = n' by simpa [ints] using h'.len)
  obtain ⟨us, r, k, hk⟩ : ∃ us r k, splitR s ws = (us, r, k) := ⟨_, _, _, rfl⟩
  rw [hk] at hs
  have hk0 : (k == 0) = false := by simpa using hs
  have HSR := Lib.hid hk
  clear hs hk hu
  obtain ⟨m, hw2, hvl, hjf, hjr⟩ := hj
  have HJR := Lib.hid hjr
  have HSP : Hid (splitR (mk m ++ s) ws = (vs, s, 0)) := Lib.hid (splitR_some hw2 (join_split ws vs m s hw2 hvl HU.out hjf))
  have hmsz : (mk m).size ≤ 320 := by have := joinF_size vs ws m hw2 hjf; have := HL'.out; rw [mk_size]; omega
  obtain ⟨M, hM⟩ : ∃ M, M = mk m := ⟨_, rfl⟩
  rw [← hM] at hmsz
  have HJR' : Hid (joinR vs ws = (M, 0)) := Lib.hid (by rw [hM]; exact HJR.out)
  have HSP' : Hid (splitR (M ++ s) ws = (vs, s, 0)) := Lib.hid (by rw [hM]; exact HSP.out)
  clear hw2 hvl hjf hjr hM HJR HSP
  go_enter Try.func7, Try.ntmps7
  go_wp2_with fail
  refine (awake_any _).mono ?_
  rintro e w1 ⟨rfl, hB1⟩
  have k1 := h.below hB1
  have k1' := h'.below hB1
  have HB1 := Lib.hid hB1
  clear h h' hB1
  go_wp2_with fail
  refine (Split_any s A' n' c' w.heap.size ws _ k1' (by omega) HB1.out.size (by omega)).mono ?_
  rintro e w2 ⟨A2, c2, he, hs2, hB2⟩
  rw [HSR.out] at he hs2
  subst he
  have k2 := k1.below (hB2.mono HB1.out.size)
  have k2' := k1'.below (hB2.mono HB1.out.size)
  have HB2 : Hid (Below w.heap.size w w2) := Lib.hid (HB1.out.trans (hB2.mono HB1.out.size))
  clear k1 k1' hB2
  go_wp2_with fail
  have k3 := k2
  have k3' := k2'
  have HB3 := HB2
  clear k2 k2' hs2
  refine (Join_any A A' n n' c c' w.heap.size w.heap.size vs ws _ k3 k3' HB3.out.size HB3.out.size (by omega) (by omega) HU.out).mono ?_
  rintro e w4 ⟨he, hB4⟩
  rw [HJR'.out] at he
  subst he
  have k4 := k3.below (hB4.mono HB3.out.size)
  have k4' := k3'.below (hB4.mono HB3.out.size)
  have HB4 : Hid (Below w.heap.size w w4) := Lib.hid (HB3.out.trans (hB4.mono HB3.out.size))
  clear k3 k3' hB4
  go_wp2_with fail
  refine (Split_any (M ++ s) A' n' c' w.heap.size ws _ k4' (by omega) HB4.out.size (by simp; omega)).mono ?_
  rintro e w5 ⟨A5, c5, he, hs5, hB5⟩
  rw [HSP'.out] at he hs5
  subst he
  have k5 := k4.below (hB5.mono HB4.out.size)
  have HB5 : Hid (Below w.heap.size w w5) := Lib.hid (HB4.out.trans (hB5.mono HB4.out.size))
  rw [← HL.out] at k5
  clear k4 k4' hB5
  go_wp2_with fail
  have hn2 := HL.out
  subst hn2
  refine (Same_yes A5 A _ _ _ _ _ vs _ hs5 k5 (by omega)).mono ?_
  rintro e w6 ⟨rfl, q, rfl⟩
  go_wp2_with fail
  go_ret
  exact ⟨rfl, below_drewN HB5.out q⟩

set_option maxHeartbeats 1000000 in
theorem back_no_no (s : ByteArray) (A : Option Addr) (n c : Nat) (vs : List Int) (A' : Option Addr) (n' c' : Nat) (ws : List Int) (w : World) (h : Sees w w.heap.size A n (ints .u64 vs)) (h' : Sees w w.heap.size A' n' (ints .i64 ws))
    (hu : U64s vs) (h1 : ¬ 200 < s.size) (h2 : ¬ 40 < n) (h3 : ¬ 40 < n')
    (hs : (splitR s ws).2.2 ≠ 0)
    (hj : joinR vs ws = (empty, 1)) :
    Calls Try.prog 7 #[.string s, .slice A n c, .slice A' n' c'] w fun e w' => e = .returned (.bool true) ∧ Below w.heap.size w w' := by
  have g1 : ¬ (200 : Int) < (s.size : Int) := by omega
  have g2 : ¬ (40 : Int) < (n : Int) := by omega
  have g3 : ¬ (40 : Int) < (n' : Int) := by omega
  have HU := Lib.hid hu
  have HL : Hid (vs.length = n) := Lib.hid (show vs.length = n by simpa [ints] using h.len)
  have HL' : Hid (ws.length = n') := Lib.hid (show ws.length = n' by simpa [ints] using h'.len)
  obtain ⟨us, r, k, hk⟩ : ∃ us r k, splitR s ws = (us, r, k) := ⟨_, _, _, rfl⟩
  rw [hk] at hs
  have hk0 : (k == 0) = false := by simpa using hs
  have HSR := Lib.hid hk
  clear hs hk hu
  have HJR' := Lib.hid hj
  have hemp := empty_empty
  clear hj
  go_enter Try.func7, Try.ntmps7
  go_wp2_with fail
  refine (awake_any _).mono ?_
  rintro e w1 ⟨rfl, hB1⟩
  have k1 := h.below hB1
  have k1' := h'.below hB1
  have HB1 := Lib.hid hB1
  clear h h' hB1
  go_wp2_with fail
  refine (Split_any s A' n' c' w.heap.size ws _ k1' (by omega) HB1.out.size (by omega)).mono ?_
  rintro e w2 ⟨A2, c2, he, hs2, hB2⟩
  rw [HSR.out] at he hs2
  subst he
  have k2 := k1.below (hB2.mono HB1.out.size)
  have k2' := k1'.below (hB2.mono HB1.out.size)
  have HB2 : Hid (Below w.heap.size w w2) := Lib.hid (HB1.out.trans (hB2.mono HB1.out.size))
  clear k1 k1' hB2
  go_wp2_with fail
  have k3 := k2
  have k3' := k2'
  have HB3 := HB2
  clear k2 k2' hs2
  refine (Join_any A A' n n' c c' w.heap.size w.heap.size vs ws _ k3 k3' HB3.out.size HB3.out.size (by omega) (by omega) HU.out).mono ?_
  rintro e w4 ⟨he, hB4⟩
  rw [HJR'.out] at he
  subst he
  have k4 := k3.below (hB4.mono HB3.out.size)
  have k4' := k3'.below (hB4.mono HB3.out.size)
  have HB4 : Hid (Below w.heap.size w w4) := Lib.hid (HB3.out.trans (hB4.mono HB3.out.size))
  clear k3 k3' hB4
  go_wp2_with fail
  go_ret
  exact ⟨rfl, HB4.out⟩

theorem OctetsBack_walk (s : ByteArray) (A : Option Addr) (n c : Nat) (vs : List Int) (A' : Option Addr) (n' c' : Nat) (ws : List Int) (w : World) (_hs : s.size ≤ maxLen) (hv : InInts .u64 w A n vs) (hw : InInts .i64 w A' n' ws) :
    Calls Try.prog 7 #[.string s, .slice A n c, .slice A' n' c'] w fun e w' => e = .returned (.bool true) ∧ Below w.heap.size w w' := by
  obtain ⟨h, hwf⟩ := hv
  obtain ⟨h', _⟩ := hw
  have hu := u64s_of hwf
  by_cases h1 : 200 < s.size
  · exact back_big1 s A n c A' n' c' w h1
  by_cases h2 : 40 < n
  · exact back_big2 s A n c A' n' c' w h1 h2
  by_cases h3 : 40 < n'
  · exact back_big3 s A n c A' n' c' w h1 h2 h3
  rcases splitR_cases s ws with hs | hs <;> rcases joinR_cases vs ws with hj | hj
  · exact back_yes_yes s A n c vs A' n' c' ws w h h' hu h1 h2 h3 hs hj
  · exact back_yes_no s A n c vs A' n' c' ws w h h' hu h1 h2 h3 hs hj
  · exact back_no_yes s A n c vs A' n' c' ws w h h' hu h1 h2 h3 hs hj
  · exact back_no_no s A n c vs A' n' c' ws w h h' hu h1 h2 h3 hs hj
end Go.Proofs.Ytjdiajnhndelhaa
