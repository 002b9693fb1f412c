/- Cut's reference, and Pieces with its reference. -/
import Derived.Test.YtdanncclnhkmgaaOctC
import Derived.Test.YtdanncclnhkmgaaOctE
namespace Go.Proofs.Ytdanncclnhkmgaa
open Go.RowKit

theorem ext_head (s : ByteArray) (a k : Nat) (h : a + k ≤ s.size) : (s.extract a s.size).extract 0 k = s.extract a (a + k) := by
  apply ByteArray.ext
  simp only [ByteArray.data_extract, Array.extract_extract]
  rw [Nat.add_zero, Nat.min_eq_left h]
theorem ext_tail (s : ByteArray) (a k : Nat) (h : a ≤ s.size) : (s.extract a s.size).extract k (s.size - a) = s.extract (a + k) s.size := by
  apply ByteArray.ext
  simp only [ByteArray.data_extract, Array.extract_extract]
  rw [Nat.add_sub_cancel' h, Nat.min_self]

set_option maxHeartbeats 1000000 in
theorem RefCut_any (s : ByteArray) (n : Int) (w : World) (hs : s.size ≤ 1073741824) :
    Calls Try.prog 111 #[.string s, .int .i64 n] w fun e w' =>
      e = .returned (.tuple #[.string (cutR s n).1, .string (cutR s n).2.1, .int .i64 (cutR s n).2.2]) ∧ ∃ m, w' = w.drewN m := by
  cases hp : pB n
  · have hr : cutR s n = (empty, empty, 1) := by simp [cutR, hp]
    rw [hr]
    clear hr
    cases hw : wB n
    · go_enter Try.func111, Try.ntmps111
      go_wp2_with (go_at_call 110; refine (Width_any _ _).mono ?_; rintro e w' ⟨rfl, rfl⟩)
      go_ret3
      exact ⟨rfl, 0, rfl⟩
    · obtain rfl : n = 8 := by simp [pB] at hp; simp [wB] at hw; omega
      go_enter Try.func111, Try.ntmps111
      go_wp2_with (go_at_call 110; refine (Width_any _ _).mono ?_; rintro e w' ⟨rfl, rfl⟩)
      go_ret3
      exact ⟨rfl, 0, rfl⟩
  have hw : wB n = true := by rcases pB_cases hp with rfl | rfl | rfl <;> rfl
  have h8 : (n == 8) = false := by rcases pB_cases hp with rfl | rfl | rfl <;> rfl
  obtain ⟨hn1, hn2⟩ : 0 < n ∧ n ≤ 8 := by have := pB_cases hp; omega
  by_cases h1 : (s.size : Int) < n
  · have hr : cutR s n = (empty, empty, 2) := by simp [cutR, hp, h1]
    rw [hr]
    clear hr
    go_enter Try.func111, Try.ntmps111
    go_wp2_with (go_at_call 110; refine (Width_any _ _).mono ?_; rintro e w' ⟨rfl, rfl⟩)
    go_ret3
    exact ⟨rfl, 0, rfl⟩
  obtain ⟨a, rfl⟩ := Int.eq_ofNat_of_zero_le (show 0 ≤ n by omega)
  have ha : a ≤ s.size := by omega
  have ha8 : a ≤ 8 := by omega
  by_cases h2 : s.size - a < numOf (s.extract 0 a)
  · have hr : cutR s a = (empty, empty, 2) := by simp [cutR, hp, h2]
    rw [hr]
    clear hr
    go_enter Try.func111, Try.ntmps111
    go_wp2_with (first
      | (go_at_call 110; refine (Width_any _ _).mono ?_; rintro e w' ⟨rfl, rfl⟩)
      | (go_at_call 117; refine (Number_any _ _ (by simp; omega)).mono ?_; rintro e w' ⟨rfl, rfl⟩))
    go_ret3
    exact ⟨rfl, 0, rfl⟩
  have hk : a + numOf (s.extract 0 a) ≤ s.size := by omega
  have hr : cutR s a = (s.extract a (a + numOf (s.extract 0 a)), s.extract (a + numOf (s.extract 0 a)) s.size, 0) := by
    have e1 : ¬ ((s.size : Int) < a ∨ s.size - a < numOf (s.extract 0 a)) := by omega
    simp only [cutR, hp, if_true, Int.toNat_natCast]
    rw [if_neg e1]
    rw [ext_head s a _ hk, ext_tail s a _ ha]
  rw [hr]
  clear hr
  obtain ⟨k, hkk⟩ : ∃ k, k = numOf (s.extract 0 a) := ⟨_, rfl⟩
  have HK := Lib.hid hkk
  rw [← hkk] at hk h2 ⊢
  clear hkk
  have hki : (k : Int) ≤ 1073741824 := by omega
  have haki : (a : Int) + (k : Int) ≤ (s.size : Int) := by omega
  go_enter Try.func111, Try.ntmps111
  go_wp2_with (first
    | (go_at_call 110; refine (Width_any _ _).mono ?_; rintro e w' ⟨rfl, rfl⟩)
    | (go_at_call 117; refine (Number_any _ _ (by simp; omega)).mono ?_; rw [← HK.out]; rintro e w' ⟨rfl, rfl⟩))
  go_quiet (fail)
  go_wp2_with fail
  go_ret3
  exact ⟨rfl, _, rfl⟩

/-- what Pieces leaves -/
def PiecesLeaves (s : ByteArray) (n : Int) (w : World) (e : Ending) (w' : World) : Prop :=
  ∃ A c, e = .returned (.tuple #[.slice A (piecesR s n).1.length c, .int .i64 (piecesR s n).2]) ∧ Sees w' w'.heap.size A (piecesR s n).1.length (texts (piecesR s n).1) ∧ Below w.heap.size w w'

theorem text_infoG : (Try.prog.info? 9).map (fun i => (i.zero, i.size, i.bytes)) = some (some (.string ⟨#[]⟩), 1, 16) := by kernel_rfl
def sizeOfText : Value → Nat | .string s => s.size | _ => 0

def CutsAt (s : ByteArray) (n : Int) (w : World) (t : ByteArray) (v : Value) (wr : World) : Prop :=
  ∃ acc, Cuts s n acc t ∧ acc.length + t.size ≤ s.size ∧ wr.ownsRow w.heap.size 9 1 v acc.length (texts acc) ∧ Below w.heap.size w wr

set_option maxHeartbeats 1000000 in
theorem Pieces_any (s : ByteArray) (n : Int) (w : World) (hs : s.size ≤ 1073741824) :
    Calls Try.prog 116 #[.string s, .int .i64 n] w (PiecesLeaves s n w) := by
  cases hp : pB n
  · have HR : Hid (piecesR s n = ([], 1)) := Lib.hid (by simp [piecesR, hp])
    go_enter Try.func116, Try.ntmps116
    go_wp2_with (go_at_call 86; refine (isPieceWidth_any _ _).mono ?_; rintro e w' ⟨rfl, rfl⟩)
    go_ret2
    exact ⟨none, 0, by rw [HR.out]; rfl, by rw [HR.out]; exact Sees.nil _ _ _, Below.refl _ _⟩
  go_enter Try.func116, Try.ntmps116
  go_wp2_with (go_at_call 86; refine (isPieceWidth_any _ _).mono ?_; rintro e w' ⟨rfl, rfl⟩)
  have HP := Lib.hid hp
  clear hp
  go_loopw [0, 6] (fun b v wr => ∃ t, b = .string t ∧ CutsAt s n w t v wr) (fun b _ _ => sizeOfText b)
  case atStart => exact ⟨s, rfl, [], Cuts.start s n, by simp, World.ownsRow_nil _ _ _ _, Below.refl _ _⟩
  case round =>
    obtain ⟨t, rfl, acc, hd, hsz, hown, GB⟩ := hrel
    by_cases h0 : t.size = 0
    · have ht : t = ⟨#[]⟩ := ByteArray.ext (Array.eq_empty_of_size_eq_zero h0)
      subst ht
      have HR : Hid (piecesR s n = (acc, 0)) := Lib.hid (piecesR_some HP.out (hd.ends rfl))
      obtain ⟨A', c', rfl, hsee⟩ := Sees.own hown
      clear hd h0 hsz
      go_wp2_with fail
      go_ret2
      exact ⟨A', c', by rw [HR.out]; rfl, by rw [HR.out]; exact hsee, GB⟩
    · have hne := not_empty h0
      have hpos : 0 < t.size := by omega
      rcases cutR_code t n HP.out with hcode | ⟨hcode, hless⟩
      · have HR : Hid (piecesR s n = ([], 2)) := Lib.hid (piecesR_none HP.out (hd.fails h0 hcode))
        clear hd h0
        go_wp2_with (go_at_call 55; refine (Cut_any t n _ (by omega)).mono ?_; rintro e w1 ⟨rfl, hB1⟩)
        go_ret2
        exact ⟨none, 0, by rw [HR.out]; rfl, by rw [HR.out]; exact Sees.nil _ _ _, GB.trans (hB1.mono GB.size)⟩
      · have HD := Lib.hid (hd.step h0 hcode hless)
        obtain ⟨p, r, hC⟩ : ∃ p r, cutR t n = (p, r, 0) := ⟨(cutR t n).1, (cutR t n).2.1, by rw [← hcode]⟩
        rw [hC] at HD hless
        have HC := Lib.hid hC
        have hr : r.size + 1 ≤ t.size := hless
        have HD' : Hid (Cuts s n (acc ++ [p]) r) := HD
        obtain ⟨i0, hi0, hz0, hz1, hz2⟩ := info_parts text_infoG
        have H63 : Hid (acc.length + 1 ≤ maxLen) := Lib.hid (by unfold maxLen; omega)
        have H47 : Hid ((acc.length + 1) * 16 ≤ 140737488355328) := Lib.hid (by omega)
        have HO := Lib.hid hown
        clear hd h0 hown hcode hC HD hless
        go_wp2_with (first
          | (go_at_call 55; refine (Cut_any t n _ (by omega)).mono ?_; rw [HC.out]; rintro e w1 ⟨rfl, hB1⟩)
          | (at_builtin; refine wpList_append_own _ rfl _ _ 88 rfl w.heap.size 9 i0 (.string ⟨#[]⟩) 1 16 Try.underlying88 hi0 hz0 hz1 hz2 rfl (by decide) _ _ _ rfl ((own_below HO.out hB1).alloc _) ⟨w1.heap.size, 0, none⟩ 1 1 [.string p] rfl rfl (news1 _ _ _) (one1 _ rfl) H63.out H47.out (by have := GB.size; have := hB1.size; simp; omega) ?_; intro v2 w2 hown2 hgrow _))
        have hown3 : w2.ownsRow w.heap.size 9 1 v2 (acc ++ [p]).length (texts (acc ++ [p])) := by simpa [texts] using hown2
        have HO3 := Lib.hid hown3
        have HB2 := Lib.hid (((GB.trans (hB1.mono GB.size)).alloc (Nat.le_trans GB.size hB1.size) _).grown hgrow (by have := GB.size; have := hB1.size; simp; omega) (fun j hj => (HO.out.lt j hj).1))
        clear hown2 hown3 hgrow hB1
        go_roundw
        case rel => exact ⟨r, rfl, _, HD'.out, by simp; omega, HO3.out, HB2.out⟩
        case measure => simp [sizeOfText]; omega

set_option maxHeartbeats 1000000 in
theorem RefPieces_any (s : ByteArray) (n : Int) (w : World) (hs : s.size ≤ 1073741824) :
    Calls Try.prog 96 #[.string s, .int .i64 n] w (PiecesLeaves s n w) := by
  cases hp : pB n
  · have HR : Hid (piecesR s n = ([], 1)) := Lib.hid (by simp [piecesR, hp])
    cases hw : wB n
    · go_enter Try.func96, Try.ntmps96
      go_wp2_with (go_at_call 110; refine (Width_any _ _).mono ?_; rintro e w' ⟨rfl, rfl⟩)
      go_ret2
      exact ⟨none, 0, by rw [HR.out]; rfl, by rw [HR.out]; exact Sees.nil _ _ _, Below.refl _ _⟩
    · obtain rfl : n = 8 := by simp [pB] at hp; simp [wB] at hw; omega
      go_enter Try.func96, Try.ntmps96
      go_wp2_with (go_at_call 110; refine (Width_any _ _).mono ?_; rintro e w' ⟨rfl, rfl⟩)
      go_ret2
      exact ⟨none, 0, by rw [HR.out]; rfl, by rw [HR.out]; exact Sees.nil _ _ _, Below.refl _ _⟩
  have hw : wB n = true := by rcases pB_cases hp with rfl | rfl | rfl <;> rfl
  have h8 : (n == 8) = false := by rcases pB_cases hp with rfl | rfl | rfl <;> rfl
  go_enter Try.func96, Try.ntmps96
  go_wp2_with (go_at_call 110; refine (Width_any _ _).mono ?_; rintro e w' ⟨rfl, rfl⟩)
  have HP := Lib.hid hp
  clear hp
  go_loopw [0, 6] (fun b v wr => ∃ t, b = .string t ∧ CutsAt s n w t v wr) (fun b _ _ => sizeOfText b)
  case atStart => exact ⟨s, rfl, [], Cuts.start s n, by simp, World.ownsRow_nil _ _ _ _, Below.refl _ _⟩
  case round =>
    obtain ⟨t, rfl, acc, hd, hsz, hown, GB⟩ := hrel
    by_cases h0 : t.size = 0
    · have ht : t = ⟨#[]⟩ := ByteArray.ext (Array.eq_empty_of_size_eq_zero h0)
      subst ht
      have HR : Hid (piecesR s n = (acc, 0)) := Lib.hid (piecesR_some HP.out (hd.ends rfl))
      obtain ⟨A', c', rfl, hsee⟩ := Sees.own hown
      clear hd h0 hsz
      go_wp2_with fail
      go_ret2
      exact ⟨A', c', by rw [HR.out]; rfl, by rw [HR.out]; exact hsee, GB⟩
    · have hne := not_empty h0
      have hpos : 0 < t.size := by omega
      rcases cutR_code t n HP.out with hcode | ⟨hcode, hless⟩
      · have HR : Hid (piecesR s n = ([], 2)) := Lib.hid (piecesR_none HP.out (hd.fails h0 hcode))
        clear hd h0
        go_wp2_with (go_at_call 111; refine (RefCut_any t n _ (by omega)).mono ?_; rintro e w1 ⟨rfl, m1, rfl⟩)
        go_ret2
        exact ⟨none, 0, by rw [HR.out]; rfl, by rw [HR.out]; exact Sees.nil _ _ _, below_drewN GB m1⟩
      · have HD := Lib.hid (hd.step h0 hcode hless)
        obtain ⟨p, r, hC⟩ : ∃ p r, cutR t n = (p, r, 0) := ⟨(cutR t n).1, (cutR t n).2.1, by rw [← hcode]⟩
        rw [hC] at HD hless
        have HC := Lib.hid hC
        have hr : r.size + 1 ≤ t.size := hless
        have HD' : Hid (Cuts s n (acc ++ [p]) r) := HD
        obtain ⟨i0, hi0, hz0, hz1, hz2⟩ := info_parts text_infoG
        have H63 : Hid (acc.length + 1 ≤ maxLen) := Lib.hid (by unfold maxLen; omega)
        have H47 : Hid ((acc.length + 1) * 16 ≤ 140737488355328) := Lib.hid (by omega)
        have HO := Lib.hid hown
        clear hd h0 hown hcode hC HD hless
        go_wp2_with (first
          | (go_at_call 111; refine (RefCut_any t n _ (by omega)).mono ?_; rw [HC.out]; rintro e w1 ⟨rfl, m1, rfl⟩; have hB1 := below_drewN (Below.refl wr.heap.size wr) m1)
          | (at_builtin; refine wpList_append_own _ rfl _ _ 88 rfl w.heap.size 9 i0 (.string ⟨#[]⟩) 1 16 Try.underlying88 hi0 hz0 hz1 hz2 rfl (by decide) _ _ _ rfl ((own_below HO.out hB1).alloc _) ⟨wr.heap.size, 0, none⟩ 1 1 [.string p] rfl rfl (news1 _ _ _) (one1 _ rfl) H63.out H47.out (by have := GB.size; simp; omega) ?_; intro v2 w2 hown2 hgrow _))
        have hown3 : w2.ownsRow w.heap.size 9 1 v2 (acc ++ [p]).length (texts (acc ++ [p])) := by simpa [texts] using hown2
        have HO3 := Lib.hid hown3
        have HB2 := Lib.hid (((GB.trans (hB1.mono GB.size)).alloc (Nat.le_trans GB.size hB1.size) _).grown hgrow (by have := GB.size; have := hB1.size; simp; omega) (fun j hj => (HO.out.lt j hj).1))
        clear hown2 hown3 hgrow hB1
        go_roundw
        case rel => exact ⟨r, rfl, _, HD'.out, by simp; omega, HO3.out, HB2.out⟩
        case measure => simp [sizeOfText]; omega
end Go.Proofs.Ytdanncclnhkmgaa
