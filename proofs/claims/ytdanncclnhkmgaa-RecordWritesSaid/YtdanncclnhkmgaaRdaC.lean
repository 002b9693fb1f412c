/- The parts of a type; a part cut off. No statement of the seat is proved here. -/
import Derived.Test.YtdanncclnhkmgaaRdaM
import Derived.Test.YtdanncclnhkmgaaPakD
import Derived.Test.YtdanncclnhkmgaaOctG
namespace Go.Proofs.Ytdanncclnhkmgaa
open Go.RowKit

abbrev paT : TypeId := 94
def partC (t : Int) : Array Value := ((partsP t).map (Value.int .i64)).toArray
def PartsLeaves (t : Int) (w : World) (e : Ending) (w' : World) : Prop :=
  ∃ g, e = .returned (.slice (some ⟨g, 0, none⟩) (partsP t).length (partsP t).length) ∧ Whole w' g paT (partC t) ∧ w.heap.size ≤ g ∧ Below w.heap.size w w'
theorem parts_leaf {t : Int} {w : World} {ks : List Int} (h : partsP t = ks) {v : Value} {w' : World} (hv : v = .slice (some ⟨w.heap.size, 0, none⟩) ks.length ks.length) (hw : w' = w.alloc (.cells (ks.map (Value.int .i64)).toArray paT)) : PartsLeaves t w (.returned v) w' := by
  subst hv hw
  refine ⟨w.heap.size, by rw [h], ?_, Nat.le_refl _, (Below.refl _ _).alloc (Nat.le_refl _) _⟩
  unfold partC
  rw [h]
  exact Whole.new _ _ _

set_option maxHeartbeats 1000000 in
theorem partsOf_any (t : Int) (w : World) : Calls Try.prog 107 #[.int .i64 t] w (PartsLeaves t w) := by
  have hk : t = 1 ∨ t = 28 ∨ t = 2 ∨ t = 5 ∨ t = 12 ∨ t = 15 ∨ t = 6 ∨ t = 16 ∨ t = 33 ∨ (t ≠ 1 ∧ t ≠ 28 ∧ t ≠ 2 ∧ t ≠ 5 ∧ t ≠ 12 ∧ t ≠ 15 ∧ t ≠ 6 ∧ t ≠ 16 ∧ t ≠ 33) := by omega
  rcases hk with rfl | rfl | rfl | rfl | rfl | rfl | rfl | rfl | rfl | ⟨h1, h2, h3, h4, h5, h6, h7, h8, h9⟩
  case inr.inr.inr.inr.inr.inr.inr.inr.inr =>
    have e1 : (t == 1) = false := by simp [h1]
    have e2 : (t == 28) = false := by simp [h2]
    have e3 : (t == 2) = false := by simp [h3]
    have e4 : (t == 5) = false := by simp [h4]
    have e5 : (t == 12) = false := by simp [h5]
    have e6 : (t == 15) = false := by simp [h6]
    have e7 : (t == 6) = false := by simp [h7]
    have e8 : (t == 16) = false := by simp [h8]
    have e9 : (t == 33) = false := by simp [h9]
    have HP := Lib.hid (show partsP t = [-4] by unfold partsP; simp [h1, h2, h3, h4, h5, h6, h7, h8, h9])
    clear h1 h2 h3 h4 h5 h6 h7 h8 h9
    go_enter Try.func107, Try.ntmps107
    go_wp2
    go_ret
    exact parts_leaf HP.out rfl rfl
  all_goals (
    go_enter Try.func107, Try.ntmps107
    go_wp2
    go_ret
    exact parts_leaf rfl rfl rfl)

/-! ### a part cut off -/
def CutE (r : Option (List UInt8 × Nat)) (en : Ending) : Prop :=
  match r with
  | some (b, q) => en = .returned (.tuple #[.string (mk b), .int .i64 (q : Nat), .bool true])
  | none => ∃ x q, en = .returned (.tuple #[.string x, .int .i64 q, .bool false])

set_option maxHeartbeats 1000000 in
theorem cutName_any (S : ByteArray) (M : List UInt8) (p e : Nat) (w : World) (hS : S = mk M) (hM : M.length ≤ 1000000) (hp : p ≤ M.length) :
    Calls Try.prog 115 #[.string S, .int .i64 (p : Nat), .int .i64 (e : Nat)] w fun en w' => CutE (nm M e p) en ∧ Below w.heap.size w w' := by
  have HS := Lib.hid hS
  clear hS
  cases hr : readR M [] p p none with
  | none =>
    have HN := Lib.hid (show nm M e p = none by unfold nm; rw [hr])
    have HR := Lib.hid hr
    clear hr
    go_enter Try.func115, Try.ntmps115
    go_wp2_with fail
    refine (Read_in S M p _ HS.out hM hp).mono ?_
    rw [HR.out]
    unfold readV
    rintro en w1 ⟨rfl, hB⟩
    go_wp2_with fail
    go_ret3
    exact ⟨by rw [HN.out]; exact ⟨_, _, rfl⟩, hB⟩
  | some r =>
    obtain ⟨b, q⟩ := r
    have HR := Lib.hid hr
    clear hr
    by_cases hq : q ≤ e
    · have gq : (q : Int) ≤ (e : Int) := by omega
      have HN := Lib.hid (show nm M e p = some (b, q) by unfold nm; rw [HR.out]; simp only; rw [if_pos hq])
      go_enter Try.func115, Try.ntmps115
      go_wp2_with fail
      refine (Read_in S M p _ HS.out hM hp).mono ?_
      rw [HR.out]
      unfold readV
      rintro en w1 ⟨rfl, hB⟩
      go_wp2_with fail
      go_ret3
      exact ⟨by rw [HN.out]; rfl, hB⟩
    · have gq : (e : Int) < (q : Int) := by omega
      have HN := Lib.hid (show nm M e p = none by unfold nm; rw [HR.out]; simp only; rw [if_neg hq])
      go_enter Try.func115, Try.ntmps115
      go_wp2_with fail
      refine (Read_in S M p _ HS.out hM hp).mono ?_
      rw [HR.out]
      unfold readV
      rintro en w1 ⟨rfl, hB⟩
      go_wp2_with fail
      go_ret3
      exact ⟨by rw [HN.out]; exact ⟨_, _, rfl⟩, hB⟩
theorem mk_seg {S : ByteArray} {M : List UInt8} (hS : S = mk M) (p e : Nat) : S.extract p e = mk (seg M p e) := by
  rw [hS, mk_extract]; rfl

set_option maxHeartbeats 2000000 in
theorem cut_any (S : ByteArray) (M : List UInt8) (p e : Nat) (k : Int) (w : World) (hk : Part k) (hS : S = mk M) (hM : M.length ≤ 1000000) (hp : p ≤ e) (he : e ≤ M.length) :
    Calls Try.prog 108 #[.string S, .int .i64 (p : Nat), .int .i64 (e : Nat), .int .i64 k] w fun en w' => CutE (cutP M e k p) en ∧ Below w.heap.size w w' := by
  obtain ⟨hk1, hk2⟩ := hk
  have hSz : S.size = M.length := by rw [hS, mk_size]
  have g1 : (0 : Int) ≤ (p : Int) := by omega
  have g2 : (p : Int) ≤ (e : Int) := by omega
  have g3 : (e : Int) ≤ (S.size : Int) := by omega
  have HS := Lib.hid hS
  have HSZ := Lib.hid hSz
  clear hS hSz
  rcases (show k = -1 ∨ k = -2 ∨ k = -3 ∨ k = -4 ∨ 0 ≤ k by omega) with rfl | rfl | rfl | rfl | h0
  · have e1 : cutP M e (-1) p = nm M e p := by unfold cutP; rw [if_pos rfl]
    cases hn : nm M e p with
    | none =>
      have HN := Lib.hid hn
      have HC := Lib.hid (e1.trans hn)
      clear e1 hn
      go_enter Try.func108, Try.ntmps108
      go_wp2_with fail
      refine (cutName_any S M p e _ HS.out hM (by omega)).mono ?_
      rw [HN.out]
      rintro en w1 ⟨⟨x, q, rfl⟩, hB⟩
      go_wp2_with fail
      go_ret3
      exact ⟨by rw [HC.out]; exact ⟨_, _, rfl⟩, hB⟩
    | some r =>
      obtain ⟨b, q⟩ := r
      have HN := Lib.hid hn
      have HC := Lib.hid (e1.trans hn)
      clear e1 hn
      go_enter Try.func108, Try.ntmps108
      go_wp2_with fail
      refine (cutName_any S M p e _ HS.out hM (by omega)).mono ?_
      rw [HN.out]
      rintro en w1 ⟨hc, hB⟩
      obtain rfl := hc
      go_wp2_with fail
      go_ret3
      exact ⟨by rw [HC.out]; rfl, hB⟩
  · have e1 : cutP M e (-2) p = match nm M e p with | some r => if r.1 = seg M p r.2 then some r else none | none => none := by unfold cutP; rw [if_neg (by decide), if_pos rfl]; rfl
    cases hn : nm M e p with
    | none =>
      rw [hn] at e1
      have HN := Lib.hid hn
      have HC := Lib.hid e1
      clear e1 hn
      go_enter Try.func108, Try.ntmps108
      go_wp2_with fail
      refine (cutName_any S M p e _ HS.out hM (by omega)).mono ?_
      rw [HN.out]
      rintro en w1 ⟨⟨x, q, rfl⟩, hB⟩
      go_wp2_with fail
      go_quiet (fail)
      go_wp2_with fail
      go_ret3
      exact ⟨by rw [HC.out]; exact ⟨_, _, rfl⟩, below_drewN hB _⟩
    | some r =>
      rw [hn] at e1
      obtain ⟨b, q⟩ := r
      obtain ⟨_, h5, h6, _⟩ := nm_is hn
      simp only at h5 h6 e1
      have g4 : (p : Int) ≤ (q : Int) := by omega
      have g5 : (q : Int) ≤ (S.size : Int) := by omega
      have hex := mk_seg HS.out p q
      have HN := Lib.hid hn
      by_cases hb : b = seg M p q
      · have hbe : ((mk b).toList == (S.extract p q).toList) = true := by rw [hex, hb]; simp
        rw [if_pos hb] at e1
        have HC := Lib.hid e1
        clear e1 hn hb hex
        go_enter Try.func108, Try.ntmps108
        go_wp2_with fail
        refine (cutName_any S M p e _ HS.out hM (by omega)).mono ?_
        rw [HN.out]
        rintro en w1 ⟨hc, hB⟩
        obtain rfl := hc
        go_wp2_with fail
        go_quiet (fail)
        go_wp2_with fail
        go_ret3
        exact ⟨by rw [HC.out]; rfl, below_drewN hB _⟩
      · have hbe : ((mk b).toList == (S.extract p q).toList) = false := by rw [hex, mk_beq, beq_eq_false_iff_ne]; exact hb
        rw [if_neg hb] at e1
        have HC := Lib.hid e1
        clear e1 hn hb hex
        go_enter Try.func108, Try.ntmps108
        go_wp2_with fail
        refine (cutName_any S M p e _ HS.out hM (by omega)).mono ?_
        rw [HN.out]
        rintro en w1 ⟨hc, hB⟩
        obtain rfl := hc
        go_wp2_with fail
        go_quiet (fail)
        go_wp2_with fail
        go_ret3
        exact ⟨by rw [HC.out]; exact ⟨_, _, rfl⟩, below_drewN hB _⟩
  · have hex := mk_seg HS.out p e
    obtain ⟨T, hT⟩ : ∃ T, T = S.extract p e := ⟨_, rfl⟩
    have hTm : T = mk (seg M p e) := by rw [hT, hex]
    have hTz : T.size ≤ 1073741824 := by rw [hTm, mk_size, seg_len he]; omega
    have HT := Lib.hid hT
    clear hex hT
    have e1 : cutP M e (-3) p = if pcs (seg M p e) = true then some (seg M p e, e) else none := by unfold cutP; rw [if_neg (by decide), if_neg (by decide), if_pos rfl]
    have hpc : pcs (seg M p e) = ((piecesR T 1).2 == 0 && !(piecesR T 1).1.isEmpty) := by unfold pcs; rw [hTm]
    obtain ⟨l, z, hl⟩ : ∃ l z, piecesR T 1 = (l, z) := ⟨_, _, rfl⟩
    rw [hl] at hpc
    simp only at hpc
    have HL := Lib.hid hl
    have HTM := Lib.hid hTm
    clear hl hTm
    by_cases hz : z = 0
    · subst hz
      cases l with
      | nil =>
        rw [hpc, if_neg (by simp)] at e1
        have HC := Lib.hid e1
        clear e1 hpc
        go_enter Try.func108, Try.ntmps108
        go_wp2_with fail
        rw [← HT.out]
        refine (Pieces_any T 1 _ hTz).mono ?_
        unfold PiecesLeaves
        rw [HL.out]
        rintro en w1 ⟨A, c, rfl, _, hB⟩
        go_wp2_with fail
        go_ret3
        exact ⟨by rw [HC.out]; exact ⟨_, _, rfl⟩, hB⟩
      | cons x l =>
        rw [if_pos (by rw [hpc]; rfl)] at e1
        have HC := Lib.hid e1
        have g6 : (0 : Int) < ((x :: l).length : Int) := by simp
        obtain ⟨xs, hxs⟩ : ∃ xs, xs = x :: l := ⟨_, rfl⟩
        rw [← hxs] at HL g6
        have g7 : 0 < xs.length := by omega
        clear e1 hpc hxs
        go_enter Try.func108, Try.ntmps108
        go_wp2_with fail
        rw [← HT.out]
        refine (Pieces_any T 1 _ hTz).mono ?_
        unfold PiecesLeaves
        rw [HL.out]
        rintro en w1 ⟨A, c, rfl, _, hB⟩
        go_wp2_with fail
        go_ret3
        exact ⟨by rw [HC.out]; show Ending.returned (.tuple #[.string T, .int .i64 (e : Nat), .bool true]) = _; rw [← HTM.out], hB⟩
    · have g6 : (z == 0) = false := by simp [hz]
      rw [if_neg (by rw [hpc, g6]; simp)] at e1
      have HC := Lib.hid e1
      clear e1 hpc
      go_enter Try.func108, Try.ntmps108
      go_wp2_with fail
      rw [← HT.out]
      refine (Pieces_any T 1 _ hTz).mono ?_
      unfold PiecesLeaves
      rw [HL.out]
      rintro en w1 ⟨A, c, rfl, _, hB⟩
      go_wp2_with fail
      go_ret3
      exact ⟨by rw [HC.out]; exact ⟨_, _, rfl⟩, hB⟩
  · have hex := mk_seg HS.out p e
    have e1 : cutP M e (-4) p = some (seg M p e, e) := by unfold cutP; rw [if_neg (by decide), if_neg (by decide), if_neg (by decide), if_pos rfl]
    have HE := Lib.hid e1
    have HX := Lib.hid hex
    clear e1 hex
    go_enter Try.func108, Try.ntmps108
    go_wp2_with fail
    go_ret3
    exact ⟨by rw [HE.out, HX.out]; rfl, Below.refl _ _⟩
  · obtain ⟨n, rfl⟩ := Int.eq_ofNat_of_zero_le h0
    have g4 : ((n : Int) == -1) = false := by rw [beq_eq_false_iff_ne]; omega
    have g5 : ((n : Int) == -2) = false := by rw [beq_eq_false_iff_ne]; omega
    have g6 : ((n : Int) == -3) = false := by rw [beq_eq_false_iff_ne]; omega
    have g7 : ((n : Int) == -4) = false := by rw [beq_eq_false_iff_ne]; omega
    have hcn := cut_num (M := M) (e := e) (p := p) (n := n)
    by_cases hq : p + n ≤ e
    · rw [if_pos hq] at hcn
      have HC := Lib.hid hcn
      have HX := Lib.hid (mk_seg HS.out p (p + n))
      have g8 : (p : Int) + (n : Int) ≤ (e : Int) := by omega
      have g9 : (p : Int) + (n : Int) ≤ (S.size : Int) := by omega
      have g10 : (p : Int) ≤ (p : Int) + (n : Int) := by omega
      clear hcn
      go_enter Try.func108, Try.ntmps108
      go_wp2_with fail
      go_ret3
      exact ⟨by rw [HC.out, HX.out]; rfl, Below.refl _ _⟩
    · rw [if_neg hq] at hcn
      have HC := Lib.hid hcn
      have g8 : (e : Int) < (p : Int) + (n : Int) := by omega
      clear hcn
      go_enter Try.func108, Try.ntmps108
      go_wp2_with fail
      go_ret3
      exact ⟨by rw [HC.out]; exact ⟨_, _, rfl⟩, Below.refl _ _⟩
end Go.Proofs.Ytdanncclnhkmgaa
