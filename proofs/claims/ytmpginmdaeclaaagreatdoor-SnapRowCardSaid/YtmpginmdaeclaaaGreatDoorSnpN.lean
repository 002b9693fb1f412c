/- Parts of the proofs of the statements of image. No statement of the seat is proved here. -/
import Derived.Test.YtmpginmdaeclaaaGreatDoorSnpB
set_option maxHeartbeats 32000000
set_option maxRecDepth 20000
namespace Go.Proofs.YtmpginmdaeclaaaGreatDoor
theorem fileAt_put {S : St} {i : Nat} (hi : i < S.files.length) (x : Bys × Nat) : fileAt (setF S i x) i = x := by
  unfold fileAt setF
  simp [List.getD, hi]
theorem fileAt_oth {S : St} {i j : Nat} (h : i ≠ j) (x : Bys × Nat) : fileAt (setF S i x) j = fileAt S j := by
  unfold fileAt setF
  simp [List.getD, List.getElem?_set_ne h]
theorem count_on {S : St} {m : Nat} (h : S.left = 0 \/ m + 1 < S.left) (hd : S.down = false) : (count S).down = false /\ ((count S).left = 0 \/ m < (count S).left) /\ (count S).names = S.names /\ (count S).files = S.files /\ (count S).quota = S.quota /\ (count S).safe = S.safe /\ (count S).pend = S.pend /\ (S.left = 0 -> (count S).left = 0) := by
  unfold count
  split
  · rename_i h0
    exact ⟨hd, .inl h0, rfl, rfl, rfl, rfl, rfl, fun _ => h0⟩
  · rename_i h0
    refine ⟨?_, .inr ?_, rfl, rfl, rfl, rfl, rfl, fun h => absurd h h0⟩
    · simp only [decide_eq_false_iff_not]; omega
    · simp only; omega
theorem open_is {S : St} {nm : Bys} {i : Nat} (hd : S.down = false) (hf : findN S.names nm = some i) : openS S nm true = (i, 0) := by
  unfold openS
  rw [if_neg (by rw [hd]; decide), if_pos rfl, hf]
theorem open_no {S : St} {nm : Bys} (hd : S.down = false) (hf : findN S.names nm = none) : openS S nm true = (0, 6) := by
  unfold openS
  rw [if_neg (by rw [hd]; decide), if_pos rfl, hf]
theorem read_is {S : St} {nm : Bys} {i : Nat} (hn : isN nm = true) (hd : S.down = false) (hf : findN S.names nm = some i) : readS S nm = ((fileAt S i).1, 0) := by
  unfold readS
  rw [hn, open_is hd hf, if_pos rfl]
theorem disc_no {S : St} (hd : S.down = false) (hf : findN S.names itmN = none) : discS S = (S, 0) := by
  have e : removeS S itmN = (S, 6) := by
    unfold removeS; rw [isN_itm, open_no hd hf, if_neg (by decide)]
  unfold discS
  rw [e]
  rfl
def savN (S : St) : Nms := putN (delN (putN (delN S.names []) itmN S.files.length) itmN) imgN S.files.length
theorem find_put_self (N : Nms) (k : Bys) (f : Nat) : findN (putN N k f) k = some f := by
  have hno : ∀ p ∈ delN N k, (p.1 == k) = false := fun p hp => by
    have := (mem_delN_iff.1 hp).2
    simpa using this
  unfold putN
  generalize delN N k = L at hno
  unfold findN
  induction L with
  | nil => simp [insN]
  | cons y r ih =>
    unfold insN
    split
    · simp
    · rw [List.find?_cons, hno y (by simp)]
      exact ih fun p hp => hno p (by simp [hp])
theorem save_ok {S : St} {m : Nat} (fr : Bys) (hd : S.down = false) (hl : S.left = 0 \/ m + 4 < S.left) (hr : Re S) (hn : findN S.names itmN = none) (hq : (fr.length : Int) + used S <= S.quota) :
    ∃ S', saveS S fr = (S', 0) /\ S'.files = S.files ++ [(fr, fr.length)] /\ S'.names = savN S /\ S'.safe = S'.names /\ S'.pend = [] /\ S'.down = false /\ S'.quota = S.quota /\ (S'.left = 0 \/ m < S'.left) /\ (S.left = 0 -> S'.left = 0) /\ findN S'.names imgN = some S.files.length := by
  -- the bytes
  obtain ⟨S2, hS2, f2, n2, q2, d2, l2, s2, p2, z2⟩ : ∃ S2, appendS S itmN fr = (S2, 0) /\ S2.files = S.files ++ [(fr, 0)] /\ S2.names = putN (delN S.names []) itmN S.files.length /\ S2.quota = S.quota /\ S2.down = false /\ (S2.left = 0 \/ m + 3 < S2.left) /\ S2.safe = S.safe /\ S2.pend = S.pend ++ [⟨[], itmN, some S.files.length⟩] /\ (S.left = 0 -> S2.left = 0) := by
    obtain ⟨c1, c2, c3, c4, c5, c6, c7, c8⟩ := count_on (S := addB (chg (addF S) ⟨[], itmN, some S.files.length⟩) S.files.length fr) (m := m + 3) hl hd
    refine ⟨count (addB (chg (addF S) ⟨[], itmN, some S.files.length⟩) S.files.length fr), ?_, ?_, c3, c5, c1, c2, c6, c7, c8⟩
    · unfold appendS
      rw [if_neg (by rw [hd]; decide), if_pos isN_itm, if_neg (by omega), hn]
    · rw [c4]
      simp [addB, chg, addF, setF, fileAt, List.getD]
  -- the sync
  have fi2 : findN S2.names itmN = some S.files.length := by rw [n2]; exact find_put_self _ _ _
  obtain ⟨S3, hS3, f3, n3, q3, d3, l3, s3, p3, z3⟩ : ∃ S3, syncS S2 itmN = (S3, 0) /\ S3.files = S.files ++ [(fr, fr.length)] /\ S3.names = S2.names /\ S3.quota = S.quota /\ S3.down = false /\ (S3.left = 0 \/ m + 2 < S3.left) /\ S3.safe = S.safe /\ S3.pend = S2.pend /\ (S.left = 0 -> S3.left = 0) := by
    have ef : fileAt S2 S.files.length = (fr, 0) := by unfold fileAt; rw [f2]; simp [List.getD]
    obtain ⟨c1, c2, c3, c4, c5, c6, c7, c8⟩ := count_on (S := setF S2 S.files.length ((fileAt S2 S.files.length).1, lenOf S2 S.files.length)) (m := m + 2) l2 d2
    refine ⟨count (setF S2 S.files.length ((fileAt S2 S.files.length).1, lenOf S2 S.files.length)), ?_, ?_, c3, c5.trans q2, c1, c2, c6.trans s2, c7, fun h => c8 (z2 h)⟩
    · unfold syncS
      rw [isN_itm, open_is d2 fi2, if_pos rfl]
    · rw [c4]
      unfold setF lenOf
      unfold fileAt at ef
      rw [show fileAt S2 S.files.length = (fr, 0) from ef, ef, f2]
      simp
  -- the new name
  obtain ⟨S4, hS4, f4, n4, q4, d4, l4, s4, p4, z4⟩ : ∃ S4, renameS S3 itmN imgN = (S4, 0) /\ S4.files = S.files ++ [(fr, fr.length)] /\ S4.names = savN S /\ S4.quota = S.quota /\ S4.down = false /\ (S4.left = 0 \/ m + 1 < S4.left) /\ S4.safe = S.safe /\ S4.pend = S2.pend ++ [⟨itmN, imgN, some S.files.length⟩] /\ (S.left = 0 -> S4.left = 0) := by
    have e : openS S3 itmN (isN itmN && isN imgN) = (S.files.length, 0) := by rw [isN_itm, isN_img]; exact open_is d3 (by rw [n3]; exact fi2)
    obtain ⟨c1, c2, c3, c4, c5, c6, c7, c8⟩ := count_on (S := chg S3 ⟨itmN, imgN, some S.files.length⟩) (m := m + 1) l3 d3
    refine ⟨count (chg S3 ⟨itmN, imgN, some S.files.length⟩), ?_, c4.trans f3, ?_, c5.trans q3, c1, c2, c6.trans s3, c7.trans (by show S3.pend ++ _ = _; rw [p3]), fun h => c8 (z3 h)⟩
    · unfold renameS
      rw [e]
      rfl
    · rw [c3]
      show putN (delN S3.names itmN) imgN S.files.length = _
      rw [n3, n2]
      rfl
  obtain ⟨S5, hS5, f5, n5, q5, d5, l5, s5, p5, z5⟩ : ∃ S5, syncDirS S4 = (S5, 0) /\ S5.files = S.files ++ [(fr, fr.length)] /\ S5.names = savN S /\ S5.quota = S.quota /\ S5.down = false /\ (S5.left = 0 \/ m < S5.left) /\ S5.safe = S5.names /\ S5.pend = [] /\ (S.left = 0 -> S5.left = 0) := by
    obtain ⟨c1, c2, c3, c4, c5, c6, c7, c8⟩ := count_on (S := settle S4 S4.pend.length) (m := m) l4 d4
    refine ⟨count (settle S4 S4.pend.length), ?_, c4.trans f4, c3.trans n4, c5.trans q4, c1, c2, ?_, c7, fun h => c8 (z4 h)⟩
    · unfold syncDirS
      rw [if_neg (by simp only [d4]; decide)]
    · rw [c3, c6]
      show runs (S4.pend.take S4.pend.length) S4.safe = S4.names
      rw [List.take_length, p4, p2, s4, runs_snoc, runs_snoc, <-hr, n4]
      rfl
  have hrun : runL (saveL fr) S = (S5, 0) := by
    unfold saveL; rw [runL_cons, disc_no hd hn, if_pos rfl, runL_cons, hS2, if_pos rfl, runL_cons, hS3, if_pos rfl, runL_cons, hS4, if_pos rfl, runL_cons, hS5, if_pos rfl]
    rfl
  refine ⟨S5, ?_, f5, n5, s5, p5, d5, q5, l5, z5, ?_⟩
  · unfold saveS
    rw [hrun, if_neg (by simp)]
  · rw [n5]; exact find_put_self _ _ _
theorem loseI_full {S : St} {i : Nat} (h : (fileAt S i).2 = (fileAt S i).1.length) (hi : i < S.files.length) (j c : Nat) (hc : c <= 255) : fileAt (lose S j c) i = fileAt S i := by
  unfold lose
  by_cases e : j = i
  · subst e
    have e0 : c * ((fileAt S j).1.length - (fileAt S j).2 + 1) / 256 = 0 := by rw [h]; simp; omega
    rw [fileAt_put hi, e0, Nat.add_zero, h, List.take_length]
    exact Prod.ext rfl h.symm
  · exact fileAt_oth e _
theorem lose_len (S : St) (j c : Nat) : (lose S j c).files.length = S.files.length := by unfold lose setF; simp
theorem losesI_full : ∀ (N : Nms) (S : St) (ch : Bys) (i : Nat), (fileAt S i).2 = (fileAt S i).1.length -> i < S.files.length -> fileAt (loses S N ch) i = fileAt S i
  | [], _, _, _, _, _ => rfl
  | p :: r, S, ch, i, h, hi => by
    have h1 := loseI_full h hi p.2 (head ch) (head_le ch)
    have h2 := losesI_full r (lose S p.2 (head ch)) ch.tail i (by rw [h1]; exact h) (by rw [lose_len]; exact hi)
    exact h2.trans h1
theorem loses_rest : ∀ (N : Nms) (S : St) (ch : Bys), (loses S N ch).names = S.names /\ (loses S N ch).safe = S.safe /\ (loses S N ch).pend = S.pend /\ (loses S N ch).quota = S.quota /\ (loses S N ch).files.length = S.files.length
  | [], _, _ => ⟨rfl, rfl, rfl, rfl, rfl⟩
  | p :: r, S, ch => by
    obtain ⟨h1, h2, h3, h4, h5⟩ := loses_rest r (lose S p.2 (head ch)) ch.tail
    exact ⟨h1, h2, h3, h4, h5.trans (lose_len _ _ _)⟩
theorem lose_less (S : St) (j c : Nat) (i : Nat) : (fileAt (lose S j c) i).1.length <= (fileAt S i).1.length := by
  unfold lose
  by_cases e : j = i
  · subst e
    by_cases hi : j < S.files.length
    · rw [fileAt_put hi, List.length_take]; omega
    · have : ∀ x, setF S j x = S := fun x => by unfold setF; rw [List.set_eq_of_length_le (by omega)]
      rw [this]; exact Nat.le_refl _
  · rw [fileAt_oth e]; exact Nat.le_refl _
theorem loses_less : ∀ (N : Nms) (S : St) (ch : Bys) (i : Nat), (fileAt (loses S N ch) i).1.length <= (fileAt S i).1.length
  | [], _, _, _ => Nat.le_refl _
  | p :: r, S, ch, i => Nat.le_trans (loses_less r (lose S p.2 (head ch)) ch.tail i) (lose_less _ _ _ _)
theorem restart_is (S : St) (ch : Bys) : (restartS S ch).down = false /\ (restartS S ch).left = 0 /\ (restartS S ch).pend = [] /\ (restartS S ch).quota = S.quota /\ (restartS S ch).safe = (restartS S ch).names /\ (restartS S ch).files.length = S.files.length /\
    (∃ n, n <= S.pend.length /\ (restartS S ch).names = runs (S.pend.take n) S.safe) /\ (∀ i, (fileAt S i).2 = (fileAt S i).1.length -> i < S.files.length -> fileAt (restartS S ch) i = fileAt S i) /\ ∀ i, (fileAt (restartS S ch) i).1.length <= (fileAt S i).1.length := by
  obtain ⟨h1, h2, h3, h4, h5⟩ := loses_rest (restart2 S ch).names (restart2 S ch) ch.tail
  refine ⟨rfl, rfl, h3, h4, h2.trans h1.symm, h5, ⟨head ch % (S.pend.length + 1), ?_, h1⟩, fun i hf hi => ?_, fun i => ?_⟩
  · have := Nat.mod_lt (head ch) (show 0 < S.pend.length + 1 by omega); omega
  · exact losesI_full (restart2 S ch).names (restart2 S ch) ch.tail i hf hi
  · exact loses_less (restart2 S ch).names (restart2 S ch) ch.tail i
end Go.Proofs.YtmpginmdaeclaaaGreatDoor
