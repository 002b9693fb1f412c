/- DiskSafe: what syncing everything comes to. No statement of the seat is proved here. -/
import Derived.Test.YteeomlboifleoaaCal
import Derived.Test.YteeomlboifleoaaDkN
namespace Go.Proofs.Yteeomlboifleoaa
open Go.RowKit Go.Maps Go.Sort

/-- no name is empty -/
def Nz (S : St) : Prop := ∀ p ∈ S.safe, p.1 ≠ []
theorem Nz.new (q : Int) : Nz (St.new q) := by intro p hp; cases hp
theorem count_safe (S : St) : (count S).safe = S.safe := by unfold count; split <;> rfl
theorem count_names (S : St) : (count S).names = S.names := by unfold count; split <;> rfl
theorem count_files (S : St) : (count S).files = S.files := by unfold count; split <;> rfl
theorem count_pend (S : St) : (count S).pend = S.pend := by unfold count; split <;> rfl
theorem Nz.of {S T : St} (h : Nz S) (e : T.safe = S.safe) : Nz T := by unfold Nz; rw [e]; exact h
theorem wf_dst {c : Chg} (h : c.wf) {i : Nat} (hf : c.f = some i) : c.dst ≠ [] := fun e => by rw [h.1.2 e] at hf; cases hf
theorem Nz.settle {k M : Nat} {S : St} (h : Nz S) (F : Fit k M S) (n : Nat) : Nz (settle S n) := by
  intro p hp
  rcases mem_runs hp with hp | ⟨c, hc, h1, h2⟩
  · exact h p hp
  · rw [h2]
    exact wf_dst (F.idp c (List.mem_of_mem_take hc)).1 h1
theorem Nz.names {k M : Nat} {S : St} (h : Nz S) (F : Fit k M S) (hr : Re S) : ∀ p ∈ S.names, p.1 ≠ [] := by
  intro p hp
  rw [hr] at hp
  rcases mem_runs hp with hp | ⟨c, hc, h1, h2⟩
  · exact h p hp
  · rw [h2]
    exact wf_dst (F.idp c hc).1 h1
theorem loses_safe : ∀ (N : Nms) (S : St) (ch : Bys), (loses S N ch).safe = S.safe
  | [], _, _ => rfl
  | _ :: r, _, _ => loses_safe r _ _
theorem Nz.restart {k M : Nat} {S : St} (h : Nz S) (F : Fit k M S) (ch : Bys) : Nz (restartS S ch) := by
  have h1 : Nz (restart2 S ch) := h.settle F _
  refine Nz.of h1 ?_
  exact loses_safe _ _ _
theorem Nz.doS {k M : Nat} {S : St} (h : Nz S) (F : Fit k M S) (c : CallV) : Nz (doS S c).1 := by
  unfold Yteeomlboifleoaa.doS
  split
  · refine h.of ?_
    unfold appendS
    split
    · rfl
    split
    · split
      · rfl
      · split <;> exact count_safe _
    · rfl
  · refine h.of ?_
    unfold syncS
    split
    · exact count_safe _
    · rfl
  · show Nz (syncDirS S).1
    unfold syncDirS
    split
    · exact h
    · exact (h.settle F _).of (count_safe _)
  · refine h.of ?_
    unfold renameS
    split
    · exact count_safe _
    · rfl
  · refine h.of ?_
    unfold removeS
    split
    · exact count_safe _
    · rfl
  · refine h.of ?_
    unfold breakS
    split
    · rfl
    · split <;> rfl
  · exact h.restart F _
  · exact h

/-- every name of a list is read and synced -/
def syn : St → List Bys → St × List Bys
  | S, [] => (S, [])
  | S, x :: r => ((syn (syncS S x).1 r).1, (readS S x).1 :: (syn (syncS S x).1 r).2)
theorem sync_down {S : St} (h : S.down = true) (x : Bys) : syncS S x = (S, 5) := by
  have e : openS S x (isN x) = (0, 5) := by unfold openS; rw [if_pos h]
  unfold syncS
  rw [e, if_neg (by decide)]
theorem syn_down : ∀ (l : List Bys) {S : St}, S.down = true → (syn S l).1 = S
  | [], _, _ => rfl
  | x :: r, S, h => by
    show (syn (syncS S x).1 r).1 = S
    rw [sync_down h]
    exact syn_down r h
theorem open_there {S : St} {x : Bys} {i : Nat} (hd : S.down = false) (hn : isN x = true) (hf : findN S.names x = some i) : openS S x (isN x) = (i, 0) := by
  unfold openS
  rw [if_neg (by simp [hd]), hn, if_pos rfl, hf]
theorem sync_there {S : St} {x : Bys} {i : Nat} (hd : S.down = false) (hn : isN x = true) (hf : findN S.names x = some i) : syncS S x = (count (setF S i ((fileAt S i).1, lenOf S i)), 0) := by
  unfold syncS
  rw [open_there hd hn hf, if_pos rfl]
theorem read_there {S : St} {x : Bys} {i : Nat} (hd : S.down = false) (hn : isN x = true) (hf : findN S.names x = some i) : readS S x = ((fileAt S i).1, 0) := by
  unfold readS
  rw [open_there hd hn hf, if_pos rfl]
theorem fileAt_setF {S : St} {i j : Nat} {x : Bys × Nat} (hi : i < S.files.length) : fileAt (setF S i x) j = if j = i then x else fileAt S j := by
  unfold fileAt setF
  exact getD_set _ _ _ _ _ hi
/-- T is S but for which bytes are safe, and no less of them -/
structure Less (S T : St) : Prop where
  names : T.names = S.names
  safe : T.safe = S.safe
  pend : T.pend = S.pend
  len : T.files.length = S.files.length
  cont : ∀ i, (fileAt T i).1 = (fileAt S i).1
  full : ∀ i, (fileAt S i).2 = (fileAt S i).1.length → (fileAt T i).2 = (fileAt T i).1.length
theorem Less.refl (S : St) : Less S S := ⟨rfl, rfl, rfl, rfl, fun _ => rfl, fun _ h => h⟩
theorem Less.trans {S T U : St} (h : Less S T) (k : Less T U) : Less S U :=
  ⟨k.names.trans h.names, k.safe.trans h.safe, k.pend.trans h.pend, k.len.trans h.len, fun i => (k.cont i).trans (h.cont i), fun i hi => k.full i (h.full i hi)⟩
theorem fileAt_count (S : St) (i : Nat) : fileAt (count S) i = fileAt S i := by unfold fileAt; rw [count_files]
theorem Less.sync {S : St} {i : Nat} (hi : i < S.files.length) : Less S (count (setF S i ((fileAt S i).1, lenOf S i))) := by
  refine ⟨(count_names _).trans rfl, (count_safe _).trans rfl, (count_pend _).trans rfl, by rw [count_files]; simp [setF], fun j => ?_, fun j hj => ?_⟩
  · rw [fileAt_count, fileAt_setF hi]
    split
    · rename_i e; subst e; rfl
    · rfl
  · rw [fileAt_count, fileAt_setF hi]
    split
    · rfl
    · exact hj
theorem syn_spec : ∀ (l : List Bys) {S : St}, (∀ x ∈ l, isN x = true ∧ ∃ i, findN S.names x = some i ∧ i < S.files.length) → (syn S l).1.down = false →
    S.down = false ∧ Less S (syn S l).1 ∧ (∀ x ∈ l, ∀ i, findN S.names x = some i → (fileAt (syn S l).1 i).2 = (fileAt (syn S l).1 i).1.length) ∧ (syn S l).2 = l.map fun x => (fileAt S ((findN S.names x).getD 0)).1
  | [], S, _, h => ⟨h, Less.refl S, fun _ hx => (by cases hx), rfl⟩
  | x :: r, S, hl, h => by
    obtain ⟨hn, i, hf, hi⟩ := hl x (by simp)
    have hd : S.down = false := by
      cases hd : S.down
      · rfl
      · have := syn_down (x :: r) hd
        rw [this, hd] at h
        cases h
    have e := sync_there hd hn hf
    have hLs := Less.sync (S := S) hi
    have hrec : (syn (syncS S x).1 r).1.down = false := h
    have hl2 : ∀ y ∈ r, isN y = true ∧ ∃ j, findN (syncS S x).1.names y = some j ∧ j < (syncS S x).1.files.length := by
      intro y hy
      obtain ⟨h1, j, h2, h3⟩ := hl y (by simp [hy])
      rw [e, hLs.names, hLs.len]
      exact ⟨h1, j, h2, h3⟩
    obtain ⟨_, h2, h3, h4⟩ := syn_spec r hl2 hrec
    rw [e] at h2 h3 h4
    have hx2 : (syn S (x :: r)).1 = (syn (count (setF S i ((fileAt S i).1, lenOf S i))) r).1 := by
      show (syn (syncS S x).1 r).1 = _
      rw [e]
    have hx3 : (syn S (x :: r)).2 = (readS S x).1 :: (syn (count (setF S i ((fileAt S i).1, lenOf S i))) r).2 := by
      show (readS S x).1 :: (syn (syncS S x).1 r).2 = _
      rw [e]
    rw [hx2, hx3]
    refine ⟨hd, hLs.trans h2, fun y hy j hj => ?_, ?_⟩
    · rcases List.mem_cons.1 hy with rfl | hy
      · rw [hf] at hj
        cases hj
        refine h2.full i ?_
        rw [fileAt_count, fileAt_setF hi, if_pos rfl]
        rfl
      · exact h3 y hy j (by rw [hLs.names]; exact hj)
    · rw [h4, List.map_cons, read_there hd hn hf, hf]
      congr 1
      refine List.map_congr_left fun y _ => ?_
      rw [hLs.names, hLs.cont]
/-- behind SyncDir a restart finds all of it -/
theorem safe_restart {k M : Nat} {T : St} (F : Fit k M T) (hr : Re T) (hfull : ∀ p ∈ T.names, (fileAt T p.2).2 = (fileAt T p.2).1.length) (hd : (syncDirS T).1.down = false) (ch : Bys) :
    (restartS (syncDirS T).1 ch).names = T.names ∧ (restartS (syncDirS T).1 ch).down = false ∧ (restartS (syncDirS T).1 ch).files = T.files := by
  have hd0 : T.down = false := by
    cases h : T.down
    · rfl
    · unfold syncDirS at hd
      rw [if_pos h, h] at hd
      cases hd
  have e : syncDirS T = (count (settle T T.pend.length), 0) := by unfold syncDirS; rw [if_neg (by simp [hd0])]
  rw [e]
  have hs : (count (settle T T.pend.length)).safe = T.names := by
    rw [count_safe]
    show runs (T.pend.take T.pend.length) T.safe = T.names
    rw [List.take_length, hr]
  have hp : (count (settle T T.pend.length)).pend = [] := by rw [count_pend]; rfl
  have hf : (count (settle T T.pend.length)).files = T.files := by rw [count_files]; rfl
  have e2 : (restart2 (count (settle T T.pend.length)) ch).names = T.names := by
    show runs (List.take _ (count (settle T T.pend.length)).pend) (count (settle T T.pend.length)).safe = _
    rw [hp, List.take_nil, runs_nil, hs]
  have e3 : loses (restart2 (count (settle T T.pend.length)) ch) (restart2 (count (settle T T.pend.length)) ch).names ch.tail = restart2 (count (settle T T.pend.length)) ch := by
    refine loses_full fun p hp => ?_
    rw [e2] at hp
    have hfe : ∀ j, fileAt (restart2 (count (settle T T.pend.length)) ch) j = fileAt T j := fun j => by
      unfold fileAt
      show (count (settle T T.pend.length)).files.getD j ([], 0) = _
      rw [hf]
    rw [hfe]
    refine ⟨?_, hfull p hp⟩
    show p.2 < (count (settle T T.pend.length)).files.length
    rw [hf]
    exact (F.idn p hp).1
  unfold restartS
  rw [e3]
  exact ⟨e2, rfl, hf⟩
end Go.Proofs.Yteeomlboifleoaa
