/- What each call does to the sizes, and the contracts bundled. No statement of the seat is proved here. -/
import Derived.Test.YteeomlboifleoaaDkH
namespace Go.Proofs.Yteeomlboifleoaa
open Go.RowKit Go.Maps Go.Sort

theorem Fit.setF {k M : Nat} {S : St} (h : Fit k M S) (i : Nat) {x : Bys × Nat} (hx : x.1.length ≤ M ∧ x.2 ≤ x.1.length) : Fit k M (Yteeomlboifleoaa.setF S i x) := by
  unfold Yteeomlboifleoaa.setF
  refine ⟨h.nn, h.nr, h.np, by simpa using h.nf, fun y hy => ?_, fun p hp => by simpa using h.idn p hp, fun p hp => by simpa using h.ids p hp, fun c hc => by simpa using h.idp c hc, h.lf⟩
  rcases List.mem_or_eq_of_mem_set hy with hy | rfl
  · exact h.fl y hy
  · exact hx
theorem Fit.chg {k M : Nat} {S : St} (h : Fit k M S) (c : Chg) (hr : S.names = runs S.pend S.safe) (hw : c.wf) (hi : ∀ i, c.f = some i → i < S.files.length) : Fit (k + 1) M (Yteeomlboifleoaa.chg S c) := by
  unfold Yteeomlboifleoaa.chg
  have hn := length_app c S.names
  refine ⟨Nat.le_trans hn (Nat.succ_le_succ h.nn), fun n => ?_, by simp; exact h.np, Nat.le_succ_of_le h.nf, h.fl, fun p hp => ?_, h.ids, fun d hd => ?_, h.lf⟩
  · by_cases hle : n ≤ S.pend.length
    · show (runs (List.take n (S.pend ++ [c])) S.safe).length ≤ _
      rw [List.take_append_of_le_length hle]
      exact Nat.le_succ_of_le (h.nr n)
    · show (runs (List.take n (S.pend ++ [c])) S.safe).length ≤ _
      rw [List.take_of_length_le (by simp; omega), runs_snoc, ← hr]
      exact Nat.le_trans hn (Nat.succ_le_succ h.nn)
  · rcases mem_app hp with hp | ⟨h1, h2⟩
    · exact h.idn p hp
    · exact ⟨hi _ h1, by rw [h2]; exact hw.2.2⟩
  · rcases List.mem_append.1 hd with hd | hd
    · exact h.idp d hd
    · rw [List.mem_singleton] at hd
      subst hd
      exact ⟨hw, hi⟩
/-- the names are the safe ones with what waits -/
def Re (S : St) : Prop := S.names = runs S.pend S.safe
theorem Re.new (q : Int) : Re (St.new q) := rfl
theorem Re.count {S : St} (h : Re S) : Re (Yteeomlboifleoaa.count S) := by unfold Yteeomlboifleoaa.count; split <;> exact h
theorem Re.setF {S : St} (h : Re S) (i : Nat) (x : Bys × Nat) : Re (Yteeomlboifleoaa.setF S i x) := h
theorem Re.addF {S : St} (h : Re S) : Re (Yteeomlboifleoaa.addF S) := h
theorem Re.chg {S : St} (h : Re S) (c : Chg) : Re (Yteeomlboifleoaa.chg S c) := by
  unfold Re Yteeomlboifleoaa.chg
  simp only
  rw [runs_snoc, ← h]
theorem Re.lose {S : St} (h : Re S) (i c : Nat) : Re (Yteeomlboifleoaa.lose S i c) := h
theorem Re.loses : ∀ {N : Nms} {S : St} {ch : Bys}, Re S → Re (Yteeomlboifleoaa.loses S N ch)
  | [], _, _, h => h
  | p :: r, S, ch, h => Re.loses (N := r) (S := Yteeomlboifleoaa.lose S p.2 (head ch)) (ch := ch.tail) h
theorem head_le (ch : Bys) : head ch ≤ 255 := by unfold head; have := (ch.headD 0).toNat_lt; omega
theorem Fit.loses {k M : Nat} : ∀ {N : Nms} {S : St} {ch : Bys}, Fit k M S → Fit k M (Yteeomlboifleoaa.loses S N ch)
  | [], _, _, h => h
  | p :: r, S, ch, h => Fit.loses (N := r) (S := Yteeomlboifleoaa.lose S p.2 (head ch)) (ch := ch.tail) (h.lose p.2 (head_le ch))

theorem fileAt_fit {k M : Nat} {S : St} (h : Fit k M S) (i : Nat) : (fileAt S i).1.length ≤ M ∧ (fileAt S i).2 ≤ (fileAt S i).1.length := by
  unfold fileAt
  by_cases hi : i < S.files.length
  · rw [List.getD_eq_getElem?_getD, List.getElem?_eq_getElem hi]
    exact h.fl _ (List.getElem_mem hi)
  · rw [List.getD_eq_getElem?_getD, List.getElem?_eq_none (by omega)]
    exact ⟨Nat.zero_le _, Nat.zero_le _⟩
theorem isN_len {s : Bys} (h : isN s = true) : 1 ≤ s.length ∧ s.length ≤ 64 := by
  simpa [isN] using h
theorem Fit.append {k M : Nat} {S : St} (h : Fit k M S) (hr : Re S) (nm b : Bys) : Fit (k + 2) (M + b.length) (appendS S nm b).1 ∧ Re (appendS S nm b).1 ∧ (appendS S nm b).1.quota = S.quota := by
  unfold appendS
  split
  · exact ⟨h.mono (by omega) (by omega), hr, rfl⟩
  split
  · rename_i hn
    split
    · exact ⟨h.mono (by omega) (by omega), hr, rfl⟩
    · cases hf : findN S.names nm with
      | some i =>
        have h2 := fileAt_fit h i
        refine ⟨(Fit.setF (h.mono (k' := k + 2) (M' := M + b.length) (by omega) (by omega)) i ?_).count, (hr.setF _ _).count, ?_⟩
        · simp only [List.length_append]; omega
        · show (Yteeomlboifleoaa.count _).quota = _
          unfold Yteeomlboifleoaa.count
          split <;> rfl
      | none =>
        have h0 : Fit (k + 2) (M + b.length) (Yteeomlboifleoaa.chg (Yteeomlboifleoaa.addF S) ⟨[], nm, some S.files.length⟩) := ((h.addF).chg ⟨[], nm, some S.files.length⟩ hr ⟨⟨fun e => (by cases e), fun e => by have := (isN_len hn).1; rw [show nm = [] from e] at this; simp at this⟩, Nat.zero_le _, (isN_len hn).2⟩ (fun i hi => by cases hi; simp [Yteeomlboifleoaa.addF])).mono (Nat.le_refl _) (by omega)
        have h2 : (fileAt (Yteeomlboifleoaa.chg (Yteeomlboifleoaa.addF S) ⟨[], nm, some S.files.length⟩) S.files.length) = ([], 0) := by
          unfold fileAt
          exact (getD_snoc _ _ _ _).trans (if_pos rfl)
        refine ⟨(Fit.setF h0 S.files.length ?_).count, ((hr.addF.chg _).setF _ _).count, ?_⟩
        · rw [h2]
          simp
        · show (Yteeomlboifleoaa.count _).quota = _
          unfold Yteeomlboifleoaa.count
          split <;> rfl
  · exact ⟨h.mono (by omega) (by omega), hr, rfl⟩
theorem Fit.sync {k M : Nat} {S : St} (h : Fit k M S) (hr : Re S) (nm : Bys) : Fit k M (syncS S nm).1 ∧ Re (syncS S nm).1 ∧ (syncS S nm).1.quota = S.quota := by
  unfold syncS
  split
  · refine ⟨(h.setF _ ?_).count, (hr.setF _ _).count, ?_⟩
    · exact ⟨(fileAt_fit h _).1, Nat.le_refl _⟩
    · show (Yteeomlboifleoaa.count _).quota = _
      unfold Yteeomlboifleoaa.count
      split <;> rfl
  · exact ⟨h, hr, rfl⟩
theorem Fit.syncDir {k M : Nat} {S : St} (h : Fit k M S) (hr : Re S) : Fit k M (syncDirS S).1 ∧ Re (syncDirS S).1 ∧ (syncDirS S).1.quota = S.quota := by
  unfold syncDirS
  split
  · exact ⟨h, hr, rfl⟩
  · refine ⟨(h.settle _).count, Re.count ?_, ?_⟩
    · show S.names = runs [] (runs (S.pend.take S.pend.length) S.safe)
      rw [List.take_length, runs_nil, hr]
    · show (Yteeomlboifleoaa.count _).quota = _
      unfold Yteeomlboifleoaa.count
      split <;> rfl
theorem Fit.rename {k M : Nat} {S : St} (h : Fit k M S) (hr : Re S) (a b : Bys) : Fit (k + 2) M (renameS S a b).1 ∧ Re (renameS S a b).1 ∧ (renameS S a b).1.quota = S.quota := by
  unfold renameS
  split
  · rename_i he
    obtain ⟨_, hok, hf⟩ := openS_ok he
    simp only [Bool.and_eq_true] at hok
    refine ⟨((h.chg _ hr ⟨⟨fun e => (by cases e), fun e => by have := (isN_len hok.2).1; rw [show b = [] from e] at this; simp at this⟩, (isN_len hok.1).2, (isN_len hok.2).2⟩ (fun i hi => by cases hi; exact (h.idn _ (findN_mem hf)).1)).mono (by omega) (Nat.le_refl _)).count, (hr.chg _).count, ?_⟩
    show (Yteeomlboifleoaa.count _).quota = _
    unfold Yteeomlboifleoaa.count
    split <;> rfl
  · exact ⟨h.mono (by omega) (Nat.le_refl _), hr, rfl⟩
theorem Fit.remove {k M : Nat} {S : St} (h : Fit k M S) (hr : Re S) (a : Bys) : Fit (k + 2) M (removeS S a).1 ∧ Re (removeS S a).1 ∧ (removeS S a).1.quota = S.quota := by
  unfold removeS
  split
  · rename_i he
    obtain ⟨_, hok, hf⟩ := openS_ok he
    refine ⟨((h.chg _ hr ⟨⟨fun _ => rfl, fun _ => rfl⟩, (isN_len hok).2, Nat.zero_le _⟩ (fun i hi => by cases hi)).mono (by omega) (Nat.le_refl _)).count, (hr.chg _).count, ?_⟩
    show (Yteeomlboifleoaa.count _).quota = _
    unfold Yteeomlboifleoaa.count
    split <;> rfl
  · exact ⟨h.mono (by omega) (Nat.le_refl _), hr, rfl⟩
theorem Fit.brk {k M : Nat} {S : St} (h : Fit k M S) (hr : Re S) (n : Int) (hn : n ≤ 9223372036854775807) : Fit k M (breakS S n).1 ∧ Re (breakS S n).1 ∧ (breakS S n).1.quota = S.quota := by
  unfold breakS
  split
  · exact ⟨h, hr, rfl⟩
  · split
    · exact ⟨⟨h.nn, h.nr, h.np, h.nf, h.fl, h.idn, h.ids, h.idp, by simp⟩, hr, rfl⟩
    · exact ⟨⟨h.nn, h.nr, h.np, h.nf, h.fl, h.idn, h.ids, h.idp, by simp only; omega⟩, hr, rfl⟩
theorem loses_quota : ∀ (N : Nms) (S : St) (ch : Bys), (loses S N ch).quota = S.quota
  | [], _, _ => rfl
  | _ :: r, _, _ => loses_quota r _ _
theorem Fit.restart {k M : Nat} {S : St} (h : Fit k M S) (ch : Bys) : Fit k M (restartS S ch) ∧ Re (restartS S ch) ∧ (restartS S ch).quota = S.quota := by
  have h1 := Fit.loses (N := (Yteeomlboifleoaa.restart2 S ch).names) (ch := ch.tail) (h.restart2 ch)
  refine ⟨⟨h1.nn, h1.nr, h1.np, h1.nf, h1.fl, h1.idn, h1.ids, h1.idp, by simp [restartS]⟩, ?_, ?_⟩
  · have h2 : Re (Yteeomlboifleoaa.restart2 S ch) := rfl
    exact Re.loses (N := (Yteeomlboifleoaa.restart2 S ch).names) (ch := ch.tail) h2
  · show (Yteeomlboifleoaa.loses _ _ _).quota = _
    rw [loses_quota]
    rfl

/-! ### a disk, alive -/
structure Live (B : Nat) (w : World) (d k M : Nat) (S : St) : Prop where
  disk : DiskAt B w d S
  fit : Fit k M S
  re : Re S
  base : B ≤ w.heap.size
  quota : S.quota ≤ 1099511627776 ∧ 0 ≤ S.quota
theorem Live.same {B d k M : Nat} {w w' : World} {S : St} (h : Live B w d k M S) (hb : Below w.heap.size w w') : Live B w' d k M S :=
  ⟨h.disk.same hb, h.fit, h.re, Nat.le_trans h.base hb.size, h.quota⟩
theorem Live.mono {B d k M k' M' : Nat} {w : World} {S : St} (h : Live B w d k M S) (hk : k ≤ k') (hM : M ≤ M') : Live B w d k' M' S :=
  ⟨h.disk, h.fit.mono hk hM, h.re, h.base, h.quota⟩
theorem live_New (q : Int) (w : World) (hq : qB q = true) : Calls Try.prog 10 #[.int .i64 q] w fun e w' => ∃ d, e = .returned (.tuple #[dptr d, .int .i64 0]) ∧ Live w.heap.size w' d 0 0 (St.new q) ∧ Below w.heap.size w w' := by
  refine (New_any q w hq).mono ?_
  rintro e w' ⟨d, rfl, hd, hb⟩
  have h2 : 0 ≤ q ∧ q ≤ 1099511627776 := by simpa [qB] using hq
  exact ⟨d, rfl, ⟨hd, Fit.new q, Re.new q, hb.size, ⟨h2.2, h2.1⟩⟩, hb⟩
theorem live_Append {B d k M : Nat} {w : World} {S : St} (h : Live B w d k M S) (hk : k ≤ 50000) (hM : M ≤ 500000000) (nm b : ByteArray) (hb : b.size ≤ 500000000) (hnm : nm.size ≤ 1000000000) :
    Calls Try.prog 21 #[dptr d, .string nm, .string b] w fun e w' => e = .returned (.int .i64 (appendS S nm.data.toList b.data.toList).2) ∧ Live B w' d (k + 2) (M + b.size) (appendS S nm.data.toList b.data.toList).1 ∧ Kept B w w' := by
  refine (Append_any h.disk h.base h.fit hk hM h.quota nm b hb hnm).mono ?_
  rintro e w' ⟨rfl, hd, hK⟩
  obtain ⟨f1, f2, f3⟩ := h.fit.append h.re nm.data.toList b.data.toList
  rw [size_len] at f1
  exact ⟨rfl, ⟨hd, f1, f2, Nat.le_trans h.base hK.size, by rw [f3]; exact h.quota⟩, hK⟩
theorem live_Sync {B d k M : Nat} {w : World} {S : St} (h : Live B w d k M S) (nm : ByteArray) :
    Calls Try.prog 19 #[dptr d, .string nm] w fun e w' => e = .returned (.int .i64 (syncS S nm.data.toList).2) ∧ Live B w' d k M (syncS S nm.data.toList).1 ∧ Kept B w w' := by
  refine (Sync_any h.disk h.fit nm).mono ?_
  rintro e w' ⟨rfl, hd, hK⟩
  obtain ⟨f1, f2, f3⟩ := h.fit.sync h.re nm.data.toList
  exact ⟨rfl, ⟨hd, f1, f2, Nat.le_trans h.base hK.size, by rw [f3]; exact h.quota⟩, hK⟩
theorem live_SyncDir {B d k M : Nat} {w : World} {S : St} (h : Live B w d k M S) (hk : k ≤ 50000) :
    Calls Try.prog 20 #[dptr d] w fun e w' => e = .returned (.int .i64 (syncDirS S).2) ∧ Live B w' d k M (syncDirS S).1 ∧ Kept B w w' := by
  refine (SyncDir_any h.disk h.fit hk).mono ?_
  rintro e w' ⟨rfl, hd, hK⟩
  obtain ⟨f1, f2, f3⟩ := h.fit.syncDir h.re
  exact ⟨rfl, ⟨hd, f1, f2, Nat.le_trans h.base hK.size, by rw [f3]; exact h.quota⟩, hK⟩
theorem live_Rename {B d k M : Nat} {w : World} {S : St} (h : Live B w d k M S) (hk : k ≤ 50000) (a b : ByteArray) :
    Calls Try.prog 22 #[dptr d, .string a, .string b] w fun e w' => e = .returned (.int .i64 (renameS S a.data.toList b.data.toList).2) ∧ Live B w' d (k + 2) M (renameS S a.data.toList b.data.toList).1 ∧ Kept B w w' := by
  refine (Rename_any h.disk h.base h.fit hk a b).mono ?_
  rintro e w' ⟨rfl, hd, hK⟩
  obtain ⟨f1, f2, f3⟩ := h.fit.rename h.re a.data.toList b.data.toList
  exact ⟨rfl, ⟨hd, f1, f2, Nat.le_trans h.base hK.size, by rw [f3]; exact h.quota⟩, hK⟩
theorem live_Remove {B d k M : Nat} {w : World} {S : St} (h : Live B w d k M S) (hk : k ≤ 50000) (a : ByteArray) :
    Calls Try.prog 27 #[dptr d, .string a] w fun e w' => e = .returned (.int .i64 (removeS S a.data.toList).2) ∧ Live B w' d (k + 2) M (removeS S a.data.toList).1 ∧ Kept B w w' := by
  refine (Remove_any h.disk h.base h.fit hk a).mono ?_
  rintro e w' ⟨rfl, hd, hK⟩
  obtain ⟨f1, f2, f3⟩ := h.fit.remove h.re a.data.toList
  exact ⟨rfl, ⟨hd, f1, f2, Nat.le_trans h.base hK.size, by rw [f3]; exact h.quota⟩, hK⟩
theorem live_Break {B d k M : Nat} {w : World} {S : St} (h : Live B w d k M S) (n : Int) (hn : n ≤ 9223372036854775807) :
    Calls Try.prog 23 #[dptr d, .int .i64 n] w fun e w' => e = .returned (.int .i64 (breakS S n).2) ∧ Live B w' d k M (breakS S n).1 ∧ Kept B w w' := by
  obtain ⟨m, hm⟩ := h.disk
  refine (Break_any hm n).mono ?_
  rintro e w' ⟨rfl, hd, hK⟩
  obtain ⟨f1, f2, f3⟩ := h.fit.brk h.re n hn
  exact ⟨rfl, ⟨⟨m, hd⟩, f1, f2, Nat.le_trans h.base hK.size, by rw [f3]; exact h.quota⟩, hK⟩
theorem live_Restart {B d k M : Nat} {w : World} {S : St} (h : Live B w d k M S) (hk : k ≤ 50000) (hM : M ≤ 500000000) (T : ByteArray) :
    Calls Try.prog 16 #[dptr d, .string T] w fun e w' => e = .returned (.tuple #[]) ∧ Live B w' d k M (restartS S T.data.toList) ∧ Kept B w w' := by
  refine (Restart_any h.disk h.base h.fit hk hM T).mono ?_
  rintro e w' ⟨rfl, hd, hK⟩
  obtain ⟨f1, f2, f3⟩ := h.fit.restart T.data.toList
  exact ⟨rfl, ⟨hd, f1, f2, Nat.le_trans h.base hK.size, by rw [f3]; exact h.quota⟩, hK⟩
theorem live_Read {B d k M : Nat} {w : World} {S : St} (h : Live B w d k M S) (a : ByteArray) :
    Calls Try.prog 18 #[dptr d, .string a] w fun e w' => e = .returned (.tuple #[.string ⟨(readS S a.data.toList).1.toArray⟩, .int .i64 (readS S a.data.toList).2]) ∧ Below w.heap.size w w' :=
  Read_any h.disk h.fit a
theorem live_Used {B d k M : Nat} {w : World} {S : St} (h : Live B w d k M S) (hk : k ≤ 50000) (hM : M ≤ 500000000) :
    Calls Try.prog 24 #[dptr d] w fun e w' => e = .returned (.int .i64 (used S : Nat)) ∧ Below w.heap.size w w' := by
  obtain ⟨m, hm⟩ := h.disk
  exact Used_any hm h.fit (used_le h.fit (by omega) (by omega))
theorem live_Down {B d k M : Nat} {w : World} {S : St} (h : Live B w d k M S) : Calls Try.prog 15 #[dptr d] w fun e w' => e = .returned (.bool S.down) ∧ w = w' := by
  obtain ⟨m, hm⟩ := h.disk
  exact Down_any hm
theorem live_Quota {B d k M : Nat} {w : World} {S : St} (h : Live B w d k M S) : Calls Try.prog 25 #[dptr d] w fun e w' => e = .returned (.int .i64 S.quota) ∧ w = w' := by
  obtain ⟨m, hm⟩ := h.disk
  exact Quota_any hm
end Go.Proofs.Yteeomlboifleoaa
