/- Sync, SyncDir, Rename, Remove, Read, List. No statement of the seat is proved here. -/
import Derived.Test.YteeomlboifleoaaDkE
import Derived.Lib.ConvBytes
namespace Go.Proofs.Yteeomlboifleoaa
open Go.RowKit Go.Maps Go.Sort

theorem Sees.own3 {w : World} {base : Nat} {e : TypeId} {v : Value} {n : Nat} {xs : List Value} (h : w.ownsRow base e 3 v n xs) : ∃ A c, v = .slice A n c ∧ True := by
  rcases h.2 with ⟨rfl, rfl⟩ | ⟨g, cap, cur, rfl, _⟩
  · exact ⟨none, 0, rfl, trivial⟩
  · exact ⟨_, cap, rfl, trivial⟩
theorem Sees.two (w : World) (s t : ByteArray) : Sees (w.alloc (.cells #[.string s, .string t] 9)) (w.heap.size + 1) (some ⟨w.heap.size, 0, none⟩) 2 ([s, t].map Value.string) :=
  ⟨rfl, fun _ => ⟨w.heap.size, 0, rfl, Nat.lt_succ_self _, fun j u hu => by
    rw [(Whole.new w 9 #[.string s, .string t]).cell]
    simpa using hu⟩⟩
theorem open1 {B d : Nat} {m : Mem} {S : St} {w : World} (h : At B w d m S) (a : ByteArray) :
    Calls Try.prog 44 #[dptr d, .slice (some ⟨w.heap.size, 0, none⟩) 1 1] (w.alloc (.cells #[.string a] 9)) fun e w' =>
      e = .returned (.tuple #[openV m (openS S a.data.toList (isN a.data.toList)), .int .i64 (openS S a.data.toList (isN a.data.toList)).2]) ∧ Below w.heap.size w w' := by
  have ho := open_any (c := 1) (h.alloc (.cells #[.string a] 9)) _ a [] (Sees.one w a) (by omega)
  have e1 : okAll [a] = isN a.data.toList := by simp [okAll]
  rw [e1] at ho
  refine ho.mono ?_
  rintro e w' ⟨rfl, q, rfl⟩
  exact ⟨rfl, below_drewN ((Below.refl _ w).alloc (Nat.le_refl _) _) q⟩
theorem open2 {B d : Nat} {m : Mem} {S : St} {w : World} (h : At B w d m S) (a b : ByteArray) :
    Calls Try.prog 44 #[dptr d, .slice (some ⟨w.heap.size, 0, none⟩) 2 2] (w.alloc (.cells #[.string a, .string b] 9)) fun e w' =>
      e = .returned (.tuple #[openV m (openS S a.data.toList (isN a.data.toList && isN b.data.toList)), .int .i64 (openS S a.data.toList (isN a.data.toList && isN b.data.toList)).2]) ∧ Below w.heap.size w w' := by
  have ho := open_any (c := 2) (h.alloc (.cells #[.string a, .string b] 9)) _ a [b] (Sees.two w a b) (by omega)
  have e1 : okAll [a, b] = (isN a.data.toList && isN b.data.toList) := by simp [okAll]
  rw [e1] at ho
  refine ho.mono ?_
  rintro e w' ⟨rfl, q, rfl⟩
  exact ⟨rfl, below_drewN ((Below.refl _ w).alloc (Nat.le_refl _) _) q⟩
theorem openS_ok {S : St} {a : Bys} {ok : Bool} (h : (openS S a ok).2 = 0) : S.down = false ∧ ok = true ∧ findN S.names a = some (openS S a ok).1 := by
  unfold openS at h ⊢
  by_cases hd : S.down = true
  · rw [if_pos hd] at h; cases h
  · rw [if_neg hd] at h ⊢
    cases ok
    · cases h
    · simp only [if_true] at h ⊢
      cases hf : findN S.names a with
      | none => rw [hf] at h; cases h
      | some i => exact ⟨by simpa using hd, trivial, rfl⟩

theorem Sync_any {B d : Nat} {S : St} {w : World} (h : DiskAt B w d S) {k M : Nat} (F : Fit k M S) (a : ByteArray) :
    Calls Try.prog 19 #[dptr d, .string a] w fun e w' => e = .returned (.int .i64 (syncS S a.data.toList).2) ∧ DiskAt B w' d (syncS S a.data.toList).1 ∧ Kept B w w' := by
  obtain ⟨m, h⟩ := h
  have ho := Lib.hid (open1 h a)
  have hH := Lib.hid h
  have hFF := Lib.hid F
  by_cases he : (openS S a.data.toList (isN a.data.toList)).2 = 0
  · obtain ⟨_, hok, hf⟩ := openS_ok he
    obtain ⟨i, hi⟩ : ∃ i, i = (openS S a.data.toList (isN a.data.toList)).1 := ⟨_, rfl⟩
    rw [← hi] at hf
    have hR : Hid (syncS S a.data.toList = (count (setF S i ((fileAt S i).1, lenOf S i)), 0)) := Lib.hid (by unfold syncS; rw [if_pos he, hi])
    have hV : openV m (openS S a.data.toList (isN a.data.toList)) = .pointer (some ⟨m.b i, 0, none⟩) := by unfold openV; rw [if_pos he, hi]
    rw [hV, he] at ho
    have hIlt := Lib.hid (F.idn _ (findN_mem hf)).1
    have hLeft : Hid ((((setF S i ((fileAt S i).1, lenOf S i)).left : Nat) : Int) ≤ 9223372036854775807) := Lib.hid F.lf
    clear h F he hok hf hi hV
    go_enter Try.func19, Try.ntmps19
    go_wp2_with fail
    refine Calls.mono ho.out ?_
    rintro e w1 ⟨rfl, hB1⟩
    have hA1 := hH.out.same hB1
    have hcf := hA1.files.cell i hIlt.out
    have hrw := hA1.files.row i hIlt.out
    obtain ⟨A, cc, hv, _⟩ := Sees.own hrw
    have cf0 : w1.cell? ⟨m.b i, 0, none⟩ = some (.slice A (lenOf S i) cc) := by rw [hcf.cell, hv]; rfl
    have cf1 : w1.cell? ⟨m.b i, 1, none⟩ = some (.int .i64 ((fileAt S i).2 : Nat)) := (hcf.cell 1).trans rfl
    have ff1 := hcf.frozen 1
    have GP := Lib.hid (hA1.setF (w1 := w1) (r := none) (w' := w1.setCell ⟨m.b i, 1, none⟩ (.int .i64 (lenOf S i : Nat))) (x := ((fileAt S i).1, lenOf S i)) (v := m.v i) hIlt.out ⟨rfl, rfl, rfl, Nat.le_refl _, fun _ _ _ => rfl⟩ (.inl rfl) hrw (.inr (.inl rfl)) (gset _ _ _) (by
      have := hcf.put 1 (.int .i64 (lenOf S i : Nat))
      simpa using this))
    have hK1 := Lib.hid (Kept.of_below (B := B) hB1)
    clear hA1 hcf hrw hv hB1
    go_wp2_with fail
    refine (count_any GP.out.1 hLeft.out).mono ?_
    rintro e w7 ⟨rfl, hA7, hK7⟩
    have HA7 := Lib.hid hA7
    have HK7 := Lib.hid ((hK1.out.trans GP.out.2).trans hK7)
    clear hA7 hK7
    go_wp2
    go_ret
    rw [hR.out]
    exact ⟨rfl, ⟨_, HA7.out⟩, HK7.out⟩
  · have hR : Hid (syncS S a.data.toList = (S, (openS S a.data.toList (isN a.data.toList)).2)) := Lib.hid (by unfold syncS; rw [if_neg he])
    obtain ⟨E, hE⟩ : ∃ E, E = (openS S a.data.toList (isN a.data.toList)).2 := ⟨_, rfl⟩
    rw [← hE] at ho hR he
    have hne : (E == 0) = false := by simpa using he
    clear h F he hE
    go_enter Try.func19, Try.ntmps19
    go_wp2_with (go_at_call 44; refine Calls.mono ho.out ?_; rintro e w1 ⟨rfl, hB1⟩)
    go_ret
    rw [hR.out]
    exact ⟨rfl, ⟨m, hH.out.same hB1⟩, .of_below hB1⟩

theorem SyncDir_any {B d : Nat} {S : St} {w : World} (h : DiskAt B w d S) {k M : Nat} (F : Fit k M S) (hk : k ≤ 50000) :
    Calls Try.prog 20 #[dptr d] w fun e w' => e = .returned (.int .i64 (syncDirS S).2) ∧ DiskAt B w' d (syncDirS S).1 ∧ Kept B w w' := by
  obtain ⟨m, h⟩ := h
  have hchk := Lib.hid (check_any (c := 0) (n := 0) (B' := 0) h none [] (Sees.nil _ _ _) (by omega))
  have hH := Lib.hid h
  by_cases hd : S.down = true
  · have hE : chkE S [] = 5 := by unfold chkE; rw [if_pos hd]
    have hR : Hid (syncDirS S = (S, 5)) := Lib.hid (by unfold syncDirS; rw [if_pos hd])
    rw [hE] at hchk
    clear hd hE h F
    go_enter Try.func20, Try.ntmps20
    go_wp2_with (go_at_call 43; refine (Calls.mono hchk.out ?_); rintro e w1 ⟨rfl, rfl⟩)
    go_ret
    rw [hR.out]
    exact ⟨rfl, ⟨m, hH.out⟩, Kept.refl _ _⟩
  · have hE : chkE S [] = 0 := by unfold chkE; rw [if_neg hd]; rfl
    have hR : Hid (syncDirS S = (count (settle S S.pend.length), 0)) := Lib.hid (by unfold syncDirS; rw [if_neg hd])
    rw [hE] at hchk
    obtain ⟨A, cc, hv, _⟩ := Sees.own3 h.pend
    have c3 : w.cell? ⟨d, 3, none⟩ = some (.slice A S.pend.length cc) := by rw [h.disk.cell, ← hv]; rfl
    have hst := Lib.hid (settle_any h F (by omega) S.pend.length (Nat.le_refl _))
    have hLeft : Hid ((((settle S S.pend.length).left : Nat) : Int) ≤ 9223372036854775807) := Lib.hid F.lf
    clear hd hE h F hv
    go_enter Try.func20, Try.ntmps20
    go_wp2_with (go_at_call 43; refine (Calls.mono hchk.out ?_); rintro e w1 ⟨rfl, rfl⟩)
    refine Calls.mono hst.out ?_
    rintro e w2 ⟨rfl, ⟨m2, hA2, _⟩, hK2⟩
    have HA2 := Lib.hid hA2
    have HK2 := Lib.hid hK2
    clear hA2 hK2 c3
    go_wp2_with fail
    refine (count_any HA2.out hLeft.out).mono ?_
    rintro e w7 ⟨rfl, hA7, hK7⟩
    have HA7 := Lib.hid hA7
    have HK7 := Lib.hid (HK2.out.trans hK7)
    clear hA7 hK7
    go_wp2
    go_ret
    rw [hR.out]
    exact ⟨rfl, ⟨_, HA7.out⟩, HK7.out⟩

theorem Rename_any {B d : Nat} {S : St} {w : World} (h : DiskAt B w d S) (hB : B ≤ w.heap.size) {k M : Nat} (F : Fit k M S) (hk : k ≤ 50000) (a b : ByteArray) :
    Calls Try.prog 22 #[dptr d, .string a, .string b] w fun e w' => e = .returned (.int .i64 (renameS S a.data.toList b.data.toList).2) ∧ DiskAt B w' d (renameS S a.data.toList b.data.toList).1 ∧ Kept B w w' := by
  obtain ⟨m, h⟩ := h
  have ho := Lib.hid (open2 h a b)
  have hH := Lib.hid h
  by_cases he : (openS S a.data.toList (isN a.data.toList && isN b.data.toList)).2 = 0
  · obtain ⟨_, hok, hf⟩ := openS_ok he
    simp only [Bool.and_eq_true] at hok
    have hsa := Lib.hid (isN_le hok.1)
    have hsb := Lib.hid (isN_le hok.2)
    obtain ⟨i, hi⟩ : ∃ i, i = (openS S a.data.toList (isN a.data.toList && isN b.data.toList)).1 := ⟨_, rfl⟩
    rw [← hi] at hf
    have hR : Hid (renameS S a.data.toList b.data.toList = (count (chg S ⟨a.data.toList, b.data.toList, some i⟩), 0)) := Lib.hid (by unfold renameS; rw [if_pos he, hi])
    have hV : openV m (openS S a.data.toList (isN a.data.toList && isN b.data.toList)) = .pointer (some ⟨m.b i, 0, none⟩) := by unfold openV; rw [if_pos he, hi]
    rw [hV, he] at ho
    have hLeft : Hid ((((chg S ⟨a.data.toList, b.data.toList, some i⟩).left : Nat) : Int) ≤ 9223372036854775807) := Lib.hid F.lf
    have hFF := Lib.hid F
    have hBB := Lib.hid hB
    clear h F he hok hf hi hV hB
    go_enter Try.func22, Try.ntmps22
    go_wp2_with (go_at_call 44; refine Calls.mono ho.out ?_; rintro e w1 ⟨rfl, hB1⟩)
    have hA1 := hH.out.same hB1
    have hch := change_any hA1 (Nat.le_trans hBB.out hB1.size) hFF.out (by omega) a b (some i) hsa.out.1 hsb.out.1 ⟨fun e => (by cases e), fun e => absurd hsb.out.2 (by omega)⟩
    have hK1 := Lib.hid (Kept.of_below (B := B) hB1)
    clear hA1 hB1
    refine Calls.mono hch ?_
    rintro e w2 ⟨rfl, ⟨m2, hA2, _⟩, hK2⟩
    have HA2 := Lib.hid hA2
    have HK2 := Lib.hid (hK1.out.trans hK2)
    clear hA2 hK2 hch
    go_wp2_with fail
    refine (count_any HA2.out hLeft.out).mono ?_
    rintro e w7 ⟨rfl, hA7, hK7⟩
    have HA7 := Lib.hid hA7
    have HK7 := Lib.hid (HK2.out.trans hK7)
    clear hA7 hK7
    go_wp2
    go_ret
    rw [hR.out]
    exact ⟨rfl, ⟨_, HA7.out⟩, HK7.out⟩
  · have hR : Hid (renameS S a.data.toList b.data.toList = (S, (openS S a.data.toList (isN a.data.toList && isN b.data.toList)).2)) := Lib.hid (by unfold renameS; rw [if_neg he])
    obtain ⟨E, hE⟩ : ∃ E, E = (openS S a.data.toList (isN a.data.toList && isN b.data.toList)).2 := ⟨_, rfl⟩
    rw [← hE] at ho hR he
    have hne : (E == 0) = false := by simpa using he
    clear h F he hE hB
    go_enter Try.func22, Try.ntmps22
    go_wp2_with (go_at_call 44; refine Calls.mono ho.out ?_; rintro e w1 ⟨rfl, hB1⟩)
    go_ret
    rw [hR.out]
    exact ⟨rfl, ⟨m, hH.out.same hB1⟩, .of_below hB1⟩

theorem Remove_any {B d : Nat} {S : St} {w : World} (h : DiskAt B w d S) (hB : B ≤ w.heap.size) {k M : Nat} (F : Fit k M S) (hk : k ≤ 50000) (a : ByteArray) :
    Calls Try.prog 27 #[dptr d, .string a] w fun e w' => e = .returned (.int .i64 (removeS S a.data.toList).2) ∧ DiskAt B w' d (removeS S a.data.toList).1 ∧ Kept B w w' := by
  obtain ⟨m, h⟩ := h
  have ho := Lib.hid (open1 h a)
  have hH := Lib.hid h
  by_cases he : (openS S a.data.toList (isN a.data.toList)).2 = 0
  · obtain ⟨_, hok, hf⟩ := openS_ok he
    have hsa := Lib.hid (isN_le hok)
    have hR : Hid (removeS S a.data.toList = (count (chg S ⟨a.data.toList, [], none⟩), 0)) := Lib.hid (by unfold removeS; rw [if_pos he])
    rw [he] at ho
    obtain ⟨V, hV⟩ : ∃ V, V = openV m (openS S a.data.toList (isN a.data.toList)) := ⟨_, rfl⟩
    rw [← hV] at ho
    have hLeft : Hid ((((chg S ⟨a.data.toList, [], none⟩).left : Nat) : Int) ≤ 9223372036854775807) := Lib.hid F.lf
    have hFF := Lib.hid F
    have hBB := Lib.hid hB
    clear h F he hok hf hV hB
    go_enter Try.func27, Try.ntmps27
    go_wp2_with (go_at_call 44; refine Calls.mono ho.out ?_; rintro e w1 ⟨rfl, hB1⟩)
    have hA1 := hH.out.same hB1
    have hch := change_any hA1 (Nat.le_trans hBB.out hB1.size) hFF.out (by omega) a ⟨#[]⟩ none hsa.out.1 (by decide) ⟨fun _ => rfl, fun _ => rfl⟩
    have hK1 := Lib.hid (Kept.of_below (B := B) hB1)
    clear hA1 hB1
    refine Calls.mono hch ?_
    rintro e w2 ⟨rfl, ⟨m2, hA2, _⟩, hK2⟩
    have HA2 := Lib.hid hA2
    have HK2 := Lib.hid (hK1.out.trans hK2)
    clear hA2 hK2 hch
    go_wp2_with fail
    refine (count_any HA2.out hLeft.out).mono ?_
    rintro e w7 ⟨rfl, hA7, hK7⟩
    have HA7 := Lib.hid hA7
    have HK7 := Lib.hid (HK2.out.trans hK7)
    clear hA7 hK7
    go_wp2
    go_ret
    rw [hR.out]
    exact ⟨rfl, ⟨_, HA7.out⟩, HK7.out⟩
  · have hR : Hid (removeS S a.data.toList = (S, (openS S a.data.toList (isN a.data.toList)).2)) := Lib.hid (by unfold removeS; rw [if_neg he])
    obtain ⟨E, hE⟩ : ∃ E, E = (openS S a.data.toList (isN a.data.toList)).2 := ⟨_, rfl⟩
    rw [← hE] at ho hR he
    have hne : (E == 0) = false := by simpa using he
    clear h F he hE hB
    go_enter Try.func27, Try.ntmps27
    go_wp2_with (go_at_call 44; refine Calls.mono ho.out ?_; rintro e w1 ⟨rfl, hB1⟩)
    go_ret
    rw [hR.out]
    exact ⟨rfl, ⟨m, hH.out.same hB1⟩, .of_below hB1⟩

theorem str_of_own {w : World} {base n : Nat} {v : Value} {l : List UInt8} (h : w.ownsRow base 5 1 v n (Lib.byteCells l)) :
    (convert 83 9 v).run Try.prog w = .ok (.string ⟨l.toArray⟩) w := by
  have hl : l.length = n := by have := h.1; simpa [Lib.byteCells] using this
  rcases h.2 with ⟨rfl, h0⟩ | ⟨g, cap, cur, rfl, _, _, _⟩
  · have : l = [] := List.eq_nil_of_length_eq_zero (by omega)
    subst this
    rw [run_convert_bytes_string w 83 9 5 none 0 0 Try.underlying83 Try.underlying5 Try.underlying9]
    rfl
  · subst hl
    refine run_convert_bytes_back w _ _ 5 ⟨g, 0, none⟩ cap l Try.underlying83 Try.underlying5 Try.underlying9 (fun j hj => ?_)
    exact h.cells (g := g) rfl j _ (by simp [Lib.byteCells, hj])
theorem Read_any {B d : Nat} {S : St} {w : World} (h : DiskAt B w d S) {k M : Nat} (F : Fit k M S) (a : ByteArray) :
    Calls Try.prog 18 #[dptr d, .string a] w fun e w' => e = .returned (.tuple #[.string ⟨(readS S a.data.toList).1.toArray⟩, .int .i64 (readS S a.data.toList).2]) ∧ Below w.heap.size w w' := by
  obtain ⟨m, h⟩ := h
  have ho := Lib.hid (open1 h a)
  have hH := Lib.hid h
  by_cases he : (openS S a.data.toList (isN a.data.toList)).2 = 0
  · obtain ⟨_, hok, hf⟩ := openS_ok he
    obtain ⟨i, hi⟩ : ∃ i, i = (openS S a.data.toList (isN a.data.toList)).1 := ⟨_, rfl⟩
    rw [← hi] at hf
    have hR : Hid (readS S a.data.toList = ((fileAt S i).1, 0)) := Lib.hid (by unfold readS; rw [if_pos he, hi])
    have hV : openV m (openS S a.data.toList (isN a.data.toList)) = .pointer (some ⟨m.b i, 0, none⟩) := by unfold openV; rw [if_pos he, hi]
    rw [hV, he] at ho
    have hIlt := Lib.hid (F.idn _ (findN_mem hf)).1
    clear h F he hok hf hi hV
    go_enter Try.func18, Try.ntmps18
    go_wp2_with fail
    refine Calls.mono ho.out ?_
    rintro e w1 ⟨rfl, hB1⟩
    have hA1 := hH.out.same hB1
    have hcf := hA1.files.cell i hIlt.out
    have cf0 : w1.cell? ⟨m.b i, 0, none⟩ = some (m.v i) := (hcf.cell 0).trans rfl
    have hcv := str_of_own (hA1.files.row i hIlt.out)
    obtain ⟨C, hC⟩ : ∃ C, C = (S.files.getD i ([], 0)).1 := ⟨_, rfl⟩
    rw [← hC] at hcv
    have hCC : Hid (C = (fileAt S i).1) := Lib.hid hC
    have HB1 := Lib.hid hB1
    clear hA1 hcf hB1 hC
    go_wp2
    go_ret2
    rw [hR.out, ← hCC.out]
    exact ⟨rfl, HB1.out⟩
  · have hR : Hid (readS S a.data.toList = ([], (openS S a.data.toList (isN a.data.toList)).2)) := Lib.hid (by unfold readS; rw [if_neg he])
    obtain ⟨E, hE⟩ : ∃ E, E = (openS S a.data.toList (isN a.data.toList)).2 := ⟨_, rfl⟩
    rw [← hE] at ho hR he
    have hne : (E == 0) = false := by simpa using he
    clear h F he hE
    go_enter Try.func18, Try.ntmps18
    go_wp2_with (go_at_call 44; refine Calls.mono ho.out ?_; rintro e w1 ⟨rfl, hB1⟩)
    go_ret2
    rw [hR.out]
    exact ⟨rfl, hB1⟩

def listL (S : St) : List Bys := if S.down then [] else S.names.map (·.1)
def listE (S : St) : Int := if S.down then 5 else 0
theorem List_any {B d : Nat} {S : St} {w : World} (h : DiskAt B w d S) {k M : Nat} (F : Fit k M S) (hk : k ≤ 50000) :
    Calls Try.prog 17 #[dptr d] w fun e w' => ∃ v, e = .returned (.tuple #[v, .int .i64 (listE S)]) ∧ w'.ownsRow w.heap.size 9 1 v (listL S).length ((listL S).map Go.Proofs.encStr) ∧ Below w.heap.size w w' := by
  obtain ⟨m, h⟩ := h
  have hchk := Lib.hid (check_any (c := 0) (n := 0) (B' := 0) h none [] (Sees.nil _ _ _) (by omega))
  by_cases hd : S.down = true
  · have hE : chkE S [] = 5 := by unfold chkE; rw [if_pos hd]
    have hR : Hid (listL S = [] ∧ listE S = 5) := Lib.hid (by unfold listL listE; rw [if_pos hd, if_pos hd]; exact ⟨rfl, rfl⟩)
    rw [hE] at hchk
    clear hd hE h F
    go_enter Try.func17, Try.ntmps17
    go_wp2_with (go_at_call 43; refine (Calls.mono hchk.out ?_); rintro e w1 ⟨rfl, rfl⟩)
    go_ret2
    rw [hR.out.1, hR.out.2]
    exact ⟨_, rfl, World.ownsRow_nil _ _ _ _, Below.refl _ _⟩
  · have hE : chkE S [] = 0 := by unfold chkE; rw [if_neg hd]; rfl
    have hR : Hid (listL S = S.names.map (·.1) ∧ listE S = 0) := Lib.hid (by unfold listL listE; rw [if_neg hd, if_neg hd]; exact ⟨rfl, rfl⟩)
    rw [hE] at hchk
    have c1 : w.cell? ⟨d, 1, none⟩ = some (.map (some m.nm)) := (h.disk.cell 1).trans rfl
    have hso := Lib.hid (slices_Sorted_any m.nm _ m.bs S.names w h.names (by have := F.nn; omega))
    clear hd hE h F
    go_enter Try.func17, Try.ntmps17
    go_wp2_with (first
      | (go_at_call 43; refine (Calls.mono hchk.out ?_); rintro e w1 ⟨rfl, rfl⟩)
      | (go_at_call 41; refine (maps_Keys_any _ _).mono ?_; rintro e w1 ⟨rfl, rfl⟩)
      | (go_at_call 40; refine (Calls.mono hso.out ?_); rintro e w2 ⟨v, rfl, hrow, hB2⟩))
    go_ret2
    rw [hR.out.1, hR.out.2]
    refine ⟨_, rfl, ?_, hB2⟩
    simpa using hrow
end Go.Proofs.Yteeomlboifleoaa
