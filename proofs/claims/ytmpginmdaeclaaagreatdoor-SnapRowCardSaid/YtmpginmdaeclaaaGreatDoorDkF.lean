/- Parts of the proofs of the statements of image. No statement of the seat is proved here. -/
import Derived.Test.YtmpginmdaeclaaaGreatDoorDkE
import Derived.Lib.ConvBytes
import Derived.RegionTactic
set_option maxHeartbeats 32000000
set_option maxRecDepth 20000
namespace Go.Proofs.YtmpginmdaeclaaaGreatDoor
open Go.RowKit Go.Maps Go.Sort
theorem Sees.own3 {w : World} {base : Nat} {e : TypeId} {v : Value} {n : Nat} {xs : List Value} (h : w.ownsRow base e 3 v n xs) : ∃ A c, v = .slice A n c /\ True := by
  rcases h.2 with ⟨rfl, rfl⟩ | ⟨g, cap, cur, rfl, _⟩
  · exact ⟨none, 0, rfl, trivial⟩
  · exact ⟨_, cap, rfl, trivial⟩
theorem Sees.two (w : World) (s t : ByteArray) : Sees (w.alloc (.cells #[.string s, .string t] 9)) (w.heap.size + 1) (some ⟨w.heap.size, 0, none⟩) 2 ([s, t].map Value.string) :=
  ⟨rfl, fun _ => ⟨w.heap.size, 0, rfl, Nat.lt_succ_self _, fun j u hu => by
    rw [(Whole.new w 9 #[.string s, .string t]).cell]
    simpa using hu⟩⟩
theorem open1 {B d : Nat} {m : Mem} {S : St} {w : World} (h : At B w d m S) (a : ByteArray) :
    Calls Tryz.prog 108 #[dptr d, .slice (some ⟨w.heap.size, 0, none⟩) 1 1] (w.alloc (.cells #[.string a] 9)) fun e w' =>
      e = .returned (.tuple #[openV m (openS S a.data.toList (isN a.data.toList)), .int .i64 (openS S a.data.toList (isN a.data.toList)).2]) /\ Below w.heap.size w w' := by
  have ho := open_any (c := 1) (h.alloc (.cells #[.string a] 9)) _ a [] (Sees.one w a) (by omega)
  have e1 : okAll [a] = isN a.data.toList := by simp [okAll]
  rw [e1] at ho
  refine ho.mono ?_
  rintro e w' ⟨rfl, q, rfl⟩
  exact ⟨rfl, below_drewN ((Below.refl _ w).alloc (Nat.le_refl _) _) q⟩
theorem open2 {B d : Nat} {m : Mem} {S : St} {w : World} (h : At B w d m S) (a b : ByteArray) :
    Calls Tryz.prog 108 #[dptr d, .slice (some ⟨w.heap.size, 0, none⟩) 2 2] (w.alloc (.cells #[.string a, .string b] 9)) fun e w' =>
      e = .returned (.tuple #[openV m (openS S a.data.toList (isN a.data.toList && isN b.data.toList)), .int .i64 (openS S a.data.toList (isN a.data.toList && isN b.data.toList)).2]) /\ Below w.heap.size w w' := by
  have ho := open_any (c := 2) (h.alloc (.cells #[.string a, .string b] 9)) _ a [b] (Sees.two w a b) (by omega)
  have e1 : okAll [a, b] = (isN a.data.toList && isN b.data.toList) := by simp [okAll]
  rw [e1] at ho
  refine ho.mono ?_
  rintro e w' ⟨rfl, q, rfl⟩
  exact ⟨rfl, below_drewN ((Below.refl _ w).alloc (Nat.le_refl _) _) q⟩
theorem openS_ok {S : St} {a : Bys} {ok : Bool} (h : (openS S a ok).2 = 0) : S.down = false /\ ok = true /\ findN S.names a = some (openS S a ok).1 := by
  unfold openS at h ⊢
  by_cases hd : S.down = true
  · rw [if_pos hd] at h; cases h
  · rw [if_neg hd] at h ⊢
    cases ok
    · cases h
    · simp only [if_true] at h ⊢
      cases hf : findN S.names a with
      | none => rw [hf] at h; cases h
      | some i => exact ⟨by simpa using hd, trivial, rfl⟩
theorem Sync_any {B d : Nat} {S : St} {w : World} (h : DiskAt B w d S) {k M : Nat} (F : Fit k M S) (a : ByteArray) :
    Calls Tryz.prog 93 #[dptr d, .string a] w fun e w' => e = .returned (.int .i64 (syncS S a.data.toList).2) /\ DiskAt B w' d (syncS S a.data.toList).1 /\ Kept B w w' := by
  obtain ⟨m, h⟩ := h
  have ho := Ha (open1 h a)
  have hH := Ha h
  have hFF := Ha F
  by_cases he : (openS S a.data.toList (isN a.data.toList)).2 = 0
  · obtain ⟨_, hok, hf⟩ := openS_ok he
    obtain ⟨i, hi⟩ : ∃ i, i = (openS S a.data.toList (isN a.data.toList)).1 := ⟨_, rfl⟩
    rw [<-hi] at hf
    have hR : Hid (syncS S a.data.toList = (count (setF S i ((fileAt S i).1, lenOf S i)), 0)) := Ha (by unfold syncS; rw [if_pos he, hi])
    have hV : openV m (openS S a.data.toList (isN a.data.toList)) = .pointer (some ⟨m.b i, 0, none⟩) := by unfold openV; rw [if_pos he, hi]
    rw [hV, he] at ho
    have hIlt := Ha (F.idn _ (findN_mem hf)).1
    have hLeft : Hid ((((setF S i ((fileAt S i).1, lenOf S i)).left : Nat) : Int) <= 9223372036854775807) := Ha F.lf
    clear h F he hok hf hi hV; go_enter Tryz.func93, Tryz.ntmps93
    go_wp2_with fail
    refine Calls.mono ho.out ?_
    rintro e w1 ⟨rfl, hB1⟩; have hA1 := hH.out.same hB1
    have hcf := hA1.files.cell i hIlt.out
    have hrw := hA1.files.row i hIlt.out
    obtain ⟨A, cc, hv, _⟩ := Sees.own hrw
    have cf0 : w1.cell? ⟨m.b i, 0, none⟩ = some (.slice A (lenOf S i) cc) := by rw [hcf.cell, hv]; rfl
    have cf1 : w1.cell? ⟨m.b i, 1, none⟩ = some (.int .i64 ((fileAt S i).2 : Nat)) := (hcf.cell 1).trans rfl
    have ff1 := hcf.frozen 1
    have GP := Ha (hA1.setF (w1 := w1) (r := none) (w' := w1.setCell ⟨m.b i, 1, none⟩ (.int .i64 (lenOf S i : Nat))) (x := ((fileAt S i).1, lenOf S i)) (v := m.v i) hIlt.out ⟨rfl, rfl, rfl, Nat.le_refl _, fun _ _ _ => rfl⟩ (.inl rfl) hrw (.inr (.inl rfl)) (dkGset _ _ _) (by
      have := hcf.put 1 (.int .i64 (lenOf S i : Nat))
      simpa using this))
    have hK1 := Ha (Kept.of_below (B := B) hB1)
    clear hA1 hcf hrw hv hB1; go_wp2_with fail
    refine (count_any GP.out.1 hLeft.out).mono ?_
    rintro e w7 ⟨rfl, hA7, hK7⟩; have HA7 := Ha hA7
    have HK7 := Ha ((hK1.out.trans GP.out.2).trans hK7)
    clear hA7 hK7; go_wp2
    go_ret
    rw [hR.out]
    exact ⟨rfl, ⟨_, HA7.out⟩, HK7.out⟩
  · have hR : Hid (syncS S a.data.toList = (S, (openS S a.data.toList (isN a.data.toList)).2)) := Ha (by unfold syncS; rw [if_neg he])
    obtain ⟨E, hE⟩ : ∃ E, E = (openS S a.data.toList (isN a.data.toList)).2 := ⟨_, rfl⟩
    rw [<-hE] at ho hR he
    have hne : (E == 0) = false := by simpa using he
    clear h F he hE; go_enter Tryz.func93, Tryz.ntmps93
    go_wp2_with (go_at_call 108; refine Calls.mono ho.out ?_; rintro e w1 ⟨rfl, hB1⟩); go_ret
    rw [hR.out]
    exact ⟨rfl, ⟨m, hH.out.same hB1⟩, .of_below hB1⟩
theorem SyncDir_any {B d : Nat} {S : St} {w : World} (h : DiskAt B w d S) {k M : Nat} (F : Fit k M S) (hk : k <= 50000) :
    Calls Tryz.prog 53 #[dptr d] w fun e w' => e = .returned (.int .i64 (syncDirS S).2) /\ DiskAt B w' d (syncDirS S).1 /\ Kept B w w' := by
  obtain ⟨m, h⟩ := h
  have hchk := Ha (dkCheck_any (c := 0) (n := 0) (B' := 0) h none [] (Sees.nil _ _ _) (by omega))
  have hH := Ha h
  by_cases hd : S.down = true
  · have hE : chkE S [] = 5 := by unfold chkE; rw [if_pos hd]
    have hR : Hid (syncDirS S = (S, 5)) := Ha (by unfold syncDirS; rw [if_pos hd])
    rw [hE] at hchk
    clear hd hE h F; go_enter Tryz.func53, Tryz.ntmps53
    go_wp2_with (go_at_call 55; refine (Calls.mono hchk.out ?_); rintro e w1 ⟨rfl, rfl⟩); go_ret
    rw [hR.out]
    exact ⟨rfl, ⟨m, hH.out⟩, Kept.refl _ _⟩
  · have hE : chkE S [] = 0 := by unfold chkE; rw [if_neg hd]; rfl
    have hR : Hid (syncDirS S = (count (settle S S.pend.length), 0)) := Ha (by unfold syncDirS; rw [if_neg hd])
    rw [hE] at hchk
    obtain ⟨A, cc, hv, _⟩ := Sees.own3 h.pend
    have c3 : w.cell? ⟨d, 3, none⟩ = some (.slice A S.pend.length cc) := by rw [h.disk.cell, <-hv]; rfl
    have hst := Ha (settle_any h F (by omega) S.pend.length (Nat.le_refl _))
    have hLeft : Hid ((((settle S S.pend.length).left : Nat) : Int) <= 9223372036854775807) := Ha F.lf
    clear hd hE h F hv; go_enter Tryz.func53, Tryz.ntmps53
    go_wp2_with (go_at_call 55; refine (Calls.mono hchk.out ?_); rintro e w1 ⟨rfl, rfl⟩); refine Calls.mono hst.out ?_
    rintro e w2 ⟨rfl, ⟨m2, hA2, _⟩, hK2⟩; have HA2 := Ha hA2
    have HK2 := Ha hK2
    clear hA2 hK2 c3; go_wp2_with fail
    refine (count_any HA2.out hLeft.out).mono ?_
    rintro e w7 ⟨rfl, hA7, hK7⟩; have HA7 := Ha hA7
    have HK7 := Ha (HK2.out.trans hK7)
    clear hA7 hK7; go_wp2
    go_ret
    rw [hR.out]
    exact ⟨rfl, ⟨_, HA7.out⟩, HK7.out⟩
theorem Rename_any {B d : Nat} {S : St} {w : World} (h : DiskAt B w d S) (hB : B <= w.heap.size) {k M : Nat} (F : Fit k M S) (hk : k <= 50000) (a b : ByteArray) :
    Calls Tryz.prog 95 #[dptr d, .string a, .string b] w fun e w' => e = .returned (.int .i64 (renameS S a.data.toList b.data.toList).2) /\ DiskAt B w' d (renameS S a.data.toList b.data.toList).1 /\ Kept B w w' := by
  obtain ⟨m, h⟩ := h
  have ho := Ha (open2 h a b)
  have hH := Ha h
  by_cases he : (openS S a.data.toList (isN a.data.toList && isN b.data.toList)).2 = 0
  · obtain ⟨_, hok, hf⟩ := openS_ok he
    simp only [Bool.and_eq_true] at hok
    have hsa := Ha (isN_le hok.1)
    have hsb := Ha (isN_le hok.2)
    obtain ⟨i, hi⟩ : ∃ i, i = (openS S a.data.toList (isN a.data.toList && isN b.data.toList)).1 := ⟨_, rfl⟩
    rw [<-hi] at hf
    have hR : Hid (renameS S a.data.toList b.data.toList = (count (chg S ⟨a.data.toList, b.data.toList, some i⟩), 0)) := Ha (by unfold renameS; rw [if_pos he, hi])
    have hV : openV m (openS S a.data.toList (isN a.data.toList && isN b.data.toList)) = .pointer (some ⟨m.b i, 0, none⟩) := by unfold openV; rw [if_pos he, hi]
    rw [hV, he] at ho
    have hLeft : Hid ((((chg S ⟨a.data.toList, b.data.toList, some i⟩).left : Nat) : Int) <= 9223372036854775807) := Ha F.lf
    have hFF := Ha F
    have hBB := Ha hB
    clear h F he hok hf hi hV hB; go_enter Tryz.func95, Tryz.ntmps95
    go_wp2_with (go_at_call 108; refine Calls.mono ho.out ?_; rintro e w1 ⟨rfl, hB1⟩); have hA1 := hH.out.same hB1
    have hch := change_any hA1 (Nat.le_trans hBB.out hB1.size) hFF.out (by omega) a b (some i) hsa.out.1 hsb.out.1 ⟨fun e => (by cases e), fun e => absurd hsb.out.2 (by omega)⟩
    have hK1 := Ha (Kept.of_below (B := B) hB1)
    clear hA1 hB1; refine Calls.mono hch ?_
    rintro e w2 ⟨rfl, ⟨m2, hA2, _⟩, hK2⟩; have HA2 := Ha hA2
    have HK2 := Ha (hK1.out.trans hK2)
    clear hA2 hK2 hch; go_wp2_with fail
    refine (count_any HA2.out hLeft.out).mono ?_
    rintro e w7 ⟨rfl, hA7, hK7⟩; have HA7 := Ha hA7
    have HK7 := Ha (HK2.out.trans hK7)
    clear hA7 hK7; go_wp2
    go_ret
    rw [hR.out]
    exact ⟨rfl, ⟨_, HA7.out⟩, HK7.out⟩
  · have hR : Hid (renameS S a.data.toList b.data.toList = (S, (openS S a.data.toList (isN a.data.toList && isN b.data.toList)).2)) := Ha (by unfold renameS; rw [if_neg he])
    obtain ⟨E, hE⟩ : ∃ E, E = (openS S a.data.toList (isN a.data.toList && isN b.data.toList)).2 := ⟨_, rfl⟩
    rw [<-hE] at ho hR he
    have hne : (E == 0) = false := by simpa using he
    clear h F he hE hB; go_enter Tryz.func95, Tryz.ntmps95
    go_wp2_with (go_at_call 108; refine Calls.mono ho.out ?_; rintro e w1 ⟨rfl, hB1⟩); go_ret
    rw [hR.out]
    exact ⟨rfl, ⟨m, hH.out.same hB1⟩, .of_below hB1⟩
theorem Remove_any {B d : Nat} {S : St} {w : World} (h : DiskAt B w d S) (hB : B <= w.heap.size) {k M : Nat} (F : Fit k M S) (hk : k <= 50000) (a : ByteArray) :
    Calls Tryz.prog 51 #[dptr d, .string a] w fun e w' => e = .returned (.int .i64 (removeS S a.data.toList).2) /\ DiskAt B w' d (removeS S a.data.toList).1 /\ Kept B w w' := by
  obtain ⟨m, h⟩ := h
  have ho := Ha (open1 h a)
  have hH := Ha h
  by_cases he : (openS S a.data.toList (isN a.data.toList)).2 = 0
  · obtain ⟨_, hok, hf⟩ := openS_ok he
    have hsa := Ha (isN_le hok)
    have hR : Hid (removeS S a.data.toList = (count (chg S ⟨a.data.toList, [], none⟩), 0)) := Ha (by unfold removeS; rw [if_pos he])
    rw [he] at ho
    obtain ⟨V, hV⟩ : ∃ V, V = openV m (openS S a.data.toList (isN a.data.toList)) := ⟨_, rfl⟩
    rw [<-hV] at ho
    have hLeft : Hid ((((chg S ⟨a.data.toList, [], none⟩).left : Nat) : Int) <= 9223372036854775807) := Ha F.lf
    have hFF := Ha F
    have hBB := Ha hB
    clear h F he hok hf hV hB; go_enter Tryz.func51, Tryz.ntmps51
    go_wp2_with (go_at_call 108; refine Calls.mono ho.out ?_; rintro e w1 ⟨rfl, hB1⟩); have hA1 := hH.out.same hB1
    have hch := change_any hA1 (Nat.le_trans hBB.out hB1.size) hFF.out (by omega) a ⟨#[]⟩ none hsa.out.1 (by decide) ⟨fun _ => rfl, fun _ => rfl⟩
    have hK1 := Ha (Kept.of_below (B := B) hB1)
    clear hA1 hB1; refine Calls.mono hch ?_
    rintro e w2 ⟨rfl, ⟨m2, hA2, _⟩, hK2⟩; have HA2 := Ha hA2
    have HK2 := Ha (hK1.out.trans hK2)
    clear hA2 hK2 hch; go_wp2_with fail
    refine (count_any HA2.out hLeft.out).mono ?_
    rintro e w7 ⟨rfl, hA7, hK7⟩; have HA7 := Ha hA7
    have HK7 := Ha (HK2.out.trans hK7)
    clear hA7 hK7; go_wp2
    go_ret
    rw [hR.out]
    exact ⟨rfl, ⟨_, HA7.out⟩, HK7.out⟩
  · have hR : Hid (removeS S a.data.toList = (S, (openS S a.data.toList (isN a.data.toList)).2)) := Ha (by unfold removeS; rw [if_neg he])
    obtain ⟨E, hE⟩ : ∃ E, E = (openS S a.data.toList (isN a.data.toList)).2 := ⟨_, rfl⟩
    rw [<-hE] at ho hR he
    have hne : (E == 0) = false := by simpa using he
    clear h F he hE hB; go_enter Tryz.func51, Tryz.ntmps51
    go_wp2_with (go_at_call 108; refine Calls.mono ho.out ?_; rintro e w1 ⟨rfl, hB1⟩); go_ret
    rw [hR.out]
    exact ⟨rfl, ⟨m, hH.out.same hB1⟩, .of_below hB1⟩
theorem dkStr_of_own {w : World} {base n : Nat} {v : Value} {l : List UInt8} (h : w.ownsRow base 5 1 v n (Lib.byteCells l)) :
    (convert 115 9 v).run Tryz.prog w = .ok (.string ⟨l.toArray⟩) w := by
  have hl : l.length = n := by have := h.1; simpa [Lib.byteCells] using this
  rcases h.2 with ⟨rfl, h0⟩ | ⟨g, cap, cur, rfl, _, _, _⟩
  · have : l = [] := List.eq_nil_of_length_eq_zero (by omega)
    subst this; rw [run_convert_bytes_string w 115 9 5 none 0 0 Tryz.underlying115 Tryz.underlying5 Tryz.underlying9]
    rfl
  · subst hl
    refine run_convert_bytes_back w _ _ 5 ⟨g, 0, none⟩ cap l Tryz.underlying115 Tryz.underlying5 Tryz.underlying9 (fun j hj => ?_)
    exact h.cells (g := g) rfl j _ (by simp [Lib.byteCells, hj])
theorem Read_any {B d : Nat} {S : St} {w : World} (h : DiskAt B w d S) {k M : Nat} (F : Fit k M S) (a : ByteArray) :
    Calls Tryz.prog 64 #[dptr d, .string a] w fun e w' => e = .returned (.tuple #[.string ⟨(readS S a.data.toList).1.toArray⟩, .int .i64 (readS S a.data.toList).2]) /\ Below w.heap.size w w' := by
  obtain ⟨m, h⟩ := h
  have ho := Ha (open1 h a)
  have hH := Ha h
  by_cases he : (openS S a.data.toList (isN a.data.toList)).2 = 0
  · obtain ⟨_, hok, hf⟩ := openS_ok he
    obtain ⟨i, hi⟩ : ∃ i, i = (openS S a.data.toList (isN a.data.toList)).1 := ⟨_, rfl⟩
    rw [<-hi] at hf
    have hR : Hid (readS S a.data.toList = ((fileAt S i).1, 0)) := Ha (by unfold readS; rw [if_pos he, hi])
    have hV : openV m (openS S a.data.toList (isN a.data.toList)) = .pointer (some ⟨m.b i, 0, none⟩) := by unfold openV; rw [if_pos he, hi]
    rw [hV, he] at ho
    have hIlt := Ha (F.idn _ (findN_mem hf)).1
    clear h F he hok hf hi hV; go_enter Tryz.func64, Tryz.ntmps64
    go_wp2_with fail
    refine Calls.mono ho.out ?_
    rintro e w1 ⟨rfl, hB1⟩; have hA1 := hH.out.same hB1
    have hcf := hA1.files.cell i hIlt.out
    have cf0 : w1.cell? ⟨m.b i, 0, none⟩ = some (m.v i) := (hcf.cell 0).trans rfl
    have hcv := dkStr_of_own (hA1.files.row i hIlt.out)
    obtain ⟨C, hC⟩ : ∃ C, C = (S.files.getD i ([], 0)).1 := ⟨_, rfl⟩
    rw [<-hC] at hcv
    have hCC : Hid (C = (fileAt S i).1) := Ha hC
    have HB1 := Ha hB1
    clear hA1 hcf hB1 hC; go_wp2
    go_ret2
    rw [hR.out, <-hCC.out]
    exact ⟨rfl, HB1.out⟩
  · have hR : Hid (readS S a.data.toList = ([], (openS S a.data.toList (isN a.data.toList)).2)) := Ha (by unfold readS; rw [if_neg he])
    obtain ⟨E, hE⟩ : ∃ E, E = (openS S a.data.toList (isN a.data.toList)).2 := ⟨_, rfl⟩
    rw [<-hE] at ho hR he
    have hne : (E == 0) = false := by simpa using he
    clear h F he hE; go_enter Tryz.func64, Tryz.ntmps64
    go_wp2_with (go_at_call 108; refine Calls.mono ho.out ?_; rintro e w1 ⟨rfl, hB1⟩); go_ret2
    rw [hR.out]
    exact ⟨rfl, hB1⟩
def listL (S : St) : List Bys := if S.down then [] else S.names.map (·.1)
def listE (S : St) : Int := if S.down then 5 else 0
theorem List_any {B d : Nat} {S : St} {w : World} (h : DiskAt B w d S) {k M : Nat} (F : Fit k M S) (hk : k <= 50000) :
    Calls Tryz.prog 26 #[dptr d] w fun e w' => ∃ v, e = .returned (.tuple #[v, .int .i64 (listE S)]) /\ w'.ownsRow w.heap.size 9 1 v (listL S).length ((listL S).map Go.Proofs.encStr) /\ Below w.heap.size w w' := by
  obtain ⟨m, h⟩ := h
  have hchk := Ha (dkCheck_any (c := 0) (n := 0) (B' := 0) h none [] (Sees.nil _ _ _) (by omega))
  by_cases hd : S.down = true
  · have hE : chkE S [] = 5 := by unfold chkE; rw [if_pos hd]
    have hR : Hid (listL S = [] /\ listE S = 5) := Ha (by unfold listL listE; rw [if_pos hd, if_pos hd]; exact ⟨rfl, rfl⟩)
    rw [hE] at hchk
    clear hd hE h F; go_enter Tryz.func26, Tryz.ntmps26
    go_wp2_with (go_at_call 55; refine (Calls.mono hchk.out ?_); rintro e w1 ⟨rfl, rfl⟩); go_ret2
    rw [hR.out.1, hR.out.2]
    exact ⟨_, rfl, World.ownsRow_nil _ _ _ _, Below.refl _ _⟩
  · have hE : chkE S [] = 0 := by unfold chkE; rw [if_neg hd]; rfl
    have hR : Hid (listL S = S.names.map (·.1) /\ listE S = 0) := Ha (by unfold listL listE; rw [if_neg hd, if_neg hd]; exact ⟨rfl, rfl⟩)
    rw [hE] at hchk
    have c1 : w.cell? ⟨d, 1, none⟩ = some (.map (some m.nm)) := (h.disk.cell 1).trans rfl
    have hso := Ha (slices_Sorted_any m.nm _ m.bs S.names w h.names (by have := F.nn; omega))
    clear hd hE h F; go_enter Tryz.func26, Tryz.ntmps26
    go_wp2_with (first
      | (go_at_call 55; refine (Calls.mono hchk.out ?_); rintro e w1 ⟨rfl, rfl⟩)
      | (go_at_call 44; refine (maps_Keys_any _ _).mono ?_; rintro e w1 ⟨rfl, rfl⟩)
      | (go_at_call 43; refine (Calls.mono hso.out ?_); rintro e w2 ⟨v, rfl, hrow, hB2⟩))
    go_ret2
    rw [hR.out.1, hR.out.2]
    refine ⟨_, rfl, ?_, hB2⟩
    simpa using hrow
end Go.Proofs.YtmpginmdaeclaaaGreatDoor
namespace Go.Proofs.YtmpginmdaeclaaaGreatDoor
open Go.RowKit Go.Maps Go.Sort
theorem choose_any (cb : Nat) (T : ByteArray) (w : World) (h : Whole w cb 9 #[.string T]) :
    Calls Tryz.prog 40 #[.pointer (some ⟨cb, 0, none⟩)] w fun e w' => e = .returned (.int .i64 (head T.data.toList : Nat)) /\ ∃ T' : ByteArray, T'.data.toList = T.data.toList.tail /\ Whole w' cb 9 #[.string T'] /\ w.grownBy w' (some cb) := by
  have c0 := h.cell1
  have f0 := h.frozen 0
  have hH := Ha h
  by_cases h0 : T.size = 0
  · have hse : T = ⟨#[]⟩ := ByteArray.ext (Array.eq_empty_of_size_eq_zero h0)
    subst hse; clear h h0; go_enter Tryz.func40, Tryz.ntmps40
    go_wp2
    go_ret
    exact ⟨rfl, ⟨#[]⟩, rfl, hH.out, ⟨rfl, rfl, rfl, Nat.le_refl _, fun _ _ _ => rfl⟩⟩
  · have hne := not_empty h0
    have hpos : (0 : Int) < (T.size : Int) := by omega
    clear h h0; go_enter Tryz.func40, Tryz.ntmps40
    go_wp2
    go_ret
    have hlt : 0 < T.size := by omega
    have hhd : ((head T.data.toList : Nat) : Int) = wrap64 ((T[0]'hlt).toNat : Nat) := by
      have e1 : head T.data.toList = (T[0]'hlt).toNat := by
        unfold head
        congr 1
        obtain ⟨⟨l⟩⟩ := T
        cases l with
        | nil => exact absurd hlt (by decide)
        | cons x r => rfl
      rw [e1]
      have := (T[0]'hlt).toNat_lt
      unfold wrap64
      omega
    refine ⟨ret_int hhd.symm, T.extract 1 T.size, ?_, hH.out.put1 _, dkGset _ _ _⟩
    rw [ByteArray.data_extract, Array.toList_extract, List.extract_eq_take_drop, <-size_len, List.take_of_length_le (by simp), List.drop_one]
theorem keep_int (s c r : Nat) (x : Int) (h : (r : Int) = x) : (s : Int) + c * (x + 1) / 256 = ((s + c * (r + 1) / 256 : Nat) : Int) := by
  subst h
  simp only [Int.natCast_add, Int.natCast_ediv, Int.natCast_mul]
  rfl
theorem lose_le {c r : Nat} (hc : c <= 255) : c * (r + 1) / 256 <= r := by
  have h1 : c * (r + 1) <= 255 * (r + 1) := Nat.mul_le_mul_right _ hc
  omega
theorem lose_end {B d i K nq : Nat} {m : Mem} {S : St} {w : World} {C : Bys} {s : Nat} {V : Value} (h : At B w d m S) (hi : i < S.files.length) (hCs : S.files.getD i ([], 0) = (C, s)) (c : Nat)
    (hK : K = s + c * (C.length - s + 1) / 256) (hKC : K <= C.length) (hrow : w.ownsRow B 5 1 V K (Lib.byteCells (C.take K))) (hloc : V.ownBlock = none \/ V.ownBlock = (m.v i).ownBlock \/ ∃ g, V.ownBlock = some g /\ w.heap.size <= g) :
    At B ((((w.drewN nq).setCell ⟨m.b i, 1, none⟩ (.int .i64 (K : Nat))).setCell ⟨m.b i, 0, none⟩ V).drew) d { m with vs := m.vs.set i V } (lose S i c) /\
    Kept B w ((((w.drewN nq).setCell ⟨m.b i, 1, none⟩ (.int .i64 (K : Nat))).setCell ⟨m.b i, 0, none⟩ V).drew) := by
  have e : lose S i c = setF S i (C.take K, K) := by
    unfold lose; have : fileAt S i = (C, s) := hCs
    rw [this, hK]
  rw [e]
  refine h.setF (x := (C.take K, K)) (w1 := w) (r := none) hi ⟨rfl, rfl, rfl, Nat.le_refl _, fun _ _ _ => rfl⟩ (.inl rfl) ?_ hloc ⟨rfl, rfl, rfl, by simp [World.setCell, World.drew], fun k hk hne => ?_⟩ ?_
  · simpa [List.length_take, Nat.min_eq_left hKC] using hrow
  · show (((w.drewN nq).setCell _ _).setCell _ _).heap[k]? = _
    rw [Below.heap_setCell _ _ _ _ (fun e => hne (by rw [e]))]
    rw [Below.heap_setCell _ _ _ _ (fun e => hne (by rw [e]))]
    rfl
  · have h1 := (((h.files.cell i hi).drewN nq).put 1 (.int .i64 (K : Nat))).put 0 V
    exact Whole.drew (by simpa using h1)
theorem lose_any {B d i : Nat} {m : Mem} {S : St} {w : World} (h : At B w d m S) {k M : Nat} (F : Fit k M S) (hM : M <= 1000000000) (hi : i < S.files.length) (c : Nat) (hc : c <= 255) :
    Calls Tryz.prog 45 #[.pointer (some ⟨m.b i, 0, none⟩), .int .i64 (c : Nat)] w fun e w' => e = .returned (.tuple #[]) /\ (∃ m', At B w' d m' (lose S i c) /\ m'.bs = m.bs /\ m'.nm = m.nm /\ m'.sm = m.sm) /\ Kept B w w' := by
  have hcf := h.files.cell i hi
  have hrw := h.files.row i hi
  have hfl := F.fl _ (List.getElem_mem hi)
  have hx : S.files.getD i ([], 0) = S.files[i]'hi := by rw [List.getD_eq_getElem?_getD, List.getElem?_eq_getElem hi]; rfl
  rw [<-hx] at hfl
  obtain ⟨C, s, hCs⟩ : ∃ C s, S.files.getD i ([], 0) = (C, s) := ⟨_, _, rfl⟩
  rw [hCs] at hcf hrw hfl
  simp only at hcf hrw hfl
  have ff0 := hcf.frozen 0
  have ff1 := hcf.frozen 1
  have cf1 : w.cell? ⟨m.b i, 1, none⟩ = some (.int .i64 (s : Nat)) := (hcf.cell 1).trans rfl
  have hwr : IntKind.i64.wrap ((C.length : Nat) - (s : Nat) : Int) = (C.length : Nat) - (s : Nat) := wrap_in _ (by omega)
  have hH := Ha h
  have hCS := Ha hCs
  have hRW := Ha hrw
  have hIlt := Ha hi
  have hL : (C.length : Int) <= 1000000000 := by omega
  have hs1 : (s : Int) <= (C.length : Nat) := by omega
  have hp0 : (0 : Int) <= (c : Nat) * ((C.length : Nat) - (s : Nat) + 1) := Int.mul_nonneg (by omega) (by omega)
  have hp1 : (c : Nat) * ((C.length : Nat) - (s : Nat) + 1) <= (255 : Int) * 1000000001 := Int.mul_le_mul (by omega) (by omega) (by omega) (by omega)
  obtain ⟨K, hK⟩ : ∃ K, K = s + c * (C.length - s + 1) / 256 := ⟨_, rfl⟩
  have hKI : (s : Int) + (c : Nat) * ((C.length : Nat) - (s : Nat) + 1) / 256 = (K : Nat) := by
    rw [hK]
    exact keep_int s c (C.length - s) _ (by omega)
  have hKC : K <= C.length := by
    have := lose_le (r := C.length - s) hc
    omega
  have hKK := Ha hK
  have hKL := Ha hKC
  have hKi := Ha hKI
  rcases hrw.2 with ⟨hv, hz⟩ | ⟨g, cap, cur, hv, hg1, hg2, hg3, hg4, hg5, hg6⟩
  · rw [hv] at hcf
    have cf0 : w.cell? ⟨m.b i, 0, none⟩ = some (.slice none 0 0) := (hcf.cell 0).trans rfl
    have hC0 : C = [] := List.eq_nil_of_length_eq_zero hz
    subst hC0; have hs0 : s = 0 := by simpa using hfl.2
    subst hs0; have hK0 : K = 0 := by simpa using hKC
    subst hK0; have hV := Ha hv
    have hc1 : (c : Int) / 256 = 0 := by omega
    have hc2 : (c : Int) <= 255 := by omega
    have cf1' : w.cell? ⟨m.b i, 1, none⟩ = some (.int .i64 0) := cf1
    clear cf1 hc; clear h hx hfl hCs hrw hv F hcf hi hK hKI hKC hz hp0 hp1 hwr hL hs1; go_enter Tryz.func45, Tryz.ntmps45
    go_wp2_with fail
    go_quiet (fail)
    go_wp2_with fail
    obtain ⟨w3, hw3⟩ : ∃ w3, w3 = (w.drewN nq).setCell ⟨m.b i, 1, none⟩ (.int .i64 0) := ⟨_, rfl⟩
    rw [<-hw3]
    have d0 : w3.cell? ⟨m.b i, 0, none⟩ = some (.slice none 0 0) := by rw [hw3]; go_simp
    have d1 : w3.cell? ⟨m.b i, 1, none⟩ = some (.int .i64 0) := by rw [hw3]; go_simp
    have d2 : w3.frozen? ⟨m.b i, 0, none⟩ = false := by rw [hw3]; go_simp
    have hW3 := Ha hw3
    clear hw3 cf0 cf1' ff0 ff1 hc1; go_region
    all_goals
      go_end0
      have GP := lose_end (K := 0) (nq := nq) (V := nilV) hH.out hIlt.out hCS.out c hKK.out (Nat.zero_le _) (World.ownsRow_nil _ _ _ _) (.inl rfl)
      rw [hW3.out]
      exact ⟨rfl, ⟨_, GP.1, rfl, rfl, rfl⟩, GP.2⟩
  · rw [hv] at hcf
    have cf0 : w.cell? ⟨m.b i, 0, none⟩ = some (.slice (some ⟨g, 0, none⟩) C.length cap) := (hcf.cell 0).trans rfl
    have hV := Ha hv
    have hcap : (C.length : Int) <= (cap : Nat) := by omega
    have hrow2 : Hid (w.ownsRow B 5 1 (.slice (some ⟨g, 0, none⟩) K cap) K (Lib.byteCells (C.take K))) := Ha (by
      refine ⟨by simp [Lib.byteCells, List.length_take]; omega, .inr ⟨g, cap, cur, rfl, hg1, hg2, by omega, hg4, hg5, ?_⟩⟩
      have e : Lib.byteCells (C.take K) = (Lib.byteCells C).take K := by simp [Lib.byteCells]
      rw [e, <-hg6, List.take_take]
      congr 1
      omega)
    clear h hx hfl hCs hrw hv F hcf hi hK hKI hKC hg1 hg2 hg3 hg4 hg5 hg6; go_enter Tryz.func45, Tryz.ntmps45
    go_wp2_with fail
    go_quiet (fail)
    go_wp2_with fail
    rw [hKi.out]
    have hk1 : (K : Int) <= (C.length : Nat) := by have := hKL.out; omega
    obtain ⟨w3, hw3⟩ : ∃ w3, w3 = (w.drewN nq).setCell ⟨m.b i, 1, none⟩ (.int .i64 (K : Nat)) := ⟨_, rfl⟩
    rw [<-hw3]
    have d0 : w3.cell? ⟨m.b i, 0, none⟩ = some (.slice (some ⟨g, 0, none⟩) C.length cap) := by rw [hw3]; go_simp
    have d1 : w3.cell? ⟨m.b i, 1, none⟩ = some (.int .i64 (K : Nat)) := by rw [hw3]; go_simp
    have d2 : w3.frozen? ⟨m.b i, 0, none⟩ = false := by rw [hw3]; go_simp
    have hW3 := Ha hw3
    clear hw3 cf0 cf1 ff0 ff1 hp0 hp1 hwr hs1; go_region
    all_goals
      go_end0
      have GP := lose_end (nq := nq) hH.out hIlt.out hCS.out c hKK.out hKL.out hrow2.out (.inr (.inl (by rw [hV.out]; rfl)))
      rw [hW3.out]
      exact ⟨rfl, ⟨_, GP.1, rfl, rfl, rfl⟩, GP.2⟩
end Go.Proofs.YtmpginmdaeclaaaGreatDoor
