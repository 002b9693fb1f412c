/- lose, the choices, Restart. No statement of the seat is proved here. -/
import Derived.Test.YteeomlboifleoaaDkF
import Derived.RegionTactic
namespace Go.Proofs.Yteeomlboifleoaa
open Go.RowKit Go.Maps Go.Sort

theorem choose_any (cb : Nat) (T : ByteArray) (w : World) (h : Whole w cb 9 #[.string T]) :
    Calls Try.prog 37 #[.pointer (some ⟨cb, 0, none⟩)] w fun e w' => e = .returned (.int .i64 (head T.data.toList : Nat)) ∧ ∃ T' : ByteArray, T'.data.toList = T.data.toList.tail ∧ Whole w' cb 9 #[.string T'] ∧ w.grownBy w' (some cb) := by
  have c0 := h.cell1
  have f0 := h.frozen 0
  have hH := Lib.hid h
  by_cases h0 : T.size = 0
  · have hse : T = ⟨#[]⟩ := ByteArray.ext (Array.eq_empty_of_size_eq_zero h0)
    subst hse
    clear h h0
    go_enter Try.func37, Try.ntmps37
    go_wp2
    go_ret
    exact ⟨rfl, ⟨#[]⟩, rfl, hH.out, ⟨rfl, rfl, rfl, Nat.le_refl _, fun _ _ _ => rfl⟩⟩
  · have hne := not_empty h0
    have hpos : (0 : Int) < (T.size : Int) := by omega
    clear h h0
    go_enter Try.func37, Try.ntmps37
    go_wp2
    go_ret
    have hlt : 0 < T.size := by omega
    have hhd : ((head T.data.toList : Nat) : Int) = wrap64 ((T[0]'hlt).toNat : Nat) := by
      have e1 : head T.data.toList = (T[0]'hlt).toNat := by
        unfold head
        congr 1
        obtain ⟨⟨l⟩⟩ := T
        cases l with
        | nil => exact absurd hlt (by decide)
        | cons x r => rfl
      rw [e1]
      have := (T[0]'hlt).toNat_lt
      unfold wrap64
      omega
    refine ⟨ret_int hhd.symm, T.extract 1 T.size, ?_, hH.out.put1 _, gset _ _ _⟩
    rw [ByteArray.data_extract, Array.toList_extract, List.extract_eq_take_drop, ← size_len, List.take_of_length_le (by simp), List.drop_one]

theorem keep_int (s c r : Nat) (x : Int) (h : (r : Int) = x) : (s : Int) + c * (x + 1) / 256 = ((s + c * (r + 1) / 256 : Nat) : Int) := by
  subst h
  simp only [Int.natCast_add, Int.natCast_ediv, Int.natCast_mul]
  rfl
theorem lose_le {c r : Nat} (hc : c ≤ 255) : c * (r + 1) / 256 ≤ r := by
  have h1 : c * (r + 1) ≤ 255 * (r + 1) := Nat.mul_le_mul_right _ hc
  omega
theorem lose_end {B d i K nq : Nat} {m : Mem} {S : St} {w : World} {C : Bys} {s : Nat} {V : Value} (h : At B w d m S) (hi : i < S.files.length) (hCs : S.files.getD i ([], 0) = (C, s)) (c : Nat)
    (hK : K = s + c * (C.length - s + 1) / 256) (hKC : K ≤ C.length) (hrow : w.ownsRow B 5 1 V K (Lib.byteCells (C.take K))) (hloc : V.ownBlock = none ∨ V.ownBlock = (m.v i).ownBlock ∨ ∃ g, V.ownBlock = some g ∧ w.heap.size ≤ g) :
    At B ((((w.drewN nq).setCell ⟨m.b i, 1, none⟩ (.int .i64 (K : Nat))).setCell ⟨m.b i, 0, none⟩ V).drew) d { m with vs := m.vs.set i V } (lose S i c) ∧
    Kept B w ((((w.drewN nq).setCell ⟨m.b i, 1, none⟩ (.int .i64 (K : Nat))).setCell ⟨m.b i, 0, none⟩ V).drew) := by
  have e : lose S i c = setF S i (C.take K, K) := by
    unfold lose
    have : fileAt S i = (C, s) := hCs
    rw [this, hK]
  rw [e]
  refine h.setF (x := (C.take K, K)) (w1 := w) (r := none) hi ⟨rfl, rfl, rfl, Nat.le_refl _, fun _ _ _ => rfl⟩ (.inl rfl) ?_ hloc ⟨rfl, rfl, rfl, by simp [World.setCell, World.drew], fun k hk hne => ?_⟩ ?_
  · simpa [List.length_take, Nat.min_eq_left hKC] using hrow
  · show (((w.drewN nq).setCell _ _).setCell _ _).heap[k]? = _
    rw [Below.heap_setCell _ _ _ _ (fun e => hne (by rw [e]))]
    rw [Below.heap_setCell _ _ _ _ (fun e => hne (by rw [e]))]
    rfl
  · have h1 := (((h.files.cell i hi).drewN nq).put 1 (.int .i64 (K : Nat))).put 0 V
    exact Whole.drew (by simpa using h1)

theorem lose_any {B d i : Nat} {m : Mem} {S : St} {w : World} (h : At B w d m S) {k M : Nat} (F : Fit k M S) (hM : M ≤ 1000000000) (hi : i < S.files.length) (c : Nat) (hc : c ≤ 255) :
    Calls Try.prog 42 #[.pointer (some ⟨m.b i, 0, none⟩), .int .i64 (c : Nat)] w fun e w' => e = .returned (.tuple #[]) ∧ (∃ m', At B w' d m' (lose S i c) ∧ m'.bs = m.bs ∧ m'.nm = m.nm ∧ m'.sm = m.sm) ∧ Kept B w w' := by
  have hcf := h.files.cell i hi
  have hrw := h.files.row i hi
  have hfl := F.fl _ (List.getElem_mem hi)
  have hx : S.files.getD i ([], 0) = S.files[i]'hi := by rw [List.getD_eq_getElem?_getD, List.getElem?_eq_getElem hi]; rfl
  rw [← hx] at hfl
  obtain ⟨C, s, hCs⟩ : ∃ C s, S.files.getD i ([], 0) = (C, s) := ⟨_, _, rfl⟩
  rw [hCs] at hcf hrw hfl
  simp only at hcf hrw hfl
  have ff0 := hcf.frozen 0
  have ff1 := hcf.frozen 1
  have cf1 : w.cell? ⟨m.b i, 1, none⟩ = some (.int .i64 (s : Nat)) := (hcf.cell 1).trans rfl
  have hwr : IntKind.i64.wrap ((C.length : Nat) - (s : Nat) : Int) = (C.length : Nat) - (s : Nat) := wrap_in _ (by omega)
  have hH := Lib.hid h
  have hCS := Lib.hid hCs
  have hRW := Lib.hid hrw
  have hIlt := Lib.hid hi
  have hL : (C.length : Int) ≤ 1000000000 := by omega
  have hs1 : (s : Int) ≤ (C.length : Nat) := by omega
  have hp0 : (0 : Int) ≤ (c : Nat) * ((C.length : Nat) - (s : Nat) + 1) := Int.mul_nonneg (by omega) (by omega)
  have hp1 : (c : Nat) * ((C.length : Nat) - (s : Nat) + 1) ≤ (255 : Int) * 1000000001 := Int.mul_le_mul (by omega) (by omega) (by omega) (by omega)
  obtain ⟨K, hK⟩ : ∃ K, K = s + c * (C.length - s + 1) / 256 := ⟨_, rfl⟩
  have hKI : (s : Int) + (c : Nat) * ((C.length : Nat) - (s : Nat) + 1) / 256 = (K : Nat) := by
    rw [hK]
    exact keep_int s c (C.length - s) _ (by omega)
  have hKC : K ≤ C.length := by
    have := lose_le (r := C.length - s) hc
    omega
  have hKK := Lib.hid hK
  have hKL := Lib.hid hKC
  have hKi := Lib.hid hKI
  rcases hrw.2 with ⟨hv, hz⟩ | ⟨g, cap, cur, hv, hg1, hg2, hg3, hg4, hg5, hg6⟩
  · rw [hv] at hcf
    have cf0 : w.cell? ⟨m.b i, 0, none⟩ = some (.slice none 0 0) := (hcf.cell 0).trans rfl
    have hC0 : C = [] := List.eq_nil_of_length_eq_zero hz
    subst hC0
    have hs0 : s = 0 := by simpa using hfl.2
    subst hs0
    have hK0 : K = 0 := by simpa using hKC
    subst hK0
    have hV := Lib.hid hv
    have hc1 : (c : Int) / 256 = 0 := by omega
    have hc2 : (c : Int) ≤ 255 := by omega
    have cf1' : w.cell? ⟨m.b i, 1, none⟩ = some (.int .i64 0) := cf1
    clear cf1 hc
    clear h hx hfl hCs hrw hv F hcf hi hK hKI hKC hz hp0 hp1 hwr hL hs1
    go_enter Try.func42, Try.ntmps42
    go_wp2_with fail
    go_quiet (fail)
    go_wp2_with fail
    obtain ⟨w3, hw3⟩ : ∃ w3, w3 = (w.drewN nq).setCell ⟨m.b i, 1, none⟩ (.int .i64 0) := ⟨_, rfl⟩
    rw [← hw3]
    have d0 : w3.cell? ⟨m.b i, 0, none⟩ = some (.slice none 0 0) := by rw [hw3]; go_simp
    have d1 : w3.cell? ⟨m.b i, 1, none⟩ = some (.int .i64 0) := by rw [hw3]; go_simp
    have d2 : w3.frozen? ⟨m.b i, 0, none⟩ = false := by rw [hw3]; go_simp
    have hW3 := Lib.hid hw3
    clear hw3 cf0 cf1' ff0 ff1 hc1
    go_region
    all_goals
      go_end0
      have GP := lose_end (K := 0) (nq := nq) (V := nilV) hH.out hIlt.out hCS.out c hKK.out (Nat.zero_le _) (World.ownsRow_nil _ _ _ _) (.inl rfl)
      rw [hW3.out]
      exact ⟨rfl, ⟨_, GP.1, rfl, rfl, rfl⟩, GP.2⟩
  · rw [hv] at hcf
    have cf0 : w.cell? ⟨m.b i, 0, none⟩ = some (.slice (some ⟨g, 0, none⟩) C.length cap) := (hcf.cell 0).trans rfl
    have hV := Lib.hid hv
    have hcap : (C.length : Int) ≤ (cap : Nat) := by omega
    have hrow2 : Hid (w.ownsRow B 5 1 (.slice (some ⟨g, 0, none⟩) K cap) K (Lib.byteCells (C.take K))) := Lib.hid (by
      refine ⟨by simp [Lib.byteCells, List.length_take]; omega, .inr ⟨g, cap, cur, rfl, hg1, hg2, by omega, hg4, hg5, ?_⟩⟩
      have e : Lib.byteCells (C.take K) = (Lib.byteCells C).take K := by simp [Lib.byteCells]
      rw [e, ← hg6, List.take_take]
      congr 1
      omega)
    clear h hx hfl hCs hrw hv F hcf hi hK hKI hKC hg1 hg2 hg3 hg4 hg5 hg6
    go_enter Try.func42, Try.ntmps42
    go_wp2_with fail
    go_quiet (fail)
    go_wp2_with fail
    rw [hKi.out]
    have hk1 : (K : Int) ≤ (C.length : Nat) := by have := hKL.out; omega
    obtain ⟨w3, hw3⟩ : ∃ w3, w3 = (w.drewN nq).setCell ⟨m.b i, 1, none⟩ (.int .i64 (K : Nat)) := ⟨_, rfl⟩
    rw [← hw3]
    have d0 : w3.cell? ⟨m.b i, 0, none⟩ = some (.slice (some ⟨g, 0, none⟩) C.length cap) := by rw [hw3]; go_simp
    have d1 : w3.cell? ⟨m.b i, 1, none⟩ = some (.int .i64 (K : Nat)) := by rw [hw3]; go_simp
    have d2 : w3.frozen? ⟨m.b i, 0, none⟩ = false := by rw [hw3]; go_simp
    have hW3 := Lib.hid hw3
    clear hw3 cf0 cf1 ff0 ff1 hp0 hp1 hwr hs1
    go_region
    all_goals
      go_end0
      have GP := lose_end (nq := nq) hH.out hIlt.out hCS.out c hKK.out hKL.out hrow2.out (.inr (.inl (by rw [hV.out]; rfl)))
      rw [hW3.out]
      exact ⟨rfl, ⟨_, GP.1, rfl, rfl, rfl⟩, GP.2⟩
end Go.Proofs.Yteeomlboifleoaa
