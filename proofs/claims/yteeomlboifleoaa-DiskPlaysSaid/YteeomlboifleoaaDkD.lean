/- settle: the first pending changes are made to the safe names. No statement of the seat is proved here. -/
import Derived.Test.YteeomlboifleoaaDkC
namespace Go.Proofs.Yteeomlboifleoaa
open Go.RowKit Go.Maps Go.Sort

theorem pcells_at (bs : List Nat) : ∀ (l : List Chg) (k : Nat) (c : Chg), l[k]? = some c →
    (pcells bs l)[k * 3]? = some (Go.Proofs.encStr c.src) ∧ (pcells bs l)[k * 3 + 1]? = some (Go.Proofs.encStr c.dst) ∧ (pcells bs l)[k * 3 + 2]? = some (ptrOf bs c.f)
  | [], k, c, h => by simp at h
  | x :: r, 0, c, h => by
    simp only [List.getElem?_cons_zero, Option.some.injEq] at h
    subst h
    exact ⟨rfl, rfl, rfl⟩
  | x :: r, k + 1, c, h => by
    simp only [List.getElem?_cons_succ] at h
    obtain ⟨h0, h1, h2⟩ := pcells_at bs r k c h
    have e : pcells bs (x :: r) = [Go.Proofs.encStr x.src, Go.Proofs.encStr x.dst, ptrOf bs x.f] ++ pcells bs r := rfl
    rw [e]
    refine ⟨?_, ?_, ?_⟩
    · rw [List.getElem?_append_right (by simp; omega)]; simpa [show (k + 1) * 3 - 3 = k * 3 by omega] using h0
    · rw [List.getElem?_append_right (by simp; omega)]; simpa [show (k + 1) * 3 + 1 - 3 = k * 3 + 1 by omega] using h1
    · rw [List.getElem?_append_right (by simp; omega)]; simpa [show (k + 1) * 3 + 2 - 3 = k * 3 + 2 by omega] using h2
def safeTo (S : St) (k : Nat) : St := { S with safe := runs (S.pend.take k) S.safe }
theorem safeTo_step {S : St} {k : Nat} {c : Chg} (h : S.pend[k]? = some c) : safeTo S (k + 1) = { safeTo S k with safe := c.app (safeTo S k).safe } := by
  unfold safeTo
  rw [List.take_add_one, h]
  simp [runs]
theorem At.done {B d : Nat} {m : Mem} {S : St} {w : World} (h : At B w d m S) :
    At B (w.setCell ⟨d, 3, none⟩ nilV) d { m with pv := nilV } { S with pend := [] } ∧ Kept B w (w.setCell ⟨d, 3, none⟩ nilV) := by
  refine h.setP (w1 := w) (r := none) ⟨rfl, rfl, rfl, Nat.le_refl _, fun _ _ _ => rfl⟩ (.inl rfl) (World.ownsRow_nil _ _ _ _) (gset _ _ _) ?_
  have := h.disk.put 3 nilV
  simpa [dcells] using this
theorem add0 (g j : Nat) : (⟨g, 0, none⟩ : Addr).add j = ⟨g, j, none⟩ := by unfold Addr.add; split <;> simp_all
theorem settle_any {B d : Nat} {m : Mem} {S : St} {w : World} (h : At B w d m S) {k M : Nat} (F : Fit k M S) (hk : k ≤ 100000) (n : Nat) (hn : n ≤ S.pend.length) :
    Calls Try.prog 38 #[dptr d, .int .i64 n] w fun e w' => e = .returned (.tuple #[]) ∧ (∃ m', At B w' d m' (settle S n) ∧ m'.bs = m.bs ∧ m'.vs = m.vs ∧ m'.nm = m.nm ∧ m'.sm = m.sm) ∧ Kept B w w' := by
  have c3 : w.cell? ⟨d, 3, none⟩ = some m.pv := (h.disk.cell 3).trans rfl
  have f3 := h.disk.frozen 3
  have hFF := Lib.hid F
  have hp := h.pend
  have hnk : n ≤ 100000 := by have := F.np; omega
  rcases hp.2 with ⟨hv, hz⟩ | ⟨g, cap, cur, hv, hg, hcur, hcap, hmax, hsz, htk⟩
  · -- nothing waits
    have hn0 : n = 0 := by omega
    subst hn0
    rw [hv] at c3
    have hH := Lib.hid h
    have hS : Hid (settle S 0 = { S with pend := [] }) := Lib.hid rfl
    clear h hp hv hz F hn hnk
    go_enter Try.func38, Try.ntmps38
    go_wp2
    go_loop [13] (fun i => i = .int .i64 0) (fun _ => 0)
    case atStart => rfl
    case round =>
      obtain rfl := hrel
      go_wp2
      go_end0
      obtain ⟨r1, r2⟩ := hH.out.done
      rw [hS.out]
      exact ⟨rfl, ⟨_, r1, rfl, rfl, rfl, rfl⟩, r2⟩
  · rw [hv] at c3
    have hnc : (n : Int) ≤ (cap : Int) := by omega
    have hcells := hp.cells (g := g) (by rw [hv]; rfl)
    have hH := Lib.hid h
    have hN := Lib.hid hn
    have hC := Lib.hid hcells
    have hV := Lib.hid hv
    clear h hp hv F hn hg hcur hsz htk hcells
    go_enter Try.func38, Try.ntmps38
    go_wp2
    go_loopw [13] (fun i wr => ∃ j : Nat, j ≤ n ∧ i = .int .i64 j ∧ At B wr d m (safeTo S j) ∧ Kept B w wr) (fun i _ => n - (intOf i).toNat)
    case atStart => exact ⟨0, Nat.zero_le _, rfl, hH.out, Kept.refl _ _⟩
    case round =>
      obtain ⟨j, hj, rfl, hA, hK⟩ := hrel
      have hA' := Lib.hid hA
      have hK' := Lib.hid hK
      by_cases hlt : j < n
      · obtain ⟨c, hc⟩ : ∃ c, S.pend[j]? = some c := ⟨S.pend[j]'(by have := hN.out; omega), List.getElem?_eq_getElem _⟩
        have hcl := hA.pend.cells (g := g) (by rw [hV.out]; rfl)
        obtain ⟨h0, h1, h2⟩ := pcells_at m.bs S.pend j c hc
        obtain ⟨s1, hs1⟩ : ∃ s : ByteArray, s = ⟨c.src.toArray⟩ := ⟨_, rfl⟩
        obtain ⟨s2, hs2⟩ : ∃ s : ByteArray, s = ⟨c.dst.toArray⟩ := ⟨_, rfl⟩
        obtain ⟨p, hp⟩ : ∃ p, p = ptrA m.bs c.f := ⟨_, rfl⟩
        have x0 := hcl _ _ h0
        have x1 := hcl _ _ h1
        have x2 := hcl _ _ h2
        rw [show Go.Proofs.encStr c.src = .string s1 by rw [hs1]] at x0
        rw [show Go.Proofs.encStr c.dst = .string s2 by rw [hs2]] at x1
        rw [show ptrOf m.bs c.f = .pointer p by rw [hp]; rfl] at x2
        have hlk : (j : Int) < (n : Int) := by omega
        rw [add0] at x0 x1 x2
        have hS := Lib.hid (safeTo_step hc)
        have hwf := Lib.hid (hFF.out.idp c (List.mem_of_getElem? hc)).1
        have hP := Lib.hid hp
        have hE : Hid (c = ⟨s1.data.toList, s2.data.toList, c.f⟩) := Lib.hid (by rw [hs1, hs2])
        have hz1 : Hid (s1.size ≤ 64 ∧ s2.size ≤ 64 ∧ (c.f = none ↔ s2.size = 0)) := Lib.hid (by
          obtain ⟨w1, w2, w3⟩ := hwf.out
          rw [← size_len, ← size_len, hs1, hs2]
          refine ⟨w2, w3, w1.trans ?_⟩
          exact List.length_eq_zero_iff.symm)
        clear hA hK hc hcl h0 h1 h2 hs1 hs2 hp
        go_wp2_with fail
        have hX0 : At B (wr.alloc (.cells #[.string s1, .string s2, .pointer p] 100)) d m (safeTo S j) := hA'.out.alloc _
        have hW0 := Whole.new wr 100 #[.string s1, .string s2, .pointer p]
        have hK0 : Kept B w (wr.alloc (.cells #[.string s1, .string s2, .pointer p] 100)) := hK'.out.alloc _
        obtain ⟨g2, hg2⟩ : ∃ g2, g2 = wr.heap.size := ⟨_, rfl⟩
        rw [← hg2] at hW0 ⊢
        clear hg2 x0 x1 x2
        revert hX0 hK0 hW0
        generalize wr.alloc (.cells #[.string s1, .string s2, .pointer p] 100) = w3
        intro hX0 hK0 hW0
        have c1 : w3.cell? ⟨d, 2, none⟩ = some (.map (some m.sm)) := (hX0.disk.cell 2).trans rfl
        have a0 : w3.cell? ⟨g2, 0, none⟩ = some (.string s1) := (hW0.cell 0).trans rfl
        have a1 : w3.cell? ⟨g2, 1, none⟩ = some (.string s2) := (hW0.cell 1).trans rfl
        have a2 : w3.cell? ⟨g2, 2, none⟩ = some (.pointer p) := (hW0.cell 2).trans rfl
        have hAp := Lib.hid (show ∀ W : World, W.ownsMap Try.prog 9 ptrR m.sm (safeTo S j).safe.length (dm m.bs (safeTo S j).safe) → Calls Try.prog 55 #[.agg #[.string s1, .string s2, .pointer p], .map (some m.sm)] W fun e w' =>
            e = .returned (.tuple #[]) ∧ w'.ownsMap Try.prog 9 ptrR m.sm ((safeTo S j).safe.length + 1) (dm m.bs ((⟨s1.data.toList, s2.data.toList, c.f⟩ : Chg).app (safeTo S j).safe)) ∧ W.grownBy w' (some m.sm) from fun W hW => by
          rw [hP.out]
          have h1 := hFF.out.nr j
          exact apply_any hW (Nat.le_trans h1 (by omega)) s1 s2 c.f hz1.out.1 hz1.out.2.1 hz1.out.2.2)
        have hdr : Hid (At B w3.drew d m (safeTo S j)) := Lib.hid hX0.drew
        have n1 : some g2 ≠ some m.sm := fun e => by
          have h1 := whole_typ hW0
          have h2 := map_typ hX0.safe
          rw [Option.some.inj e, h2] at h1
          exact absurd h1 (by decide)
        have n2 : some d ≠ some m.sm := fun e => by
          have h1 := whole_typ hX0.disk
          have h2 := map_typ hX0.safe
          rw [Option.some.inj e, h2] at h1
          exact absurd h1 (by decide)
        replace n1 := Lib.hid n1
        replace n2 := Lib.hid n2
        replace hX0 := Lib.hid hX0
        replace hW0 := Lib.hid hW0
        replace hK0 := Lib.hid hK0
        go_region_held3 (fun w' => w'.cell? ⟨g2, 0, none⟩ = some (.string s1) ∧ w'.cell? ⟨g2, 1, none⟩ = some (.string s2) ∧ w'.cell? ⟨g2, 2, none⟩ = some (.pointer p) ∧ w'.cell? ⟨d, 2, none⟩ = some (.map (some m.sm))) (go_keep)
          (first | (go_at_call 55; refine (Calls.mono (hAp.out _ hdr.out.safe) ?_); rintro e w4 ⟨rfl, ho4, hg4⟩; have b0 : w4.cell? ⟨g2, 0, none⟩ = some (.string s1) := hg4.cell (a := ⟨g2, 0, none⟩) a0 n1.out; have b1 : w4.cell? ⟨g2, 1, none⟩ = some (.string s2) := hg4.cell (a := ⟨g2, 1, none⟩) a1 n1.out; have b2 : w4.cell? ⟨g2, 2, none⟩ = some (.pointer p) := hg4.cell (a := ⟨g2, 2, none⟩) a2 n1.out; have b3 : w4.cell? ⟨d, 2, none⟩ = some (.map (some m.sm)) := hg4.cell (a := ⟨d, 2, none⟩) c1 n2.out))
        have GP := Lib.hid (hdr.out.setS hg4 ho4)
        clear hg4 ho4 b0 b1 b2 b3 a0 a1 a2 c1
        go_wp2_with fail
        go_roundw
        case rel =>
          refine ⟨j + 1, by omega, by go_num, ?_, hK0.out.drew.trans GP.out.2⟩
          rw [hS.out]
          have := GP.out.1
          rw [← hE.out] at this
          exact this
        case measure => simp [intOf]; omega
      · obtain rfl : j = n := by omega
        clear hA hK
        have c3 : wr.cell? ⟨d, 3, none⟩ = some m.pv := (hA'.out.disk.cell 3).trans rfl
        have f3 := hA'.out.disk.frozen 3
        go_wp2
        go_end0
        obtain ⟨r1, r2⟩ := hA'.out.done
        exact ⟨rfl, ⟨_, r1, rfl, rfl, rfl, rfl⟩, hK'.out.trans r2⟩
end Go.Proofs.Yteeomlboifleoaa
