/- The reference's Used, and its disk. No statement of the seat is proved here. -/
import Derived.Test.YteeomlboifleoaaRefE
namespace Go.Proofs.Yteeomlboifleoaa
open Go.RowKit Go.Maps Go.Sort

theorem RowF.at {w : World} {b : Nat} {A : Option Addr} {n c : Nat} {N : Nms} (h : RowF w b (.slice A n c) N) {k : Nat} (hk : k < N.length) :
    ∃ g p, A = some ⟨g, 0, none⟩ ∧ N[k]? = some p ∧ g < w.heap.size ∧ w.cell? ⟨g, k * 2, none⟩ = some (.string (strB p.1)) ∧ w.cell? ⟨g, k * 2 + 1, none⟩ = some (.int .i64 (p.2 : Nat)) := by
  have h0 := h
  rcases h.2 with ⟨_, hz⟩ | ⟨g, cap, cur, hv, _, hg, _⟩
  · omega
  · injection hv with e1 e2 e3
    subst e1
    have hp : N[k]? = some N[k] := List.getElem?_eq_getElem hk
    obtain ⟨c0, c1⟩ := ncells_at N k N[k] hp
    have hc := World.ownsRow.cells h0 (g := g) rfl
    have x0 := hc _ _ c0
    have x1 := hc _ _ c1
    rw [add0] at x0 x1
    exact ⟨g, N[k], rfl, hp, (Array.getElem?_eq_some_iff.1 hg).1, x0, x1⟩
def usedTo (S : St) (k : Nat) : Nat := ((S.names.take k).map fun p => lenOf S p.2).sum
theorem usedTo_all (S : St) : usedTo S S.names.length = used S := by unfold usedTo used; rw [List.take_length]
theorem usedTo_succ {S : St} {k : Nat} {p : Bys × Nat} (h : S.names[k]? = some p) : usedTo S (k + 1) = usedTo S k + lenOf S p.2 := by
  unfold usedTo
  rw [List.take_add_one, h]
  simp
theorem usedTo_le {S : St} {k : Nat} {p : Bys × Nat} (h : S.names[k]? = some p) : usedTo S k + lenOf S p.2 ≤ used S := by
  rw [← usedTo_succ h, ← usedTo_all]
  unfold usedTo
  have e : S.names = S.names.take (k + 1) ++ S.names.drop (k + 1) := (List.take_append_drop _ _).symm
  conv => rhs; rw [List.take_length, e, List.map_append, List.sum_append]
  omega
set_option maxHeartbeats 1000000 in
theorem Used_ref {w : World} {S : St} (L : Ls) (q l : Int) (dn : Bool) (hN : RowN w 0 (.slice L.an L.nn L.cn) S.names) (hF : RowF w 0 (.slice L.af L.nf L.cf) S.files) (hid : ∀ p ∈ S.names, p.2 < S.files.length)
    (hn : S.names.length ≤ 90000) (hu : (used S : Int) ≤ 1152921504606846976) (hf : S.files.length ≤ 90000) :
    Calls Try.prog 36 #[rv L q l dn] w fun e w' => e = .returned (.int .i64 (used S : Nat)) ∧ Below w.heap.size w w' := by
  obtain ⟨af, nf, cf, an, nn, cn, as_, ns, cs, ap, np, cp⟩ := L
  simp only at hN hF
  obtain rfl : nn = S.names.length := row_lenG hN
  obtain rfl : nf = S.files.length := row_lenG hF
  obtain ⟨w1, hw1⟩ : ∃ w1, w1 = w.alloc (.cells #[.int .i64 q, .slice af S.files.length cf, .slice an S.names.length cn, .slice as_ ns cs, .slice ap np cp, .int .i64 l, .bool dn] 33) := ⟨_, rfl⟩
  have x0 : Whole w1 w.heap.size 33 #[.int .i64 q, .slice af S.files.length cf, .slice an S.names.length cn, .slice as_ ns cs, .slice ap np cp, .int .i64 l, .bool dn] := by rw [hw1]; exact Whole.new _ _ _
  have hB : Below w.heap.size w w1 := by rw [hw1]; exact (Below.refl _ w).alloc (Nat.le_refl _) _
  have HN := Lib.hid (own_below hN hB)
  have HF := Lib.hid (own_below hF hB)
  have X0 := Lib.hid x0
  have HB := Lib.hid hB
  have HW := Lib.hid hw1
  have HID := Lib.hid hid
  have hnI : (S.names.length : Int) ≤ 90000 := by omega
  have hfI : (S.files.length : Int) ≤ 90000 := by omega
  have HU := Lib.hid hu
  have hlt1 := Lib.hid x0.lt
  clear hN hF x0 hB hw1 hid hu
  unfold rv
  go_enter Try.func36, Try.ntmps36
  go_wp2_with fail
  rw [← HW.out]
  go_loopw [3, 4] (fun u i wr => ∃ k : Nat, k ≤ S.names.length ∧ i = .int .i64 k ∧ u = .int .i64 (usedTo S k : Nat) ∧ Below w1.heap.size w1 wr) (fun _ i _ => S.names.length - (intOf i).toNat)
  case atStart => exact ⟨0, Nat.zero_le _, rfl, rfl, Below.refl _ _⟩
  case round =>
    obtain ⟨k, hk, rfl, rfl, hBr⟩ := hrel
    have xr := X0.out.below hBr hlt1.out
    have a1 := (xr.cell 1).trans (rfl : _ = some (Value.slice af S.files.length cf))
    have a2 := (xr.cell 2).trans (rfl : _ = some (Value.slice an S.names.length cn))
    have HBr := Lib.hid hBr
    clear hBr xr
    by_cases hlt : k < S.names.length
    · obtain ⟨g, p, rfl, hp, hg, c0, c1⟩ := RowN.at HN.out hlt
      have hpf := HID.out p (List.mem_of_getElem? hp)
      obtain ⟨g2, z, rfl, hz, hg2, d0, d1⟩ := RowF.at HF.out hpf
      have hlk : (k : Int) < (S.names.length : Int) := by omega
      have hpI : (p.2 : Int) < (S.files.length : Int) := by omega
      have hlen : Hid (lenOf S p.2 = (strB z.1).size) := Lib.hid (by
        unfold lenOf
        rw [List.getD_eq_getElem?_getD, hz]
        show z.1.length = _
        simp [strB, ByteArray.size])
      have hle := usedTo_le hp
      rw [hlen.out] at hle
      have hsu : Hid (usedTo S (k + 1) = usedTo S k + (strB z.1).size) := Lib.hid (by rw [usedTo_succ hp, hlen.out])
      obtain ⟨s, hs⟩ : ∃ s, s = strB z.1 := ⟨_, rfl⟩
      rw [← hs] at d0 hle hsu
      have y1 : wr.cell? ⟨g, k * 2 + 1, none⟩ = some (.int .i64 (p.2 : Nat)) := (HBr.out.cell hg).trans c1
      have y2 : wr.cell? ⟨g2, p.2 * 2, none⟩ = some (.string s) := (HBr.out.cell hg2).trans d0
      have hI : ((usedTo S k : Nat) : Int) + (s.size : Int) ≤ 1152921504606846976 := by have := HU.out; omega
      clear hlen hle hs hp hz c0 c1 d0 d1 hg hg2
      go_wp2_with fail
      go_quiet (fail)
      go_wp2_with fail
      go_roundw
      case rel => exact ⟨k + 1, by omega, by go_num, by rw [hsu.out]; go_num, below_drewN HBr.out nq⟩
      case measure => simp [intOf]; omega
    · obtain rfl : k = S.names.length := by omega
      go_wp2
      go_ret
      exact ⟨by rw [usedTo_all]; rfl, HB.out.trans (HBr.out.mono HB.out.size)⟩
end Go.Proofs.Yteeomlboifleoaa
