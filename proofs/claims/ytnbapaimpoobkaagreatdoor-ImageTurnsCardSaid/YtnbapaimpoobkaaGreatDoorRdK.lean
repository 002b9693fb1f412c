/- Parts of the proofs of the statements of image. No statement of the seat is proved here. -/
import Derived.Test.YtnbapaimpoobkaaGreatDoorPaC
import Derived.Test.YtnbapaimpoobkaaGreatDoorNaI
import Derived.Test.YtnbapaimpoobkaaGreatDoorNaE
import Derived.Deep.AppendSrc
import Derived.Test.YtnbapaimpoobkaaGreatDoorRdM
import Derived.Test.YtnbapaimpoobkaaGreatDoorOcD
import Derived.Test.YtnbapaimpoobkaaGreatDoorRdB
import Derived.Test.YtnbapaimpoobkaaGreatDoorPaA
import Derived.Deep.RegionWith
import Derived.Test.YtnbapaimpoobkaaGreatDoorRdJ
namespace Go.Proofs.YtnbapaimpoobkaaGreatDoor
open Go.RowKit

theorem Good.snoc {L : List (List UInt8)} {x : List UInt8} (h : Good L) (h1 : x ≠ []) (h2 : x.length ≤ 63) : Good (L ++ [x]) := by
  intro y hy
  rcases List.mem_append.1 hy with hy | hy
  · exact h y hy
  · rw [List.mem_singleton] at hy; subst hy; exact ⟨h1, h2⟩
section
variable {M : List UInt8} {L : List (List UInt8)} {s p d d2 : Nat} {nx : Option Nat}
end

end Go.Proofs.YtnbapaimpoobkaaGreatDoor
namespace Go.Proofs.YtnbapaimpoobkaaGreatDoor
open Go.RowKit
set_option maxRecDepth 20000

theorem piece_lab {x : List UInt8} (h : x.length ≤ 255) : pieceR (mk x) 1 = (mk (lab x), 0) := by
  unfold pieceR
  rw [if_pos (by rfl), if_pos (by rw [mk_size]; simp [fitB]; omega), mk_size]
  have e : be x.length (1 : Int).toNat = [UInt8.ofNat x.length] := by simp [be]
  rw [e]
  show (mk [UInt8.ofNat x.length] ++ mk x, (0 : Int)) = _
  rw [mk_append]
  rfl
theorem Piece_lab (X : ByteArray) (x : List UInt8) (w : World) (hX : X = mk x) (hx : x.length ≤ 63) :
    Calls Tryz.prog 87 #[.string X, .int .i64 1] w fun e w' => e = .returned (.tuple #[.string (mk (lab x)), .int .i64 0]) ∧ Below w.heap.size w w' := by
  subst hX
  have := Piece_any (mk x) 1 w (by rw [mk_size]; omega)
  rwa [piece_lab (by omega)] at this

theorem dotEnc_len (L : List (List UInt8)) : (enc L).length = (labs L).length + 1 := by simp [enc]
theorem labs_take {L : List (List UInt8)} {k : Nat} (h : k < L.length) : labs (L.take (k + 1)) = labs (L.take k) ++ lab L[k] := by
  rw [List.take_succ_eq_append_getElem h, labs_append]; simp [labs]
theorem labs_le (L : List (List UInt8)) (k : Nat) : (labs (L.take k)).length ≤ (labs L).length := by
  conv => rhs; rw [← List.take_append_drop k L]
  rw [labs_append, List.length_append]; omega
theorem ofN_form {L : List (List UInt8)} (h : [] ∈ L) : ofN L = ([], 2) := by unfold ofN; rw [if_pos h]
theorem ofN_long {L : List (List UInt8)} (h : [] ∉ L) (h' : (∃ x ∈ L, 63 < x.length) ∨ 255 < (enc L).length) : ofN L = ([], 3) := by unfold ofN; rw [if_neg h, if_pos h']
theorem ofN_ok {L : List (List UInt8)} (h : [] ∉ L) (h' : ¬ ((∃ x ∈ L, 63 < x.length) ∨ 255 < (enc L).length)) : ofN L = (enc L, 0) := by unfold ofN; rw [if_neg h, if_neg h']
/-- where the loop stands -/
def OfAt (L : List (List UInt8)) (k : Nat) (S : ByteArray) : Prop := S = mk (labs (L.take k)) ∧ (∀ x ∈ L.take k, x.length ≤ 63) ∧ S.size ≤ 254
theorem OfAt.start (L : List (List UInt8)) : OfAt L 0 ⟨#[]⟩ := ⟨rfl, by simp, by decide⟩
theorem OfAt.len {L : List (List UInt8)} {k : Nat} {S : ByteArray} (h : OfAt L k S) : S.size = (labs (L.take k)).length := by rw [h.1, mk_size]
theorem OfAt.step {L : List (List UInt8)} {k : Nat} {S : ByteArray} (h : OfAt L k S) (hk : k < L.length) (hx : L[k].length ≤ 63) (hs : S.size + 1 + L[k].length + 1 ≤ 255) : OfAt L (k + 1) (S ++ mk (lab L[k])) := by
  refine ⟨by rw [h.1, mk_append, labs_take hk], fun x hm => ?_, ?_⟩
  · rw [List.take_succ_eq_append_getElem hk, List.mem_append, List.mem_singleton] at hm
    rcases hm with hm | hm
    · exact h.2.1 x hm
    · subst hm; exact hx
  · rw [ByteArray.size_append, mk_size, lab_len]; omega
theorem OfAt.long1 {L : List (List UInt8)} {k : Nat} (hk : k < L.length) (hx : 63 < L[k].length) (hE : [] ∉ L) : ofN L = ([], 3) := ofN_long hE (.inl ⟨_, List.getElem_mem hk, hx⟩)
theorem OfAt.long2 {L : List (List UInt8)} {k : Nat} {S : ByteArray} (h : OfAt L k S) (hk : k < L.length) (hs : 255 < S.size + 1 + L[k].length + 1) (hE : [] ∉ L) : ofN L = ([], 3) := by
  refine ofN_long hE (.inr ?_)
  have h1 := labs_le L (k + 1)
  rw [labs_take hk, List.length_append, lab_len] at h1
  rw [dotEnc_len]
  have := h.len
  omega
theorem OfAt.done {L : List (List UInt8)} {k : Nat} {S : ByteArray} (h : OfAt L k S) (hk : L.length ≤ k) (hE : [] ∉ L) : S ++ ⟨#[0]⟩ = mk (ofN L).1 ∧ (ofN L).2 = 0 := by
  have e : L.take k = L := List.take_of_length_le hk
  have hl := h.len
  rw [e] at hl
  have ho := ofN_ok hE (by
    rintro (⟨x, hx, hx'⟩ | hx)
    · have := h.2.1 x (by rw [e]; exact hx)
      omega
    · rw [dotEnc_len] at hx
      have := h.2.2
      omega)
  rw [ho]
  refine ⟨?_, rfl⟩
  rw [h.1, e]
  show mk (labs L) ++ mk [0] = _
  rw [mk_append]
  rfl

set_option maxHeartbeats 1000000 in
theorem dotOf_any (A : Option Addr) (n c : Nat) (L : List (List UInt8)) (w : World) (h : Sees w w.heap.size A n (textL L)) (hn : n ≤ 100000) (hx : ∀ x ∈ L, x.length ≤ 100000) :
    Calls Tryz.prog 152 #[.slice A n c] w fun e w' => e = .returned (.tuple #[.string (mk (ofN L).1), .int .i64 (ofN L).2]) ∧ Below w.heap.size w w' := by
  have HL := Lib.hid (textL_len h)
  by_cases hE : [] ∈ L
  · have hd : decide (([] : List UInt8) ∈ L) = true := by simpa using hE
    rw [ofN_form hE]
    clear hE
    go_enter Tryz.func152, Tryz.ntmps152
    go_wp2_with fail
    refine (Contains_any A n c _ L ⟨#[]⟩ [] _ h rfl (by omega)).mono ?_
    rw [hd]
    rintro e w1 ⟨rfl, rfl⟩
    go_wp2_with fail
    go_ret2
    exact ⟨rfl, Below.refl _ _⟩
  have hd : decide (([] : List UInt8) ∈ L) = false := by simpa using hE
  have HE := Lib.hid hE
  have HX := Lib.hid hx
  clear hE hx
  go_enter Tryz.func152, Tryz.ntmps152
  go_wp2_with fail
  refine (Contains_any A n c _ L ⟨#[]⟩ [] _ h rfl (by omega)).mono ?_
  rw [hd]
  rintro e w1 ⟨rfl, rfl⟩
  go_wp2_with fail
  go_loopw [4, 13] (fun s i wr => ∃ k S, k ≤ n ∧ i = .int .i64 (k : Nat) ∧ s = .string S ∧ OfAt L k S ∧ Below w.heap.size w wr) (fun _ i _ => n - (intOf i).toNat)
  case atStart => exact ⟨0, ⟨#[]⟩, Nat.zero_le _, rfl, rfl, OfAt.start L, Below.refl _ _⟩
  case round =>
    obtain ⟨k, S, hk, rfl, rfl, hR, GB⟩ := hrel
    have hSz := hR.2.2
    have HR := Lib.hid hR
    clear hR
    by_cases hlt : k < n
    · have h2 : k < L.length := by have := HL.out; omega
      obtain ⟨b, off, rfl, hbB, hc⟩ := textL_at (h.below GB) hlt h2
      obtain ⟨X, hX⟩ : ∃ X, X = mk L[k] := ⟨_, rfl⟩
      have hXs : X.size = L[k].length := by rw [hX, mk_size]
      have hXb : X.size ≤ 100000 := by rw [hXs]; exact HX.out _ (List.getElem_mem h2)
      rw [← hX] at hc
      have HXX := Lib.hid hX
      have HXs := Lib.hid hXs
      clear hX hXs
      by_cases hbig : 63 < X.size
      · have g2 : (63 : Int) < (X.size : Int) := by omega
        have ho := OfAt.long1 h2 (by have := HXs.out; omega) HE.out
        have HO := Lib.hid ho
        clear ho
        go_wp2_with fail
        go_ret2
        exact ⟨by rw [HO.out]; rfl, GB⟩
      · have g2 : ¬ (63 : Int) < (X.size : Int) := by omega
        by_cases hlong : 255 < S.size + 1 + X.size + 1
        · have g3 : (255 : Int) < (S.size : Int) + 1 + (X.size : Int) + 1 := by omega
          have ho := HR.out.long2 h2 (by have := HXs.out; omega) HE.out
          have HO := Lib.hid ho
          clear ho
          go_wp2_with fail
          go_ret2
          exact ⟨by rw [HO.out]; rfl, GB⟩
        · have g3 : ¬ (255 : Int) < (S.size : Int) + 1 + (X.size : Int) + 1 := by omega
          have hst := HR.out.step h2 (by have := HXs.out; omega) (by have := HXs.out; omega)
          obtain ⟨F, hF⟩ : ∃ F, F = mk (lab L[k]) := ⟨_, rfl⟩
          have hFs : F.size ≤ 64 := by rw [hF, mk_size, lab_len]; have := HXs.out; omega
          rw [← hF] at hst
          have HF := Lib.hid hF
          have HST := Lib.hid hst
          clear hF hst
          go_wp2_with fail
          refine (Piece_lab X L[k] _ HXX.out (by have := HXs.out; omega)).mono ?_
          rw [← HF.out]
          rintro e w2 ⟨rfl, hB2⟩
          go_wp2_with fail
          go_roundw
          case rel => exact ⟨k + 1, S ++ F, by omega, by go_num, rfl, HST.out, GB.trans (hB2.mono GB.size)⟩
          case measure => simp [intOf]; omega
    · obtain rfl : k = n := by omega
      have hd2 := HR.out.done (by have := HL.out; omega) HE.out
      have HD := Lib.hid hd2
      clear hd2
      go_wp2_with fail
      go_ret2
      exact ⟨by rw [HD.out.2, ← HD.out.1]; rfl, GB⟩

end Go.Proofs.YtnbapaimpoobkaaGreatDoor
namespace Go.Proofs.YtnbapaimpoobkaaGreatDoor
open Go.RowKit
set_option maxRecDepth 20000

theorem labs_bound (L : List (List UInt8)) (h : ∀ x ∈ L, x.length ≤ 63) : (labs L).length ≤ 64 * L.length := by
  induction L with
  | nil => simp [labs]
  | cons x L ih =>
    have h1 := h x (by simp)
    have h2 := ih fun y hy => h y (List.mem_cons_of_mem _ hy)
    simp only [labs, List.length_append, lab_len, List.length_cons]
    omega
/-- where the second loop of the reference's Of stands -/
def OfRef (L : List (List UInt8)) (k : Nat) (S : ByteArray) : Prop := S = mk (labs (L.take k)) ∧ (∀ x ∈ L.take k, x.length ≤ 63)
theorem OfRef.start (L : List (List UInt8)) : OfRef L 0 ⟨#[]⟩ := ⟨rfl, by simp⟩
theorem OfRef.size {L : List (List UInt8)} {k : Nat} {S : ByteArray} (h : OfRef L k S) : S.size ≤ 64 * k := by
  rw [h.1, mk_size]
  have := labs_bound _ h.2
  have h2 : (L.take k).length ≤ k := by simp; omega
  omega
theorem OfRef.step {L : List (List UInt8)} {k : Nat} {S : ByteArray} (h : OfRef L k S) (hk : k < L.length) (hx : L[k].length ≤ 63) : OfRef L (k + 1) (S ++ (⟨#[UInt8.ofNat L[k].length]⟩ ++ mk L[k])) := by
  refine ⟨?_, fun x hm => ?_⟩
  · rw [h.1]
    show mk _ ++ (mk [UInt8.ofNat L[k].length] ++ mk L[k]) = _
    rw [mk_append, mk_append, labs_take hk]
    rfl
  · rw [List.take_succ_eq_append_getElem hk, List.mem_append, List.mem_singleton] at hm
    rcases hm with hm | hm
    · exact h.2 x hm
    · subst hm; exact hx
theorem OfRef.done {L : List (List UInt8)} {k : Nat} {S : ByteArray} (h : OfRef L k S) (hk : L.length ≤ k) (hE : [] ∉ L) :
    (254 < S.size → ofN L = ([], 3)) ∧ (¬ 254 < S.size → S ++ ⟨#[0]⟩ = mk (ofN L).1 ∧ (ofN L).2 = 0) := by
  have e : L.take k = L := List.take_of_length_le hk
  have hS := h.1
  rw [e] at hS
  have hl : S.size = (labs L).length := by rw [hS, mk_size]
  refine ⟨fun h1 => ofN_long hE (.inr (by rw [dotEnc_len]; omega)), fun h1 => ?_⟩
  have ho := ofN_ok hE (by
    rintro (⟨x, hx, hx'⟩ | hx)
    · have := h.2 x (by rw [e]; exact hx)
      omega
    · rw [dotEnc_len] at hx
      omega)
  rw [ho]
  refine ⟨?_, rfl⟩
  rw [hS]
  show mk (labs L) ++ mk [0] = _
  rw [mk_append]
  rfl

end Go.Proofs.YtnbapaimpoobkaaGreatDoor
namespace Go.Proofs.YtnbapaimpoobkaaGreatDoor
open Go.RowKit

theorem Pk.put {B b m c : Nat} {W : World} {v : Value} {l : List UInt8} {K : Kn} {g t : Nat} {cs : Array Value} (h : Pk B W b m v l K c) (hw : Whole W g t cs) (h1 : t ≠ pkT) (h2 : t ≠ 5) (i : Nat) (u : Value) : Pk B (W.setCell ⟨g, i, none⟩ u) b m v l K c := by
  have hg := gset W ⟨g, i, none⟩ u
  obtain ⟨p, hp, hb⟩ := h.blk
  obtain ⟨D, n, m1, m2, m3⟩ := h.map
  have hgb : g ≠ b := by
    rintro rfl
    rw [hw] at hb
    injection hb with hb
    injection hb with _ hb _
    exact absurd hb h1
  have hgm : g ≠ m := by
    rintro rfl
    obtain ⟨es, clock, hm, _⟩ := m1
    rw [hw] at hm; cases hm
  exact ⟨h.hb, h.hm, ⟨p, hp, (hg.block b h.blt (fun e => hgb (Option.some.inj e).symm)).trans hb⟩, h.row.kept hg (.inr (Lib.ownBlock_neF h.row hw h2)), ⟨D, n, m1.kept hg (fun e => hgm (Option.some.inj e).symm), m2, m3⟩, h.nl⟩
theorem RefPk.put {W : World} {l : List UInt8} {K : Kn} {x : Value} {g t : Nat} {cs : Array Value} (h : RefPk W l K x) (hw : Whole W g t cs) (h1 : t ≠ 207) (i : Nat) (u : Value) : RefPk (W.setCell ⟨g, i, none⟩ u) l K x := by
  obtain ⟨A, n, c', KL, e1, h2, h3, h4⟩ := h
  refine ⟨A, n, c', KL, e1, ⟨h2.1, fun hn => ?_⟩, h3, h4⟩
  obtain ⟨k, off, e, hlt, ⟨cs', fr, ht⟩, hc⟩ := h2.2 hn
  have hgk : k ≠ g := by
    rintro rfl
    rw [hw] at ht
    injection ht with ht
    injection ht with _ ht _
    exact absurd ht h1
  have hblk := Below.heap_setCell W ⟨g, i, none⟩ u k hgk
  refine ⟨k, off, e, by rw [size_put]; exact hlt, ⟨cs', fr, hblk.trans ht⟩, fun j y hy => ?_⟩
  have := hc j y hy
  simp only [World.cell?, hblk] at this ⊢
  exact this
end Go.Proofs.YtnbapaimpoobkaaGreatDoor
