/- A row of bytes that a call made out of a string, written and read back; the law CrcFlips, walked. -/
import Derived.Test.YtmbnlmihpmicjaaCrcC
import Derived.Lib.ConvBytes
namespace Go.Proofs.Ytmbnlmihpmicjaa
open Go.RowKit

/-- block g begins with the bytes l, and they may be written -/
structure Row8 (w : World) (g : Nat) (l : List UInt8) : Prop where
  cell : ∀ j (h : j < l.length), w.cell? ⟨g, j, none⟩ = some (.int .u8 (l[j].toNat : Nat))
  soft : ∀ j, j < l.length → w.frozen? ⟨g, j, none⟩ = false
theorem Row8.put {w : World} {g : Nat} {l : List UInt8} (h : Row8 w g l) (j : Nat) (hj : j < l.length) (c : UInt8) : Row8 (w.setCell ⟨g, j, none⟩ (.int .u8 (c.toNat : Nat))) g (l.set j c) := by
  refine ⟨fun i hi => ?_, fun i hi => ?_⟩
  · by_cases he : j = i
    · subst he
      rw [World.cell?_setCell_same' w _ _ (by rw [h.cell j hj]; rfl)]
      simp
    · have hne : (⟨g, j, none⟩ : Addr) ≠ ⟨g, i, none⟩ := by intro e; injection e with _ e2 _; exact he e2
      have := World.cell?_setCell_other (w := w) (a := ⟨g, j, none⟩) (b := ⟨g, i, none⟩) (v := .int .u8 (c.toNat : Nat)) hne
      rw [this, h.cell i (by simpa using hi)]
      simp [he]
  · rw [World.frozen?_setCell]; exact h.soft i (by simpa using hi)
theorem Row8.drewN {w : World} {g : Nat} {l : List UInt8} (h : Row8 w g l) (n : Nat) : Row8 (w.drewN n) g l := ⟨h.cell, h.soft⟩
theorem Row8.drew {w : World} {g : Nat} {l : List UInt8} (h : Row8 w g l) : Row8 w.drew g l := ⟨h.cell, h.soft⟩
theorem Row8.str {w : World} {g : Nat} {l : List UInt8} (h : Row8 w g l) (n cap : Nat) (hn : l.length = n) :
    (convert 37 9 (.slice (some ⟨g, 0, none⟩) n cap)).run Try.prog w = .ok (.string ⟨l.toArray⟩) w := by
  subst hn
  refine run_convert_bytes_back w _ _ 5 ⟨g, 0, none⟩ cap l Try.underlying37 Try.underlying5 Try.underlying9 (fun j hj => ?_)
  rw [show (⟨g, 0, none⟩ : Addr).add j = ⟨g, 0 + j, none⟩ from by unfold Addr.add; split <;> simp_all, Nat.zero_add]
  exact h.cell j hj
theorem Row8.made (w : World) (s : ByteArray) : Row8 (Lib.bytesWorld w 5 s) w.heap.size s.data.toList := by
  refine ⟨fun j h => ?_, fun j h => ?_⟩
  · rw [Lib.bytesWorld_cell w _ s j (by simpa using h)]
    rw [List.getD_eq_getElem?_getD, List.getElem?_eq_getElem h]; rfl
  · have hsz : s.size ≤ (Lib.bytesCells w 5 s).size := by simp [Lib.bytesCells]
    have hj : j < s.size := by simpa using h
    simp only [World.frozen?, Lib.bytesWorld_at_new]
    simp; omega
theorem bytes_below (w : World) (s : ByteArray) : Below w.heap.size w (Lib.bytesWorld w 5 s) :=
  ⟨rfl, rfl, rfl, by rw [Lib.bytesWorld_size]; omega, fun k hk => Lib.bytesWorld_at_old _ _ _ _ hk⟩

theorem u16_nat {a : Int} (h : (Lit.int .u16 a).wf = true) : ∃ x : Nat, a = x ∧ x < 65536 := by
  have h' : IntKind.u16.min ≤ a ∧ a ≤ IntKind.u16.max := by simpa [Lit.wf] using h
  have e1 : IntKind.u16.min = 0 := by decide
  have e2 : IntKind.u16.max = 65535 := by decide
  exact ⟨a.toNat, by omega, by omega⟩

theorem xorL_same (l : List UInt8) : xorL l l = List.replicate l.length 0 := by
  induction l with
  | nil => rfl
  | cons c l ih => show (c ^^^ c) :: xorL l l = _; rw [ih, UInt8.xor_self]; rfl
theorem xorL_mid (p m m' q : List UInt8) (h : m'.length = m.length) : xorL (p ++ (m' ++ q)) (p ++ (m ++ q)) = List.replicate p.length 0 ++ (xorL m' m ++ List.replicate q.length 0) := by
  unfold xorL
  rw [List.zipWith_append rfl, List.zipWith_append h]
  have e1 := xorL_same p
  have e2 := xorL_same q
  unfold xorL at e1 e2
  rw [e1, e2]
theorem flip_differs (l : List UInt8) (j : Nat) (hj : j < l.length) (d : UInt8) (hd : d ≠ 0) : sumOf (l.set j (l[j] ^^^ d)) ≠ sumOf l := by
  have e1 : l.set j (l[j] ^^^ d) = l.take j ++ ([l[j] ^^^ d] ++ l.drop (j + 1)) := by rw [List.set_eq_take_append_cons_drop, if_pos hj]; rfl
  have e2 : l = l.take j ++ ([l[j]] ++ l.drop (j + 1)) := by simp
  refine sum_differs _ _ (l.take j).length (l.drop (j + 1)).length [d] (by simp) ?_ ?_
  · rw [e1]
    conv => lhs; rhs; rw [e2]
    rw [xorL_mid _ [l[j]] [l[j] ^^^ d] _ rfl]
    congr 2
    show [l[j] ^^^ d ^^^ l[j]] = [d]
    rw [UInt8.xor_comm l[j], UInt8.xor_assoc, UInt8.xor_self, UInt8.xor_zero]
  · rw [fed_cons, fed_nil, Nat.zero_xor]
    intro h
    have := eight_eq_zero (byte_lt d) h
    exact hd (UInt8.toNat_inj.1 (by simpa using this))

theorem flip_bit (c : UInt8) (k : Nat) (hk : k < 8) : bits .xor .u8 (c.toNat : Int) ((2 : Int) ^ k % 256) = ((c ^^^ UInt8.ofNat (2 ^ k)).toNat : Nat) ∧ UInt8.ofNat (2 ^ k) ≠ 0 := by
  have h2 : 2 ^ k < 256 := Nat.lt_of_le_of_lt (Nat.pow_le_pow_right (by decide) (show k ≤ 7 by omega)) (by decide)
  have h3 : 0 < 2 ^ k := Nat.two_pow_pos k
  have e : (2 : Int) ^ k = ((2 ^ k : Nat) : Int) := by rw [Int.natCast_pow]; rfl
  rw [e, UInt8.toNat_xor, UInt8.toNat_ofNat']
  refine ⟨?_, fun h => ?_⟩
  · rw [show ((2 ^ k : Nat) : Int) % 256 = ((2 ^ k % 2 ^ 8 : Nat) : Int) by simp]
    exact u8_xor_nat _ _ c.toNat_lt (Nat.mod_lt _ (by decide))
  · have := congrArg UInt8.toNat h
    rw [UInt8.toNat_ofNat', Nat.mod_eq_of_lt h2] at this
    simp at this
theorem ne_true {a b : Nat} (h : a ≠ b) : ((a : Int) != (b : Int)) = true := by
  simp; omega

end Go.Proofs.Ytmbnlmihpmicjaa
