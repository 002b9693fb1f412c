/- OcJ: texts OctJ, OctK, OctN, Mk, Frame of our own, joined. No statement of the seat is proved here. -/
import Derived.Test.YtkmmbbcmpjkmkaaOcA
import Derived.Lib.EndianBits
import Derived.Deep.RegionHeld3
import Derived.ProofKit
import Derived.OpenShut
import Derived.ShutString
import Derived.ChangeOld
import Derived.SliceStrings
namespace Go.Proofs.Ytkmmbbcmpjkmkaa
open Go.RowKit

theorem wrap_small (a : Int) (h0 : 0 ≤ a) (h1 : a ≤ 1000) : wrap64 a = a := by
  unfold wrap64
  omega
theorem close0 (b x : Nat) (h : b = bitLen x) (h8 : bitLen x ≤ 8) : wrap64 (wrap64 (b : Int)) = (bitLen x : Int) := by
  rw [wrap_small (b : Int) (by omega) (by omega), wrap_small (b : Int) (by omega) (by omega)]
  omega
theorem closek (k : Int) (b x : Nat) (h0 : 0 ≤ k) (h1 : k ≤ 56) (h : b = bitLen x) (h8 : bitLen x ≤ 8) : wrap64 (k + wrap64 (b : Int)) = k + bitLen x := by
  rw [wrap_small (b : Int) (by omega) (by omega), wrap_small _ (by omega) (by omega)]
  omega

theorem bitLen_iff (n k : Nat) : bitLen n ≤ k ↔ n < 2 ^ k := by
  have h := bitLen_spec n
  constructor
  · intro hk
    exact Nat.lt_of_lt_of_le h.1 (Nat.pow_le_pow_right (by omega) hk)
  · intro hn
    rcases Nat.eq_zero_or_pos n with h0 | h0
    · subst h0; simp [bitLen]
    · have h2 := h.2 (by omega)
      have : bitLen n - 1 < k := (Nat.pow_lt_pow_iff_right (by omega : 1 < 2)).1 (Nat.lt_of_le_of_lt h2 hn)
      omega
theorem shift_len (n b : Nat) (h : 2 ^ b ≤ n) : bitLen n = b + bitLen (n / 2 ^ b) := bitLen_shift n b (by
  have : 0 < n / 2 ^ b := Nat.div_pos h (Nat.two_pow_pos b)
  omega)

def fitB (n k : Nat) : Bool := decide (n < 256 ^ k)
theorem fitB_eq (n k : Nat) : decide ((bitLen n : Int) ≤ 8 * (k : Int)) = fitB n k := by
  unfold fitB
  rw [decide_eq_decide, show (256 : Nat) ^ k = 2 ^ (8 * k) from by rw [Nat.pow_mul]]
  have := bitLen_iff n (8 * k)
  omega

end Go.Proofs.Ytkmmbbcmpjkmkaa
namespace Go.Proofs.Ytkmmbbcmpjkmkaa
open Go.RowKit

def bytesV (l : List UInt8) : List Value := l.map fun b => Value.int .u8 (b.toNat : Int)
theorem u8_info : (Try.prog.info? 5).map (fun i => (i.zero, i.size, i.bytes)) = some (some (.int .u8 0), 1, 1) := by kernel_rfl

def AppAt (n k : Nat) (xs : List Value) (n0 base : Nat) (w : World) (j : Nat) (v : Value) (wr : World) : Prop :=
  ∃ done, be n k = done ++ be n j ∧ done.length + j = k ∧ wr.ownsRow base 5 1 v (n0 + done.length) (xs ++ bytesV done) ∧ Below base w wr

def AppLeaves (n k : Nat) (xs : List Value) (n0 base : Nat) (w : World) (e : Ending) (w' : World) : Prop :=
  ∃ v', e = .returned v' ∧ w'.ownsRow base 5 1 v' (n0 + k) (xs ++ bytesV (be n k)) ∧ Below base w w'

theorem byte_at (n m : Nat) : ((n : Int) / 2 ^ (8 * m) % 256) = ((UInt8.ofNat (n / 256 ^ m)).toNat : Int) := by
  rw [UInt8.toNat_ofNat', show (256 : Nat) ^ m = 2 ^ (8 * m) from by rw [Nat.pow_mul]]
  simp

/-- 'string(b)' of bytes of one's own -/
theorem str_of_own {w : World} {base n : Nat} {v : Value} {l : List UInt8} (h : w.ownsRow base 5 1 v n (bytesV l)) :
    (convert 68 9 v).run Try.prog w = .ok (.string ⟨l.toArray⟩) w := by
  have hl : l.length = n := by have := h.1; simpa [bytesV] using this
  rcases h.2 with ⟨rfl, h0⟩ | ⟨g, cap, cur, rfl, _, _, _⟩
  · have : l = [] := List.eq_nil_of_length_eq_zero (by omega)
    subst this
    rw [run_convert_bytes_string w 68 9 5 none 0 0 Try.underlying68 Try.underlying5 Try.underlying9]
    rfl
  · subst hl
    refine run_convert_bytes_back w _ _ 5 ⟨g, 0, none⟩ cap l Try.underlying68 Try.underlying5 Try.underlying9 (fun j hj => ?_)
    exact h.cells (g := g) rfl j _ (by simp [bytesV, hj])

/-- Piece -/
def pieceR (s : ByteArray) (n : Int) : ByteArray × Int :=
  if pB n then
    if fitB s.size n.toNat then (⟨(be s.size n.toNat).toArray⟩ ++ s, 0) else (empty, 3)
  else (empty, 1)

theorem numOf_be (v k : Nat) : numOf ⟨(be v k).toArray⟩ = v % 256 ^ k := by unfold numOf; simp [num_be]
theorem fit_yes {v k : Nat} (h : fitB v k = true) : v % 256 ^ k = v := Nat.mod_eq_of_lt (by simpa [fitB] using h)
theorem fit_no {v k : Nat} (h : fitB v k = false) : v % 256 ^ k ≠ v := by
  intro e
  have : v < 256 ^ k := by rw [← e]; exact Nat.mod_lt _ (Nat.pow_pos (by omega))
  simp [fitB] at h
  omega

end Go.Proofs.Ytkmmbbcmpjkmkaa
namespace Go.Proofs.Ytkmmbbcmpjkmkaa
open Go.RowKit

def joinF : List Int → List Int → Option (List UInt8)
  | v :: vs, w :: ws => if fitB v.toNat w.toNat then (joinF vs ws).map (be v.toNat w.toNat ++ ·) else none
  | _, _ => some []
def joinR (vs ws : List Int) : ByteArray × Int :=
  if ws.all wB then
    if vs.length = ws.length then
      match joinF vs ws with
      | none => (empty, 1)
      | some l => (⟨l.toArray⟩, 0)
    else (empty, 1)
  else (empty, 1)
def Joins (vs ws : List Int) (k : Nat) (acc : List UInt8) : Prop := joinF vs ws = (joinF (vs.drop k) (ws.drop k)).map (acc ++ ·)
theorem Joins.start (vs ws : List Int) : Joins vs ws 0 [] := by
  unfold Joins
  simp only [List.drop_zero]
  cases joinF vs ws <;> simp
theorem Joins.step {vs ws : List Int} {k : Nat} {acc : List UInt8} (h : Joins vs ws k acc) (h1 : k < vs.length) (h2 : k < ws.length) (hf : fitB vs[k].toNat ws[k].toNat = true) :
    Joins vs ws (k + 1) (acc ++ be vs[k].toNat ws[k].toNat) := by
  unfold Joins at h ⊢
  rw [h, drop_at h1, drop_at h2, joinF, if_pos hf]
  cases joinF (vs.drop (k + 1)) (ws.drop (k + 1)) <;> simp
theorem Joins.fails {vs ws : List Int} {k : Nat} {acc : List UInt8} (h : Joins vs ws k acc) (h1 : k < vs.length) (h2 : k < ws.length) (hf : fitB vs[k].toNat ws[k].toNat = false) : joinF vs ws = none := by
  unfold Joins at h
  rw [h, drop_at h1, drop_at h2, joinF, if_neg (by rw [hf]; decide)]
  rfl
theorem Joins.ends {vs ws : List Int} {k : Nat} {acc : List UInt8} (h : Joins vs ws k acc) (h1 : vs.length ≤ k) : joinF vs ws = some acc := by
  unfold Joins at h
  rw [h, List.drop_of_length_le h1]
  simp [joinF]
theorem joinR_bad {vs ws : List Int} (h : ws.all wB = false) : joinR vs ws = (empty, 1) := by simp [joinR, h]
theorem joinR_len {vs ws : List Int} (h : ws.all wB = true) (h' : vs.length ≠ ws.length) : joinR vs ws = (empty, 1) := by simp [joinR, h, h']
theorem joinR_none {vs ws : List Int} (h : ws.all wB = true) (h' : vs.length = ws.length) (hj : joinF vs ws = none) : joinR vs ws = (empty, 1) := by simp [joinR, h, h', hj]
theorem joinR_some {vs ws : List Int} {l : List UInt8} (h : ws.all wB = true) (h' : vs.length = ws.length) (hj : joinF vs ws = some l) : joinR vs ws = (⟨l.toArray⟩, 0) := by simp [joinR, h, h', hj]

def U64s (vs : List Int) : Prop := ∀ z ∈ vs, 0 ≤ z ∧ z < 2 ^ 64

def JoinLeaves (vs ws : List Int) (w : World) (e : Ending) (w' : World) : Prop := e = .returned (.tuple #[.string (joinR vs ws).1, .int .i64 (joinR vs ws).2]) ∧ Below w.heap.size w w'
def JoinAt (vs ws : List Int) (w : World) (k : Nat) (v : Value) (wr : World) : Prop :=
  ∃ acc, Joins vs ws k acc ∧ acc.length ≤ 8 * k ∧ wr.ownsRow w.heap.size 5 1 v acc.length (bytesV acc) ∧ Below w.heap.size w wr

def RefJoinAt (vs ws : List Int) (w : World) (k : Nat) (s : ByteArray) (wr : World) : Prop :=
  ∃ acc, Joins vs ws k acc ∧ acc.length ≤ 8 * k ∧ s = ⟨acc.toArray⟩ ∧ Below w.heap.size w wr

end Go.Proofs.Ytkmmbbcmpjkmkaa
namespace Go.Proofs.Ytkmmbbcmpjkmkaa

def mk (l : List UInt8) : ByteArray := ⟨l.toArray⟩
theorem mk_toList (s : ByteArray) : mk s.data.toList = s := by cases s; simp [mk]
theorem mk_of (s : ByteArray) : ∃ l, s = mk l := ⟨_, (mk_toList s).symm⟩
theorem mk_size (l : List UInt8) : (mk l).size = l.length := by show l.toArray.size = _; simp
theorem mk_append (a b : List UInt8) : mk a ++ mk b = mk (a ++ b) := by apply ByteArray.ext; simp [mk]
theorem mk_extract (l : List UInt8) (a b : Nat) : (mk l).extract a b = mk ((l.take b).drop a) := by
  apply ByteArray.ext
  simp only [mk, ByteArray.data_extract]
  apply Array.ext'
  simp [List.extract]
  rw [List.drop_take]
theorem mk_num (l : List UInt8) : numOf (mk l) = num l := by simp [numOf, mk]
theorem mk_inj {a b : List UInt8} (h : mk a = mk b) : a = b := by
  have := congrArg (fun s : ByteArray => s.data.toList) h
  simpa [mk] using this
theorem mk_empty : empty = mk [] := rfl
end Go.Proofs.Ytkmmbbcmpjkmkaa
namespace Go.Proofs.Ytkmmbbcmpjkmkaa
open Go.ChangeShapes Go.WideShapes Go.ChangeAt Go.RowKit

theorem try_own : ownKnob Try.prog.godebug = none := by kernel_rfl
theorem try_laid : laidOutB Try.prog = true := by kernel_rfl

theorem add_flat (b off i : Nat) : (⟨b, off, none⟩ : Addr).add i = ⟨b, off + i, none⟩ := by unfold Addr.add; split <;> simp_all

theorem sees_of_cells {W : World} {x : Addr} {len : Nat} {xs : List Value} (hl : xs.length = len) (hc : ∀ i, i < len → W.cell? (x.add i) = xs[i]?) : Sees W W.heap.size (some x) len xs := by
  refine ⟨hl, fun h0 => ?_⟩
  obtain ⟨b, off, spot⟩ := x
  have h1 := hc 0 h0
  rw [List.getElem?_eq_getElem (by omega)] at h1
  have hspot : spot = none := by simpa [Addr.add] using World.cell?_spot h1
  subst hspot
  have hb := World.block_lt_of_cell? W _ h1
  refine ⟨b, off, rfl, by simpa [Addr.add] using hb, fun j u hu => ?_⟩
  have hj : j < len := by rw [← hl]; exact (List.getElem?_eq_some_iff.1 hu).1
  rw [← add_flat, hc j hj, hu]

/-- what a walk is told of a slice of integers that came in -/
def InInts (kd : IntKind) (W : World) (a : Option Addr) (len : Nat) (zs : List Int) : Prop := Sees W W.heap.size a len (ints kd zs) ∧ ∀ z ∈ zs, (Lit.int kd z).wf = true
/-- what a walk is told of a slice of strings that came in -/
def InTexts (W : World) (a : Option Addr) (len cap : Nat) (zs : List ByteArray) : Prop := Sees W W.heap.size a len (texts zs) ∧ len ≤ cap

theorem ints_in {H : Type} {enc : TypeId × Value → H} {W : World} {base : Nat} {held : Bool} {T E : TypeId} {kd : IntKind} {a : Option Addr} {len cap : Nat} {d : DataW H} {p : List MemPlace}
    (hT : Try.prog.underlying T = some (.slice E)) (hE : Try.prog.underlying E = some (.int kd)) (hc1 : Try.prog.cellsOf E = 1)
    (h : DataW.Trod enc Try.prog W base (fun _ => true) held T (.slice a len cap) d p) : ∃ zs, InInts kd W a len zs := by
  obtain ⟨fuel, hf⟩ := h
  rcases open_ints hT hE hc1 hf with ⟨hcs, _⟩ | ⟨x, l, c, zs, hcs, _, hl, hm, hz, _, hcell, hwz⟩
  · simp [Value.cells] at hcs
    obtain ⟨rfl, rfl, rfl⟩ := hcs
    exact ⟨[], Sees.nil _ _ _, fun _ hz => by cases hz⟩
  · simp [Value.cells] at hcs
    obtain ⟨rfl, rfl, rfl⟩ := hcs
    have hz' : zs.length = cap := by simpa using hz
    refine ⟨zs.take len, sees_of_cells (by simp [ints]; omega) (fun i hi => ?_), fun z hz => hwz z (List.mem_of_mem_take hz)⟩
    rw [hcell i (by omega)]
    simp [ints, hi, List.getD, show i < zs.length by omega]

theorem strings_in {H : Type} {enc : TypeId × Value → H} {W : World} {base : Nat} {held : Bool} {T E : TypeId} {a : Option Addr} {len cap : Nat} {d : DataW H} {p : List MemPlace}
    (hT : Try.prog.underlying T = some (.slice E)) (hE : Try.prog.underlying E = some .string) (hc1 : Try.prog.cellsOf E = 1)
    (h : DataW.Trod enc Try.prog W base (fun _ => true) held T (.slice a len cap) d p) : ∃ zs, InTexts W a len cap zs := by
  obtain ⟨fuel, hf⟩ := h
  rcases open_strings hT hE hc1 hf with ⟨hcs, _⟩ | ⟨x, l, c, zs, hcs, _, hl, hm, hz, _, hcell, hwz⟩
  · simp [Value.cells] at hcs
    obtain ⟨rfl, rfl, rfl⟩ := hcs
    exact ⟨[], Sees.nil _ _ _, by omega⟩
  · simp [Value.cells] at hcs
    obtain ⟨rfl, rfl, rfl⟩ := hcs
    have hz' : zs.length = cap := by simpa using hz
    refine ⟨zs.take len, sees_of_cells (by simp [texts]; omega) (fun i hi => ?_), by omega⟩
    rw [hcell i (by omega)]
    simp [texts, hi, List.getD, show i < zs.length by omega]
end Go.Proofs.Ytkmmbbcmpjkmkaa
