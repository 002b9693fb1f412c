/- Items as data: from a reading of an argument; few; what items make of a packer. No statement of the seat is proved here. -/
import Derived.Test.YtimakddeokgfcaaPakG
import Derived.Lib.SmallJoins
import Derived.Deep.Fields
namespace Go.Proofs.Ytimakddeokgfcaa
open Go.ChangeShapes Go.WideShapes Go.ChangeAt Go.RowKit Go.Deep

structure Itm where
  raw : Bool
  s : ByteArray
  may : Bool
/-- what a walk is told of a slice of items that came in -/
def SeesI (W : World) (B : Nat) (A : Option Addr) (n : Nat) (xs : List Itm) : Prop :=
  xs.length = n ∧ (0 < n → ∃ b off, A = some ⟨b, off, none⟩ ∧ b < B ∧ ∀ j x, xs[j]? = some x →
    W.cell? ⟨b, off + j * 3, none⟩ = some (.bool x.raw) ∧ W.cell? ⟨b, off + j * 3 + 1, none⟩ = some (.string x.s) ∧ W.cell? ⟨b, off + j * 3 + 2, none⟩ = some (.bool x.may))
def InItems (W : World) (A : Option Addr) (n : Nat) (xs : List Itm) : Prop := SeesI W W.heap.size A n xs
theorem SeesI.keep {W W' : World} {B n : Nat} {A : Option Addr} {xs : List Itm} (h : SeesI W B A n xs) (hb : Below B W W') : SeesI W' B A n xs :=
  ⟨h.1, fun hn => by
    obtain ⟨b, off, e, hlt, hc⟩ := h.2 hn
    exact ⟨b, off, e, hlt, fun j x hx => by
      obtain ⟨x0, x1, x2⟩ := hc j x hx
      exact ⟨(hb.cell hlt).trans x0, (hb.cell hlt).trans x1, (hb.cell hlt).trans x2⟩⟩⟩
theorem SeesI.at {W : World} {B : Nat} {A : Option Addr} {n : Nat} {xs : List Itm} (h : SeesI W B A n xs) {j : Nat} (hj : j < n) :
    ∃ b off x, A = some ⟨b, off, none⟩ ∧ b < B ∧ xs[j]? = some x ∧ W.cell? ⟨b, off + j * 3, none⟩ = some (.bool x.raw) ∧ W.cell? ⟨b, off + j * 3 + 1, none⟩ = some (.string x.s) ∧ W.cell? ⟨b, off + j * 3 + 2, none⟩ = some (.bool x.may) := by
  obtain ⟨h1, h3⟩ := h
  obtain ⟨b, off, e, hb, hc⟩ := h3 (by omega)
  have hl : j < xs.length := by omega
  obtain ⟨x0, x1, x2⟩ := hc j xs[j] (List.getElem?_eq_getElem hl)
  exact ⟨b, off, xs[j], e, hb, List.getElem?_eq_getElem hl, x0, x1, x2⟩

theorem three_cells {H : Type} {enc : TypeId × Value → H} {P : Program} {w : World} {base : Nat} {spare : Nat → Bool} {held : Bool} {t : TypeId} {f0 f1 f2 : Field} {fuel : Nat} {cs : List Value} {x : DataW H × List MemPlace}
    (hs : P.underlying t = some (.struct #[f0, f1, f2])) (hone : oneCellFields P #[f0, f1, f2] = true) (hC : P.cellsOf t = 3) (h : DataW.trod enc P w base spare held fuel t cs = some x) :
    ∃ (c0 c1 c2 : Value) (y0 y1 y2 : DataW H × List MemPlace) (n : Nat), cs = [c0, c1, c2] ∧ DataW.trod enc P w base spare held n f0.type [c0] = some y0 ∧ DataW.trod enc P w base spare held n f1.type [c1] = some y1 ∧ DataW.trod enc P w base spare held n f2.type [c2] = some y2 := by
  obtain ⟨y0, y1, y2, n, _, hl, t0, t1, t2⟩ := trod_struct3 hs h
  obtain ⟨o0, k0⟩ := hone_of hone 0 f0 rfl
  obtain ⟨o1, k1⟩ := hone_of hone 1 f1 rfl
  obtain ⟨o2, k2⟩ := hone_of hone 2 f2 rfl
  match cs, hl.trans hC with
  | [c0, c1, c2], _ =>
    exact ⟨c0, c1, c2, y0, y1, y2, n, rfl, by simpa [o0, k0] using t0, by simpa [o1, k1] using t1, by simpa [o2, k2] using t2⟩
theorem items_in {H : Type} {enc : TypeId × Value → H} {W : World} {base : Nat} {held : Bool} {a : Option Addr} {len cap : Nat} {d : DataW H} {p : List MemPlace}
    (h : DataW.Trod enc Try.prog W base (fun _ => true) held 27 (.slice a len cap) d p) : ∃ xs, InItems W a len xs := by
  obtain ⟨fuel, hf⟩ := h
  have hC : Try.prog.cellsOf 35 = 3 := by kernel_rfl
  rcases open_slice Try.underlying27 hf with ⟨hcs, _⟩ | ⟨x, l, c, m, n, D, Pl, hcs, _, hl, _, hm, _, hi⟩
  · simp [Value.cells] at hcs
    obtain ⟨rfl, rfl, rfl⟩ := hcs
    exact ⟨[], rfl, fun h => absurd h (by omega)⟩
  · simp [Value.cells] at hcs
    obtain ⟨rfl, rfl, rfl⟩ := hcs
    have hmc : m = cap := by simpa using hm
    have H1 : ∀ i, i < len → ∃ z : Itm, W.cell? ((x.add (i * 3)).add 0) = some (.bool z.raw) ∧ W.cell? ((x.add (i * 3)).add 1) = some (.string z.s) ∧ W.cell? ((x.add (i * 3)).add 2) = some (.bool z.may) := by
      intro i hlt
      obtain ⟨cs', hc, ht⟩ := hi i (by omega)
      rw [hC] at hc
      obtain ⟨c0, c1, c2, y0, y1, y2, n', rfl, t0, t1, t2⟩ := three_cells Try.underlying35 (by kernel_rfl) hC ht
      obtain ⟨_, _, hat⟩ := World.cells?_some hc
      obtain ⟨b0, e0, _⟩ := DataW.trod_bool Try.underlying4 t0
      obtain ⟨s1, e1, _, _⟩ := DataW.trod_string Try.underlying9 t1
      obtain ⟨b2, e2, _⟩ := DataW.trod_bool Try.underlying4 t2
      obtain rfl : c0 = .bool b0 := by simpa using e0
      obtain rfl : c1 = .string s1 := by simpa using e1
      obtain rfl : c2 = .bool b2 := by simpa using e2
      exact ⟨⟨b0, s1, b2⟩, hat 0 (by omega), hat 1 (by omega), hat 2 (by omega)⟩
    obtain ⟨f, hff⟩ : ∃ f : Nat → Itm, ∀ i, i < len → W.cell? ((x.add (i * 3)).add 0) = some (.bool (f i).raw) ∧ W.cell? ((x.add (i * 3)).add 1) = some (.string (f i).s) ∧ W.cell? ((x.add (i * 3)).add 2) = some (.bool (f i).may) :=
      ⟨fun i => if h : i < len then (H1 i h).choose else ⟨false, .empty, false⟩, fun i hi => by
        simp only [dif_pos hi]
        exact (H1 i hi).choose_spec⟩
    refine ⟨(List.range len).map f, by simp, fun hpos => ?_⟩
    obtain ⟨b, off, spot⟩ := x
    have h1 := (hff 0 hpos).1
    have hspot : spot = none := by simpa [Addr.add] using World.cell?_spot h1
    subst hspot
    have hb := World.block_lt_of_cell? W _ h1
    refine ⟨b, off, rfl, by simpa [Addr.add] using hb, fun j z hz => ?_⟩
    have hj : j < len := by
      have := (List.getElem?_eq_some_iff.1 hz).1
      simpa using this
    have hzf : z = f j := by
      rw [List.getElem?_map, List.getElem?_range hj] at hz
      exact (Option.some.inj hz).symm
    obtain ⟨x0, x1, x2⟩ := hff j hj
    rw [hzf]
    rw [add_flat, add_flat] at x0 x1 x2
    exact ⟨x0, x1, x2⟩

/-! ### few -/
def okI (x : Itm) : Bool := decide (x.s.size ≤ 17000)
def fewB (xs : List Itm) : Bool := decide (xs.length ≤ 40) && xs.all okI
theorem few_bad {xs : List Itm} {j : Nat} {x : Itm} (h : xs[j]? = some x) (hx : okI x = false) : fewB xs = false := by
  have : xs.all okI = false := by
    cases ho : xs.all okI
    · rfl
    · have := (List.all_eq_true.1 ho) x (List.mem_of_getElem? h)
      rw [hx] at this; cases this
  simp [fewB, this]
theorem few_any (A : Option Addr) (n c B : Nat) (xs : List Itm) (w : World) (hl : SeesI w B A n xs) :
    Calls Try.prog 11 #[.slice A n c] w fun e w' => e = .returned (.bool (fewB xs)) ∧ w = w' := by
  have hlen := hl.1
  have HL := Lib.hid hl
  clear hl
  go_enter Try.func11, Try.ntmps11
  go_wp2
  go_loop [3] (fun i => ∃ k : Nat, k ≤ n ∧ k ≤ 50 ∧ i = .int .i64 k ∧ (xs.take k).all okI = true) (fun i => n - (intOf i).toNat)
  case atStart => exact ⟨0, Nat.zero_le _, Nat.zero_le _, rfl, rfl⟩
  case round =>
    obtain ⟨k, hk, hk80, rfl, hok⟩ := hrel
    have HO := Lib.hid hok
    clear hok
    have hkI : (k : Int) ≤ 50 := by omega
    by_cases hlt : k < n
    · by_cases h80 : k < 50
      · have hlk : (k : Int) < (n : Int) := by omega
        have hlk2 : (k : Int) < 50 := by omega
        obtain ⟨b, off, z, rfl, _, hz, x0, x1, x2⟩ := HL.out.at hlt
        have HZ := Lib.hid hz
        clear hz x0 x2
        by_cases ha : z.s.size ≤ 17000
        · have haI : (z.s.size : Int) ≤ 17000 := by omega
          have hnext : Hid ((xs.take (k + 1)).all okI = true) := Lib.hid (by
            rw [List.take_add_one, HZ.out, List.all_append, HO.out]
            simp [okI, ha])
          clear ha
          go_wp2
          go_round
          case rel => exact ⟨k + 1, by omega, by omega, by go_num, hnext.out⟩
          case measure => simp [intOf]; omega
        · have hR : Hid (fewB xs = false) := Lib.hid (few_bad HZ.out (by simp [okI]; omega))
          have haI : decide ((17000 : Int) < (z.s.size : Int)) = true := by simp; omega
          clear ha
          go_wp2
          go_ret
          exact ⟨by rw [hR.out]; rfl, rfl⟩
      · obtain rfl : k = 50 := by omega
        have hR : Hid (fewB xs = false) := Lib.hid (by simp [fewB]; omega)
        have h60 : (40 : Int) < (n : Int) := by omega
        have h61 : (50 : Int) < (n : Int) := by omega
        go_wp2
        go_ret
        exact ⟨by rw [hR.out]; simp; omega, rfl⟩
    · obtain rfl : k = n := by omega
      have hR : Hid (fewB xs = decide ((k : Int) ≤ 40)) := Lib.hid (by
        have := HO.out
        rw [List.take_of_length_le (by omega)] at this
        simp [fewB, this, hlen]
        omega)
      go_wp2
      go_ret
      exact ⟨by rw [hR.out]; rfl, rfl⟩
theorem few_yes {xs : List Itm} (h : fewB xs = true) : xs.length ≤ 40 ∧ ∀ x ∈ xs, x.s.size ≤ 17000 := by
  unfold fewB at h
  simp only [Bool.and_eq_true, decide_eq_true_eq, List.all_eq_true] at h
  exact ⟨h.1, fun x hx => by have := h.2 x hx; simpa [okI] using this⟩

/-! ### what items make of a packer -/
abbrev PSt := List UInt8 × Kn
def stepI (st : PSt) (x : Itm) : PSt :=
  if x.raw then (st.1 ++ x.s.data.toList, st.2) else match nameL x.s.data.toList with | some L => putL x.may L st.1 st.2 | none => st
def runI (xs : List Itm) : PSt := xs.foldl stepI ([], noneK)
theorem runI_snoc (xs : List Itm) (x : Itm) : runI (xs ++ [x]) = stepI (runI xs) x := by simp [runI]
theorem stepI_grows {st : PSt} (h : InvK st.1 st.2) (x : Itm) : InvK (stepI st x).1 (stepI st x).2 ∧ ∃ z, (stepI st x).1 = st.1 ++ z ∧ z.length ≤ max x.s.size 255 := by
  unfold stepI
  by_cases hr : x.raw = true
  · rw [if_pos hr]
    exact ⟨h.raw _, _, rfl, by have : x.s.data.toList.length = x.s.size := rfl; omega⟩
  · rw [if_neg hr]
    cases hn : nameL x.s.data.toList with
    | none => exact ⟨h, [], by simp, by simp⟩
    | some L =>
      obtain ⟨he, hg, hl⟩ := nameL_is hn
      obtain ⟨h1, ⟨z, hz, _, hz2⟩, _⟩ := put_inv (may := x.may) hg (by rw [← he]; exact hl) h
      exact ⟨h1, z, hz, by rw [← he] at hz2; omega⟩
theorem fold_inv : ∀ (xs : List Itm) (st : PSt), InvK st.1 st.2 → InvK (xs.foldl stepI st).1 (xs.foldl stepI st).2
  | [], _, h => h
  | x :: r, st, h => fold_inv r (stepI st x) (stepI_grows h x).1
theorem runI_inv (xs : List Itm) : InvK (runI xs).1 (runI xs).2 := fold_inv xs _ InvK.none
theorem fold_len : ∀ (xs : List Itm) (st : PSt), InvK st.1 st.2 → (∀ x ∈ xs, x.s.size ≤ 17000) → (xs.foldl stepI st).1.length ≤ st.1.length + 17000 * xs.length
  | [], _, _, _ => by simp
  | x :: r, st, h, hs => by
    obtain ⟨h1, z, hz, hz2⟩ := stepI_grows h x
    have h3 := fold_len r (stepI st x) h1 (fun y hy => hs y (List.mem_cons_of_mem _ hy))
    have h4 := hs x (by simp)
    rw [hz, List.length_append] at h3
    simp only [List.foldl_cons, List.length_cons]
    omega
theorem runI_len {xs : List Itm} (h : ∀ x ∈ xs, x.s.size ≤ 17000) : (runI xs).1.length ≤ 17000 * xs.length := by
  have := fold_len xs ([], noneK) InvK.none h
  simpa [runI] using this
theorem take_snoc {xs : List Itm} {k : Nat} {x : Itm} (h : xs[k]? = some x) : xs.take (k + 1) = xs.take k ++ [x] := by
  rw [List.take_add_one, h]; rfl
end Go.Proofs.Ytimakddeokgfcaa
