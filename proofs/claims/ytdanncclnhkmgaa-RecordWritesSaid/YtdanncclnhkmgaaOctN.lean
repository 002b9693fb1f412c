/- Join and its reference: the bytes of the numbers, each of its width, or the error. -/
import Derived.Test.YtdanncclnhkmgaaOctK
import Derived.Deep.RegionHeld3
namespace Go.Proofs.Ytdanncclnhkmgaa
open Go.RowKit

def joinF : List Int → List Int → Option (List UInt8)
  | v :: vs, w :: ws => if fitB v.toNat w.toNat then (joinF vs ws).map (be v.toNat w.toNat ++ ·) else none
  | _, _ => some []
def joinR (vs ws : List Int) : ByteArray × Int :=
  if ws.all wB then
    if vs.length = ws.length then
      match joinF vs ws with
      | none => (empty, 1)
      | some l => (⟨l.toArray⟩, 0)
    else (empty, 1)
  else (empty, 1)
def Joins (vs ws : List Int) (k : Nat) (acc : List UInt8) : Prop := joinF vs ws = (joinF (vs.drop k) (ws.drop k)).map (acc ++ ·)
theorem Joins.start (vs ws : List Int) : Joins vs ws 0 [] := by
  unfold Joins
  simp only [List.drop_zero]
  cases joinF vs ws <;> simp
theorem Joins.step {vs ws : List Int} {k : Nat} {acc : List UInt8} (h : Joins vs ws k acc) (h1 : k < vs.length) (h2 : k < ws.length) (hf : fitB vs[k].toNat ws[k].toNat = true) :
    Joins vs ws (k + 1) (acc ++ be vs[k].toNat ws[k].toNat) := by
  unfold Joins at h ⊢
  rw [h, drop_at h1, drop_at h2, joinF, if_pos hf]
  cases joinF (vs.drop (k + 1)) (ws.drop (k + 1)) <;> simp
theorem Joins.fails {vs ws : List Int} {k : Nat} {acc : List UInt8} (h : Joins vs ws k acc) (h1 : k < vs.length) (h2 : k < ws.length) (hf : fitB vs[k].toNat ws[k].toNat = false) : joinF vs ws = none := by
  unfold Joins at h
  rw [h, drop_at h1, drop_at h2, joinF, if_neg (by rw [hf]; decide)]
  rfl
theorem Joins.ends {vs ws : List Int} {k : Nat} {acc : List UInt8} (h : Joins vs ws k acc) (h1 : vs.length ≤ k) : joinF vs ws = some acc := by
  unfold Joins at h
  rw [h, List.drop_of_length_le h1]
  simp [joinF]
theorem joinR_bad {vs ws : List Int} (h : ws.all wB = false) : joinR vs ws = (empty, 1) := by simp [joinR, h]
theorem joinR_len {vs ws : List Int} (h : ws.all wB = true) (h' : vs.length ≠ ws.length) : joinR vs ws = (empty, 1) := by simp [joinR, h, h']
theorem joinR_none {vs ws : List Int} (h : ws.all wB = true) (h' : vs.length = ws.length) (hj : joinF vs ws = none) : joinR vs ws = (empty, 1) := by simp [joinR, h, h', hj]
theorem joinR_some {vs ws : List Int} {l : List UInt8} (h : ws.all wB = true) (h' : vs.length = ws.length) (hj : joinF vs ws = some l) : joinR vs ws = (⟨l.toArray⟩, 0) := by simp [joinR, h, h', hj]

def U64s (vs : List Int) : Prop := ∀ z ∈ vs, 0 ≤ z ∧ z < 2 ^ 64

def JoinLeaves (vs ws : List Int) (w : World) (e : Ending) (w' : World) : Prop := e = .returned (.tuple #[.string (joinR vs ws).1, .int .i64 (joinR vs ws).2]) ∧ Below w.heap.size w w'
def JoinAt (vs ws : List Int) (w : World) (k : Nat) (v : Value) (wr : World) : Prop :=
  ∃ acc, Joins vs ws k acc ∧ acc.length ≤ 8 * k ∧ wr.ownsRow w.heap.size 5 1 v acc.length (bytesV acc) ∧ Below w.heap.size w wr

set_option maxHeartbeats 1000000 in
theorem Join_any (A A' : Option Addr) (n n' c c' B B' : Nat) (vs ws : List Int) (w : World) (h : Sees w B A n (ints .u64 vs)) (h' : Sees w B' A' n' (ints .i64 ws)) (hB : B ≤ w.heap.size) (hB' : B' ≤ w.heap.size)
    (hn : n ≤ 65536) (hn' : n' ≤ 65536) (hu : U64s vs) :
    Calls Try.prog 78 #[.slice A n c, .slice A' n' c'] w (JoinLeaves vs ws w) := by
  have hl : vs.length = n := by simpa [ints] using h.len
  have hl' : ws.length = n' := by simpa [ints] using h'.len
  have HL := Lib.hid hl
  have HL' := Lib.hid hl'
  have HU := Lib.hid hu
  cases hw : ws.all wB
  · have HR := Lib.hid (joinR_bad (vs := vs) hw)
    clear hl hl' hu
    go_enter Try.func78, Try.ntmps78
    go_wp2_with (go_at_call 83; refine (allWidths_any _ _ _ _ _ _ h' (by omega)).mono ?_; rintro e w' ⟨rfl, rfl⟩)
    go_ret2
    exact ⟨by rw [HR.out]; rfl, Below.refl _ _⟩
  by_cases hnn : n = n'
  case neg =>
    have HR := Lib.hid (joinR_len (vs := vs) hw (by omega))
    have hne : ((n : Int) != (n' : Int)) = true := by rw [bne_iff_ne]; omega
    clear hl hl' hu hnn
    go_enter Try.func78, Try.ntmps78
    go_wp2_with (go_at_call 83; refine (allWidths_any _ _ _ _ _ _ h' (by omega)).mono ?_; rintro e w' ⟨rfl, rfl⟩)
    go_ret2
    exact ⟨by rw [HR.out]; rfl, Below.refl _ _⟩
  subst hnn
  have hne : ((n : Int) != (n : Int)) = false := by simp
  have HS : JoinAt vs ws w 0 (.slice none 0 0) w := ⟨[], Joins.start vs ws, by simp, World.ownsRow_nil _ _ _ _, Below.refl _ _⟩
  have HS' := Lib.hid HS
  have HW := Lib.hid hw
  clear hl hl' hu HS
  go_enter Try.func78, Try.ntmps78
  go_wp2_with (go_at_call 83; refine (allWidths_any _ _ _ _ _ _ h' (by omega)).mono ?_; rintro e w' ⟨rfl, rfl⟩)
  clear hw
  go_loopw [6, 21] (fun b i wr => ∃ k : Nat, k ≤ n ∧ i = .int .i64 k ∧ JoinAt vs ws w k b wr) (fun _ i _ => n - (intOf i).toNat)
  case atStart => exact ⟨0, Nat.zero_le _, rfl, HS'.out⟩
  case round =>
    obtain ⟨k, hk, rfl, acc, hj, hacc, hown, GB⟩ := hrel
    by_cases hlt : k < n
    · have h1 : k < vs.length := by have := HL.out; omega
      have h2 : k < ws.length := by have := HL'.out; omega
      obtain ⟨b, off, rfl, hbB, hc⟩ := ints_at (h.below (GB.mono hB)) hlt
      obtain ⟨b', off', rfl, hbB', hc'⟩ := ints_at (h'.below (GB.mono hB')) hlt
      rw [show vs.getD k 0 = vs[k] from by simp [List.getD, h1]] at hc
      rw [show ws.getD k 0 = ws[k] from by simp [List.getD, h2]] at hc'
      have hwb := wB_cases (List.all_eq_true.1 HW.out _ (List.getElem_mem h2))
      obtain ⟨hz0, hz1⟩ := HU.out _ (List.getElem_mem h1)
      obtain ⟨x, hx⟩ : ∃ x : Nat, vs[k] = x := Int.eq_ofNat_of_zero_le hz0
      obtain ⟨y, hy⟩ : ∃ y : Nat, ws[k] = y := Int.eq_ofNat_of_zero_le (show 0 ≤ ws[k] by omega)
      have hy8 : y ≤ 8 := by omega
      have HX : Hid (x < 2 ^ 64) := Lib.hid (by omega)
      have hstep : fitB x y = true → Joins vs ws (k + 1) (acc ++ be x y) := fun hf => by
        have := hj.step h1 h2 (by rw [hx, hy]; exact hf)
        rw [hx, hy] at this
        exact this
      have hfail : fitB x y = false → joinF vs ws = none := fun hf => hj.fails h1 h2 (by rw [hx, hy]; exact hf)
      have HST := Lib.hid hstep
      have HF := Lib.hid hfail
      have HO := Lib.hid hown
      rw [hx] at hc
      rw [hy] at hc'
      clear hstep hfail hz0 hz1 hwb hj hown hx hy
      cases hf : fitB x y
      · have HR := Lib.hid (joinR_none HW.out (by have := HL.out; have := HL'.out; omega) (HF.out hf))
        go_wp2_with (go_at_call 101; refine (fits_any _ _ _ HX.out hy8).mono ?_; rintro e w' ⟨rfl, rfl⟩)
        go_ret2
        exact ⟨by rw [HR.out]; rfl, GB⟩
      · go_wp2_with (first
          | (go_at_call 101; refine (fits_any _ _ _ HX.out hy8).mono ?_; rintro e w' ⟨rfl, rfl⟩)
          | (go_at_call 102; refine (appendInteger_any _ _ x y w.heap.size _ _ HO.out GB.size hy8 HX.out (by omega)).mono ?_; rintro e w1 ⟨v1, rfl, hown1, hB1⟩))
        have hown2 : w1.ownsRow w.heap.size 5 1 v1 (acc ++ be x y).length (bytesV (acc ++ be x y)) := by simpa [bytesV, be_length] using hown1
        have HO2 := Lib.hid hown2
        clear hown1 hown2
        go_roundw
        case rel => exact ⟨k + 1, by omega, by go_num, _, HST.out hf, by simp [be_length]; omega, HO2.out, GB.trans hB1⟩
        case measure => simp [intOf]; omega
    · obtain rfl : k = n := by omega
      have HR := Lib.hid (joinR_some HW.out (by have := HL.out; have := HL'.out; omega) (hj.ends (by have := HL.out; omega)))
      have hcv := str_of_own hown
      clear hj
      go_wp2_with fail
      go_ret2
      exact ⟨by rw [HR.out]; rfl, GB⟩

def RefJoinAt (vs ws : List Int) (w : World) (k : Nat) (s : ByteArray) (wr : World) : Prop :=
  ∃ acc, Joins vs ws k acc ∧ acc.length ≤ 8 * k ∧ s = ⟨acc.toArray⟩ ∧ Below w.heap.size w wr

end Go.Proofs.Ytdanncclnhkmgaa
