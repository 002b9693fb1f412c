/- Labels, Parent, Wild, Fold, Alike. -/
import Derived.Test.YtdanncclnhkmgaaNamC
import Derived.Lib.ConvBytes
namespace Go.Proofs.Ytdanncclnhkmgaa
open Go.RowKit

/-- block g begins with the bytes l, and they may be written -/
structure Row8 (w : World) (g : Nat) (l : List UInt8) : Prop where
  cell : ∀ j (h : j < l.length), w.cell? ⟨g, j, none⟩ = some (.int .u8 (l[j].toNat : Nat))
  soft : ∀ j, j < l.length → w.frozen? ⟨g, j, none⟩ = false
theorem Row8.put {w : World} {g : Nat} {l : List UInt8} (h : Row8 w g l) (j : Nat) (hj : j < l.length) (c : UInt8) : Row8 (w.setCell ⟨g, j, none⟩ (.int .u8 (c.toNat : Nat))) g (l.set j c) := by
  refine ⟨fun i hi => ?_, fun i hi => ?_⟩
  · by_cases he : j = i
    · subst he
      rw [World.cell?_setCell_same' w _ _ (by rw [h.cell j hj]; rfl)]
      simp
    · have hne : (⟨g, j, none⟩ : Addr) ≠ ⟨g, i, none⟩ := by intro e; injection e with _ e2 _; exact he e2
      have := World.cell?_setCell_other (w := w) (a := ⟨g, j, none⟩) (b := ⟨g, i, none⟩) (v := .int .u8 (c.toNat : Nat)) hne
      rw [this, h.cell i (by simpa using hi)]
      simp [he]
  · rw [World.frozen?_setCell]; exact h.soft i (by simpa using hi)
theorem Row8.str {w : World} {g : Nat} {l : List UInt8} (h : Row8 w g l) (n cap : Nat) (hn : l.length = n) :
    (convert 61 9 (.slice (some ⟨g, 0, none⟩) n cap)).run Try.prog w = .ok (.string ⟨l.toArray⟩) w := by
  subst hn
  refine run_convert_bytes_back w _ _ 5 ⟨g, 0, none⟩ cap l Try.underlying61 Try.underlying5 Try.underlying9 (fun j hj => ?_)
  rw [show (⟨g, 0, none⟩ : Addr).add j = ⟨g, 0 + j, none⟩ from by unfold Addr.add; split <;> simp_all, Nat.zero_add]
  exact h.cell j hj
theorem Row8.made (w : World) (s : ByteArray) : Row8 (Lib.bytesWorld w 5 s) w.heap.size s.data.toList := by
  refine ⟨fun j h => ?_, fun j h => ?_⟩
  · rw [Lib.bytesWorld_cell w _ s j (by simpa using h)]
    rw [List.getD_eq_getElem?_getD, List.getElem?_eq_getElem h]; rfl
  · have hsz : s.size ≤ (Lib.bytesCells w 5 s).size := by simp [Lib.bytesCells]
    have hj : j < s.size := by simpa using h
    simp only [World.frozen?, Lib.bytesWorld_at_new]
    simp; omega
theorem bytes_below (w : World) (s : ByteArray) : Below w.heap.size w (Lib.bytesWorld w 5 s) :=
  ⟨rfl, rfl, rfl, by rw [Lib.bytesWorld_size]; omega, fun k hk => Lib.bytesWorld_at_old _ _ _ _ hk⟩

theorem mk_beq (a b : List UInt8) : ((mk a).toList == (mk b).toList) = (a == b) := by
  rw [ByteArray.toList_eq, ByteArray.toList_eq]; simp [mk]
theorem mk_is (a b : List UInt8) : ((mk a).toList == b) = (a == b) := by
  rw [ByteArray.toList_eq]; simp [mk]

/-! ### Labels -/
def textL (L : List (List UInt8)) : List Value := texts (L.map mk)
theorem labV_prs (L : List (List UInt8)) : labV (prs L) = textL L ∧ (prs L).length = L.length := by
  induction L with
  | nil => exact ⟨rfl, rfl⟩
  | cons x L ih =>
    refine ⟨?_, by simp [prs, ih.2]⟩
    have := ih.1
    simp only [labV, textL, texts] at this ⊢
    simp [prs, this]
theorem labelsOf_name (S : ByteArray) (s : List UInt8) (L : List (List UInt8)) (w : World) (hS : S = mk s) (h : nameL s = some L) :
    Calls Try.prog 68 #[.string S] w fun e w' => ∃ v, e = .returned v ∧ w'.ownsRow w.heap.size 9 1 v L.length (textL L) ∧ Below w.heap.size w w' := by
  obtain ⟨h1, h2, h3⟩ := nameL_is h
  have hp : pairs s = prs L := by rw [h1, pairs_enc h2]
  have := labelsOf_any S s w hS (by omega)
  rw [hp, (labV_prs L).1, (labV_prs L).2] at this
  exact this

theorem Labels_no (S : ByteArray) (s : List UInt8) (w : World) (hS : S = mk s) (hb : s.length ≤ 1073741824) (h : nameL s = none) :
    Calls Try.prog 73 #[.string S] w fun e w' => e = .returned (.tuple #[.slice none 0 0, .int .i64 2]) ∧ Below w.heap.size w w' := by
  have h' : (nameL s).isSome = false := by rw [h]; rfl
  have HS := Lib.hid hS
  clear hS h
  go_enter Try.func73, Try.ntmps73
  go_wp2_with fail
  refine (Right_any S s _ HS.out hb).mono ?_
  rw [h']
  rintro e w1 ⟨rfl, hB1⟩
  go_wp2_with fail
  go_ret2
  exact ⟨rfl, hB1⟩
theorem Labels_yes (S : ByteArray) (s : List UInt8) (L : List (List UInt8)) (w : World) (hS : S = mk s) (h : nameL s = some L) :
    Calls Try.prog 73 #[.string S] w fun e w' => ∃ v, e = .returned (.tuple #[v, .int .i64 0]) ∧ w'.ownsRow w.heap.size 9 1 v L.length (textL L) ∧ Below w.heap.size w w' := by
  have h' : (nameL s).isSome = true := by rw [h]; rfl
  have hl : s.length ≤ 255 := (nameL_is h).2.2
  have HS := Lib.hid hS
  clear hS
  go_enter Try.func73, Try.ntmps73
  go_wp2_with fail
  refine (Right_any S s _ HS.out (by omega)).mono ?_
  rw [h']
  rintro e w1 ⟨rfl, hB1⟩
  go_wp2_with fail
  refine (labelsOf_name S s L _ HS.out h).mono ?_
  rintro e w2 ⟨v, rfl, hown, hB2⟩
  go_wp2_with fail
  go_ret2
  exact ⟨v, rfl, ⟨hown.1, hown.2.imp id fun ⟨g, cap, cur, h1, h2, h3⟩ => ⟨g, cap, cur, h1, Nat.le_trans hB1.size h2, h3⟩⟩, hB1.trans (hB2.mono hB1.size)⟩

/-! ### Parent, Wild -/
theorem cutL_enc {x : List UInt8} {L : List (List UInt8)} (h : Good (x :: L)) : cutL (enc (x :: L)) = some (x, enc L) := by
  rw [enc_cons, cut_lab]
  have := (h x (by simp)).2
  omega
/-! ### Fold, Alike -/
theorem foldByte_any (c : UInt8) (w : World) : Calls Try.prog 93 #[.int .u8 (c.toNat : Nat)] w fun e w' => e = .returned (.int .u8 ((low c).toNat : Nat)) ∧ w = w' := by
  have hlt := c.toNat_lt
  obtain ⟨k, hk⟩ : ∃ k, k = c.toNat := ⟨_, rfl⟩
  rw [← hk] at hlt ⊢
  by_cases h1 : 65 ≤ k
  · by_cases h2 : k ≤ 90
    · have e : (low c).toNat = k + 32 := by
        unfold low; rw [if_pos (by omega), UInt8.toNat_ofNat', ← hk]; omega
      rw [e]
      clear hk e
      have g1 : (65 : Int) ≤ (k : Int) := by omega
      have g2 : (k : Int) ≤ 90 := by omega
      go_enter Try.func93, Try.ntmps93
      go_wp2_with fail
      go_ret
      refine ⟨ret_int ?_, rfl⟩
      first | omega | (simp; omega)
    · have e : low c = c := by unfold low; rw [if_neg (by omega)]
      rw [e, ← hk]
      clear hk e
      have g1 : (65 : Int) ≤ (k : Int) := by omega
      have g2 : ¬ (k : Int) ≤ 90 := by omega
      go_enter Try.func93, Try.ntmps93
      go_wp2_with fail
      go_ret
      exact ⟨rfl, rfl⟩
  · have e : low c = c := by unfold low; rw [if_neg (by omega)]
    rw [e, ← hk]
    clear hk e
    have g1 : ¬ (65 : Int) ≤ (k : Int) := by omega
    go_enter Try.func93, Try.ntmps93
    go_wp2_with fail
    go_ret
    exact ⟨rfl, rfl⟩

def mixL (s : List UInt8) (k : Nat) : List UInt8 := (s.take k).map low ++ s.drop k
theorem mixL_zero (s : List UInt8) : mixL s 0 = s := rfl
theorem mixL_all (s : List UInt8) : mixL s s.length = lowS s := by simp [mixL, lowS]
theorem mixL_len (s : List UInt8) (k : Nat) : (mixL s k).length = s.length := by simp [mixL]; omega
theorem mixL_at (s : List UInt8) (k : Nat) (h : k < s.length) : (mixL s k)[k]'(by rw [mixL_len]; exact h) = s[k] := by
  simp only [mixL]
  rw [List.getElem_append_right (by simp; omega)]
  simp only [List.getElem_drop, List.length_map, List.length_take]
  congr 1
  omega
theorem mixL_set (s : List UInt8) (k : Nat) (h : k < s.length) : (mixL s k).set k (low s[k]) = mixL s (k + 1) := by
  have h0 : ((s.take k).map low).length = k := by simp; omega
  simp only [mixL]
  rw [List.set_append_right _ _ (by omega), h0, Nat.sub_self, List.take_succ_eq_append_getElem h, List.map_append, List.append_assoc]
  congr 1
  rw [List.drop_eq_getElem_cons h]
  rfl

set_option maxHeartbeats 1000000 in
theorem Fold_name (S : ByteArray) (s : List UInt8) (w : World) (hS : S = mk s) (hl : s.length ≤ 255) (h : (nameL s).isSome = true) (hf : foldL s = lowS s) :
    Calls Try.prog 63 #[.string S] w fun e w' => e = .returned (.string (mk (foldL s))) ∧ Below w.heap.size w w' := by
  have hconv := fun W S => Lib.run_convert_string_bytes (P := Try.prog) W 9 61 5 S Try.underlying9 Try.underlying61 Try.underlying5
  have hsz : S.size = s.length := by rw [hS, mk_size]
  have hd : S.data.toList = s := by rw [hS]; simp [mk]
  rw [hf]
  have HS := Lib.hid hS
  have HD := Lib.hid hd
  have HZ := Lib.hid hsz
  have hS255 : S.size ≤ 255 := by omega
  clear hS hd hf hsz
  go_enter Try.func63, Try.ntmps63
  go_wp2_with fail
  refine (Right_any S s _ HS.out (by omega)).mono ?_
  rw [h]
  rintro e w1 ⟨rfl, hB1⟩
  go_wp2_with fail
  have hR0 : Row8 (Lib.bytesWorld w1 5 S) w1.heap.size (mixL s 0) := by rw [mixL_zero, ← HD.out]; exact Row8.made w1 S
  have hB0 : Below w.heap.size w (Lib.bytesWorld w1 5 S) := hB1.trans ((bytes_below w1 S).mono hB1.size)
  obtain ⟨cap, hcap⟩ : ∃ cap, cap = grownCap w1 S.size 0 5 := ⟨_, rfl⟩
  obtain ⟨g, hg⟩ : ∃ g, g = w1.heap.size := ⟨_, rfl⟩
  have hgw : w.heap.size ≤ g := by rw [hg]; exact hB1.size
  rw [← hg] at hR0
  try rw [← hcap]
  try rw [← hg]
  generalize Lib.bytesWorld w1 5 S = W1 at hR0 hB0 ⊢
  clear hconv hcap hg hB1
  go_loopw [13] (fun i wr => ∃ k : Nat, k ≤ S.size ∧ i = .int .i64 k ∧ Row8 wr g (mixL s k) ∧ Below w.heap.size w wr) (fun i _ => S.size - (intOf i).toNat)
  case atStart => exact ⟨0, Nat.zero_le _, rfl, hR0, hB0⟩
  case round =>
    obtain ⟨k, hk, rfl, hR, hB⟩ := hrel
    by_cases hlt : k < S.size
    · have hks : k < s.length := by have := HZ.out; omega
      have hc := hR.cell k (by rw [mixL_len]; exact hks)
      rw [mixL_at s k hks] at hc
      have hf := hR.soft k (by rw [mixL_len]; exact hks)
      have hput := hR.put k (by rw [mixL_len]; exact hks) (low s[k])
      rw [mixL_set s k hks] at hput
      have HP := Lib.hid hput
      have HB := Lib.hid (hB.setCell (p := ⟨g, k, none⟩) hgw (.int .u8 ((low s[k]).toNat : Nat)))
      obtain ⟨c, hcc⟩ : ∃ c, c = s[k] := ⟨_, rfl⟩
      rw [← hcc] at hc HP HB
      clear hput hR hB hcc
      go_wp2_with (go_at_call 93; refine (foldByte_any c _).mono ?_; rintro e w' ⟨rfl, rfl⟩)
      go_roundw
      case rel => exact ⟨k + 1, by omega, by go_num, HP.out, HB.out⟩
      case measure => simp [intOf]; omega
    · obtain rfl : k = S.size := by omega
      have hst := hR.str S.size cap (by rw [mixL_len, HZ.out])
      rw [show mixL s S.size = lowS s by rw [HZ.out]; exact mixL_all s] at hst
      go_wp2_with fail
      go_ret
      exact ⟨rfl, hB⟩
theorem Fold_any (S : ByteArray) (s : List UInt8) (w : World) (hS : S = mk s) (hb : s.length ≤ 1073741824) :
    Calls Try.prog 63 #[.string S] w fun e w' => e = .returned (.string (mk (foldL s))) ∧ Below w.heap.size w w' := by
  cases h : nameL s with
  | some L => exact Fold_name S s w hS (nameL_is h).2.2 (by rw [h]; rfl) (foldL_some h).1
  | none =>
    have h' : (nameL s).isSome = false := by rw [h]; rfl
    rw [foldL_none h]
    have HS := Lib.hid hS
    clear hS h
    go_enter Try.func63, Try.ntmps63
    go_wp2_with fail
    refine (Right_any S s _ HS.out hb).mono ?_
    rw [h']
    rintro e w1 ⟨rfl, hB1⟩
    go_wp2_with fail
    go_ret
    exact ⟨rfl, hB1⟩

theorem alike_fold (a b : List UInt8) {L : List (List UInt8)} (h : nameL a = some L) : (foldL a == foldL b) = alikeN a b := by
  unfold alikeN
  rw [h]
  obtain ⟨h1, h2, h3⟩ := foldL_some h
  obtain ⟨_, hg, _⟩ := nameL_is h
  cases k : nameL b with
  | none =>
    rw [foldL_none k, beq_eq_false_iff_ne]
    exact foldL_ne h
  | some M =>
    obtain ⟨k1, k2, k3⟩ := foldL_some k
    obtain ⟨_, kg, _⟩ := nameL_is k
    rw [h2, k2]
    simp only
    by_cases e : L.map lowS = M.map lowS
    · rw [e]; simp
    · rw [decide_eq_false e, beq_eq_false_iff_ne]
      exact fun e' => e (enc_inj hg.low kg.low e')
set_option maxHeartbeats 400000 in
theorem Alike_any (A B : ByteArray) (a b : List UInt8) (w : World) (hA : A = mk a) (hB : B = mk b) (ha : a.length ≤ 1073741824) (hb : b.length ≤ 1073741824) :
    Calls Try.prog 34 #[.string A, .string B] w fun e w' => e = .returned (.bool (alikeN a b)) ∧ Below w.heap.size w w' := by
  cases h : nameL a with
  | none =>
    have h' : (nameL a).isSome = false := by rw [h]; rfl
    have hal : alikeN a b = false := by unfold alikeN; rw [h]
    rw [hal]
    have HA := Lib.hid hA
    clear hA hB h hal
    go_enter Try.func34, Try.ntmps34
    go_wp2_with fail
    refine (Right_any A a _ HA.out ha).mono ?_
    rw [h']
    rintro e w1 ⟨rfl, hB1⟩
    go_wp2_with fail
    go_ret
    exact ⟨rfl, hB1⟩
  | some L =>
    have h' : (nameL a).isSome = true := by rw [h]; rfl
    have hal : ((mk (foldL a)).toList == (mk (foldL b)).toList) = alikeN a b := by rw [mk_beq, alike_fold a b h]
    have HA := Lib.hid hA
    have HB := Lib.hid hB
    clear hA hB
    go_enter Try.func34, Try.ntmps34
    go_wp2_with fail
    refine (Right_any A a _ HA.out ha).mono ?_
    rw [h']
    rintro e w1 ⟨rfl, hB1⟩
    go_wp2_with fail
    refine (Fold_any A a _ HA.out ha).mono ?_
    rintro e w2 ⟨rfl, hB2⟩
    go_wp2_with fail
    refine (Fold_any B b _ HB.out hb).mono ?_
    rintro e w3 ⟨rfl, hB3⟩
    have GB := hB1.trans (hB2.mono hB1.size)
    go_wp2_with fail
    go_ret
    exact ⟨rfl, GB.trans (hB3.mono GB.size)⟩
end Go.Proofs.Ytdanncclnhkmgaa
