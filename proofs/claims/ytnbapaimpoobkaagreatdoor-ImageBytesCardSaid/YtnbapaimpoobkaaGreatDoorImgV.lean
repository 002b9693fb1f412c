/- Parts of the proofs of the statements of image. No statement of the seat is proved here. -/
import Derived.Test.YtnbapaimpoobkaaGreatDoorImgL
import Derived.Test.YtnbapaimpoobkaaGreatDoorOcJ
import Derived.Lib.SmallJoins
import Derived.Deep.AppendSrc
import Derived.Deep.AppendLies
import Derived.Deep.RegionLaw
import Derived.Test.YtnbapaimpoobkaaGreatDoorOcD
namespace Go.Proofs.YtnbapaimpoobkaaGreatDoor
open Go.RowKit

/-! ### Number -/
theorem byte_of {S : ByteArray} {s : List UInt8} {k : Nat} (hS : S = mk s) (hk : k < S.size) : ∃ (h : k < s.length), (S[k]'hk).toNat = s[k].toNat := by
  subst hS
  exact ⟨by rw [mk_size] at hk; exact hk, rfl⟩
theorem valD_lt : ∀ (n : Nat) (s : List UInt8), s.length ≤ n → s.all isD = true → valD s < 10 ^ n := by
  intro n s h hd
  have h1 := Lib.decFrom_lt s 0 (valD s) (decFrom_val s 0 hd)
  have h2 : 10 ^ s.length ≤ 10 ^ n := Nat.pow_le_pow_right (by decide) h
  omega
end Go.Proofs.YtnbapaimpoobkaaGreatDoor
namespace Go.Proofs.YtnbapaimpoobkaaGreatDoor
open Go.RowKit

theorem one_img (q : Int) (W : World) (h0 : 0 ≤ q) (h1 : q < 256) :
    (convert 64 9 (.slice (some ⟨W.heap.size, 0, none⟩) 1 1)).run Tryz.prog (W.alloc (.cells #[.int .u8 q] 5)) = .ok (.string (mk [UInt8.ofNat q.toNat])) (W.alloc (.cells #[.int .u8 q] 5)) := by
  refine run_convert_bytes_back _ _ _ 5 ⟨W.heap.size, 0, none⟩ 1 [UInt8.ofNat q.toNat] Tryz.underlying64 Tryz.underlying5 Tryz.underlying9 (fun j hj => ?_)
  have hj0 : j = 0 := by simpa using hj
  subst hj0
  rw [show (⟨W.heap.size, 0, none⟩ : Addr).add 0 = ⟨W.heap.size, 0, none⟩ from rfl, (Whole.new W 5 #[_]).cell1]
  simp only [List.getElem_cons_zero, UInt8.toNat_ofNat']
  congr 2
  omega
theorem two_img (p q : Int) (b : Nat) (W : World) (p0 : 0 ≤ p) (p1 : p < 256) (h0 : 0 ≤ q) (h1 : q < 256) (c0 : W.cell? ⟨b, 0, none⟩ = some (.int .u8 p)) (c1 : W.cell? ⟨b, 1, none⟩ = some (.int .u8 q)) :
    (convert 64 9 (.slice (some ⟨b, 0, none⟩) 2 2)).run Tryz.prog W = .ok (.string (mk [UInt8.ofNat p.toNat, UInt8.ofNat q.toNat])) W := by
  refine run_convert_bytes_back _ _ _ 5 ⟨b, 0, none⟩ 2 [UInt8.ofNat p.toNat, UInt8.ofNat q.toNat] Tryz.underlying64 Tryz.underlying5 Tryz.underlying9 (fun j hj => ?_)
  have hj2 : j = 0 ∨ j = 1 := by simp at hj; omega
  rcases hj2 with rfl | rfl
  · rw [show (⟨b, 0, none⟩ : Addr).add 0 = ⟨b, 0, none⟩ from rfl, c0]
    simp only [List.getElem_cons_zero, UInt8.toNat_ofNat']
    congr 2
    omega
  · rw [show (⟨b, 0, none⟩ : Addr).add 1 = ⟨b, 1, none⟩ from rfl, c1]
    simp only [List.getElem_cons_succ, List.getElem_cons_zero, UInt8.toNat_ofNat']
    congr 2
    omega

/-! ### Decimal -/
def DecAt (N u : Nat) (t : List UInt8) : Prop := (t = [] ∧ u = N) ∨ (t ≠ [] ∧ Lib.decDigits N = if u = 0 then t else Lib.decDigits u ++ t)
theorem DecAt.len {N u : Nat} {t : List UInt8} (h : DecAt N u t) : t.length ≤ (Lib.decDigits N).length := by
  rcases h with ⟨e, _⟩ | ⟨_, e⟩
  · simp [e]
  · rw [e]; split <;> simp
theorem DecAt.le {N u : Nat} {t : List UInt8} (h : DecAt N u t) (hN : N < 10000000000) : u < 10000000000 := by
  rcases h with ⟨_, e⟩ | ⟨_, e⟩
  · omega
  · by_cases h0 : u = 0
    · omega
    · rw [if_neg h0] at e
      have h1 := dec_len hN
      have h2 : (Lib.decDigits u).length ≤ 10 := by rw [e, List.length_append] at h1; omega
      have h3 := (dec_facts u u (Nat.le_refl _))
      have h4 := valD_lt 10 _ h2 h3.1
      rw [h3.2.1] at h4
      have e10 : (10 : Nat) ^ 10 = 10000000000 := by decide
      omega
theorem DecAt.step {N u : Nat} {t : List UInt8} (h : DecAt N u t) (hu : 0 < u ∨ t = []) : DecAt N (u / 10) (UInt8.ofNat (48 + u % 10) :: t) := by
  right
  refine ⟨by simp, ?_⟩
  have hd : Lib.decDigits u = (if u / 10 = 0 then [] else Lib.decDigits (u / 10)) ++ [UInt8.ofNat (48 + u % 10)] := by
    by_cases h10 : u < 10
    · rw [Lib.decDigits_one h10, if_pos (by omega), Nat.mod_eq_of_lt h10]; rfl
    · rw [dec_big h10, if_neg (by omega)]
  rcases h with ⟨rfl, rfl⟩ | ⟨h1, h2⟩
  · rw [hd]; split <;> simp
  · have h0 : u ≠ 0 := by rcases hu with h | h
                          · omega
                          · exact absurd h h1
    rw [if_neg h0] at h2
    rw [h2, hd]
    split <;> simp
theorem DecAt.done {N : Nat} {t : List UInt8} (h : DecAt N 0 t) (ht : t ≠ []) : Lib.decDigits N = t := by
  rcases h with ⟨e, _⟩ | ⟨_, e⟩
  · exact absurd e ht
  · simpa using e
def emptyV : Value → Nat | .string x => if x.size = 0 then 1 else 0 | _ => 0
theorem emptyV_pos {S : ByteArray} (h : 0 < S.size) : emptyV (.string S) = 0 := if_neg (by omega)
theorem emptyV_zero {S : ByteArray} (h : S.size = 0) : emptyV (.string S) = 1 := if_pos h
set_option maxHeartbeats 1000000 in
theorem Decimal_any (N : Nat) (w : World) (hN : N < 10000000000) : Calls Tryz.prog 36 #[.int .i64 (N : Nat)] w fun e w' => e = .returned (.string (mk (Lib.decDigits N))) ∧ Below w.heap.size w w' := by
  have HN := Lib.hid hN
  have HL := Lib.hid (dec_len hN)
  clear hN
  go_enter Tryz.func36, Tryz.ntmps36
  go_wp2_with fail
  go_loopw [0, 3] (fun n s wr => ∃ (u : Nat) (t : List UInt8) (T : ByteArray), n = .int .i64 (u : Nat) ∧ s = .string T ∧ T = mk t ∧ DecAt N u t ∧ Below w.heap.size w wr) (fun n s _ => (intOf n).toNat + emptyV s)
  case atStart => exact ⟨N, [], ⟨#[]⟩, rfl, rfl, rfl, .inl ⟨rfl, rfl⟩, Below.refl _ _⟩
  case round =>
    obtain ⟨u, t, T, rfl, rfl, hT, hd, hB⟩ := hrel
    have hu := hd.le HN.out
    have htl := hd.len
    have hTz : T.size = t.length := by rw [hT, mk_size]
    have hT10 : T.size ≤ 10 := by have := HL.out; omega
    have HT := Lib.hid hT
    have HD := Lib.hid hd
    have HB := Lib.hid hB
    have hcv := one_img (48 + (u : Int) % 10) wr (by omega) (by omega)
    have e1 : UInt8.ofNat (48 + (u : Int) % 10).toNat = UInt8.ofNat (48 + u % 10) := by rw [show (48 + (u : Int) % 10).toNat = 48 + u % 10 by omega]
    rw [e1] at hcv
    have HNX := Lib.hid (show mk [UInt8.ofNat (48 + u % 10)] ++ T = mk (UInt8.ofNat (48 + u % 10) :: t) by rw [hT, mk_append]; rfl)
    have hTs : (mk [UInt8.ofNat (48 + u % 10)]).size = 1 := rfl
    generalize hX : mk [UInt8.ofNat (48 + u % 10)] = X at hcv HNX hTs
    clear hT hd hB e1 hX
    by_cases h0 : 0 < u
    · have g1 : (0 : Int) < (u : Int) := by omega
      have HS := Lib.hid (HD.out.step (.inl h0))
      have HTZ := Lib.hid hTz
      clear htl hTz
      go_wp2_with fail
      go_roundw
      case rel => exact ⟨u / 10, _, X ++ T, by go_num, rfl, HNX.out, HS.out, HB.out.alloc HB.out.size _⟩
      case measure =>
        have h2 : u / 10 < u := by omega
        have h3 := emptyV_pos (S := X ++ T) (by rw [ByteArray.size_append]; omega)
        rw [h3]
        simp [intOf]
        omega
    · have HU := Lib.hid (show u = 0 by omega)
      obtain ⟨z, hz⟩ : ∃ z : Int, z = (u : Int) := ⟨_, rfl⟩
      rw [← hz] at hcv ⊢
      have g1 : z ≤ 0 := by omega
      have g2 : (0 : Int) ≤ z := by omega
      have HZZ := Lib.hid hz
      clear hz
      by_cases ht : t = []
      · have HS := Lib.hid (HD.out.step (.inr ht))
        have hTe : T = ⟨#[]⟩ := by have := HT.out; rw [this, ht]; rfl
        have hne : T.toList.isEmpty = true := by rw [hTe]; kernel_rfl
        have HZ := Lib.hid (show T.size = 0 by rw [hTe]; rfl)
        clear htl hTz hTe ht h0
        go_wp2_with fail
        go_roundw
        case rel => exact ⟨u / 10, _, X ++ T, by rw [HZZ.out]; go_num, rfl, HNX.out, HS.out, HB.out.alloc HB.out.size _⟩
        case measure =>
          have h3 := emptyV_pos (S := X ++ T) (by rw [ByteArray.size_append]; omega)
          rw [h3, emptyV_zero HZ.out]
          simp [intOf]
          omega
      · have HE := Lib.hid ((show DecAt N 0 t by have := HD.out; rwa [HU.out] at this).done ht)
        have hne : T.toList.isEmpty = false := not_empty (by have := List.length_pos_iff.2 ht; omega)
        have HTX := Lib.hid (show T = mk (Lib.decDigits N) by rw [HT.out, HE.out])
        clear htl hTz ht h0 hcv hTs hT10 g2 hu
        clear HT HD HNX HU HZZ HE HN HL
        go_wp2_with fail
        go_ret
        exact ⟨by rw [HTX.out]; rfl, HB.out⟩

/-! ### Hex -/
theorem hexL_take {d : List UInt8} {k : Nat} (h : k < d.length) : hexL (d.take (k + 1)) = hexL (d.take k) ++ [hexD (d[k].toNat / 16), hexD (d[k].toNat % 16)] := by
  rw [List.take_succ_eq_append_getElem h, hexL_snoc]; rfl
theorem hex_lit : ∀ k : Fin 16, ((⟨#[48, 49, 50, 51, 52, 53, 54, 55, 56, 57, 97, 98, 99, 100, 101, 102]⟩ : ByteArray)[k.val]'(by have := k.isLt; exact this)).toNat = (hexD k.val).toNat := by decide +kernel
set_option maxHeartbeats 1000000 in
theorem Hex_any (S : ByteArray) (s : List UInt8) (w : World) (hS : S = mk s) (hb : s.length ≤ 1000000) : Calls Tryz.prog 37 #[.string S] w fun e w' => e = .returned (.string (mk (hexL s))) ∧ Below w.heap.size w w' := by
  have hz : S.size = s.length := by rw [hS, mk_size]
  obtain ⟨L, hL⟩ : ∃ L : ByteArray, L = ⟨#[48, 49, 50, 51, 52, 53, 54, 55, 56, 57, 97, 98, 99, 100, 101, 102]⟩ := ⟨_, rfl⟩
  have hLz : L.size = 16 := by rw [hL]; rfl
  have HLT := Lib.hid (show ∀ (k : Nat) (h : k < L.size), k < 16 → (L[k]'h).toNat = (hexD k).toNat by
    subst hL
    intro k h hk
    exact hex_lit ⟨k, hk⟩)
  have HS := Lib.hid hS
  have HZ := Lib.hid hz
  clear hz hS
  go_enter Tryz.func37, Tryz.ntmps37
  go_wp2_with fail
  rw [← hL]
  have HLL := Lib.hid hL
  clear hL
  go_loopw [4, 5] (fun o i wr => ∃ (k : Nat) (T : ByteArray), k ≤ S.size ∧ i = .int .i64 (k : Nat) ∧ o = .string T ∧ T = mk (hexL (s.take k)) ∧ T.size = 2 * k ∧ Below w.heap.size w wr) (fun _ i _ => S.size - (intOf i).toNat)
  case atStart => exact ⟨0, ⟨#[]⟩, Nat.zero_le _, rfl, rfl, by simp [hexL]; rfl, rfl, Below.refl _ _⟩
  case round =>
    obtain ⟨k, T, hk, rfl, rfl, hT, hTz, hB⟩ := hrel
    have HT := Lib.hid hT
    have HB := Lib.hid hB
    clear hT hB
    by_cases hlt : k < S.size
    · have g1 : (k : Int) < (S.size : Int) := by omega
      have g0 : (0 : Int) ≤ (k : Int) := by omega
      obtain ⟨hks, hc⟩ := byte_of HS.out hlt
      obtain ⟨d, hd⟩ : ∃ d, d = s[k].toNat := ⟨_, rfl⟩
      rw [← hd] at hc
      have hd8 : d < 256 := by rw [hd]; exact s[k].toNat_lt
      have HD := Lib.hid hd
      have q1 : d / 16 < L.size := by omega
      have q2 : d % 16 < L.size := by omega
      have v1 := HLT.out (d / 16) q1 (by omega)
      have v2 := HLT.out (d % 16) q2 (by omega)
      clear hd
      have hWN := (Whole.new wr 5 #[.int .u8 ((hexD (d / 16)).toNat : Nat), .int .u8 ((hexD (d % 16)).toNat : Nat)]).drew
      have hcv := two_img ((hexD (d / 16)).toNat : Nat) ((hexD (d % 16)).toNat : Nat) wr.heap.size _ (by omega) (by have := (hexD (d / 16)).toNat_lt; omega) (by omega) (by have := (hexD (d % 16)).toNat_lt; omega) (hWN.cell 0) (hWN.cell 1)
      clear hWN
      rw [Int.toNat_natCast, Int.toNat_natCast, UInt8.ofNat_toNat, UInt8.ofNat_toNat] at hcv
      have HNX := Lib.hid (show T ++ mk [hexD (d / 16), hexD (d % 16)] = mk (hexL (s.take (k + 1))) by rw [HT.out, mk_append, hexL_take hks, ← HD.out])
      have hTs : (mk [hexD (d / 16), hexD (d % 16)]).size = 2 := rfl
      generalize hX : mk [hexD (d / 16), hexD (d % 16)] = X at hcv HNX hTs
      generalize (hexD (d / 16)).toNat = y1 at v1 hcv
      generalize (hexD (d % 16)).toNat = y2 at v2 hcv
      clear hX
      obtain ⟨e, he⟩ : ∃ e, e = d / 16 := ⟨_, rfl⟩
      obtain ⟨f, hf⟩ : ∃ f, f = d % 16 := ⟨_, rfl⟩
      have m1 : IntKind.u8.wrap ((d : Int) / 16) = (e : Int) := by rw [IntKind.wrap_u8]; omega
      have m2 : (d : Int) % 16 = (f : Int) := by omega
      have he2 : e < L.size := by omega
      have hf2 : f < L.size := by omega
      have v3 : (L[e]'he2).toNat = y1 := by subst he; exact v1
      have v4 : (L[f]'hf2).toNat = y2 := by subst hf; exact v2
      have g3 : (e : Int) < 16 := by omega
      have g4 : (f : Int) < 16 := by omega
      have g5 : (0 : Int) ≤ (e : Int) := by omega
      have g6 : (0 : Int) ≤ (f : Int) := by omega
      clear he hf v1 v2 q1 q2
      go_wp2_with fail
      go_region
      go_wp2_with fail
      go_roundw
      case rel => exact ⟨k + 1, T ++ X, by omega, by go_num, rfl, HNX.out, by rw [ByteArray.size_append]; omega, (HB.out.drew).alloc HB.out.size _⟩
      case measure => simp [intOf]; omega
    · obtain rfl : k = S.size := by omega
      have HE := Lib.hid (show T = mk (hexL s) by rw [HT.out, HZ.out, List.take_length])
      go_wp2_with fail
      go_ret
      exact ⟨by rw [HE.out]; rfl, HB.out⟩
end Go.Proofs.YtnbapaimpoobkaaGreatDoor
namespace Go.Proofs.YtnbapaimpoobkaaGreatDoor
open Go.RowKit

theorem byte_infoV : (Tryz.prog.info? 5).map (fun i => (i.zero, i.size, i.bytes)) = some (some (.int .u8 0), 1, 1) := by kernel_rfl
end Go.Proofs.YtnbapaimpoobkaaGreatDoor
