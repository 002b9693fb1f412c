/- The reference's Of. -/
import Derived.Test.YtpfbieehdkonhaaDoorNamI
import Derived.Test.YtpfbieehdkonhaaDoorNamG
namespace Go.Proofs.YtpfbieehdkonhaaDoor
open Go.RowKit

theorem labs_bound (L : List (List UInt8)) (h : ∀ x ∈ L, x.length ≤ 63) : (labs L).length ≤ 64 * L.length := by
  induction L with
  | nil => simp [labs]
  | cons x L ih =>
    have h1 := h x (by simp)
    have h2 := ih fun y hy => h y (List.mem_cons_of_mem _ hy)
    simp only [labs, List.length_append, lab_len, List.length_cons]
    omega
/-- one byte, read back as a string -/
theorem byte_str (q g cap : Nat) (W : World) (hq : q < 256) (hc : W.cell? ⟨g, 0, none⟩ = some (.int .u8 (q : Nat))) :
    (convert 38 9 (.slice (some ⟨g, 0, none⟩) 1 cap)).run Tryd.prog W = .ok (.string ⟨#[UInt8.ofNat q]⟩) W := by
  refine run_convert_bytes_back W _ _ 5 ⟨g, 0, none⟩ cap [UInt8.ofNat q] Tryd.underlying38 Tryd.underlying5 Tryd.underlying9 (fun j hj => ?_)
  have hj0 : j = 0 := by simpa using hj
  subst hj0
  rw [show (⟨g, 0, none⟩ : Addr).add 0 = ⟨g, 0, none⟩ from rfl, hc]
  simp only [List.getElem_cons_zero, UInt8.toNat_ofNat']
  rw [Nat.mod_eq_of_lt (by omega)]
theorem byte_new (q : Nat) (W : World) (hq : q < 256) :
    (convert 38 9 (.slice (some ⟨W.heap.size, 0, none⟩) 1 1)).run Tryd.prog ((W.alloc (.cells #[.int .u8 (q : Nat)] 5)).drew) = .ok (.string ⟨#[UInt8.ofNat q]⟩) ((W.alloc (.cells #[.int .u8 (q : Nat)] 5)).drew) :=
  byte_str q _ _ _ hq (Whole.new W 5 #[_]).cell1
/-- where the second loop of the reference's Of stands -/
def OfRef (L : List (List UInt8)) (k : Nat) (S : ByteArray) : Prop := S = mk (labs (L.take k)) ∧ (∀ x ∈ L.take k, x.length ≤ 63)
theorem OfRef.start (L : List (List UInt8)) : OfRef L 0 ⟨#[]⟩ := ⟨rfl, by simp⟩
theorem OfRef.size {L : List (List UInt8)} {k : Nat} {S : ByteArray} (h : OfRef L k S) : S.size ≤ 64 * k := by
  rw [h.1, mk_size]
  have := labs_bound _ h.2
  have h2 : (L.take k).length ≤ k := by simp; omega
  omega
theorem OfRef.step {L : List (List UInt8)} {k : Nat} {S : ByteArray} (h : OfRef L k S) (hk : k < L.length) (hx : L[k].length ≤ 63) : OfRef L (k + 1) (S ++ (⟨#[UInt8.ofNat L[k].length]⟩ ++ mk L[k])) := by
  refine ⟨?_, fun x hm => ?_⟩
  · rw [h.1]
    show mk _ ++ (mk [UInt8.ofNat L[k].length] ++ mk L[k]) = _
    rw [mk_append, mk_append, labs_take hk]
    rfl
  · rw [List.take_succ_eq_append_getElem hk, List.mem_append, List.mem_singleton] at hm
    rcases hm with hm | hm
    · exact h.2 x hm
    · subst hm; exact hx
theorem OfRef.done {L : List (List UInt8)} {k : Nat} {S : ByteArray} (h : OfRef L k S) (hk : L.length ≤ k) (hE : [] ∉ L) :
    (254 < S.size → ofN L = ([], 3)) ∧ (¬ 254 < S.size → S ++ ⟨#[0]⟩ = mk (ofN L).1 ∧ (ofN L).2 = 0) := by
  have e : L.take k = L := List.take_of_length_le hk
  have hS := h.1
  rw [e] at hS
  have hl : S.size = (labs L).length := by rw [hS, mk_size]
  refine ⟨fun h1 => ofN_long hE (.inr (by rw [enc_len]; omega)), fun h1 => ?_⟩
  have ho := ofN_ok hE (by
    rintro (⟨x, hx, hx'⟩ | hx)
    · have := h.2 x (by rw [e]; exact hx)
      omega
    · rw [enc_len] at hx
      omega)
  rw [ho]
  refine ⟨?_, rfl⟩
  rw [hS]
  show mk (labs L) ++ mk [0] = _
  rw [mk_append]
  rfl

set_option maxHeartbeats 2000000 in
theorem RefOf_any (A : Option Addr) (n c : Nat) (L : List (List UInt8)) (w : World) (h : Sees w w.heap.size A n (textL L)) (hn : n ≤ 1000) (hx : ∀ x ∈ L, x.length ≤ 100000) :
    Calls Tryd.prog 17 #[.slice A n c] w fun e w' => e = .returned (.tuple #[.string (mk (ofN L).1), .int .i64 (ofN L).2]) ∧ Below w.heap.size w w' := by
  have HL := Lib.hid (textL_len h)
  have HX := Lib.hid hx
  clear hx
  go_enter Tryd.func17, Tryd.ntmps17
  go_wp2_with fail
  go_loop [4] (fun i => ∃ k, k ≤ n ∧ i = .int .i64 (k : Nat) ∧ [] ∉ L.take k) (fun i => n - (intOf i).toNat)
  case atStart => exact ⟨0, Nat.zero_le _, rfl, by simp⟩
  case round =>
    obtain ⟨k, hk, rfl, hr⟩ := hrel
    have HR := Lib.hid hr
    clear hr
    by_cases hlt : k < n
    · have h2 : k < L.length := by have := HL.out; omega
      obtain ⟨b, off, rfl, hbB, hc⟩ := textL_at h hlt h2
      obtain ⟨X, hX⟩ : ∃ X, X = mk L[k] := ⟨_, rfl⟩
      rw [← hX] at hc
      have hie : X.toList.isEmpty = L[k].isEmpty := by rw [hX]; exact mk_isEmpty _
      by_cases he : L[k] = []
      · have hq : X.toList.isEmpty = true := by rw [hie, he]; rfl
        have ho := ofN_form (L := L) (by rw [← he]; exact List.getElem_mem h2)
        have HO := Lib.hid ho
        clear hie he hX ho
        go_wp2_with fail
        go_ret2
        exact ⟨by rw [HO.out]; rfl, Below.refl _ _⟩
      · have hq : X.toList.isEmpty = false := by rw [hie]; cases hL : L[k] <;> simp_all
        have hm : [] ∉ L.take (k + 1) := by
          rw [List.take_succ_eq_append_getElem h2, List.mem_append, List.mem_singleton]
          exact fun h => h.elim HR.out (fun e => he e.symm)
        have HM := Lib.hid hm
        clear hie he hX hm
        go_wp2_with fail
        go_round
        case rel => exact ⟨k + 1, by omega, by go_num, HM.out⟩
        case measure => simp [intOf]; omega
    · obtain rfl : k = n := by omega
      have hE := HR.out
      rw [List.take_of_length_le (by have := HL.out; omega)] at hE
      have HE := Lib.hid hE
      clear hE HR
      go_wp2_with fail
      go_loopw [5, 6] (fun s i wr => ∃ m S, m ≤ k ∧ i = .int .i64 (m : Nat) ∧ s = .string S ∧ OfRef L m S ∧ Below w.heap.size w wr) (fun _ i _ => k - (intOf i).toNat)
      case atStart => exact ⟨0, ⟨#[]⟩, Nat.zero_le _, rfl, rfl, OfRef.start L, Below.refl _ _⟩
      case round =>
        obtain ⟨m, S, hm, rfl, rfl, hR, GB⟩ := hrel
        have hSz : S.size ≤ 64000 := by have := hR.size; omega
        have HR := Lib.hid hR
        clear hR hlt
        by_cases hlt : m < k
        · have h2 : m < L.length := by have := HL.out; omega
          obtain ⟨b, off, rfl, hbB, hc⟩ := textL_at (h.below GB) hlt h2
          obtain ⟨X, hX⟩ : ∃ X, X = mk L[m] := ⟨_, rfl⟩
          have hXs : X.size = L[m].length := by rw [hX, mk_size]
          have hXb : X.size ≤ 100000 := by rw [hXs]; exact HX.out _ (List.getElem_mem h2)
          rw [← hX] at hc
          have HXX := Lib.hid hX
          have HXs := Lib.hid hXs
          clear hX hXs
          by_cases hbig : 63 < X.size
          · have g2 : (63 : Int) < (X.size : Int) := by omega
            have ho := OfAt.long1 h2 (by have := HXs.out; omega) HE.out
            have HO := Lib.hid ho
            clear ho
            go_wp2_with fail
            go_ret2
            exact ⟨by rw [HO.out]; rfl, GB⟩
          · have g2 : ¬ (63 : Int) < (X.size : Int) := by omega
            have hst := HR.out.step h2 (by have := HXs.out; omega)
            rw [← HXX.out, ← HXs.out] at hst
            have HST := Lib.hid hst
            have hcv := byte_new X.size wr (by omega)
            have hbl : b < wr.heap.size := by have := GB.size; omega
            have hcd : wr.drew.cell? ⟨b, off + m, none⟩ = some (.string X) := hc
            clear hst
            go_wp2_with fail
            go_region
            go_wp2_with fail
            go_roundw
            case rel => exact ⟨m + 1, _, by omega, by go_num, rfl, HST.out, (GB.alloc GB.size _).drew⟩
            case measure => simp [intOf]; omega
        · obtain rfl : m = k := by omega
          obtain ⟨hd1, hd2⟩ := HR.out.done (by have := HL.out; omega) HE.out
          by_cases hbig : 254 < S.size
          · have g3 : (254 : Int) < (S.size : Int) := by omega
            have HO := Lib.hid (hd1 hbig)
            clear hd1 hd2
            go_wp2_with fail
            go_ret2
            exact ⟨by rw [HO.out]; rfl, GB⟩
          · have g3 : ¬ (254 : Int) < (S.size : Int) := by omega
            have HO := Lib.hid (hd2 hbig)
            clear hd1 hd2
            go_wp2_with fail
            go_ret2
            exact ⟨by rw [HO.out.2, ← HO.out.1]; rfl, GB⟩
end Go.Proofs.YtpfbieehdkonhaaDoor
