/- NaS: texts NamS of our own, joined. No statement of the seat is proved here. -/
import Derived.Test.YtkgihfoknpimfaaGreatNaI
import Derived.Test.YtkgihfoknpimfaaGreatNaG
namespace Go.Proofs.YtkgihfoknpimfaaGreat
set_option maxRecDepth 20000
open Go.RowKit

set_option maxHeartbeats 2000000 in
theorem NRefOf_any (A : Option Addr) (n c : Nat) (L : List (List UInt8)) (w : World) (h : Sees w w.heap.size A n (textL L)) (hn : n ≤ 1000) (hx : ∀ x ∈ L, x.length ≤ 100000) :
    Calls Tryz.prog 58 #[.slice A n c] w fun e w' => e = .returned (.tuple #[.string (mk (ofN L).1), .int .i64 (ofN L).2]) ∧ Below w.heap.size w w' := by
  have HL := Lib.hid (textL_len h)
  have HX := Lib.hid hx
  clear hx
  go_enter Tryz.func58, Tryz.ntmps58
  go_wp2_with fail
  go_loop [4] (fun i => ∃ k, k ≤ n ∧ i = .int .i64 (k : Nat) ∧ [] ∉ L.take k) (fun i => n - (intOf i).toNat)
  case atStart => exact ⟨0, Nat.zero_le _, rfl, by simp⟩
  case round =>
    obtain ⟨k, hk, rfl, hr⟩ := hrel
    have HR := Lib.hid hr
    clear hr
    by_cases hlt : k < n
    · have h2 : k < L.length := by have := HL.out; omega
      obtain ⟨b, off, rfl, hbB, hc⟩ := textL_at h hlt h2
      obtain ⟨X, hX⟩ : ∃ X, X = mk L[k] := ⟨_, rfl⟩
      rw [← hX] at hc
      have hie : X.toList.isEmpty = L[k].isEmpty := by rw [hX]; exact mk_isEmpty _
      by_cases he : L[k] = []
      · have hq : X.toList.isEmpty = true := by rw [hie, he]; rfl
        have ho := ofN_form (L := L) (by rw [← he]; exact List.getElem_mem h2)
        have HO := Lib.hid ho
        clear hie he hX ho
        go_wp2_with fail
        go_ret2
        exact ⟨by rw [HO.out]; rfl, Below.refl _ _⟩
      · have hq : X.toList.isEmpty = false := by rw [hie]; cases hL : L[k] <;> simp_all
        have hm : [] ∉ L.take (k + 1) := by
          rw [List.take_succ_eq_append_getElem h2, List.mem_append, List.mem_singleton]
          exact fun h => h.elim HR.out (fun e => he e.symm)
        have HM := Lib.hid hm
        clear hie he hX hm
        go_wp2_with fail
        go_round
        case rel => exact ⟨k + 1, by omega, by go_num, HM.out⟩
        case measure => simp [intOf]; omega
    · obtain rfl : k = n := by omega
      have hE := HR.out
      rw [List.take_of_length_le (by have := HL.out; omega)] at hE
      have HE := Lib.hid hE
      clear hE HR
      go_wp2_with fail
      go_loopw [5, 6] (fun s i wr => ∃ m S, m ≤ k ∧ i = .int .i64 (m : Nat) ∧ s = .string S ∧ OfRef L m S ∧ Below w.heap.size w wr) (fun _ i _ => k - (intOf i).toNat)
      case atStart => exact ⟨0, ⟨#[]⟩, Nat.zero_le _, rfl, rfl, OfRef.start L, Below.refl _ _⟩
      case round =>
        obtain ⟨m, S, hm, rfl, rfl, hR, GB⟩ := hrel
        have hSz : S.size ≤ 64000 := by have := hR.size; omega
        have HR := Lib.hid hR
        clear hR hlt
        by_cases hlt : m < k
        · have h2 : m < L.length := by have := HL.out; omega
          obtain ⟨b, off, rfl, hbB, hc⟩ := textL_at (h.below GB) hlt h2
          obtain ⟨X, hX⟩ : ∃ X, X = mk L[m] := ⟨_, rfl⟩
          have hXs : X.size = L[m].length := by rw [hX, mk_size]
          have hXb : X.size ≤ 100000 := by rw [hXs]; exact HX.out _ (List.getElem_mem h2)
          rw [← hX] at hc
          have HXX := Lib.hid hX
          have HXs := Lib.hid hXs
          clear hX hXs
          by_cases hbig : 63 < X.size
          · have g2 : (63 : Int) < (X.size : Int) := by omega
            have ho := OfAt.long1 h2 (by have := HXs.out; omega) HE.out
            have HO := Lib.hid ho
            clear ho
            go_wp2_with fail
            go_ret2
            exact ⟨by rw [HO.out]; rfl, GB⟩
          · have g2 : ¬ (63 : Int) < (X.size : Int) := by omega
            have hst := HR.out.step h2 (by have := HXs.out; omega)
            rw [← HXX.out, ← HXs.out] at hst
            have HST := Lib.hid hst
            have hcv := byte_new X.size wr (by omega)
            have hbl : b < wr.heap.size := by have := GB.size; omega
            have hcd : wr.drew.cell? ⟨b, off + m, none⟩ = some (.string X) := hc
            clear hst
            go_wp2_with fail
            go_region
            go_wp2_with fail
            go_roundw
            case rel => exact ⟨m + 1, _, by omega, by go_num, rfl, HST.out, (GB.alloc GB.size _).drew⟩
            case measure => simp [intOf]; omega
        · obtain rfl : m = k := by omega
          obtain ⟨hd1, hd2⟩ := HR.out.done (by have := HL.out; omega) HE.out
          by_cases hbig : 254 < S.size
          · have g3 : (254 : Int) < (S.size : Int) := by omega
            have HO := Lib.hid (hd1 hbig)
            clear hd1 hd2
            go_wp2_with fail
            go_ret2
            exact ⟨by rw [HO.out]; rfl, GB⟩
          · have g3 : ¬ (254 : Int) < (S.size : Int) := by omega
            have HO := Lib.hid (hd2 hbig)
            clear hd1 hd2
            go_wp2_with fail
            go_ret2
            exact ⟨by rw [HO.out.2, ← HO.out.1]; rfl, GB⟩
end Go.Proofs.YtkgihfoknpimfaaGreat
