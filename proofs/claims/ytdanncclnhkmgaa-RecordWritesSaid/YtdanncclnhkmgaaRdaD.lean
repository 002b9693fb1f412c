/- walk, by a contract over whatever visitor. No statement of the seat is proved here. -/
import Derived.Test.YtdanncclnhkmgaaRdaC
namespace Go.Proofs.Ytdanncclnhkmgaa
open Go.RowKit

/-- a visitor: a closure of one captured variable; J tells what it has seen and what stands -/
structure Vst (fid : Nat) (cap : Value) (V : Vis) (J : Vis → World → Prop) : Prop where
  enter : ∀ (args : Array Value) (w : World), (callFunc fid args).run Try.prog w = .ok (.enter fid args) w
  below : ∀ vs w w', J vs w → Below w.heap.size w w' → J vs w'
  call : ∀ vs k b w, (vs ++ [(k, b)]) <+: V → J vs w → Calls Try.prog fid #[.int .i64 k, .string (mk b), cap] w fun e w' => e = .returned (.tuple #[]) ∧ J (vs ++ [(k, b)]) w' ∧ ∀ g cs, Whole w g paT cs → Whole w' g paT cs
theorem parts_few (t : Int) : (partsP t).length ≤ 3 := by
  unfold partsP
  repeat' split
  all_goals simp
def WalkAt (M : List UInt8) (e : Nat) (ks : List Int) (p0 : Nat) (J : Vis → World → Prop) (g : Nat) (k p : Nat) (vs : Vis) (wr : World) : Prop :=
  steps M e ks p0 = (vs ++ (steps M e (ks.drop k) p).1, (steps M e (ks.drop k) p).2) ∧ J vs wr ∧ Whole wr g paT (ks.map (Value.int .i64)).toArray ∧ p ≤ e
theorem lst_at : ∀ {ks : List Int} {k : Nat} (_ : Lst ks) (hk : k < ks.length), Part (ks[k])
  | k0 :: ks, 0, h, _ => h.1
  | k0 :: ks, k + 1, h, hk => lst_at (ks := ks) (k := k) h.2.2 (by simpa using hk)

set_option maxHeartbeats 2000000 in
set_option maxRecDepth 20000 in
theorem walk_any (S : ByteArray) (M : List UInt8) (p e : Nat) (t : Int) (w : World) (fid : Nat) (cap : Value) (J : Vis → World → Prop) (hV : Vst fid cap (steps M e (partsP t) p).1 J) (hJ : J [] w)
    (hS : S = mk M) (hM : M.length ≤ 1000000) (hp : p ≤ e) (he : e ≤ M.length) :
    Calls Try.prog 89 #[.string S, .int .i64 (p : Nat), .int .i64 (e : Nat), .int .i64 t, .func (.func fid) #[] #[cap]] w fun en w' => en = .returned (.bool (okS M e (partsP t) p)) ∧ J (steps M e (partsP t) p).1 w' := by
  have HS := Lib.hid hS
  have HV := Lib.hid hV
  have HJ := Lib.hid hJ
  clear hS hV hJ
  go_enter Try.func89, Try.ntmps89
  go_wp2_with fail
  refine (partsOf_any t _).mono ?_
  rintro en w1 ⟨g, rfl, hw, hg, hB⟩
  have hL := lst_parts t
  have hok : okS M e (partsP t) p = ((steps M e (partsP t) p).2 == some e) := rfl
  obtain ⟨ks, hks⟩ : ∃ ks, ks = partsP t := ⟨_, rfl⟩
  unfold partC at hw
  rw [← hks] at hL hw hok HV
  have HOK := Lib.hid hok
  have HL := Lib.hid hL
  have HKS := Lib.hid hks
  clear hok hL hks
  have HST := Lib.hid (show WalkAt M e ks p J g 0 p [] w1 from ⟨by simp, HV.out.below _ _ _ HJ.out hB, hw, hp⟩)
  clear hw hg hB
  have hlen : (partsP t).length = ks.length := by rw [HKS.out]
  rw [hlen]
  clear hlen
  obtain ⟨n, hn⟩ : ∃ n, n = ks.length := ⟨_, rfl⟩
  rw [← hn]
  have hn3 : n ≤ 3 := by rw [hn, HKS.out]; exact parts_few t
  have HN := Lib.hid hn
  clear hn
  go_wp2_with fail
  go_loopw [1, 19] (fun at' i wr => ∃ (k q : Nat) (vs : Vis), k ≤ n ∧ at' = .int .i64 (q : Nat) ∧ i = .int .i64 (k : Nat) ∧ WalkAt M e ks p J g k q vs wr) (fun _ i _ => n - (intOf i).toNat)
  case atStart => exact ⟨0, p, [], Nat.zero_le _, rfl, rfl, HST.out⟩
  case round =>
    obtain ⟨k, q, vs, hk, rfl, rfl, h1, h2, h3, h4⟩ := hrel
    have H1 := Lib.hid h1
    have H2 := Lib.hid h2
    have H3 := Lib.hid h3
    clear h1 h2 h3 HST
    by_cases hkn : k < n
    · have gk : (k : Int) < (n : Int) := by omega
      have hkl : k < ks.length := by have := HN.out; omega
      obtain ⟨kd, hkd⟩ : ∃ kd, kd = ks[k] := ⟨_, rfl⟩
      have hdrop : ks.drop k = kd :: ks.drop (k + 1) := by rw [hkd]; exact List.drop_eq_getElem_cons hkl
      have hpart : Part kd := by rw [hkd]; exact lst_at HL.out hkl
      have hc : wr.cell? ⟨g, k, none⟩ = some (.int .i64 kd) := by rw [H3.out.cell, hkd]; simp [hkl]
      have HD := Lib.hid hdrop
      clear hkd hdrop
      cases hcut : cutP M e kd q with
      | none =>
        have hno := steps_no (ks := ks.drop (k + 1)) hcut
        rw [← HD.out] at hno
        have HNO := Lib.hid (show steps M e ks p = (vs, none) by rw [H1.out, hno]; simp)
        have HC := Lib.hid hcut
        clear hno hcut
        go_wp2_with fail
        refine (cut_any S M q e kd _ hpart HS.out hM h4 he).mono ?_
        rw [HC.out]
        rintro en w2 ⟨⟨x, z, rfl⟩, hB2⟩
        go_wp2_with fail
        go_ret
        refine ⟨by rw [← HKS.out, HOK.out, HNO.out]; rfl, ?_⟩
        rw [← HKS.out, HNO.out]
        exact HV.out.below _ _ _ H2.out hB2
      | some r =>
        obtain ⟨b, q'⟩ := r
        have hyes := steps_yes (ks := ks.drop (k + 1)) hcut
        rw [← HD.out] at hyes
        simp only at hyes
        obtain ⟨_, _, c3, _, _⟩ := cut_ok hpart h4 he hcut
        simp only at c3
        have HY := Lib.hid (show steps M e ks p = ((vs ++ [(kd, b)]) ++ (steps M e (ks.drop (k + 1)) q').1, (steps M e (ks.drop (k + 1)) q').2) by rw [H1.out, hyes]; simp)
        have HC := Lib.hid hcut
        clear hyes hcut
        go_wp2_with fail
        refine (cut_any S M q e kd _ hpart HS.out hM h4 he).mono ?_
        rw [HC.out]
        rintro en w2 ⟨hen, hB2⟩
        obtain rfl := hen
        have HB2 := Lib.hid hB2
        clear hB2
        go_wp2_with fail
        rw [HV.out.enter, Oper.upon_enter]
        refine (HV.out.call vs kd b w2 ?_ (HV.out.below _ _ _ H2.out HB2.out)).mono ?_
        · rw [HY.out]
          exact ⟨_, rfl⟩
        rintro en w3 ⟨rfl, hJ3, hF3⟩
        have HJ3 := Lib.hid hJ3
        have HW3 := Lib.hid (hF3 _ _ (H3.out.below HB2.out H3.out.lt))
        clear hJ3 hF3
        go_wp2_with fail
        go_roundw
        case rel => exact ⟨k + 1, q', vs ++ [(kd, b)], by omega, rfl, by go_num, HY.out, HJ3.out, HW3.out, c3⟩
        case measure => simp [intOf]; omega
    · obtain rfl : k = n := by omega
      have hdrop : ks.drop k = [] := List.drop_eq_nil_of_le (by have := HN.out; omega)
      have HEN := Lib.hid (show steps M e ks p = (vs, some q) by rw [H1.out, hdrop, steps_nil]; simp)
      clear hdrop
      go_wp2_with fail
      go_ret
      refine ⟨?_, ?_⟩
      · rw [← HKS.out, HOK.out, HEN.out]
        simp
        exact nat_beq q e
      · rw [← HKS.out, HEN.out]
        exact H2.out
end Go.Proofs.Ytdanncclnhkmgaa
