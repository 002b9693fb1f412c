/- Read, Right, Fold. No statement of the seat is proved here. -/
import Derived.Test.YtdanncclnhkmgaaRdaE
namespace Go.Proofs.Ytdanncclnhkmgaa
open Go.RowKit

def rdV : Option (List UInt8) → Value
  | some d => .tuple #[.string (mk d), .int .i64 0]
  | none => .tuple #[.string (mk []), .int .i64 2]
theorem data_some {M : List UInt8} {p e : Nat} {t : Int} (h : okS M e (partsP t) p = true) : dataR M p e t = some (cat (steps M e (partsP t) p).1) := by unfold dataR; rw [if_pos h]
theorem data_none {M : List UInt8} {p e : Nat} {t : Int} (h : okS M e (partsP t) p = false) : dataR M p e t = none := by unfold dataR; rw [if_neg (by rw [h]; simp)]

set_option maxHeartbeats 2000000 in
set_option maxRecDepth 20000 in
theorem DRead_any (S : ByteArray) (M : List UInt8) (p n : Nat) (t : Int) (w : World) (hS : S = mk M) (hM : M.length ≤ 1000000) (he : p + n ≤ M.length) (hn : n ≤ 65535) :
    Calls Try.prog 57 #[.string S, .int .i64 (p : Nat), .int .i64 (n : Nat), .int .i64 t] w fun en w' => en = .returned (rdV (dataR M p (p + n) t)) ∧ Below w.heap.size w w' := by
  have hSz : S.size = M.length := by rw [hS, mk_size]
  have hmf : ∀ (fn : Fn) (first cap : Array Value) (w : World), (Instr.makeFunc fn first cap).run Try.prog w = .ok (.func fn first cap) w := fun _ _ _ _ => rfl
  have g1 : decide ((p : Int) < 0) = false := by rw [decide_eq_false_iff_not]; omega
  have g2 : decide ((n : Int) < 0) = false := by rw [decide_eq_false_iff_not]; omega
  have g3 : decide ((S.size : Int) - (p : Int) < (n : Int)) = false := by rw [decide_eq_false_iff_not]; omega
  have g4 : (n : Int) ≤ 65535 := by omega
  have HS := Lib.hid hS
  have hV := steps_few hM (p + n) p t
  have HVF := Lib.hid hV
  clear hS hV
  go_enter Try.func57, Try.ntmps57
  go_wp2_with fail
  rw [show (p : Int) + (n : Int) = ((p + n : Nat) : Int) by omega]
  refine (walk_any S M p (p + n) t _ _ _ (JB cat w.heap.size w) (vis_read _ _ _ HVF.out) ⟨_, Bd.new w, (Below.refl _ _).alloc (Nat.le_refl _) _⟩ HS.out hM (by omega) he).mono ?_
  rintro en w1 ⟨rfl, v, h1, h2⟩
  have H1 := Lib.hid h1
  have H2 := Lib.hid h2
  clear h1 h2
  cases hok : okS M (p + n) (partsP t) p with
  | false =>
    have HD := Lib.hid (data_none hok)
    clear hok
    go_wp2_with fail
    go_ret2
    exact ⟨by rw [HD.out]; rfl, H2.out⟩
  | true =>
    have HD := Lib.hid (data_some hok)
    clear hok
    go_wp2_with fail
    refine (stringB_any H1.out).mono ?_
    rintro en w2 ⟨rfl, h3, h4⟩
    go_wp2_with fail
    go_ret2
    exact ⟨by rw [HD.out]; rfl, H2.out.trans (H1.out.below h4 H2.out.size)⟩

theorem right_read {t : Int} {D : List UInt8} (hD : D.length ≤ 65535) : rightR t D = match dataR D 0 D.length t with | some d => d == D | none => false := by
  unfold rightR
  rw [decide_eq_true hD, Bool.true_and]
  cases dataR D 0 D.length t with
  | none => rfl
  | some d => rfl

set_option maxHeartbeats 1000000 in
set_option maxRecDepth 20000 in
theorem walkData_any (S : ByteArray) (D : List UInt8) (t : Int) (w : World) (fid : Nat) (cap : Value) (J : Vis → World → Prop) (hV : Vst fid cap (visR t D) J) (hJ : J [] w) (hS : S = mk D) (hD : D.length ≤ 1000000) :
    Calls Try.prog 61 #[.int .i64 t, .string S, .func (.func fid) #[] #[cap]] w fun en w' => en = .returned (.tuple #[]) ∧ J (visR t D) w' := by
  have hSz : S.size = D.length := by rw [hS, mk_size]
  have HS := Lib.hid hS
  have HSZ := Lib.hid hSz
  have HV := Lib.hid hV
  have HJ := Lib.hid hJ
  clear hS hSz hV hJ
  go_enter Try.func61, Try.ntmps61
  go_wp2_with fail
  rw [HSZ.out]
  refine (walk_any S D 0 D.length t _ fid cap J HV.out HJ.out HS.out hD (Nat.zero_le _) (Nat.le_refl _)).mono ?_
  rintro en w1 ⟨rfl, h1⟩
  have H1 := Lib.hid h1
  clear h1
  go_wp2_with fail
  go_end0
  exact ⟨rfl, H1.out⟩

set_option maxHeartbeats 1000000 in
set_option maxRecDepth 20000 in
theorem DRight_any (S : ByteArray) (D : List UInt8) (t : Int) (w : World) (hS : S = mk D) (hD : D.length ≤ 65535) :
    Calls Try.prog 26 #[.int .i64 t, .string S] w fun en w' => en = .returned (.bool (rightR t D)) ∧ Below w.heap.size w w' := by
  have hSz : S.size = D.length := by rw [hS, mk_size]
  have hR := right_read (t := t) hD
  have HS := Lib.hid hS
  have HSZ := Lib.hid hSz
  have HR := Lib.hid hR
  clear hS hSz hR
  go_enter Try.func26, Try.ntmps26
  go_wp2_with fail
  rw [HSZ.out]
  refine (DRead_any S D 0 D.length t _ HS.out (by omega) (by omega) hD).mono ?_
  rw [Nat.zero_add]
  cases hd : dataR D 0 D.length t with
  | none =>
    rw [hd] at HR
    have HD := Lib.hid hd
    clear hd
    unfold rdV
    rintro en w1 ⟨rfl, hB⟩
    go_wp2_with fail
    go_ret
    exact ⟨by rw [HR.out]; rfl, hB⟩
  | some d =>
    rw [hd] at HR
    have HD := Lib.hid hd
    clear hd
    unfold rdV
    rintro en w1 ⟨rfl, hB⟩
    have hbe : ((mk d).toList == S.toList) = (d == D) := by rw [HS.out, mk_beq]
    have HR := Lib.hid (show rightR t D = (d == D) from HR.out)
    cases hbd : (d == D)
    all_goals (
      rw [hbd] at hbe
      have HBD := Lib.hid hbd
      clear hbd
      go_wp2_with fail
      go_ret
      exact ⟨by rw [HR.out, HBD.out]; try rfl, hB⟩)

set_option maxHeartbeats 1000000 in
set_option maxRecDepth 20000 in
theorem DFold_any (S : ByteArray) (D : List UInt8) (t : Int) (w : World) (hS : S = mk D) (hD : D.length ≤ 65535) :
    Calls Try.prog 32 #[.int .i64 t, .string S] w fun en w' => en = .returned (.string (mk (foldD t D))) ∧ Below w.heap.size w w' := by
  have hSz : S.size = D.length := by rw [hS, mk_size]
  have hmf : ∀ (fn : Fn) (first cap : Array Value) (w : World), (Instr.makeFunc fn first cap).run Try.prog w = .ok (.func fn first cap) w := fun _ _ _ _ => rfl
  have HS := Lib.hid hS
  have HSZ := Lib.hid hSz
  clear hS hSz
  cases hr : rightR t D with
  | false =>
    have HR := Lib.hid hr
    have HF := Lib.hid (show foldD t D = [] by unfold foldD; rw [hr]; simp)
    clear hr
    go_enter Try.func32, Try.ntmps32
    go_wp2_with fail
    refine (DRight_any S D t _ HS.out hD).mono ?_
    rw [HR.out]
    rintro en w1 ⟨rfl, hB⟩
    go_wp2_with fail
    go_ret
    exact ⟨by rw [HF.out]; rfl, hB⟩
  | true =>
    have HR := Lib.hid hr
    have HF := Lib.hid (show foldD t D = cat ((visR t D).map foldB1) by unfold foldD; rw [if_pos hr])
    have HVF := Lib.hid (steps_few (M := D) (by omega) D.length 0 t)
    clear hr
    go_enter Try.func32, Try.ntmps32
    go_wp2_with fail
    refine (DRight_any S D t _ HS.out hD).mono ?_
    rw [HR.out]
    rintro en w1 ⟨rfl, hB⟩
    have HB := Lib.hid hB
    clear hB
    go_wp2_with fail
    refine Calls.mono (walkData_any S D t _ _ _ (JB (fun V => cat (V.map foldB1)) w1.heap.size w1) (vis_fold _ _ _ HVF.out) ⟨_, Bd.new w1, (Below.refl _ _).alloc (Nat.le_refl _) _⟩ HS.out (by omega)) ?_
    rintro en w2 ⟨rfl, v, h1, h2⟩
    have H1 := Lib.hid h1
    have H2 := Lib.hid h2
    clear h1 h2
    go_wp2_with fail
    refine (stringB_any H1.out).mono ?_
    rintro en w3 ⟨rfl, h3, h4⟩
    go_wp2_with fail
    go_ret
    exact ⟨by rw [HF.out]; rfl, (HB.out.trans (H2.out.mono HB.out.size)).trans ((H1.out.below h4 H2.out.size).mono HB.out.size)⟩
end Go.Proofs.Ytdanncclnhkmgaa
