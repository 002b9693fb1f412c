/- Parts of the proofs of the statements of image. No statement of the seat is proved here. -/
import Derived.Test.YtnbapaimpoobkaaGreatDoorRdB
import Derived.Test.YtnbapaimpoobkaaGreatDoorPaF
import Derived.Test.YtnbapaimpoobkaaGreatDoorPaC
import Derived.Test.YtnbapaimpoobkaaGreatDoorNaI
import Derived.Test.YtnbapaimpoobkaaGreatDoorNaE
import Derived.Deep.AppendSrc
namespace Go.Proofs.YtnbapaimpoobkaaGreatDoor
open Go.RowKit

/-! ### the visitor that writes to a packer -/
def AllOk (V : Vis) : Prop := ∀ x ∈ V, Part x.1 ∧ Okp x.1 x.2
theorem wf_all : ∀ {V : Vis}, WF V → AllOk V
  | [], _ => fun x hx => by cases hx
  | (k, b) :: V, ⟨h1, h2, _, h4⟩ => fun x hx => by
    rcases List.mem_cons.1 hx with rfl | hx
    · exact ⟨h1, h2⟩
    · exact wf_all h4 x hx
theorem AllOk.pre {V a : Vis} (h : AllOk V) (hp : a <+: V) : AllOk a := fun x hx => h x (hp.subset hx)
theorem write_inv (may : Bool) : ∀ (V : Vis) (st : WSt), InvK st.1 st.2 → AllOk V → InvK (writeV may V st).1 (writeV may V st).2 ∧ ∃ z, (writeV may V st).1 = st.1 ++ z ∧ z.length ≤ (cat V).length := by
  intro V
  induction V with
  | nil => intro st hi _; exact ⟨hi, [], by simp [writeV], by simp⟩
  | cons x V ih =>
    obtain ⟨k, b⟩ := x
    intro st hi ha
    obtain ⟨hk, ho⟩ := ha (k, b) (by simp)
    obtain ⟨p1, ⟨z, hz, hzl⟩, _⟩ := put_part may hi hk ho
    simp only at hzl
    obtain ⟨i1, z2, hz2, hz2l⟩ := ih (putV may st (k, b)) p1 (fun y hy => ha y (List.mem_cons_of_mem _ hy))
    rw [write_cons]
    exact ⟨i1, z ++ z2, by rw [hz2, hz, List.append_assoc], by rw [cat_cons, List.length_append, List.length_append]; omega⟩
theorem write_snoc (may : Bool) (V : Vis) (x : Int × List UInt8) (st : WSt) : writeV may (V ++ [x]) st = putV may (writeV may V st) x := by simp [writeV]
abbrev ppT : TypeId := 146
def JW (B b m c0 : Nat) (v0 : Value) (st : WSt) (w0 : World) (vs : Vis) (W : World) : Prop :=
  ∃ v, Pk B W b m v (writeV true vs st).1 (writeV true vs st).2 (writeV true vs st).1.length ∧ Kp b m v0 v w0 W ∧ Whole W c0 ppT #[pkP b] ∧ B ≤ W.heap.size

set_option maxHeartbeats 2000000 in
set_option maxRecDepth 20000 in
theorem vis_write (V : Vis) (B b m c0 : Nat) (v0 : Value) (st : WSt) (w0 : World) (hV : AllOk V) (hc : (cat V).length ≤ 70000) (hl : st.1.length ≤ 800000) (hi : InvK st.1 st.2) : Vst 232 (.pointer (some ⟨c0, 0, none⟩)) V (JW B b m c0 v0 st w0) where
  enter := enters_of Tryz.func232 (by kernel_rfl) rfl
  below := fun vs w w' ⟨v, h1, h2, h3, h4⟩ hb => ⟨v, h1.same hb, h2.to hb, h3.below hb h3.lt, Nat.le_trans h4 hb.size⟩
  call := fun vs k s w hp ⟨v, h1, h2, h3, h4⟩ => by
    have hcp := cat_pre hp
    rw [cat_snoc, List.length_append] at hcp
    obtain ⟨hk, ho⟩ := hV (k, s) (hp.subset (by simp))
    obtain ⟨hi2, z, hz, hzl⟩ := write_inv true vs st hi (hV.pre ((List.prefix_append vs _).trans hp))
    have hsn := write_snoc true vs (k, s) st
    obtain ⟨st2, hst2⟩ : ∃ st2, st2 = writeV true vs st := ⟨_, rfl⟩
    rw [← hst2] at h1 hi2 hz hsn
    have hl2 : st2.1.length ≤ 870000 := by rw [hz, List.length_append]; omega
    obtain ⟨l, K⟩ := st2
    simp only at h1 hi2 hl2
    have hK : ∀ r t, K r = some t → t < 16384 := fun r t h => (hi2 r t h).2.1
    have H1 := Lib.hid h1
    have H2 := Lib.hid h2
    have H3 := Lib.hid h3
    have hc0 := h3.cell1
    have HSN := Lib.hid hsn
    clear h1 h2 h3 hz hst2 hp hi2 hsn
    obtain ⟨o1, _, _⟩ := ho
    by_cases hnm : k = -1 ∨ k = -2
    · obtain ⟨L, hN⟩ := o1 hnm
      have hput : ∀ mm : Bool, (mm = decide (k = -1)) → putV true (l, K) (k, s) = putL mm L l K := by
        intro mm hm
        unfold putV
        simp only
        rcases hnm with rfl | rfl
        · rw [if_pos rfl, hN]; simp at hm; rw [hm]
        · rw [if_neg (by decide), if_pos rfl, hN]; simp at hm; rw [hm]
      have HN := Lib.hid hN
      have HPUT := Lib.hid hput
      clear hN hput o1 hk
      rcases hnm with rfl | rfl
      · have HP := Lib.hid (HSN.out.trans (HPUT.out true rfl))
        go_enter Tryz.func232, Tryz.ntmps232
        go_wp2_with fail
        refine (Name_yes H1.out (mk s) s L true rfl HN.out (by omega) h4 hK).mono ?_
        rintro e w1 ⟨rfl, v', h5, h6⟩
        have H5 := Lib.hid h5
        have H6 := Lib.hid h6
        clear h5 h6
        go_wp2_with fail
        go_end0
        refine ⟨rfl, ⟨v', by rw [HP.out]; exact H5.out, H2.out.trans H6.out, H6.out.whole H3.out H1.out (by decide) (by decide), Nat.le_trans h4 H6.out.size⟩, fun g cs hw => H6.out.whole hw H1.out (by decide) (by decide)⟩
      · have HP := Lib.hid (HSN.out.trans (HPUT.out false rfl))
        go_enter Tryz.func232, Tryz.ntmps232
        go_wp2_with fail
        refine (Name_yes H1.out (mk s) s L false rfl HN.out (by omega) h4 hK).mono ?_
        rintro e w1 ⟨rfl, v', h5, h6⟩
        have H5 := Lib.hid h5
        have H6 := Lib.hid h6
        clear h5 h6
        go_wp2_with fail
        go_end0
        refine ⟨rfl, ⟨v', by rw [HP.out]; exact H5.out, H2.out.trans H6.out, H6.out.whole H3.out H1.out (by decide) (by decide), Nat.le_trans h4 H6.out.size⟩, fun g cs hw => H6.out.whole hw H1.out (by decide) (by decide)⟩
    · have hput : putV true (l, K) (k, s) = (l ++ s, K) := by
        unfold putV
        simp only
        rw [if_neg (by omega), if_neg (by omega)]
      have HP := Lib.hid (HSN.out.trans hput)
      have k1 : (k == -1) = false := by rw [beq_eq_false_iff_ne]; omega
      have k2 : (k == -2) = false := by rw [beq_eq_false_iff_ne]; omega
      clear hput o1 hnm hk
      go_enter Tryz.func232, Tryz.ntmps232
      go_wp2_with fail
      refine (Raw_any H1.out (mk s) (by rw [mk_size]; omega) h4).mono ?_
      rintro e w1 ⟨rfl, v', h5, h6⟩
      have H5 := Lib.hid h5
      have H6 := Lib.hid h6
      clear h5 h6
      go_wp2_with fail
      go_end0
      refine ⟨rfl, ⟨v', by rw [HP.out]; exact H5.out.more (by simp), H2.out.trans H6.out, H6.out.whole H3.out H1.out (by decide) (by decide), Nat.le_trans h4 H6.out.size⟩, fun g cs hw => H6.out.whole hw H1.out (by decide) (by decide)⟩

set_option maxHeartbeats 2000000 in
set_option maxRecDepth 20000 in
theorem Write_yes {B b m : Nat} {w : World} {v : Value} {l : List UInt8} {K : Kn} (h : Pk B w b m v l K l.length) (S : ByteArray) (D : List UInt8) (t : Int) (hS : S = mk D) (hD : D.length ≤ 65535) (hr : rightR t D = true) (hl : l.length ≤ 800000) (hBw : B ≤ w.heap.size) (hK : InvK l K) :
    Calls Tryz.prog 208 #[pkP b, .int .i64 t, .string S] w fun e w' => e = .returned (.int .i64 0) ∧
      ∃ v', Pk B w' b m v' (writeV true (visR t D) (l, K)).1 (writeV true (visR t D) (l, K)).2 (writeV true (visR t D) (l, K)).1.length ∧ Kp b m v v' w w' := by
  have hmf : ∀ (fn : Fn) (first cap : Array Value) (w : World), (Instr.makeFunc fn first cap).run Tryz.prog w = .ok (.func fn first cap) w := fun _ _ _ _ => rfl
  obtain ⟨_, _, hcat, hwf, _⟩ := right_is hr
  have HVIS := fun (v0 : Value) (c0 : Nat) (w0 : World) => vis_write (visR t D) B b m c0 v0 (l, K) w0 (wf_all hwf) (by rw [hcat]; omega) hl hK
  have hb0 : Below w.heap.size w (w.alloc (.cells #[pkP b] ppT)) := (Below.refl _ _).alloc (Nat.le_refl _) _
  have HH := Lib.hid (h.same hb0)
  have HK0 := Lib.hid (Kp.of_below (b := b) (m := m) (v := v) hb0)
  have HW := Lib.hid (Whole.new w ppT #[pkP b])
  have HV := Lib.hid HVIS
  have HS := Lib.hid hS
  have HR := Lib.hid hr
  clear h hS hr HVIS hb0 hwf hcat
  go_enter Tryz.func208, Tryz.ntmps208
  go_wp2_with fail
  refine (DRight_any S D t _ HS.out hD).mono ?_
  rw [HR.out]
  rintro e w1 ⟨rfl, hB⟩
  have HJ := Lib.hid (show JW B b m w.heap.size v (l, K) w [] w1 from ⟨v, HH.out.same hB, HK0.out.to hB, HW.out.below hB HW.out.lt, Nat.le_trans hBw (HK0.out.to hB).size⟩)
  clear hB
  go_wp2_with fail
  refine Calls.mono (walkData_any S D t _ _ _ (JW B b m w.heap.size v (l, K) w) (HV.out v w.heap.size w) HJ.out HS.out (by omega)) ?_
  rintro e w2 ⟨rfl, v', h1, h2, h3, h4⟩
  go_wp2_with fail
  go_ret
  exact ⟨rfl, v', h1, h2⟩
end Go.Proofs.YtnbapaimpoobkaaGreatDoor
namespace Go.Proofs.YtnbapaimpoobkaaGreatDoor
open Go.RowKit

def beh : Option Nat → Int
  | none => -1
  | some k => (k : Int)
theorem labs_snoc (L : List (List UInt8)) (x : List UInt8) : labs (L ++ [x]) = labs L ++ lab x := by rw [labs_append]; simp [labs]
theorem Good.snoc {L : List (List UInt8)} {x : List UInt8} (h : Good L) (h1 : x ≠ []) (h2 : x.length ≤ 63) : Good (L ++ [x]) := by
  intro y hy
  rcases List.mem_append.1 hy with hy | hy
  · exact h y hy
  · rw [List.mem_singleton] at hy; subst hy; exact ⟨h1, h2⟩
theorem nameL_long {L : List (List UInt8)} (h : 255 < (enc L).length) : nameL (enc L) = none := by unfold nameL; rw [if_pos h]
theorem enc_len (L : List (List UInt8)) : (enc L).length = (labs L).length + 1 := by unfold enc; simp

section
variable {M : List UInt8} {L : List (List UInt8)} {s p d d2 : Nat} {nx : Option Nat}
theorem rq_zero (hp : p < M.length) (hd : d = M[p].toNat) (h0 : d = 0) :
    readR M (labs L) s p nx = if (enc L).length ≤ 255 then some (enc L, nx.getD (p + 1)) else none := by
  by_cases hl : (enc L).length ≤ 255
  · rw [if_pos hl, rd_zero (by have := enc_len L; omega) (drop_cons hp) (by omega)]; rfl
  · rw [if_neg hl, rd_full (by have := enc_len L; omega)]
theorem rq_ptr1 (hp : p < M.length) (hd : d = M[p].toNat) (h : 192 ≤ d) (hl : M.length ≤ p + 1) : readR M (labs L) s p nx = none := by
  have h1 := drop_cons hp
  have h2 : M.drop (p + 1) = [] := List.drop_eq_nil_of_le (by omega)
  rw [h2] at h1
  exact rd_ptr1 h1 (by omega)
theorem rq_fore (hp : p + 1 < M.length) (hd : d = (M[p]'(by omega)).toNat) (hd2 : d2 = M[p + 1].toNat) (h : 192 ≤ d) (ht : s ≤ (d - 192) * 256 + d2) : readR M (labs L) s p nx = none := by
  have h1 := drop_cons (show p < M.length by omega)
  rw [drop_cons hp] at h1
  exact rd_fore h1 (by omega) (by rw [← hd, ← hd2]; exact ht)
theorem rq_ptr (hp : p + 1 < M.length) (hd : d = (M[p]'(by omega)).toNat) (hd2 : d2 = M[p + 1].toNat) (h : 192 ≤ d) (ht : (d - 192) * 256 + d2 < s) :
    readR M (labs L) s p nx = readR M (labs L) ((d - 192) * 256 + d2) ((d - 192) * 256 + d2) (some (nx.getD (p + 2))) := by
  by_cases hl : (labs L).length < 255
  · have h1 := drop_cons (show p < M.length by omega)
    rw [drop_cons hp] at h1
    rw [rd_ptr hl h1 (by omega) (by rw [← hd, ← hd2]; exact ht), ← hd, ← hd2]
  · rw [rd_full (by omega), rd_full (by omega)]
theorem rq_bad (hp : p < M.length) (hd : d = M[p].toNat) (h0 : d ≠ 0) (h1 : d < 192) (h : ¬ (d < 64 ∧ p + 1 + d ≤ M.length)) : readR M (labs L) s p nx = none :=
  rd_bad (drop_cons hp) (by rw [← hd]; exact h0) (by omega) (by rw [List.length_drop, ← hd]; omega)
theorem rq_lab (hp : p < M.length) (hd : d = M[p].toNat) (_h0 : d ≠ 0) (h1 : d < 64) (h : p + 1 + d ≤ M.length) :
    readR M (labs L) s p nx = readR M (labs (L ++ [(M.drop (p + 1)).take d])) s (p + 1 + d) nx ∧ (M.take (p + 1 + d)).drop p = lab ((M.drop (p + 1)).take d) ∧ ((M.drop (p + 1)).take d).length = d := by
  have hlen : ((M.drop (p + 1)).take d).length = d := by simp; omega
  have hlab : lab ((M.drop (p + 1)).take d) = M[p] :: (M.drop (p + 1)).take d := by
    unfold lab; rw [hlen, hd]; simp
  refine ⟨?_, ?_, hlen⟩
  · rw [labs_snoc, hlab]
    by_cases hl : (labs L).length < 255
    · rw [rd_lab hl (drop_cons hp) (by omega) (by omega) (by simp; omega), ← hd]
    · rw [rd_full (by omega), rd_full (by simp; omega)]
  · rw [hlab, List.drop_take, show p + 1 + d - p = d + 1 by omega, drop_cons hp, List.take_succ_cons]
end

def RefRd (M : List UInt8) (R : Option (List UInt8 × Nat)) (w : World) (nV beV stV atV : Value) (wr : World) : Prop :=
  ∃ L s p nx, nV = .string (mk (labs L)) ∧ Good L ∧ beV = .int .i64 (beh nx) ∧ stV = .int .i64 ((s : Nat) : Int) ∧ atV = .int .i64 ((p : Nat) : Int) ∧ R = readR M (labs L) s p nx ∧ p ≤ M.length ∧ s ≤ M.length ∧
    (labs L).length ≤ 363 ∧ Below w.heap.size w wr
def sizeV : Value → Nat
  | .string s => s.size
  | _ => 0

set_option maxHeartbeats 4000000 in
set_option maxRecDepth 20000 in
theorem RefRead_in (S : ByteArray) (M : List UInt8) (p0 : Nat) (w : World) (hS : S = mk M) (hM : M.length ≤ 1000000) (hp : p0 ≤ M.length) :
    Calls Tryz.prog 149 #[.string S, .int .i64 (p0 : Nat)] w fun e w' => e = .returned (readV (readR M [] p0 p0 none)) ∧ Below w.heap.size w w' := by
  obtain ⟨R, hR⟩ : ∃ R, R = readR M [] p0 p0 none := ⟨_, rfl⟩
  rw [← hR]
  have hSz : S.size = M.length := by rw [hS, mk_size]
  have g2 : decide ((p0 : Int) < 0) = false := by rw [decide_eq_false_iff_not]; omega
  have g3 : decide (S.size < p0) = false := by rw [decide_eq_false_iff_not]; omega
  have HS := Lib.hid hS
  have HR := Lib.hid hR
  have HSZ := Lib.hid hSz
  clear hS hR hSz
  go_enter Tryz.func149, Tryz.ntmps149
  go_wp2_with fail
  go_loopw [1, 7, 8, 9] (fun at' nV beV stV wr => RefRd M R w nV beV stV at' wr) (fun _ nV _ stV _ => (intOf stV).toNat + (300 - sizeV nV))
  case atStart => exact ⟨[], p0, p0, none, rfl, fun _ h => (by cases h), rfl, rfl, rfl, HR.out, hp, hp, by simp [labs], Below.refl _ _⟩
  case round =>
    obtain ⟨L, s, p, nx, rfl, hg, rfl, rfl, rfl, hR, hpM, hsM, hL363, hB⟩ := hrel
    obtain ⟨N, hN⟩ : ∃ N, N = mk (labs L) := ⟨_, rfl⟩
    rw [← hN]
    have hNz : N.size = (labs L).length := by rw [hN, mk_size]
    have HN := Lib.hid hN
    have HNZ := Lib.hid hNz
    have HG := Lib.hid hg
    have HB := Lib.hid hB
    have HRR := Lib.hid hR
    have hN363 : N.size ≤ 363 := by omega
    clear hN hNz hg hB hR
    by_cases hlt : p < S.size
    · have hpM' : p < M.length := by have := HSZ.out; omega
      by_cases h300 : N.size < 300
      · have h300I : (N.size : Int) < 300 := by omega
        have hltI : (p : Int) < (S.size : Int) := by omega
        obtain ⟨d, hd⟩ : ∃ d, d = M[p].toNat := ⟨_, rfl⟩
        have hc : (S[p]'hlt).toNat = d := by rw [mk_get HS.out hlt hpM', hd]
        have hd255 : d ≤ 255 := by have := M[p].toNat_lt; omega
        have HD := Lib.hid hd
        clear hd
        by_cases h0 : d = 0
        · have hz := rq_zero (L := L) (s := s) (nx := nx) hpM' HD.out h0
          subst h0
          have HZ := Lib.hid (HRR.out.trans hz)
          have hn2 : N ++ ⟨#[0]⟩ = mk (enc L) := by
            rw [HN.out, show (⟨#[0]⟩ : ByteArray) = mk [0] from rfl, mk_append]; rfl
          have hn2z : (mk (enc L)).size = N.size + 1 := by rw [mk_size, enc_len, HNZ.out]
          have HN2 := Lib.hid hn2
          clear hz hn2
          cases nx with
          | none =>
            have hbe : beh none = -1 := rfl
            by_cases hl : (enc L).length ≤ 255
            · rw [if_pos hl] at HZ
              have hok : (nameL (enc L)).isSome = true := by rw [nameL_enc HG.out hl]; rfl
              go_wp2_with fail
              rw [HN2.out]
              refine (RefRight_any (mk (enc L)) (enc L) _ rfl).mono ?_
              rw [hok]
              rintro e w1 ⟨rfl, hB1⟩
              go_wp2_with fail
              go_ret3
              exact ⟨by rw [HZ.out]; rfl, HB.out.trans (hB1.mono HB.out.size)⟩
            · rw [if_neg hl] at HZ
              have hok : (nameL (enc L)).isSome = false := by rw [nameL_long (by omega)]; rfl
              go_wp2_with fail
              rw [HN2.out]
              refine (RefRight_any (mk (enc L)) (enc L) _ rfl).mono ?_
              rw [hok]
              rintro e w1 ⟨rfl, hB1⟩
              go_wp2_with fail
              go_ret3
              exact ⟨by rw [HZ.out]; rfl, HB.out.trans (hB1.mono HB.out.size)⟩
          | some k =>
            have hbe : (0 : Int) ≤ beh (some k) := by simp [beh]
            by_cases hl : (enc L).length ≤ 255
            · rw [if_pos hl] at HZ
              have hok : (nameL (enc L)).isSome = true := by rw [nameL_enc HG.out hl]; rfl
              go_wp2_with fail
              rw [HN2.out]
              refine (RefRight_any (mk (enc L)) (enc L) _ rfl).mono ?_
              rw [hok]
              rintro e w1 ⟨rfl, hB1⟩
              go_wp2_with fail
              go_ret3
              exact ⟨by rw [HZ.out]; rfl, HB.out.trans (hB1.mono HB.out.size)⟩
            · rw [if_neg hl] at HZ
              have hok : (nameL (enc L)).isSome = false := by rw [nameL_long (by omega)]; rfl
              go_wp2_with fail
              rw [HN2.out]
              refine (RefRight_any (mk (enc L)) (enc L) _ rfl).mono ?_
              rw [hok]
              rintro e w1 ⟨rfl, hB1⟩
              go_wp2_with fail
              go_ret3
              exact ⟨by rw [HZ.out]; rfl, HB.out.trans (hB1.mono HB.out.size)⟩
        · have h0I : ((d : Int) == 0) = false := by rw [beq_eq_false_iff_ne]; omega
          have h0p : (0 : Int) < (d : Int) := by omega
          by_cases h192 : 192 ≤ d
          · have g192 : (192 : Int) ≤ (d : Int) := by omega
            by_cases hp1 : p + 1 < S.size
            · have hp1I : (p : Int) + 1 < (S.size : Int) := by omega
              have hp1M : p + 1 < M.length := by have := HSZ.out; omega
              obtain ⟨d2, hd2⟩ : ∃ d2, d2 = M[p + 1].toNat := ⟨_, rfl⟩
              have hc2 : (S[p + 1]'hp1).toNat = d2 := by rw [mk_get HS.out hp1 hp1M, hd2]
              have hd2255 : d2 ≤ 255 := by have := M[p + 1].toNat_lt; omega
              have HD2 := Lib.hid hd2
              clear hd2
              by_cases hts : (d - 192) * 256 + d2 < s
              · have gts : ((d : Int) - 192) * 256 + (d2 : Int) < (s : Int) := by omega
                cases nx with
                | none =>
                  have hbe : beh none = -1 := rfl
                  go_wp2_with fail
                  go_roundw
                  case rel =>
                    exact ⟨L, (d - 192) * 256 + d2, (d - 192) * 256 + d2, some (p + 2), by rw [HN.out], HG.out, rfl, by congr 1; omega, by congr 1; omega, HRR.out.trans (rq_ptr hp1M HD.out HD2.out h192 hts), by omega, by omega, hL363, HB.out⟩
                  case measure => simp only [intOf, sizeV]; omega
                | some k =>
                  have hbe : (0 : Int) ≤ beh (some k) := by simp [beh]
                  go_wp2_with fail
                  go_roundw
                  case rel =>
                    exact ⟨L, (d - 192) * 256 + d2, (d - 192) * 256 + d2, some k, by rw [HN.out], HG.out, rfl, by congr 1; omega, by congr 1; omega, HRR.out.trans (rq_ptr hp1M HD.out HD2.out h192 hts), by omega, by omega, hL363, HB.out⟩
                  case measure => simp only [intOf, sizeV]; omega
              · have gts : (s : Int) ≤ ((d : Int) - 192) * 256 + (d2 : Int) := by omega
                have HE := Lib.hid (HRR.out.trans (rq_fore (L := L) (s := s) (nx := nx) hp1M HD.out HD2.out h192 (by omega)))
                go_wp2_with fail
                go_ret3
                exact ⟨by rw [HE.out]; rfl, HB.out⟩
            · have hp1I : (S.size : Int) ≤ (p : Int) + 1 := by omega
              have HE := Lib.hid (HRR.out.trans (rq_ptr1 (L := L) (s := s) (nx := nx) hpM' HD.out h192 (by have := HSZ.out; omega)))
              go_wp2_with fail
              go_ret3
              exact ⟨by rw [HE.out]; rfl, HB.out⟩
          · have g192 : decide ((192 : Int) ≤ (d : Int)) = false := by rw [decide_eq_false_iff_not]; omega
            by_cases h64 : d < 64
            · have g64 : (d : Int) < 64 := by omega
              by_cases hfar : p + 1 + d ≤ S.size
              · have gfar : (p : Int) + 1 + (d : Int) ≤ (S.size : Int) := by omega
                obtain ⟨e1, e2, e3⟩ := rq_lab (L := L) (s := s) (nx := nx) hpM' HD.out h0 h64 (by have := HSZ.out; omega)
                have hx : (M.drop (p + 1)).take d ≠ [] := by intro e; rw [e] at e3; simp at e3; omega
                have hn2 : N ++ S.extract p (p + 1 + d) = mk (labs (L ++ [(M.drop (p + 1)).take d])) := by
                  rw [HN.out, HS.out, mk_extract, e2, mk_append, labs_snoc]
                have hl2 : (labs (L ++ [(M.drop (p + 1)).take d])).length = N.size + (d + 1) := by
                  rw [labs_snoc, List.length_append, lab_len, e3, HNZ.out]
                have hn2z : (N ++ S.extract p (p + 1 + d)).size = N.size + (d + 1) := by rw [hn2, mk_size, hl2]
                have HX := Lib.hid hx
                have HN2 := Lib.hid hn2
                have HN2Z := Lib.hid hn2z
                have HL2 := Lib.hid hl2
                have HE1 := Lib.hid (HRR.out.trans e1)
                have HE3 := Lib.hid e3
                clear hx hn2 hn2z hl2 e1 e2 e3
                go_wp2_with fail
                go_roundw
                case rel =>
                  exact ⟨L ++ [(M.drop (p + 1)).take d], s, p + 1 + d, nx, by rw [HN2.out], HG.out.snoc HX.out (by have := HE3.out; omega), rfl, rfl, by congr 1; omega, HE1.out, by have := HSZ.out; omega, hsM, by have := HL2.out; omega, HB.out⟩
                case measure => simp only [intOf, sizeV, HN2Z.out]; omega
              · have gfar : (S.size : Int) < (p : Int) + 1 + (d : Int) := by omega
                have HE := Lib.hid (HRR.out.trans (rq_bad (L := L) (s := s) (nx := nx) hpM' HD.out h0 (by omega) (by have := HSZ.out; omega)))
                go_wp2_with fail
                go_ret3
                exact ⟨by rw [HE.out]; rfl, HB.out⟩
            · have g64 : (64 : Int) ≤ (d : Int) := by omega
              have HE := Lib.hid (HRR.out.trans (rq_bad (L := L) (s := s) (nx := nx) hpM' HD.out h0 (by omega) (by omega)))
              go_wp2_with fail
              go_ret3
              exact ⟨by rw [HE.out]; rfl, HB.out⟩
      · have h300I : decide ((N.size : Int) < 300) = false := by rw [decide_eq_false_iff_not]; omega
        have hltI : (p : Int) < (S.size : Int) := by omega
        have HE := Lib.hid (HRR.out.trans (rd_full (m := M) (s := s) (p := p) (nx := nx) (by have := HNZ.out; omega)))
        go_wp2_with fail
        go_ret3
        exact ⟨by rw [HE.out]; rfl, HB.out⟩
    · have hltI : decide ((p : Int) < (S.size : Int)) = false := by rw [decide_eq_false_iff_not]; omega
      have HE := Lib.hid (HRR.out.trans (rd_end (m := M) (s := s) (p := p) (nx := nx) (n := labs L) (List.drop_eq_nil_of_le (by have := HSZ.out; omega))))
      go_wp2_with fail
      go_ret3
      exact ⟨by rw [HE.out]; rfl, HB.out⟩
end Go.Proofs.YtnbapaimpoobkaaGreatDoor
namespace Go.Proofs.YtnbapaimpoobkaaGreatDoor
open Go.RowKit
set_option maxRecDepth 20000

theorem dotEnc_len (L : List (List UInt8)) : (enc L).length = (labs L).length + 1 := by simp [enc]
theorem labs_take {L : List (List UInt8)} {k : Nat} (h : k < L.length) : labs (L.take (k + 1)) = labs (L.take k) ++ lab L[k] := by
  rw [List.take_succ_eq_append_getElem h, labs_append]; simp [labs]
theorem ofN_long {L : List (List UInt8)} (h : [] ∉ L) (h' : (∃ x ∈ L, 63 < x.length) ∨ 255 < (enc L).length) : ofN L = ([], 3) := by unfold ofN; rw [if_neg h, if_pos h']
theorem ofN_ok {L : List (List UInt8)} (h : [] ∉ L) (h' : ¬ ((∃ x ∈ L, 63 < x.length) ∨ 255 < (enc L).length)) : ofN L = (enc L, 0) := by unfold ofN; rw [if_neg h, if_neg h']
/-- where the loop stands -/
def OfAt (L : List (List UInt8)) (k : Nat) (S : ByteArray) : Prop := S = mk (labs (L.take k)) ∧ (∀ x ∈ L.take k, x.length ≤ 63) ∧ S.size ≤ 254
theorem OfAt.start (L : List (List UInt8)) : OfAt L 0 ⟨#[]⟩ := ⟨rfl, by simp, by decide⟩
theorem OfAt.len {L : List (List UInt8)} {k : Nat} {S : ByteArray} (h : OfAt L k S) : S.size = (labs (L.take k)).length := by rw [h.1, mk_size]
theorem OfAt.step {L : List (List UInt8)} {k : Nat} {S : ByteArray} (h : OfAt L k S) (hk : k < L.length) (hx : L[k].length ≤ 63) (hs : S.size + 1 + L[k].length + 1 ≤ 255) : OfAt L (k + 1) (S ++ mk (lab L[k])) := by
  refine ⟨by rw [h.1, mk_append, labs_take hk], fun x hm => ?_, ?_⟩
  · rw [List.take_succ_eq_append_getElem hk, List.mem_append, List.mem_singleton] at hm
    rcases hm with hm | hm
    · exact h.2.1 x hm
    · subst hm; exact hx
  · rw [ByteArray.size_append, mk_size, lab_len]; omega
theorem OfAt.done {L : List (List UInt8)} {k : Nat} {S : ByteArray} (h : OfAt L k S) (hk : L.length ≤ k) (hE : [] ∉ L) : S ++ ⟨#[0]⟩ = mk (ofN L).1 ∧ (ofN L).2 = 0 := by
  have e : L.take k = L := List.take_of_length_le hk
  have hl := h.len
  rw [e] at hl
  have ho := ofN_ok hE (by
    rintro (⟨x, hx, hx'⟩ | hx)
    · have := h.2.1 x (by rw [e]; exact hx)
      omega
    · rw [dotEnc_len] at hx
      have := h.2.2
      omega)
  rw [ho]
  refine ⟨?_, rfl⟩
  rw [h.1, e]
  show mk (labs L) ++ mk [0] = _
  rw [mk_append]
  rfl

end Go.Proofs.YtnbapaimpoobkaaGreatDoor
namespace Go.Proofs.YtnbapaimpoobkaaGreatDoor
open Go.RowKit
set_option maxRecDepth 20000

theorem labs_bound (L : List (List UInt8)) (h : ∀ x ∈ L, x.length ≤ 63) : (labs L).length ≤ 64 * L.length := by
  induction L with
  | nil => simp [labs]
  | cons x L ih =>
    have h1 := h x (by simp)
    have h2 := ih fun y hy => h y (List.mem_cons_of_mem _ hy)
    simp only [labs, List.length_append, lab_len, List.length_cons]
    omega
/-- one byte, read back as a string -/
theorem byte_str (q g cap : Nat) (W : World) (hq : q < 256) (hc : W.cell? ⟨g, 0, none⟩ = some (.int .u8 (q : Nat))) :
    (convert 64 9 (.slice (some ⟨g, 0, none⟩) 1 cap)).run Tryz.prog W = .ok (.string ⟨#[UInt8.ofNat q]⟩) W := by
  refine run_convert_bytes_back W _ _ 5 ⟨g, 0, none⟩ cap [UInt8.ofNat q] Tryz.underlying64 Tryz.underlying5 Tryz.underlying9 (fun j hj => ?_)
  have hj0 : j = 0 := by simpa using hj
  subst hj0
  rw [show (⟨g, 0, none⟩ : Addr).add 0 = ⟨g, 0, none⟩ from rfl, hc]
  simp only [List.getElem_cons_zero, UInt8.toNat_ofNat']
  rw [Nat.mod_eq_of_lt (by omega)]
/-- where the second loop of the reference's Of stands -/
def OfRef (L : List (List UInt8)) (k : Nat) (S : ByteArray) : Prop := S = mk (labs (L.take k)) ∧ (∀ x ∈ L.take k, x.length ≤ 63)
theorem OfRef.start (L : List (List UInt8)) : OfRef L 0 ⟨#[]⟩ := ⟨rfl, by simp⟩
theorem OfRef.size {L : List (List UInt8)} {k : Nat} {S : ByteArray} (h : OfRef L k S) : S.size ≤ 64 * k := by
  rw [h.1, mk_size]
  have := labs_bound _ h.2
  have h2 : (L.take k).length ≤ k := by simp; omega
  omega
theorem OfRef.step {L : List (List UInt8)} {k : Nat} {S : ByteArray} (h : OfRef L k S) (hk : k < L.length) (hx : L[k].length ≤ 63) : OfRef L (k + 1) (S ++ (⟨#[UInt8.ofNat L[k].length]⟩ ++ mk L[k])) := by
  refine ⟨?_, fun x hm => ?_⟩
  · rw [h.1]
    show mk _ ++ (mk [UInt8.ofNat L[k].length] ++ mk L[k]) = _
    rw [mk_append, mk_append, labs_take hk]
    rfl
  · rw [List.take_succ_eq_append_getElem hk, List.mem_append, List.mem_singleton] at hm
    rcases hm with hm | hm
    · exact h.2 x hm
    · subst hm; exact hx
theorem OfRef.done {L : List (List UInt8)} {k : Nat} {S : ByteArray} (h : OfRef L k S) (hk : L.length ≤ k) (hE : [] ∉ L) :
    (254 < S.size → ofN L = ([], 3)) ∧ (¬ 254 < S.size → S ++ ⟨#[0]⟩ = mk (ofN L).1 ∧ (ofN L).2 = 0) := by
  have e : L.take k = L := List.take_of_length_le hk
  have hS := h.1
  rw [e] at hS
  have hl : S.size = (labs L).length := by rw [hS, mk_size]
  refine ⟨fun h1 => ofN_long hE (.inr (by rw [dotEnc_len]; omega)), fun h1 => ?_⟩
  have ho := ofN_ok hE (by
    rintro (⟨x, hx, hx'⟩ | hx)
    · have := h.2 x (by rw [e]; exact hx)
      omega
    · rw [dotEnc_len] at hx
      omega)
  rw [ho]
  refine ⟨?_, rfl⟩
  rw [hS]
  show mk (labs L) ++ mk [0] = _
  rw [mk_append]
  rfl

end Go.Proofs.YtnbapaimpoobkaaGreatDoor
