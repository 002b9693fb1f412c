/- Parts of the proofs of the statements of image. No statement of the seat is proved here. -/
import Derived.Test.YtmpginmdaeclaaaGreatDoorPaA
import Derived.Test.YtmpginmdaeclaaaGreatDoorNaI
import Derived.Deep.RegionLaw
import Derived.Deep.AppendLies
import Derived.Deep.AppendSrc
import Derived.Test.YtmpginmdaeclaaaGreatDoorRdB
set_option maxHeartbeats 32000000
set_option maxRecDepth 20000
namespace Go.Proofs.YtmpginmdaeclaaaGreatDoor
open Go.RowKit
theorem Kp.whole {B b m c : Nat} {w w' : World} {v v' : Value} {l0 : List UInt8} {K0 : Kn} {g t : Nat} {cs : Array Value} (hw : Whole w g t cs) (hp : Pk B w b m v l0 K0 c) (hk : Kp b m v v' w w') (h1 : t ≠ pkT) (h2 : t ≠ 5) : Whole w' g t cs := by
  have hgb : g ≠ b := by
    rintro rfl; obtain ⟨p, _, hb⟩ := hp.blk
    rw [hw] at hb
    injection hb with hb
    injection hb with _ hb _
    exact absurd hb h1
  have hgm : g ≠ m := by
    rintro rfl; obtain ⟨D, n', ⟨es, clock, hm, _⟩, _⟩ := hp.map
    rw [hw] at hm; cases hm
  exact (hk.block g hw.lt hgb hgm (Lib.ownBlock_neF hp.row hw h2)).trans hw
end Go.Proofs.YtmpginmdaeclaaaGreatDoor
set_option maxHeartbeats 32000000
set_option maxRecDepth 20000
namespace Go.Proofs.YtmpginmdaeclaaaGreatDoor
open Go.RowKit
def AllOk (V : Vis) : Prop := ∀ x ∈ V, Part x.1 /\ Okp x.1 x.2
theorem wf_all : ∀ {V : Vis}, WF V -> AllOk V
  | [], _ => fun x hx => by cases hx
  | (k, b) :: V, ⟨h1, h2, _, h4⟩ => fun x hx => by
    rcases List.mem_cons.1 hx with rfl | hx
    · exact ⟨h1, h2⟩
    · exact wf_all h4 x hx
theorem AllOk.pre {V a : Vis} (h : AllOk V) (hp : a <+: V) : AllOk a := fun x hx => h x (hp.subset hx)
theorem write_inv (may : Bool) : ∀ (V : Vis) (st : WSt), InvK st.1 st.2 -> AllOk V -> InvK (writeV may V st).1 (writeV may V st).2 /\ ∃ z, (writeV may V st).1 = st.1 ++ z /\ z.length <= (cat V).length := by
  intro V
  induction V with
  | nil => intro st hi _; exact ⟨hi, [], by simp [writeV], by simp⟩
  | cons x V ih =>
    obtain ⟨k, b⟩ := x
    intro st hi ha
    obtain ⟨hk, ho⟩ := ha (k, b) (by simp)
    obtain ⟨p1, ⟨z, hz, hzl⟩, _⟩ := put_part may hi hk ho
    simp only at hzl
    obtain ⟨i1, z2, hz2, hz2l⟩ := ih (putV may st (k, b)) p1 (fun y hy => ha y (List.mem_cons_of_mem _ hy))
    rw [write_cons]
    exact ⟨i1, z ++ z2, by rw [hz2, hz, List.append_assoc], by rw [cat_cons, List.length_append, List.length_append]; omega⟩
theorem write_snoc (may : Bool) (V : Vis) (x : Int × List UInt8) (st : WSt) : writeV may (V ++ [x]) st = putV may (writeV may V st) x := by simp [writeV]
abbrev ppT : TypeId := 225
def JW (B b m c0 : Nat) (v0 : Value) (st : WSt) (w0 : World) (vs : Vis) (W : World) : Prop :=
  ∃ v, Pk B W b m v (writeV true vs st).1 (writeV true vs st).2 (writeV true vs st).1.length /\ Kp b m v0 v w0 W /\ Whole W c0 ppT #[pkP b] /\ B <= W.heap.size
theorem vis_write (V : Vis) (B b m c0 : Nat) (v0 : Value) (st : WSt) (w0 : World) (hV : AllOk V) (hc : (cat V).length <= 70000) (hl : st.1.length <= 800000) (hi : InvK st.1 st.2) : Vst 279 (.pointer (some ⟨c0, 0, none⟩)) V (JW B b m c0 v0 st w0) where
  enter := enters_of Tryz.func279 (by kernel_rfl) rfl
  below := fun vs w w' ⟨v, h1, h2, h3, h4⟩ hb => ⟨v, h1.same hb, h2.to hb, h3.below hb h3.lt, Nat.le_trans h4 hb.size⟩
  call := fun vs k s w hp ⟨v, h1, h2, h3, h4⟩ => by
    have hcp := cat_pre hp
    rw [cat_snoc, List.length_append] at hcp
    obtain ⟨hk, ho⟩ := hV (k, s) (hp.subset (by simp))
    obtain ⟨hi2, z, hz, hzl⟩ := write_inv true vs st hi (hV.pre ((List.prefix_append vs _).trans hp))
    have hsn := write_snoc true vs (k, s) st
    obtain ⟨st2, hst2⟩ : ∃ st2, st2 = writeV true vs st := ⟨_, rfl⟩
    rw [<-hst2] at h1 hi2 hz hsn
    have hl2 : st2.1.length <= 870000 := by rw [hz, List.length_append]; omega
    obtain ⟨l, K⟩ := st2
    simp only at h1 hi2 hl2
    have hK : ∀ r t, K r = some t -> t < 16384 := fun r t h => (hi2 r t h).2.1
    have H1 := Ha h1
    have H2 := Ha h2
    have H3 := Ha h3
    have hc0 := h3.cell1
    have HSN := Ha hsn
    clear h1 h2 h3 hz hst2 hp hi2 hsn; obtain ⟨o1, _, _⟩ := ho
    by_cases hnm : k = -1 \/ k = -2
    · obtain ⟨L, hN⟩ := o1 hnm
      have hput : ∀ mm : Bool, (mm = decide (k = -1)) -> putV true (l, K) (k, s) = putL mm L l K := by
        intro mm hm
        unfold putV
        simp only
        rcases hnm with rfl | rfl
        · rw [if_pos rfl, hN]; simp at hm; rw [hm]
        · rw [if_neg (by decide), if_pos rfl, hN]; simp at hm; rw [hm]
      have HN := Ha hN
      have HPUT := Ha hput
      clear hN hput o1 hk
      rcases hnm with rfl | rfl
      · have HP := Ha (HSN.out.trans (HPUT.out true rfl))
        go_enter Tryz.func279, Tryz.ntmps279
        go_wp2_with fail
        refine (Name_yes H1.out (mk s) s L true rfl HN.out (by omega) h4 hK).mono ?_
        rintro e w1 ⟨rfl, v', h5, h6⟩; have H5 := Ha h5
        have H6 := Ha h6
        clear h5 h6; go_wp2_with fail
        go_end0
        refine ⟨rfl, ⟨v', by rw [HP.out]; exact H5.out, H2.out.trans H6.out, H6.out.whole H3.out H1.out (by decide) (by decide), Nat.le_trans h4 H6.out.size⟩, fun g cs hw => H6.out.whole hw H1.out (by decide) (by decide)⟩
      · have HP := Ha (HSN.out.trans (HPUT.out false rfl))
        go_enter Tryz.func279, Tryz.ntmps279
        go_wp2_with fail
        refine (Name_yes H1.out (mk s) s L false rfl HN.out (by omega) h4 hK).mono ?_
        rintro e w1 ⟨rfl, v', h5, h6⟩; have H5 := Ha h5
        have H6 := Ha h6
        clear h5 h6; go_wp2_with fail
        go_end0
        refine ⟨rfl, ⟨v', by rw [HP.out]; exact H5.out, H2.out.trans H6.out, H6.out.whole H3.out H1.out (by decide) (by decide), Nat.le_trans h4 H6.out.size⟩, fun g cs hw => H6.out.whole hw H1.out (by decide) (by decide)⟩
    · have hput : putV true (l, K) (k, s) = (l ++ s, K) := by
        unfold putV
        simp only
        rw [if_neg (by omega), if_neg (by omega)]
      have HP := Ha (HSN.out.trans hput)
      have k1 : (k == -1) = false := by rw [beq_eq_false_iff_ne]; omega
      have k2 : (k == -2) = false := by rw [beq_eq_false_iff_ne]; omega
      clear hput o1 hnm hk; go_enter Tryz.func279, Tryz.ntmps279
      go_wp2_with fail
      refine (Raw_any H1.out (mk s) (by rw [mk_size]; omega) h4).mono ?_
      rintro e w1 ⟨rfl, v', h5, h6⟩; have H5 := Ha h5
      have H6 := Ha h6
      clear h5 h6; go_wp2_with fail
      go_end0
      refine ⟨rfl, ⟨v', by rw [HP.out]; exact H5.out.more (by simp), H2.out.trans H6.out, H6.out.whole H3.out H1.out (by decide) (by decide), Nat.le_trans h4 H6.out.size⟩, fun g cs hw => H6.out.whole hw H1.out (by decide) (by decide)⟩
theorem Write_yes {B b m : Nat} {w : World} {v : Value} {l : List UInt8} {K : Kn} (h : Pk B w b m v l K l.length) (S : ByteArray) (D : List UInt8) (t : Int) (hS : S = mk D) (hD : D.length <= 65535) (hr : rightR t D = true) (hl : l.length <= 800000) (hBw : B <= w.heap.size) (hK : InvK l K) :
    Calls Tryz.prog 270 #[pkP b, .int .i64 t, .string S] w fun e w' => e = .returned (.int .i64 0) /\
      ∃ v', Pk B w' b m v' (writeV true (visR t D) (l, K)).1 (writeV true (visR t D) (l, K)).2 (writeV true (visR t D) (l, K)).1.length /\ Kp b m v v' w w' := by
  have hmf : ∀ (fn : Fn) (first cap : Array Value) (w : World), (Instr.makeFunc fn first cap).run Tryz.prog w = .ok (.func fn first cap) w := fun _ _ _ _ => rfl
  obtain ⟨_, _, hcat, hwf, _⟩ := right_is hr
  have HVIS := fun (v0 : Value) (c0 : Nat) (w0 : World) => vis_write (visR t D) B b m c0 v0 (l, K) w0 (wf_all hwf) (by rw [hcat]; omega) hl hK
  have hb0 : Below w.heap.size w (w.alloc (.cells #[pkP b] ppT)) := (Below.refl _ _).alloc (Nat.le_refl _) _
  have HH := Ha (h.same hb0)
  have HK0 := Ha (Kp.of_below (b := b) (m := m) (v := v) hb0)
  have HW := Ha (Whole.new w ppT #[pkP b])
  have HV := Ha HVIS
  have HS := Ha hS
  have HR := Ha hr
  clear h hS hr HVIS hb0 hwf hcat
  go_enter Tryz.func270, Tryz.ntmps270
  go_wp2_with fail
  refine (DRight_any S D t _ HS.out hD).mono ?_
  rw [HR.out]
  rintro e w1 ⟨rfl, hB⟩
  have HJ := Ha (show JW B b m w.heap.size v (l, K) w [] w1 from ⟨v, HH.out.same hB, HK0.out.to hB, HW.out.below hB HW.out.lt, Nat.le_trans hBw (HK0.out.to hB).size⟩)
  clear hB
  go_wp2_with fail
  refine Calls.mono (walkData_any S D t _ _ _ (JW B b m w.heap.size v (l, K) w) (HV.out v w.heap.size w) HJ.out HS.out (by omega)) ?_
  rintro e w2 ⟨rfl, v', h1, h2, h3, h4⟩
  go_wp2_with fail
  go_ret
  exact ⟨rfl, v', h1, h2⟩
end Go.Proofs.YtmpginmdaeclaaaGreatDoor
