/- Parts of the proofs of the statements of image. No statement of the seat is proved here. -/
import Derived.Test.YtnbapaimpoobkaaGreatDoorRdG
import Derived.Test.YtnbapaimpoobkaaGreatDoorNaJ
namespace Go.Proofs.YtnbapaimpoobkaaGreatDoor
open Go.RowKit

theorem Pk.put {B b m c : Nat} {W : World} {v : Value} {l : List UInt8} {K : Kn} {g t : Nat} {cs : Array Value} (h : Pk B W b m v l K c) (hw : Whole W g t cs) (h1 : t ≠ pkT) (h2 : t ≠ 5) (i : Nat) (u : Value) : Pk B (W.setCell ⟨g, i, none⟩ u) b m v l K c := by
  have hg := gset W ⟨g, i, none⟩ u
  obtain ⟨p, hp, hb⟩ := h.blk
  obtain ⟨D, n, m1, m2, m3⟩ := h.map
  have hgb : g ≠ b := by
    rintro rfl
    rw [hw] at hb
    injection hb with hb
    injection hb with _ hb _
    exact absurd hb h1
  have hgm : g ≠ m := by
    rintro rfl
    obtain ⟨es, clock, hm, _⟩ := m1
    rw [hw] at hm; cases hm
  exact ⟨h.hb, h.hm, ⟨p, hp, (hg.block b h.blt (fun e => hgb (Option.some.inj e).symm)).trans hb⟩, h.row.kept hg (.inr (Lib.ownBlock_neF h.row hw h2)), ⟨D, n, m1.kept hg (fun e => hgm (Option.some.inj e).symm), m2, m3⟩, h.nl⟩
theorem RefPk.put {W : World} {l : List UInt8} {K : Kn} {x : Value} {g t : Nat} {cs : Array Value} (h : RefPk W l K x) (hw : Whole W g t cs) (h1 : t ≠ 207) (i : Nat) (u : Value) : RefPk (W.setCell ⟨g, i, none⟩ u) l K x := by
  obtain ⟨A, n, c', KL, e1, h2, h3, h4⟩ := h
  refine ⟨A, n, c', KL, e1, ⟨h2.1, fun hn => ?_⟩, h3, h4⟩
  obtain ⟨k, off, e, hlt, ⟨cs', fr, ht⟩, hc⟩ := h2.2 hn
  have hgk : k ≠ g := by
    rintro rfl
    rw [hw] at ht
    injection ht with ht
    injection ht with _ ht _
    exact absurd ht h1
  have hblk := Below.heap_setCell W ⟨g, i, none⟩ u k hgk
  refine ⟨k, off, e, by rw [size_put]; exact hlt, ⟨cs', fr, hblk.trans ht⟩, fun j y hy => ?_⟩
  have := hc j y hy
  simp only [World.cell?, hblk] at this ⊢
  exact this
/-- the message alone turns -/
theorem RefPk.msg {W : World} {l l' : List UInt8} {K : Kn} {A : Option Addr} {n c : Nat} (h : RefPk W l K (rpV l A n c)) (hl : l.length ≤ l'.length) : RefPk W l' K (rpV l' A n c) := by
  obtain ⟨A', n', c', KL, e1, h2, h3, h4⟩ := h
  injection e1 with e1
  injection e1 with e1
  injection e1 with _ e1
  injection e1 with e1
  injection e1 with a1 a2 a3
  subst a1 a2 a3
  exact ⟨A, n, c, KL, rfl, h2, h3, Nat.le_trans h4 hl⟩

theorem RefPk.shape {w : World} {l : List UInt8} {K : Kn} {v : Value} (h : RefPk w l K v) : ∃ A n c, v = .agg #[.string (mk l), .slice A n c] ∧ RefPk w l K (rpV l A n c) := by
  obtain ⟨A, n, c, KL, h1, h2⟩ := h
  exact ⟨A, n, c, h1, ⟨A, n, c, KL, rfl, h2⟩⟩
theorem RefName_at (w : World) (l : List UInt8) (K : Kn) (v : Value) (S : ByteArray) (sl : List UInt8) (L : List (List UInt8)) (may : Bool) (hr : RefPk w l K v) (hl : l.length ≤ 900000) (hS : S = mk sl) (hN : nameL sl = some L)
    (hK : ∀ r t, K r = some t → t < 16384) :
    Calls Tryz.prog 181 #[v, .string S, .bool may] w fun e w' => ∃ v', e = .returned v' ∧ RefPk w' (putL may L l K).1 (putL may L l K).2 v' ∧ Below w.heap.size w w' := by
  obtain ⟨A, n, c, KL, rfl, h2, rfl, h4⟩ := hr
  obtain ⟨he, hg, hlen⟩ := nameL_is hN
  exact RefName_in w l A n c KL S L may h2 h4 hl (by rw [hS, he]) hg (by rw [← he]; exact hlen) hK


theorem lst_kinds (t : Int) : Lst (kindsR t) := by
  unfold kindsR
  repeat' split
  all_goals simp [Lst, Part]
theorem own_put {w : World} {base e n : Nat} {v : Value} {xs : List Value} (h : w.ownsRow base e 1 v n xs) {p : Addr} (hp : p.block < base) (u : Value) : (w.setCell p u).ownsRow base e 1 v n xs :=
  h.kept (gset w p u) (.inr (fun e => by have := (h.lt _ e).1; omega))
def RefWrAt (w : World) (V : Vis) (st : WSt) (k : Nat) (wr : World) : Prop :=
  ∃ A n c, Whole wr w.heap.size rpT #[.string (mk (writeV true (V.take k) st).1), .slice A n c] ∧ Whole wr (w.heap.size + 1) rpT #[.string ⟨#[]⟩, .slice none 0 0] ∧ RefPk wr (writeV true (V.take k) st).1 (writeV true (V.take k) st).2 (rpV (writeV true (V.take k) st).1 A n c) ∧ Below w.heap.size w wr

set_option maxHeartbeats 4000000 in
set_option maxRecDepth 20000 in
theorem RefWrite_any (w : World) (l : List UInt8) (K : Kn) (v : Value) (S : ByteArray) (D : List UInt8) (t : Int) (hrp : RefPk w l K v) (hl : l.length ≤ 800000) (hS : S = mk D) (hD : D.length ≤ 65535) (hr : rightR t D = true) (hi : InvK l K) :
    Calls Tryz.prog 182 #[v, .int .i64 t, .string S] w fun e w' => ∃ v', e = .returned v' ∧ RefPk w' (writeV true (visR t D) (l, K)).1 (writeV true (visR t D) (l, K)).2 v' ∧ Below w.heap.size w w' := by
  obtain ⟨V, hV1, hV2, hV3, hV4, hV5⟩ := vis_kinds hr
  obtain ⟨_, hokP, _⟩ := right_is hr
  have hwV : WF V := by
    have h := (steps_wf (M := D) (e := D.length) (Nat.le_refl _) (kindsR t) 0 D.length (lst_kinds t) (Nat.zero_le _) (by rw [hV1])).1
    rw [hV1] at h; exact h
  have hall := wf_all hwV
  have hwr : writeV true (visR t D) (l, K) = writeV true V (l, K) := by
    have h := eqv_fold hokP (nice_put true) (l, K)
    rw [hV1] at h
    exact h
  rw [hwr]
  have hVl : V.length ≤ 7 := by have := kinds_few t; rw [← hV2, List.length_map] at this; exact this
  have hcl : (cat V).length ≤ 65535 := by rw [hV4]; exact hD
  have hKV : ∀ x ∈ V, KindR x.1 := fun x hx => kinds_are t _ (by rw [← hV2]; exact List.mem_map_of_mem hx)
  have hinv : ∀ k, InvK (writeV true (V.take k) (l, K)).1 (writeV true (V.take k) (l, K)).2 ∧ (writeV true (V.take k) (l, K)).1.length ≤ 870000 := by
    intro k
    obtain ⟨h1, z, hz, hzl⟩ := write_inv true (V.take k) (l, K) hi (hall.pre (List.take_prefix k V))
    have h2 := cat_pre (V := V) (List.take_prefix k V)
    exact ⟨h1, by rw [hz, List.length_append]; simp only; omega⟩
  have HALL := Lib.hid hall
  have HINV := Lib.hid hinv
  have HV2 := Lib.hid hV2
  have HV3 := Lib.hid hV3
  have HV5 := Lib.hid hV5
  have HKV := Lib.hid hKV
  have HS := Lib.hid hS
  obtain ⟨A0, n0, c0, rfl, hrp2⟩ := hrp.shape
  have FB : Below w.heap.size w ((w.alloc (.cells #[.string (mk l), .slice A0 n0 c0] rpT)).alloc (.cells #[.string ⟨#[]⟩, .slice none 0 0] rpT)) := ((Below.refl _ _).alloc (Nat.le_refl _) _).alloc (by simp) _
  have W0 := (Whole.new w rpT #[.string (mk l), .slice A0 n0 c0]).alloc (.cells #[.string ⟨#[]⟩, .slice none 0 0] rpT)
  have W1 := Whole.new (w.alloc (.cells #[.string (mk l), .slice A0 n0 c0] rpT)) rpT #[.string ⟨#[]⟩, .slice none 0 0]
  rw [World.size_alloc] at W1
  have HST := Lib.hid (show RefWrAt w V (l, K) 0 _ from ⟨A0, n0, c0, W0, W1, hrp2.same FB, FB⟩)
  clear hr hV1 hV2 hV3 hV4 hV5 hKV hokP hwV hall hwr hinv hS hrp hrp2 FB W0 W1
  go_enter Tryz.func182, Tryz.ntmps182
  go_wp2_with fail
  revert HST
  generalize (w.alloc (.cells #[.string (mk l), .slice A0 n0 c0] rpT)).alloc (.cells #[.string ⟨#[]⟩, .slice none 0 0] rpT) = W
  intro HST
  refine (RefDRead_zero S D t _ HS.out (by omega)).mono ?_
  rintro en w2 ⟨A, n, c, rfl, hown, hB⟩
  rw [HV3.out] at hown
  rw [HV5.out]
  have hln : V.length = n := by have := hown.1; simpa [textL, texts] using this
  have HLN := Lib.hid hln
  have HO2 := Lib.hid hown
  have HB2 := Lib.hid hB
  have hn7 : n ≤ 7 := by omega
  clear hown hB hln
  go_wp2_with fail
  refine (RefParts_any t _).mono ?_
  rintro en w3 ⟨rfl, rfl⟩
  obtain ⟨P, hP⟩ : ∃ P, P = mk (strR t) := ⟨_, rfl⟩
  rw [← hP]
  have hPn : P.size = n := by rw [hP, mk_size, strR, List.length_map, ← HV2.out, List.length_map, HLN.out]
  have HP := Lib.hid hP
  clear hP
  go_wp2_with fail
  have hHB2 := HB2.out
  obtain ⟨hst0A, hst0n, hst0c, hs1, hs2, hs3, hs4⟩ := HST.out
  have HST2 := Lib.hid (show RefWrAt w V (l, K) 0 w2 from ⟨hst0A, hst0n, hst0c, hs1.below hHB2 hs1.lt, hs2.below hHB2 hs2.lt, hs3.same hHB2, hs4.trans (hHB2.mono hs4.size)⟩)
  have hgl : w.heap.size + 1 < W.heap.size := hs2.lt
  have hsz2 : W.heap.size ≤ w2.heap.size := hHB2.size
  clear hHB2 hs1 hs2 hs3 hs4 HST
  go_loopw [10] (fun i wr => ∃ k : Nat, k ≤ n ∧ i = .int .i64 (k : Nat) ∧ RefWrAt w V (l, K) k wr ∧ wr.ownsRow W.heap.size 9 1 (.slice A n c) n (textL (V.map (·.2)))) (fun i _ => n - (intOf i).toNat)
  case atStart => exact ⟨0, Nat.zero_le _, rfl, HST2.out, HO2.out⟩
  case round =>
    obtain ⟨k, hk, rfl, ⟨A', n', c', hw0, hw1, hr, hB⟩, hown⟩ := hrel
    have HW0 := Lib.hid hw0
    have HW1 := Lib.hid hw1
    have HR := Lib.hid hr
    have HB := Lib.hid hB
    have HO := Lib.hid hown
    obtain ⟨hinv, hlen⟩ := HINV.out k
    obtain ⟨st, hst⟩ : ∃ st, st = writeV true (V.take k) (l, K) := ⟨_, rfl⟩
    rw [← hst] at HW0 HR hinv hlen
    obtain ⟨l', K'⟩ := st
    simp only at HW0 HR hinv hlen
    obtain ⟨Y, hY⟩ : ∃ Y, Y = mk l' := ⟨_, rfl⟩
    rw [← hY] at HW0
    have hYz : Y.size = l'.length := by rw [hY, mk_size]
    have HY := Lib.hid hY
    have c0 := (HW0.out.cell 0).trans (show _ = some (Value.string Y) from rfl)
    have c1 := (HW0.out.cell 1).trans (show _ = some (Value.slice A' n' c') from rfl)
    have f0 := HW0.out.frozen 0
    have f1 := HW0.out.frozen 1
    have HST := Lib.hid hst
    clear hw0 hw1 hr hB hown hst hY HST2
    by_cases hkn : k < n
    · have gk : (k : Int) < (n : Int) := by omega
      have gkP : (k : Int) < (P.size : Int) := by omega
      have hPk : k < P.size := by omega
      have hkl : k < V.length := by have := HLN.out; omega
      obtain ⟨kd, b, hkd⟩ : ∃ kd b, V[k] = (kd, b) := ⟨_, _, rfl⟩
      have hkind : KindR kd := by have := HKV.out V[k] (List.getElem_mem hkl); rw [hkd] at this; exact this
      have ho : Okp kd b := by have := HALL.out V[k] (List.getElem_mem hkl); rw [hkd] at this; exact this.2
      have hPc : (P[k]'hPk).toNat = (chK kd).toNat := by
        have hk2 : k < (strR t).length := by rw [strR, List.length_map, ← HV2.out, List.length_map]; exact hkl
        rw [mk_get HP.out hPk hk2]
        congr 1
        simp only [strR, List.getElem_map, ← HV2.out, hkd]
      have hcell : ∃ b2 off, A = some ⟨b2, off, none⟩ ∧ b2 < wr.heap.size ∧ wr.cell? ⟨b2, off + k, none⟩ = some (.string (mk b)) := by
        obtain ⟨A2, c2, e, hsee⟩ := Sees.own HO.out
        injection e with e1 e2 e3
        subst e1
        obtain ⟨b2, off, e, hb2, hc⟩ := textL_at hsee hkn (by rw [List.length_map]; exact hkl)
        exact ⟨b2, off, e, hb2, by rw [hc, List.getElem_map, hkd]⟩
      obtain ⟨b2, off, rfl, hb2, hc⟩ := hcell
      have hnext : writeV true (V.take (k + 1)) (l, K) = putV true (l', K') (kd, b) := by
        rw [List.take_succ_eq_append_getElem hkl, write_snoc, hkd, ← HST.out]
      have hbl : b.length ≤ 65535 := by
        have h2 := cat_pre (V := V) (List.take_prefix (k + 1) V)
        rw [List.take_succ_eq_append_getElem hkl, cat_append, List.length_append, hkd] at h2
        have e : (cat [(kd, b)]).length = b.length := by simp [cat]
        omega
      have hK : ∀ r t, K' r = some t → t < 16384 := fun r t h => (hinv r t h).2.1
      unfold KindR at hkind
      clear hkd hinv
      rcases hkind with rfl | rfl | rfl | rfl | rfl | rfl | rfl
      · have hkc : (P[k]'hPk).toNat = 110 := by rw [hPc]; rfl
        clear hPc
        obtain ⟨L, hN⟩ := ho.1 (by decide)
        have hput : putV true (l', K') (-1, b) = putL true L l' K' := by unfold putV; simp [hN]
        have HNX := Lib.hid (hnext.trans hput)
        have HN := Lib.hid hN
        clear hnext hput hN ho
        have HRV := Lib.hid (show RefPk wr.drew l' K' (.agg #[.string Y, .slice A' n' c']) from by rw [HY.out]; exact HR.out.same (Below.refl _ _).drew)
        go_wp2_with fail
        go_region_with (go_at_call 181; (refine (RefName_at _ l' K' _ (mk b) b L true HRV.out (by omega) rfl HN.out hK).mono ?_; rintro e w5 ⟨v5, rfl, h5, hB5⟩; obtain ⟨A5, n5, c5, rfl, h5⟩ := h5.shape; have hB5' := (Below.refl _ _).drew.trans hB5; have hW5 := HW0.out.drew.below hB5 HW0.out.lt; have q0 := (hW5.cell 0).trans (show _ = some (Value.string Y) from rfl); have q1 := (hW5.cell 1).trans (show _ = some (Value.slice A' n' c') from rfl); have r0 := hW5.frozen 0; have r1 := hW5.frozen 1; have u1 := (hB5'.cell (p := ⟨b2, off + k, none⟩) hb2).trans hc))
        all_goals (
          have hW1' := HW1.out.drew.below hB5 HW1.out.lt
          have HWW := Lib.hid (show Whole ((w5.setCell ⟨w.heap.size, 0, none⟩ (.string (mk (putL true L l' K').1))).setCell ⟨w.heap.size, 1, none⟩ (.slice A5 n5 c5)) w.heap.size rpT #[.string (mk (putL true L l' K').1), .slice A5 n5 c5] from by simpa using (hW5.put 0 (.string (mk (putL true L l' K').1))).put 1 (.slice A5 n5 c5))
          have HW1' := Lib.hid ((hW1'.far (p := ⟨w.heap.size, 0, none⟩) (Nat.succ_ne_self _) (.string (mk (putL true L l' K').1))).far (p := ⟨w.heap.size, 1, none⟩) (Nat.succ_ne_self _) (.slice A5 n5 c5))
          have HRW := Lib.hid ((h5.put hW5 (by decide) 0 (.string (mk (putL true L l' K').1))).put (hW5.put 0 (.string (mk (putL true L l' K').1))) (by decide) 1 (.slice A5 n5 c5))
          have HBW := Lib.hid (((HB.out.trans (hB5'.mono HB.out.size)).setCell (p := ⟨w.heap.size, 0, none⟩) (Nat.le_refl _) (.string (mk (putL true L l' K').1))).setCell (p := ⟨w.heap.size, 1, none⟩) (Nat.le_refl _) (.slice A5 n5 c5))
          have HB3W := Lib.hid (own_put (own_put (own_below HO.out hB5') (p := ⟨w.heap.size, 0, none⟩) (by show w.heap.size < _; omega) (.string (mk (putL true L l' K').1))) (p := ⟨w.heap.size, 1, none⟩) (by show w.heap.size < _; omega) (.slice A5 n5 c5))
          clear hB5 hB5' h5 hW5 hW1'
          go_wp2_with fail
          revert HWW HW1' HRW HBW HB3W
          generalize (w5.setCell ⟨w.heap.size, 0, none⟩ (.string (mk (putL true L l' K').1))).setCell ⟨w.heap.size, 1, none⟩ (.slice A5 n5 c5) = W4
          intro HWW HW1' HRW HBW HB3W
          go_roundw
          case rel => exact ⟨k + 1, by omega, by go_num, ⟨A5, n5, c5, by rw [HNX.out]; exact HWW.out, HW1'.out, by rw [HNX.out]; exact HRW.out, HBW.out⟩, HB3W.out⟩
          case measure => simp [intOf]; omega)
      · have hkc : (P[k]'hPk).toNat = 117 := by rw [hPc]; rfl
        clear hPc
        obtain ⟨L, hN⟩ := ho.1 (by decide)
        have hput : putV true (l', K') (-2, b) = putL false L l' K' := by unfold putV; simp [hN]
        have HNX := Lib.hid (hnext.trans hput)
        have HN := Lib.hid hN
        clear hnext hput hN ho
        have HRV := Lib.hid (show RefPk wr.drew l' K' (.agg #[.string Y, .slice A' n' c']) from by rw [HY.out]; exact HR.out.same (Below.refl _ _).drew)
        go_wp2_with fail
        go_region_with (go_at_call 181; (refine (RefName_at _ l' K' _ (mk b) b L false HRV.out (by omega) rfl HN.out hK).mono ?_; rintro e w5 ⟨v5, rfl, h5, hB5⟩; obtain ⟨A5, n5, c5, rfl, h5⟩ := h5.shape; have hB5' := (Below.refl _ _).drew.trans hB5; have hW5 := HW0.out.drew.below hB5 HW0.out.lt; have q0 := (hW5.cell 0).trans (show _ = some (Value.string Y) from rfl); have q1 := (hW5.cell 1).trans (show _ = some (Value.slice A' n' c') from rfl); have r0 := hW5.frozen 0; have r1 := hW5.frozen 1; have u1 := (hB5'.cell (p := ⟨b2, off + k, none⟩) hb2).trans hc))
        all_goals (
          have hW1' := HW1.out.drew.below hB5 HW1.out.lt
          have HWW := Lib.hid (show Whole ((w5.setCell ⟨w.heap.size, 0, none⟩ (.string (mk (putL false L l' K').1))).setCell ⟨w.heap.size, 1, none⟩ (.slice A5 n5 c5)) w.heap.size rpT #[.string (mk (putL false L l' K').1), .slice A5 n5 c5] from by simpa using (hW5.put 0 (.string (mk (putL false L l' K').1))).put 1 (.slice A5 n5 c5))
          have HW1' := Lib.hid ((hW1'.far (p := ⟨w.heap.size, 0, none⟩) (Nat.succ_ne_self _) (.string (mk (putL false L l' K').1))).far (p := ⟨w.heap.size, 1, none⟩) (Nat.succ_ne_self _) (.slice A5 n5 c5))
          have HRW := Lib.hid ((h5.put hW5 (by decide) 0 (.string (mk (putL false L l' K').1))).put (hW5.put 0 (.string (mk (putL false L l' K').1))) (by decide) 1 (.slice A5 n5 c5))
          have HBW := Lib.hid (((HB.out.trans (hB5'.mono HB.out.size)).setCell (p := ⟨w.heap.size, 0, none⟩) (Nat.le_refl _) (.string (mk (putL false L l' K').1))).setCell (p := ⟨w.heap.size, 1, none⟩) (Nat.le_refl _) (.slice A5 n5 c5))
          have HB3W := Lib.hid (own_put (own_put (own_below HO.out hB5') (p := ⟨w.heap.size, 0, none⟩) (by show w.heap.size < _; omega) (.string (mk (putL false L l' K').1))) (p := ⟨w.heap.size, 1, none⟩) (by show w.heap.size < _; omega) (.slice A5 n5 c5))
          clear hB5 hB5' h5 hW5 hW1'
          go_wp2_with fail
          revert HWW HW1' HRW HBW HB3W
          generalize (w5.setCell ⟨w.heap.size, 0, none⟩ (.string (mk (putL false L l' K').1))).setCell ⟨w.heap.size, 1, none⟩ (.slice A5 n5 c5) = W4
          intro HWW HW1' HRW HBW HB3W
          go_roundw
          case rel => exact ⟨k + 1, by omega, by go_num, ⟨A5, n5, c5, by rw [HNX.out]; exact HWW.out, HW1'.out, by rw [HNX.out]; exact HRW.out, HBW.out⟩, HB3W.out⟩
          case measure => simp [intOf]; omega)
      · have hkc : (P[k]'hPk).toNat = 116 := by rw [hPc]; rfl
        clear hPc
        have hput : putV true (l', K') (-3, b) = (l' ++ b, K') := by unfold putV; simp
        have HNX := Lib.hid (hnext.trans hput)
        have hYb : Y ++ mk b = mk (l' ++ b) := by rw [HY.out, mk_append]
        have hYbz : (Y ++ mk b).size = l'.length + b.length := by rw [hYb, mk_size, List.length_append]
        have hsz : Y.size + (mk b).size ≤ 2000000 := by rw [hYz, mk_size]; omega
        have HYB := Lib.hid hYb
        have hWW : Whole (wr.setCell ⟨w.heap.size, 0, none⟩ (.string (Y ++ mk b))) w.heap.size rpT #[.string (Y ++ mk b), .slice A' n' c'] := by simpa using HW0.out.put 0 (.string (Y ++ mk b))
        have HWW := Lib.hid hWW.drew
        have HW1' := Lib.hid (HW1.out.far (p := ⟨w.heap.size, 0, none⟩) (Nat.succ_ne_self _) (.string (Y ++ mk b))).drew
        have HRW := Lib.hid (((HR.out.msg (l' := l' ++ b) (by simp)).put HW0.out (by decide) 0 (.string (Y ++ mk b))).same (Below.refl _ _).drew)
        have HBW := Lib.hid (HB.out.setCell (p := ⟨w.heap.size, 0, none⟩) (Nat.le_refl _) (.string (Y ++ mk b))).drew
        have HB3W := Lib.hid (own_below (own_put HO.out (p := ⟨w.heap.size, 0, none⟩) (by show w.heap.size < _; omega) (.string (Y ++ mk b))) (Below.refl _ _).drew)
        clear hnext hput ho hYb hYbz hWW
        go_wp2_with fail
        go_region
        all_goals (
          go_wp2_with fail
          revert HWW HW1' HRW HBW HB3W
          generalize (wr.setCell ⟨w.heap.size, 0, none⟩ (.string (Y ++ mk b))).drew = W4
          intro HWW HW1' HRW HBW HB3W
          go_roundw
          case rel => exact ⟨k + 1, by omega, by go_num, ⟨A', n', c', by rw [HNX.out]; (have hh := HWW.out; rw [HYB.out] at hh; exact hh), HW1'.out, by rw [HNX.out]; exact HRW.out, HBW.out⟩, HB3W.out⟩
          case measure => simp [intOf]; omega)
      · have hkc : (P[k]'hPk).toNat = 111 := by rw [hPc]; rfl
        clear hPc
        have hput : putV true (l', K') (-4, b) = (l' ++ b, K') := by unfold putV; simp
        have HNX := Lib.hid (hnext.trans hput)
        have hYb : Y ++ mk b = mk (l' ++ b) := by rw [HY.out, mk_append]
        have hYbz : (Y ++ mk b).size = l'.length + b.length := by rw [hYb, mk_size, List.length_append]
        have hsz : Y.size + (mk b).size ≤ 2000000 := by rw [hYz, mk_size]; omega
        have HYB := Lib.hid hYb
        have hWW : Whole (wr.setCell ⟨w.heap.size, 0, none⟩ (.string (Y ++ mk b))) w.heap.size rpT #[.string (Y ++ mk b), .slice A' n' c'] := by simpa using HW0.out.put 0 (.string (Y ++ mk b))
        have HWW := Lib.hid hWW.drew
        have HW1' := Lib.hid (HW1.out.far (p := ⟨w.heap.size, 0, none⟩) (Nat.succ_ne_self _) (.string (Y ++ mk b))).drew
        have HRW := Lib.hid (((HR.out.msg (l' := l' ++ b) (by simp)).put HW0.out (by decide) 0 (.string (Y ++ mk b))).same (Below.refl _ _).drew)
        have HBW := Lib.hid (HB.out.setCell (p := ⟨w.heap.size, 0, none⟩) (Nat.le_refl _) (.string (Y ++ mk b))).drew
        have HB3W := Lib.hid (own_below (own_put HO.out (p := ⟨w.heap.size, 0, none⟩) (by show w.heap.size < _; omega) (.string (Y ++ mk b))) (Below.refl _ _).drew)
        clear hnext hput ho hYb hYbz hWW
        go_wp2_with fail
        go_region
        all_goals (
          go_wp2_with fail
          revert HWW HW1' HRW HBW HB3W
          generalize (wr.setCell ⟨w.heap.size, 0, none⟩ (.string (Y ++ mk b))).drew = W4
          intro HWW HW1' HRW HBW HB3W
          go_roundw
          case rel => exact ⟨k + 1, by omega, by go_num, ⟨A', n', c', by rw [HNX.out]; (have hh := HWW.out; rw [HYB.out] at hh; exact hh), HW1'.out, by rw [HNX.out]; exact HRW.out, HBW.out⟩, HB3W.out⟩
          case measure => simp [intOf]; omega)
      · have hkc : (P[k]'hPk).toNat = 104 := by rw [hPc]; rfl
        clear hPc
        have hput : putV true (l', K') (16, b) = (l' ++ b, K') := by unfold putV; simp
        have HNX := Lib.hid (hnext.trans hput)
        have hYb : Y ++ mk b = mk (l' ++ b) := by rw [HY.out, mk_append]
        have hYbz : (Y ++ mk b).size = l'.length + b.length := by rw [hYb, mk_size, List.length_append]
        have hsz : Y.size + (mk b).size ≤ 2000000 := by rw [hYz, mk_size]; omega
        have HYB := Lib.hid hYb
        have hWW : Whole (wr.setCell ⟨w.heap.size, 0, none⟩ (.string (Y ++ mk b))) w.heap.size rpT #[.string (Y ++ mk b), .slice A' n' c'] := by simpa using HW0.out.put 0 (.string (Y ++ mk b))
        have HWW := Lib.hid hWW.drew
        have HW1' := Lib.hid (HW1.out.far (p := ⟨w.heap.size, 0, none⟩) (Nat.succ_ne_self _) (.string (Y ++ mk b))).drew
        have HRW := Lib.hid (((HR.out.msg (l' := l' ++ b) (by simp)).put HW0.out (by decide) 0 (.string (Y ++ mk b))).same (Below.refl _ _).drew)
        have HBW := Lib.hid (HB.out.setCell (p := ⟨w.heap.size, 0, none⟩) (Nat.le_refl _) (.string (Y ++ mk b))).drew
        have HB3W := Lib.hid (own_below (own_put HO.out (p := ⟨w.heap.size, 0, none⟩) (by show w.heap.size < _; omega) (.string (Y ++ mk b))) (Below.refl _ _).drew)
        clear hnext hput ho hYb hYbz hWW
        go_wp2_with fail
        go_region
        all_goals (
          go_wp2_with fail
          revert HWW HW1' HRW HBW HB3W
          generalize (wr.setCell ⟨w.heap.size, 0, none⟩ (.string (Y ++ mk b))).drew = W4
          intro HWW HW1' HRW HBW HB3W
          go_roundw
          case rel => exact ⟨k + 1, by omega, by go_num, ⟨A', n', c', by rw [HNX.out]; (have hh := HWW.out; rw [HYB.out] at hh; exact hh), HW1'.out, by rw [HNX.out]; exact HRW.out, HBW.out⟩, HB3W.out⟩
          case measure => simp [intOf]; omega)
      · have hkc : (P[k]'hPk).toNat = 52 := by rw [hPc]; rfl
        clear hPc
        have hput : putV true (l', K') (4, b) = (l' ++ b, K') := by unfold putV; simp
        have HNX := Lib.hid (hnext.trans hput)
        have hYb : Y ++ mk b = mk (l' ++ b) := by rw [HY.out, mk_append]
        have hYbz : (Y ++ mk b).size = l'.length + b.length := by rw [hYb, mk_size, List.length_append]
        have hsz : Y.size + (mk b).size ≤ 2000000 := by rw [hYz, mk_size]; omega
        have HYB := Lib.hid hYb
        have hWW : Whole (wr.setCell ⟨w.heap.size, 0, none⟩ (.string (Y ++ mk b))) w.heap.size rpT #[.string (Y ++ mk b), .slice A' n' c'] := by simpa using HW0.out.put 0 (.string (Y ++ mk b))
        have HWW := Lib.hid hWW.drew
        have HW1' := Lib.hid (HW1.out.far (p := ⟨w.heap.size, 0, none⟩) (Nat.succ_ne_self _) (.string (Y ++ mk b))).drew
        have HRW := Lib.hid (((HR.out.msg (l' := l' ++ b) (by simp)).put HW0.out (by decide) 0 (.string (Y ++ mk b))).same (Below.refl _ _).drew)
        have HBW := Lib.hid (HB.out.setCell (p := ⟨w.heap.size, 0, none⟩) (Nat.le_refl _) (.string (Y ++ mk b))).drew
        have HB3W := Lib.hid (own_below (own_put HO.out (p := ⟨w.heap.size, 0, none⟩) (by show w.heap.size < _; omega) (.string (Y ++ mk b))) (Below.refl _ _).drew)
        clear hnext hput ho hYb hYbz hWW
        go_wp2_with fail
        go_region
        all_goals (
          go_wp2_with fail
          revert HWW HW1' HRW HBW HB3W
          generalize (wr.setCell ⟨w.heap.size, 0, none⟩ (.string (Y ++ mk b))).drew = W4
          intro HWW HW1' HRW HBW HB3W
          go_roundw
          case rel => exact ⟨k + 1, by omega, by go_num, ⟨A', n', c', by rw [HNX.out]; (have hh := HWW.out; rw [HYB.out] at hh; exact hh), HW1'.out, by rw [HNX.out]; exact HRW.out, HBW.out⟩, HB3W.out⟩
          case measure => simp [intOf]; omega)
      · have hkc : (P[k]'hPk).toNat = 50 := by rw [hPc]; rfl
        clear hPc
        have hput : putV true (l', K') (2, b) = (l' ++ b, K') := by unfold putV; simp
        have HNX := Lib.hid (hnext.trans hput)
        have hYb : Y ++ mk b = mk (l' ++ b) := by rw [HY.out, mk_append]
        have hYbz : (Y ++ mk b).size = l'.length + b.length := by rw [hYb, mk_size, List.length_append]
        have hsz : Y.size + (mk b).size ≤ 2000000 := by rw [hYz, mk_size]; omega
        have HYB := Lib.hid hYb
        have hWW : Whole (wr.setCell ⟨w.heap.size, 0, none⟩ (.string (Y ++ mk b))) w.heap.size rpT #[.string (Y ++ mk b), .slice A' n' c'] := by simpa using HW0.out.put 0 (.string (Y ++ mk b))
        have HWW := Lib.hid hWW.drew
        have HW1' := Lib.hid (HW1.out.far (p := ⟨w.heap.size, 0, none⟩) (Nat.succ_ne_self _) (.string (Y ++ mk b))).drew
        have HRW := Lib.hid (((HR.out.msg (l' := l' ++ b) (by simp)).put HW0.out (by decide) 0 (.string (Y ++ mk b))).same (Below.refl _ _).drew)
        have HBW := Lib.hid (HB.out.setCell (p := ⟨w.heap.size, 0, none⟩) (Nat.le_refl _) (.string (Y ++ mk b))).drew
        have HB3W := Lib.hid (own_below (own_put HO.out (p := ⟨w.heap.size, 0, none⟩) (by show w.heap.size < _; omega) (.string (Y ++ mk b))) (Below.refl _ _).drew)
        clear hnext hput ho hYb hYbz hWW
        go_wp2_with fail
        go_region
        all_goals (
          go_wp2_with fail
          revert HWW HW1' HRW HBW HB3W
          generalize (wr.setCell ⟨w.heap.size, 0, none⟩ (.string (Y ++ mk b))).drew = W4
          intro HWW HW1' HRW HBW HB3W
          go_roundw
          case rel => exact ⟨k + 1, by omega, by go_num, ⟨A', n', c', by rw [HNX.out]; (have hh := HWW.out; rw [HYB.out] at hh; exact hh), HW1'.out, by rw [HNX.out]; exact HRW.out, HBW.out⟩, HB3W.out⟩
          case measure => simp [intOf]; omega)
    · obtain rfl : k = n := by omega
      have hfull : (l', K') = writeV true V (l, K) := by rw [HST.out, List.take_of_length_le (by have := HLN.out; omega)]
      have HFU := Lib.hid hfull
      have q0 := (HW1.out.cell 0).trans (show _ = some (Value.string ⟨#[]⟩) from rfl)
      have q1 := (HW1.out.cell 1).trans (show _ = some (Value.slice none 0 0) from rfl)
      have r0 := HW1.out.frozen 0
      have r1 := HW1.out.frozen 1
      have HE := Lib.hid (show Whole ((wr.setCell ⟨w.heap.size + 1, 0, none⟩ (.string Y)).setCell ⟨w.heap.size + 1, 1, none⟩ (.slice A' n' c')) (w.heap.size + 1) rpT #[.string Y, .slice A' n' c'] from by simpa using (HW1.out.put 0 (.string Y)).put 1 (.slice A' n' c'))
      have HRE := Lib.hid ((HR.out.put HW1.out (by decide) 0 (.string Y)).put (HW1.out.put 0 (.string Y)) (by decide) 1 (.slice A' n' c'))
      have HBE := Lib.hid ((HB.out.setCell (p := ⟨w.heap.size + 1, 0, none⟩) (Nat.le_succ _) (.string Y)).setCell (p := ⟨w.heap.size + 1, 1, none⟩) (Nat.le_succ _) (.slice A' n' c'))
      clear hfull
      go_wp2_with fail
      refine ret2 rfl rfl rfl HE.out ⟨_, rfl, ?_, HBE.out⟩
      rw [← HFU.out, HY.out]
      have hh := HRE.out
      rw [HY.out] at hh
      exact hh
end Go.Proofs.YtnbapaimpoobkaaGreatDoor
