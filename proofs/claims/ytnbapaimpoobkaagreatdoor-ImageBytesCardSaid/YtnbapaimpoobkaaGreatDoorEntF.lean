/- Parts of the proofs of the statements of image. No statement of the seat is proved here. -/
import Derived.Test.YtnbapaimpoobkaaGreatDoorReE
import Derived.Test.YtnbapaimpoobkaaGreatDoorRdK
import Derived.Test.YtnbapaimpoobkaaGreatDoorReI
import Derived.Deep.RegionWith
import Derived.Test.YtnbapaimpoobkaaGreatDoorEntC
import Derived.Test.YtnbapaimpoobkaaGreatDoorOcA
import Derived.BigQuiet
namespace Go.Proofs.YtnbapaimpoobkaaGreatDoor
open Go.RowKit

/-- the reference's packer in a block of the call's own, a record in the next one, the result's block behind it -/
structure RefSt (w : World) (l : List UInt8) (K : Kn) (cs : Array Value) (A : Option Addr) (n c : Nat) (W : World) : Prop where
  p : Whole W w.heap.size rpT #[.string (mk l), .slice A n c]
  r : Whole W (w.heap.size + 1) rrT cs
  e : Whole W (w.heap.size + 1 + 1) rpT #[.string ⟨#[]⟩, .slice none 0 0]
  k : RefPk W l K (rpV l A n c)
  b : Below w.heap.size w W
section
variable {w W W' : World} {l l' : List UInt8} {K K' : Kn} {cs : Array Value} {A A' : Option Addr} {n c n' c' : Nat}
theorem refst_below (h : RefSt w l K cs A n c W) (hb : Below W.heap.size W W') : RefSt w l K cs A n c W' :=
  ⟨h.p.below hb h.p.lt, h.r.below hb h.r.lt, h.e.below hb h.e.lt, h.k.same hb, h.b.trans (hb.mono h.b.size)⟩
theorem refst_msg (h : RefSt w l K cs A n c W) (hl : l.length ≤ l'.length) : RefSt w l' K cs A n c (W.setCell ⟨w.heap.size, 0, none⟩ (.string (mk l'))) :=
  ⟨by simpa using h.p.put 0 (.string (mk l')), h.r.far (p := ⟨w.heap.size, 0, none⟩) (Nat.succ_ne_self _) _, h.e.far (p := ⟨w.heap.size, 0, none⟩) (by simp only; omega) _,
   (h.k.msg hl).put h.p (by decide) 0 _, h.b.setCell (p := ⟨w.heap.size, 0, none⟩) (Nat.le_refl _) _⟩
theorem refst_pk (h : RefSt w l K cs A n c W) (hk : RefPk W l' K' (rpV l' A' n' c')) :
    RefSt w l' K' cs A' n' c' ((W.setCell ⟨w.heap.size, 0, none⟩ (.string (mk l'))).setCell ⟨w.heap.size, 1, none⟩ (.slice A' n' c')) :=
  ⟨by simpa using (h.p.put 0 (.string (mk l'))).put 1 (.slice A' n' c'),
   (h.r.far (p := ⟨w.heap.size, 0, none⟩) (Nat.succ_ne_self _) _).far (p := ⟨w.heap.size, 1, none⟩) (Nat.succ_ne_self _) _,
   (h.e.far (p := ⟨w.heap.size, 0, none⟩) (by simp only; omega) _).far (p := ⟨w.heap.size, 1, none⟩) (by simp only; omega) _,
   (hk.put h.p (by decide) 0 _).put (h.p.put 0 (.string (mk l'))) (by decide) 1 _,
   (h.b.setCell (p := ⟨w.heap.size, 0, none⟩) (Nat.le_refl _) _).setCell (p := ⟨w.heap.size, 1, none⟩) (Nat.le_refl _) _⟩
theorem refst_facts (h : RefSt w l K cs A n c W) : W.cell? ⟨w.heap.size, 0, none⟩ = some (.string (mk l)) ∧ W.cell? ⟨w.heap.size, 1, none⟩ = some (.slice A n c) ∧ W.frozen? ⟨w.heap.size, 0, none⟩ = false ∧ W.frozen? ⟨w.heap.size, 1, none⟩ = false :=
  ⟨h.p.cell 0, h.p.cell 1, h.p.frozen 0, h.p.frozen 1⟩
end

set_option maxHeartbeats 16000000 in
set_option maxRecDepth 20000 in
theorem RefRWrite_any (w : World) (l : List UInt8) (K : Kn) (v : Value) (N D : ByteArray) (r : Rec) (hrp : RefPk w l K v) (hl : l.length ≤ 600000) (hN : N = mk r.n) (hD : D = mk r.d) (hok : okR r = true) (hi : InvK l K) :
    Calls Tryz.prog 138 #[v, .agg (rrA N D r.t r.c r.l)] w fun e w' => ∃ v', e = .returned v' ∧ RefPk w' (writeW r (l, K)).1 (writeW r (l, K)).2 v' ∧ Below w.heap.size w w' := by
  obtain ⟨⟨L, hL⟩, ht, hc, httl, hr⟩ := ok_parts hok
  have hd : r.d.length ≤ 65535 := (right_is hr).1
  have hsize := size_le hok (st := (l, K)) hi
  obtain ⟨htop, ⟨z0, hz0, _, hz2⟩, hnope⟩ := top_inv hok (st := (l, K)) hi
  clear hnope
  obtain ⟨z, K3, e1, e2, e3⟩ := write_is r (l, K)
  have hnw : nameW r.n (l, K) = putL true L l K := by unfold nameW; rw [hL]
  obtain ⟨l1, K1, h1⟩ : ∃ l1 K1, putL true L l K = (l1, K1) := ⟨_, _, rfl⟩
  rw [hnw, h1] at hz0
  have hl1 : l1.length ≤ 600255 := by
    have := congrArg List.length hz0
    simp only [List.length_append] at this
    omega
  have htw : topW r (l, K) = (l1 ++ headB r.t r.c r.l, K1) := by unfold topW; rw [hnw, h1]
  rw [htw] at htop hsize e1 e2 e3
  simp only at htop e1 e3
  rw [e2] at hsize
  have hty := typ_is r.t r.c r.d
  have hem := empty_of hD
  have hsz : D.size = r.d.length := by rw [hD, mk_size]
  obtain ⟨n, t, c, ttl, d⟩ := r
  simp only at *
  obtain ⟨T0, T1⟩ := ht
  obtain ⟨S0, S1⟩ := hc
  obtain ⟨L0, L1⟩ := httl
  have u1 : IntKind.u64.wrap t = t := by rw [IntKind.wrap_u64]; omega
  have u2 : IntKind.u64.wrap c = c := by rw [IntKind.wrap_u64]; omega
  have u3 : IntKind.u64.wrap ttl = ttl := by rw [IntKind.wrap_u64]; omega
  obtain ⟨A0, n0, c0, rfl, hrp2⟩ := hrp.shape
  obtain ⟨hW0, hW1, hW2, hB0⟩ := three_new w #[.string (mk l), .slice A0 n0 c0] (rrA N D t c ttl) #[.string ⟨#[]⟩, .slice none 0 0] rpT rrT rpT
  have HS0 := Lib.hid (show RefSt w l K (rrA N D t c ttl) A0 n0 c0 _ from ⟨hW0, hW1, hW2, hrp2.same hB0, hB0⟩)
  obtain ⟨a0, a1, a2, a3⟩ := (refst_facts HS0.out)
  have b0 := (rr_facts HS0.out.r).1
  have HN := Lib.hid hN
  have HD := Lib.hid hD
  have HL := Lib.hid hL
  have H1 := Lib.hid h1
  have HKT := Lib.hid (fun r t h => (hi r t h).2.1 : ∀ r t, K r = some t → t < 16384)
  obtain ⟨X1, hX1⟩ : ∃ X, X = mk (be t.toNat 2) := ⟨_, rfl⟩
  obtain ⟨X2, hX2⟩ : ∃ X, X = mk (be c.toNat 2) := ⟨_, rfl⟩
  obtain ⟨X3, hX3⟩ : ∃ X, X = mk (be ttl.toNat 4) := ⟨_, rfl⟩
  have z1 : X1.size = 2 := by rw [hX1, mk_size, be_length]
  have z2 : X2.size = 2 := by rw [hX2, mk_size, be_length]
  have z3 : X3.size = 4 := by rw [hX3, mk_size, be_length]
  have HH := Lib.hid (show X1 ++ X2 ++ X3 = mk (headB t c ttl) by rw [hX1, hX2, hX3, mk_append, mk_append]; unfold headB; rw [List.append_assoc])
  have HB1 := Lib.hid (show ∀ (V : World) (q : Later V), Calls Tryz.prog 41 #[.int .u64 t, .int .i64 2] q.val fun e w'' => e = .returned (.string X1) ∧ ∃ q' : Later V, w'' = q'.val from
    fun V q => later_call (by rw [hX1]; have := RefBytes_any t.toNat 2 q.val (by decide) (by omega); rw [show ((t.toNat : Nat) : Int) = t by omega] at this; exact this))
  have HB2 := Lib.hid (show ∀ (V : World) (q : Later V), Calls Tryz.prog 41 #[.int .u64 c, .int .i64 2] q.val fun e w'' => e = .returned (.string X2) ∧ ∃ q' : Later V, w'' = q'.val from
    fun V q => later_call (by rw [hX2]; have := RefBytes_any c.toNat 2 q.val (by decide) (by omega); rw [show ((c.toNat : Nat) : Int) = c by omega] at this; exact this))
  have HB3 := Lib.hid (show ∀ (V : World) (q : Later V), Calls Tryz.prog 41 #[.int .u64 ttl, .int .i64 4] q.val fun e w'' => e = .returned (.string X3) ∧ ∃ q' : Later V, w'' = q'.val from
    fun V q => later_call (by rw [hX3]; have := RefBytes_any ttl.toNat 4 q.val (by decide) (by omega); rw [show ((ttl.toNat : Nat) : Int) = ttl by omega] at this; exact this))
  have HE1 := Lib.hid e1
  have HE3 := Lib.hid e3
  have HT := Lib.hid htop
  have HR := Lib.hid hr
  obtain ⟨em, hme⟩ : ∃ em, em = d.isEmpty := ⟨_, rfl⟩
  rw [← hme] at hem hty
  clear hme
  have HTY := Lib.hid hty
  have HIZ := Lib.hid (htop.raw (be 0 2))
  clear hN hD hL h1 hX1 hX2 hX3 hrp hrp2 hW0 hW1 hW2 hB0 e1 e2 e3 htw hnw hz0 hz2 htop hr hty hok hi
  unfold rrA at *
  go_enter Tryz.func138, Tryz.ntmps138
  go_wp2_with fail
  refine (RefName_at _ l K _ N n L true HS0.out.k (by omega) HN.out HL.out HKT.out).mono ?_
  rw [H1.out]
  rintro e w5 ⟨v5, rfl, h5, hB5⟩
  obtain ⟨A5, n5, c5, rfl, h5⟩ := h5.shape
  have HS5 := Lib.hid (refst_below HS0.out hB5)
  have HS6 := Lib.hid (refst_pk HS5.out h5)
  clear a0 a1 a2 a3 b0 hB5 h5
  obtain ⟨a0, a1, a2, a3⟩ := (refst_facts HS5.out)
  go_wp2_with fail
  revert HS6
  generalize (w5.setCell ⟨w.heap.size, 0, none⟩ (.string (mk l1))).setCell ⟨w.heap.size, 1, none⟩ (.slice A5 n5 c5) = V
  intro HS6
  clear a0 a1 a2 a3 HS5 HS0
  obtain ⟨d0, d1, d2, d3, d4⟩ := rr_later HS6.out.r
  refine region_later (by kernel_rfl) ?_
  repeat (go_big_quiet_step ((first
    | (go_at_call 41; with_reducible exact HB1.out _ _)
    | (go_at_call 41; with_reducible exact HB2.out _ _)
    | (go_at_call 41; with_reducible exact HB3.out _ _))))
  refine wpQuiet_nil ?_
  rintro _ ⟨q2, rfl⟩
  obtain ⟨V2, hB⟩ := q2
  simp only []
  have HS7 := Lib.hid (refst_below HS6.out hB)
  clear hB d0 d1 d2 d3 d4 HS6
  obtain ⟨H, hH⟩ : ∃ H, H = X1 ++ X2 ++ X3 := ⟨_, rfl⟩
  obtain ⟨Y, hY⟩ : ∃ Y, Y = mk l1 := ⟨_, rfl⟩
  have hHm : H = mk (headB t c ttl) := by rw [hH]; exact HH.out
  have hHz : H.size = 8 := by rw [hHm, mk_size, headB_len]
  have hYz : Y.size = l1.length := by rw [hY, mk_size]
  obtain ⟨M1, hM1⟩ : ∃ M, M = l1 ++ headB t c ttl ++ be 0 2 := ⟨_, rfl⟩
  obtain ⟨Q1, hQ1⟩ : ∃ Q, Q = Y ++ (H ++ ⟨#[0, 0]⟩) := ⟨_, rfl⟩
  have hQM : Q1 = mk M1 := by rw [hQ1, hY, hHm, hM1, show (⟨#[0, 0]⟩ : ByteArray) = mk (be 0 2) from rfl, mk_append, mk_append]; rw [List.append_assoc]
  have hMl : M1.length = l1.length + 10 := by rw [hM1]; simp [headB_len, be_length]
  have hQz : Q1.size = l1.length + 10 := by rw [hQM, mk_size, hMl]
  have HS8 := Lib.hid (show RefSt w M1 K1 #[.string N, .int .i64 t, .int .i64 c, .int .i64 ttl, .string D] A5 n5 c5 (V2.setCell ⟨w.heap.size, 0, none⟩ (.string Q1)) from by
    rw [hQM]; exact refst_msg HS7.out (by omega))
  obtain ⟨a0, a1, a2, a3⟩ := refst_facts HS7.out
  obtain ⟨e0, e1, e2, e3, e4⟩ := rr_facts HS7.out.r
  rw [← hY] at a0
  rw [← hM1] at HE1 HIZ
  have HHH := Lib.hid hH
  have HQ1 := Lib.hid hQ1
  have HQM := Lib.hid hQM
  have HMM := Lib.hid hM1
  have HMl := Lib.hid hMl
  rw [← hH]
  clear hH hY hHm hQ1 hQM hM1 z1 z2 z3
  go_wp2_with fail
  obtain ⟨k, hk⟩ : ∃ k, k = l1.length + 10 := ⟨_, rfl⟩
  rw [show (l1.length : Int) + 10 = ((k : Nat) : Int) by omega, ← HQ1.out]
  have HKK := Lib.hid hk
  revert HS8
  generalize V2.setCell ⟨w.heap.size, 0, none⟩ (.string Q1) = V3
  intro HS8
  clear hk a0 a1 a2 a3 e0 e1 e2 e3 e4 HS7 hYz hHz
  obtain ⟨a0, a1, a2, a3⟩ := refst_facts HS8.out
  obtain ⟨_, e1, _, _, e4⟩ := rr_facts HS8.out.r
  rw [← HQM.out] at a0
  obtain ⟨Q3, hQ3⟩ : ∃ Q, Q = mk (M1 ++ z) := ⟨_, rfl⟩
  have HQ3 := Lib.hid hQ3
  clear hQ3
  refine (typed_any c em _).mono ?_
  cases hy : typB c em with
  | true =>
    have hW : writeV true (visR t d) (M1, K1) = (M1 ++ z, K3) := by
      rw [← HE1.out]
      unfold dataW
      rw [HTY.out, hy, if_pos rfl]
    have HRT := Lib.hid (show rightR t d = true by have := HR.out; rw [HTY.out, hy, if_pos rfl] at this; exact this)
    have HW := Lib.hid hW
    have HRV := Lib.hid (show RefPk V3 M1 K1 (.agg #[.string Q1, .slice A5 n5 c5]) by rw [HQM.out]; exact HS8.out.k)
    clear hy hW
    rintro e w' ⟨rfl, rfl⟩
    go_wp2_with fail
    refine (RefWrite_any V3 M1 K1 _ D d t HRV.out (by rw [HMl.out]; omega) HD.out hd HRT.out HIZ.out).mono ?_
    rw [HW.out]
    rintro e w6 ⟨v6, rfl, h6, hB6⟩
    obtain ⟨A6, n6, c6, rfl, h6⟩ := h6.shape
    rw [← HQ3.out]
    have HS9 := Lib.hid (refst_below HS8.out hB6)
    have HS10 := Lib.hid (show RefSt w (M1 ++ z) K3 #[.string N, .int .i64 t, .int .i64 c, .int .i64 ttl, .string D] A6 n6 c6 ((w6.setCell ⟨w.heap.size, 0, none⟩ (.string Q3)).setCell ⟨w.heap.size, 1, none⟩ (.slice A6 n6 c6)) from by
      rw [HQ3.out]; exact refst_pk HS9.out h6)
    clear a0 a1 a2 a3 e1 e4 hB6 h6 HRV
    obtain ⟨a0, a1, a2, a3⟩ := refst_facts HS9.out
    go_wp2_with fail
    revert HS10
    generalize (w6.setCell ⟨w.heap.size, 0, none⟩ (.string Q3)).setCell ⟨w.heap.size, 1, none⟩ (.slice A6 n6 c6) = V4
    intro HS10
    clear a0 a1 a2 a3 HS9
    have hQz3 : Q3.size = k + z.length := by rw [HQ3.out, mk_size, List.length_append, HMl.out, HKK.out]
    obtain ⟨f0, f1, f2, f3⟩ := refst_facts HS10.out
    rw [← HQ3.out] at f0
    have hk10 := HKK.out
    obtain ⟨mm, hmm⟩ : ∃ mm, mm = l1.length + 8 := ⟨_, rfl⟩
    have r1 : (k : Int) - 2 = (mm : Int) := by omega
    have r2 : IntKind.i64.wrap ((k : Int) - 2) = (mm : Int) := by rw [IntKind.wrap_i64]; omega
    have r3 : (Q3.size : Int) - (k : Int) = (z.length : Int) := by omega
    have r4 : IntKind.i64.wrap ((Q3.size : Int) - (k : Int)) = (z.length : Int) := by rw [IntKind.wrap_i64]; omega
    have r5 : IntKind.u64.wrap (z.length : Int) = (z.length : Int) := by rw [IntKind.wrap_u64]; omega
    obtain ⟨P1, hP1⟩ : ∃ P, Q3.extract 0 mm = P := ⟨_, rfl⟩
    obtain ⟨P2, hP2⟩ : ∃ P, Q3.extract k Q3.size = P := ⟨_, rfl⟩
    have hP1m : P1 = mk (l1 ++ headB t c ttl) := by
      rw [← hP1, HQ3.out, mk_extract, HMM.out, List.drop_zero]
      congr 1
      rw [List.append_assoc]
      exact List.take_left' (by rw [List.length_append, headB_len, hmm])
    have hP2m : P2 = mk z := by
      rw [← hP2, hQz3, HQ3.out, mk_extract, List.take_of_length_le (by rw [List.length_append, HMl.out]; omega)]
      congr 1
      exact List.drop_left' (by rw [HMl.out, hk10])
    have hP1z : P1.size = mm := by rw [hP1m, mk_size, List.length_append, headB_len, hmm]
    have hP2z : P2.size = z.length := by rw [hP2m, mk_size]
    obtain ⟨XZ, hXZ⟩ : ∃ X, X = mk (be z.length 2) := ⟨_, rfl⟩
    have hXZz : XZ.size = 2 := by rw [hXZ, mk_size, be_length]
    have hs1 : ¬ (9223372036854775807 < P1.size + XZ.size) := by omega
    have hs2 : ¬ (9223372036854775807 < P1.size + XZ.size + P2.size) := by omega
    have hs3 : P1.size + XZ.size + P2.size ≤ 2000000 := by omega
    have hk1 : (0 : Int) ≤ (mm : Int) := by omega
    have hk2 : (mm : Int) ≤ (Q3.size : Int) := by omega
    have hk3 : (k : Int) ≤ (Q3.size : Int) := by omega
    have r6 : IntKind.i64.wrap (mm : Int) = (mm : Int) := by rw [IntKind.wrap_i64]; omega
    have r7 : IntKind.i64.wrap (k : Int) = (k : Int) := by rw [IntKind.wrap_i64]; omega
    have r8 : IntKind.i64.wrap (z.length : Int) = (z.length : Int) := by rw [IntKind.wrap_i64]; omega
    have hk4 : mm ≤ Q3.size := by omega
    have hk5 : k ≤ Q3.size := by omega
    obtain ⟨Q4, hQ4⟩ : ∃ Q, Q = P1 ++ XZ ++ P2 := ⟨_, rfl⟩
    have hQ4m : Q4 = mk (writeW ⟨n, t, c, ttl, d⟩ (l, K)).1 := by rw [hQ4, hP1m, hP2m, hXZ, mk_append, mk_append, HE3.out]
    have HQ4 := Lib.hid hQ4
    have HQ4m := Lib.hid hQ4m
    have HXZ := Lib.hid hXZ
    clear hQz3 hmm hk10 hP1m hP2m hP1z hP2z hXZz hQ4 hQ4m hXZ
    go_region_with (go_at_call 41; (refine (RefBytes_any z.length 2 _ (by decide) (by omega)).mono ?_; rw [show (⟨(be z.length 2).toArray⟩ : ByteArray) = XZ from HXZ.out.symm]; rintro e w7 ⟨rfl, hB7⟩; have hB7 := (Below.refl _ _).drew.trans hB7; have HS11 := Lib.hid (refst_below HS10.out hB7); obtain ⟨x0, x1, x2, x3⟩ := refst_facts HS11.out; rw [← HQ3.out] at x0))
    all_goals (
      have HS12 := Lib.hid (show RefSt w (writeW ⟨n, t, c, ttl, d⟩ (l, K)).1 K3 #[.string N, .int .i64 t, .int .i64 c, .int .i64 ttl, .string D] A6 n6 c6 (w7.setCell ⟨w.heap.size, 0, none⟩ (.string Q4)) from by
        rw [HQ4m.out]; exact refst_msg HS11.out (by rw [HE3.out, HMM.out]; simp [be_length]))
      rw [← HQ4.out]
      clear hB7 x0 x1 x2 x3 f0 f1 f2 f3 HS11
      revert HS12
      generalize w7.setCell ⟨w.heap.size, 0, none⟩ (.string Q4) = V5
      intro HS12
      obtain ⟨y0, y1, y2, y3⟩ := refst_facts HS12.out
      rw [← HQ4m.out] at y0
      have q0 := (HS12.out.e.cell 0).trans (show _ = some (Value.string ⟨#[]⟩) from rfl)
      have q1 := (HS12.out.e.cell 1).trans (show _ = some (Value.slice none 0 0) from rfl)
      have p0 := HS12.out.e.frozen 0
      have p1 := HS12.out.e.frozen 1
      have HE := Lib.hid (show Whole ((V5.setCell ⟨w.heap.size + 1 + 1, 0, none⟩ (.string Q4)).setCell ⟨w.heap.size + 1 + 1, 1, none⟩ (.slice A6 n6 c6)) (w.heap.size + 1 + 1) rpT #[.string Q4, .slice A6 n6 c6] from by simpa using (HS12.out.e.put 0 (.string Q4)).put 1 (.slice A6 n6 c6))
      have HRE := Lib.hid ((HS12.out.k.put HS12.out.e (by decide) 0 (.string Q4)).put (HS12.out.e.put 0 (.string Q4)) (by decide) 1 (.slice A6 n6 c6))
      have HBE := Lib.hid ((HS12.out.b.setCell (p := ⟨w.heap.size + 1 + 1, 0, none⟩) (by show w.heap.size ≤ w.heap.size + 1 + 1; omega) (.string Q4)).setCell (p := ⟨w.heap.size + 1 + 1, 1, none⟩) (by show w.heap.size ≤ w.heap.size + 1 + 1; omega) (.slice A6 n6 c6))
      clear r1 r2 r3 r4 r5 r6 r7 r8 hP1 hP2 hs1 hs2
      go_wp2_with fail
      refine ret2 rfl rfl rfl HE.out ⟨_, rfl, ?_, HBE.out⟩
      rw [show (writeW ⟨n, t, c, ttl, d⟩ (l, K)).2 = K3 by rw [HE3.out]]
      have hh := HRE.out
      unfold rpV at hh
      rw [← HQ4m.out] at hh
      exact hh)
  | false =>
    have hW : M1 ++ z = M1 ++ d ∧ K3 = K1 := by
      have h := HE1.out
      unfold dataW at h
      rw [HTY.out, hy, if_neg (by simp), plain_write hd] at h
      injection h with h1 h2
      exact ⟨h1.symm, h2.symm⟩
    have hzd : Q1 ++ D = Q3 := by rw [HQM.out, HD.out, mk_append, ← hW.1, HQ3.out]
    have HS10 := Lib.hid (show RefSt w (M1 ++ z) K3 #[.string N, .int .i64 t, .int .i64 c, .int .i64 ttl, .string D] A5 n5 c5 (V3.setCell ⟨w.heap.size, 0, none⟩ (.string Q3)) from by
      rw [hW.2, HQ3.out]; exact refst_msg HS8.out (by rw [List.length_append]; omega))
    clear hy hW
    rintro e w' ⟨rfl, rfl⟩
    go_wp2_with fail
    revert HS10
    generalize V3.setCell ⟨w.heap.size, 0, none⟩ (.string Q3) = V4
    intro HS10
    clear a0 a1 a2 a3 e1 e4 hzd
    have hQz3 : Q3.size = k + z.length := by rw [HQ3.out, mk_size, List.length_append, HMl.out, HKK.out]
    obtain ⟨f0, f1, f2, f3⟩ := refst_facts HS10.out
    rw [← HQ3.out] at f0
    have hk10 := HKK.out
    obtain ⟨mm, hmm⟩ : ∃ mm, mm = l1.length + 8 := ⟨_, rfl⟩
    have r1 : (k : Int) - 2 = (mm : Int) := by omega
    have r2 : IntKind.i64.wrap ((k : Int) - 2) = (mm : Int) := by rw [IntKind.wrap_i64]; omega
    have r3 : (Q3.size : Int) - (k : Int) = (z.length : Int) := by omega
    have r4 : IntKind.i64.wrap ((Q3.size : Int) - (k : Int)) = (z.length : Int) := by rw [IntKind.wrap_i64]; omega
    have r5 : IntKind.u64.wrap (z.length : Int) = (z.length : Int) := by rw [IntKind.wrap_u64]; omega
    obtain ⟨P1, hP1⟩ : ∃ P, Q3.extract 0 mm = P := ⟨_, rfl⟩
    obtain ⟨P2, hP2⟩ : ∃ P, Q3.extract k Q3.size = P := ⟨_, rfl⟩
    have hP1m : P1 = mk (l1 ++ headB t c ttl) := by
      rw [← hP1, HQ3.out, mk_extract, HMM.out, List.drop_zero]
      congr 1
      rw [List.append_assoc]
      exact List.take_left' (by rw [List.length_append, headB_len, hmm])
    have hP2m : P2 = mk z := by
      rw [← hP2, hQz3, HQ3.out, mk_extract, List.take_of_length_le (by rw [List.length_append, HMl.out]; omega)]
      congr 1
      exact List.drop_left' (by rw [HMl.out, hk10])
    have hP1z : P1.size = mm := by rw [hP1m, mk_size, List.length_append, headB_len, hmm]
    have hP2z : P2.size = z.length := by rw [hP2m, mk_size]
    obtain ⟨XZ, hXZ⟩ : ∃ X, X = mk (be z.length 2) := ⟨_, rfl⟩
    have hXZz : XZ.size = 2 := by rw [hXZ, mk_size, be_length]
    have hs1 : ¬ (9223372036854775807 < P1.size + XZ.size) := by omega
    have hs2 : ¬ (9223372036854775807 < P1.size + XZ.size + P2.size) := by omega
    have hs3 : P1.size + XZ.size + P2.size ≤ 2000000 := by omega
    have hk1 : (0 : Int) ≤ (mm : Int) := by omega
    have hk2 : (mm : Int) ≤ (Q3.size : Int) := by omega
    have hk3 : (k : Int) ≤ (Q3.size : Int) := by omega
    have r6 : IntKind.i64.wrap (mm : Int) = (mm : Int) := by rw [IntKind.wrap_i64]; omega
    have r7 : IntKind.i64.wrap (k : Int) = (k : Int) := by rw [IntKind.wrap_i64]; omega
    have r8 : IntKind.i64.wrap (z.length : Int) = (z.length : Int) := by rw [IntKind.wrap_i64]; omega
    have hk4 : mm ≤ Q3.size := by omega
    have hk5 : k ≤ Q3.size := by omega
    obtain ⟨Q4, hQ4⟩ : ∃ Q, Q = P1 ++ XZ ++ P2 := ⟨_, rfl⟩
    have hQ4m : Q4 = mk (writeW ⟨n, t, c, ttl, d⟩ (l, K)).1 := by rw [hQ4, hP1m, hP2m, hXZ, mk_append, mk_append, HE3.out]
    have HQ4 := Lib.hid hQ4
    have HQ4m := Lib.hid hQ4m
    have HXZ := Lib.hid hXZ
    clear hQz3 hmm hk10 hP1m hP2m hP1z hP2z hXZz hQ4 hQ4m hXZ
    go_region_with (go_at_call 41; (refine (RefBytes_any z.length 2 _ (by decide) (by omega)).mono ?_; rw [show (⟨(be z.length 2).toArray⟩ : ByteArray) = XZ from HXZ.out.symm]; rintro e w7 ⟨rfl, hB7⟩; have hB7 := (Below.refl _ _).drew.trans hB7; have HS11 := Lib.hid (refst_below HS10.out hB7); obtain ⟨x0, x1, x2, x3⟩ := refst_facts HS11.out; rw [← HQ3.out] at x0))
    all_goals (
      have HS12 := Lib.hid (show RefSt w (writeW ⟨n, t, c, ttl, d⟩ (l, K)).1 K3 #[.string N, .int .i64 t, .int .i64 c, .int .i64 ttl, .string D] A5 n5 c5 (w7.setCell ⟨w.heap.size, 0, none⟩ (.string Q4)) from by
        rw [HQ4m.out]; exact refst_msg HS11.out (by rw [HE3.out, HMM.out]; simp [be_length]))
      rw [← HQ4.out]
      clear hB7 x0 x1 x2 x3 f0 f1 f2 f3 HS11
      revert HS12
      generalize w7.setCell ⟨w.heap.size, 0, none⟩ (.string Q4) = V5
      intro HS12
      obtain ⟨y0, y1, y2, y3⟩ := refst_facts HS12.out
      rw [← HQ4m.out] at y0
      have q0 := (HS12.out.e.cell 0).trans (show _ = some (Value.string ⟨#[]⟩) from rfl)
      have q1 := (HS12.out.e.cell 1).trans (show _ = some (Value.slice none 0 0) from rfl)
      have p0 := HS12.out.e.frozen 0
      have p1 := HS12.out.e.frozen 1
      have HE := Lib.hid (show Whole ((V5.setCell ⟨w.heap.size + 1 + 1, 0, none⟩ (.string Q4)).setCell ⟨w.heap.size + 1 + 1, 1, none⟩ (.slice A5 n5 c5)) (w.heap.size + 1 + 1) rpT #[.string Q4, .slice A5 n5 c5] from by simpa using (HS12.out.e.put 0 (.string Q4)).put 1 (.slice A5 n5 c5))
      have HRE := Lib.hid ((HS12.out.k.put HS12.out.e (by decide) 0 (.string Q4)).put (HS12.out.e.put 0 (.string Q4)) (by decide) 1 (.slice A5 n5 c5))
      have HBE := Lib.hid ((HS12.out.b.setCell (p := ⟨w.heap.size + 1 + 1, 0, none⟩) (by show w.heap.size ≤ w.heap.size + 1 + 1; omega) (.string Q4)).setCell (p := ⟨w.heap.size + 1 + 1, 1, none⟩) (by show w.heap.size ≤ w.heap.size + 1 + 1; omega) (.slice A5 n5 c5))
      clear r1 r2 r3 r4 r5 r6 r7 r8 hP1 hP2 hs1 hs2
      go_wp2_with fail
      refine ret2 rfl rfl rfl HE.out ⟨_, rfl, ?_, HBE.out⟩
      rw [show (writeW ⟨n, t, c, ttl, d⟩ (l, K)).2 = K3 by rw [HE3.out]]
      have hh := HRE.out
      unfold rpV at hh
      rw [← HQ4m.out] at hh
      exact hh)
end Go.Proofs.YtnbapaimpoobkaaGreatDoor
namespace Go.Proofs.YtnbapaimpoobkaaGreatDoor
open Go.RowKit Go.Op

theorem rp_field (N : ByteArray) (A : Option Addr) (l c : Nat) (w : World) : (Instr.field rpT (.agg #[.string N, .slice A l c]) 0).run Tryz.prog w = .ok (.string N) w := by
  have a1 := Tryz.isAgg9
  unfold Instr.field
  simp [Sem.run_bind, run_underlying Tryz.underlying151, part, asAgg, Result.andThen, a1]
set_option maxHeartbeats 2000000 in
set_option maxRecDepth 20000 in
theorem RefOwn_any (N D : ByteArray) (r : Rec) (w : World) (hN : N = mk r.n) (hD : D = mk r.d) (hok : okR r = true) :
    Calls Tryz.prog 90 #[.agg (rrA N D r.t r.c r.l)] w fun e w' => e = .returned (.string (mk (ownE r))) ∧ Below w.heap.size w w' := by
  have HB0 := Lib.hid (show Below w.heap.size w (w.alloc (.cells (rrA N D r.t r.c r.l) rrT)) from (Below.refl _ _).alloc (Nat.le_refl _) _)
  have HW0 := Lib.hid (Whole.new w rrT (rrA N D r.t r.c r.l))
  obtain ⟨c0, c1, c2, c3, c4⟩ := rr_facts HW0.out
  have HN := Lib.hid hN
  have HD := Lib.hid hD
  have HOK := Lib.hid hok
  clear hN hD hok
  unfold rrA at *
  go_enter Tryz.func90, Tryz.ntmps90
  go_wp2_with fail
  refine (RefRWrite_any _ [] noneK _ N D r (RefPk.zero _) (by simp) HN.out HD.out HOK.out InvK.none).mono ?_
  rintro e w1 ⟨v', rfl, hr, hB⟩
  obtain ⟨A1, m1, k1, KL1, rfl, _⟩ := hr
  have HB1 := Lib.hid (HB0.out.trans (hB.mono HB0.out.size))
  clear hB c0 c1 c2 c3 c4
  unfold rpV
  have hfl : ∀ (N : ByteArray) (A : Option Addr) (l c : Nat) (w : World), (Instr.field 151 (.agg #[.string N, .slice A l c]) 0).run Tryz.prog w = .ok (.string N) w := rp_field
  go_wp2_with fail
  go_ret
  exact ⟨rfl, HB1.out⟩
set_option maxHeartbeats 1000000 in
theorem four17_any (n : Nat) (w : World) (hn : n < 4294967296) : Calls Tryz.prog 91 #[.int .u64 (n : Nat)] w fun en w' => en = .returned (.string (mk (be n 4))) ∧ Below w.heap.size w w' := by
  go_enter Tryz.func91, Tryz.ntmps91
  go_wp2_with fail
  refine (RefBytes_any n 4 _ (by omega) (by omega)).mono ?_
  rintro en w1 ⟨rfl, hB⟩
  go_wp2_with fail
  go_ret
  exact ⟨rfl, hB⟩
def rowR (l : List Rrd) (k : Nat) : List UInt8 := rowE (((l.take k).map Rrd.toRec).map ownE)
theorem rowR_succ {all : List Rrd} {k : Nat} {x : Rrd} (h : all[k]? = some x) : rowR all (k + 1) = rowR all k ++ (be (ownE x.toRec).length 4 ++ ownE x.toRec) := by
  unfold rowR
  rw [List.take_add_one, h]
  simp only [Option.toList_some, List.map_append, List.map_cons, List.map_nil, rowE_append, rowE, List.append_nil]
set_option maxHeartbeats 4000000 in
set_option maxRecDepth 20000 in
theorem RefPieces17_any (A : Option Addr) (n c : Nat) (xs : List Rrd) (w : World) (h : SeesR w w.heap.size A n xs) (hn : n ≤ 30) (hok : ∀ x ∈ xs, okR x.toRec = true) (hsm : ∀ x ∈ xs, x.s.size ≤ 600 ∧ x.d.size ≤ 2000) :
    Calls Tryz.prog 42 #[.slice A n c] w fun e w' => e = .returned (.string (mk (rowE ((xs.map Rrd.toRec).map ownE)))) ∧ Below w.heap.size w w' := by
  have HX := Lib.hid h
  have HL := Lib.hid (show rowE ((xs.map Rrd.toRec).map ownE) = rowR xs n by unfold rowR; rw [← h.1, List.take_length])
  have HOK := Lib.hid hok
  have HSM := Lib.hid hsm
  clear h hok hsm
  go_enter Tryz.func42, Tryz.ntmps42
  go_wp2_with fail
  go_loopw [3, 4] (fun s i wr => ∃ k : Nat, k ≤ n ∧ i = .int .i64 (k : Nat) ∧ s = .string (mk (rowR xs k)) ∧ (rowR xs k).length ≤ k * 2269 ∧ Below w.heap.size w wr) (fun _ i _ => n - (intOf i).toNat)
  case atStart => exact ⟨0, Nat.zero_le _, rfl, rfl, by simp [rowR, rowE], Below.refl _ _⟩
  case round =>
    obtain ⟨k, hk, rfl, rfl, hlen, hB⟩ := hrel
    have HB := Lib.hid hB
    by_cases hkn : k < n
    · have g2 : (k : Int) < (n : Int) := by omega
      have g0 : (0 : Int) ≤ (k : Int) := by omega
      obtain ⟨b, off, x, rfl, hb, hxk, hx5⟩ := (HX.out.keep HB.out).at hkn
      have hok := HOK.out x (List.mem_of_getElem? hxk)
      have hx6 := HSM.out x (List.mem_of_getElem? hxk)
      have hdl : x.toRec.d.length ≤ 2000 := by have := hx6.2; rw [rrd_data x, mk_size] at this; exact this
      have hol : (ownE x.toRec).length ≤ 2265 := by have := own_len hok; omega
      have HOW := Lib.hid (fun (W : World) => (RefOwn_any x.s x.d x.toRec W (rrd_name x) (rrd_data x) hok :
        Calls Tryz.prog 90 #[.agg #[.string x.s, .int .i64 x.t, .int .i64 x.c, .int .i64 x.l, .string x.d]] W fun e w' => e = .returned (.string (mk (ownE x.toRec))) ∧ Below W.heap.size W w'))
      have hsu := rowR_succ hxk
      have hL2 : (rowR xs (k + 1)).length ≤ (k + 1) * 2269 := by rw [hsu]; simp only [List.length_append, be_length]; omega
      have hk30 : k * 2269 ≤ 68070 := by omega
      have HL2 := Lib.hid hL2
      obtain ⟨O, hO⟩ : ∃ O, O = ownE x.toRec := ⟨_, rfl⟩
      rw [← hO] at hsu hol HOW
      have hz1 : (mk (be O.length 4)).size + (mk O).size ≤ 100000 := by rw [mk_size, mk_size, be_length]; omega
      have hz2 : (mk (rowR xs k)).size + (mk (be O.length 4) ++ mk O).size ≤ 1000000 := by rw [mk_append, mk_size, mk_size, List.length_append, be_length]; omega
      have hoz : (mk O).size = O.length := mk_size O
      have u1 : IntKind.u64.wrap (O.length : Int) = (O.length : Int) := by rw [IntKind.wrap_u64]; omega
      have HSU := Lib.hid (show mk (rowR xs k) ++ (mk (be O.length 4) ++ mk O) = mk (rowR xs (k + 1)) by rw [mk_append, mk_append, hsu])
      obtain ⟨x0, x1, x2, x3, x4⟩ := hx5
      have HO := Lib.hid hO
      clear hB hxk hok hx6 hdl hsu hL2 hO
      go_wp2_with fail
      refine (HOW.out _).mono ?_
      rintro e w1 ⟨rfl, hB1⟩
      have HB1 := Lib.hid (HB.out.trans (hB1.mono HB.out.size))
      clear hB1 x0 x1 x2 x3 x4
      go_wp2_with fail
      refine (four17_any O.length _ (by omega)).mono ?_
      rintro e w2 ⟨rfl, hB2⟩
      have HB2 := Lib.hid (HB1.out.trans (hB2.mono HB1.out.size))
      clear hB2
      go_wp2_with fail
      go_roundw
      case rel => exact ⟨k + 1, by omega, by go_num, by rw [← HSU.out], HL2.out, HB2.out⟩
      case measure => simp [intOf]; omega
    · obtain rfl : k = n := by omega
      go_wp2_with fail
      go_ret
      exact ⟨by rw [HL.out]; rfl, HB.out⟩
end Go.Proofs.YtnbapaimpoobkaaGreatDoor
