/- Parts of the proofs of the statements of image. No statement of the seat is proved here. -/
import Derived.Test.YtmpginmdaeclaaaGreatDoorReA
import Derived.Test.YtmpginmdaeclaaaGreatDoorRdJ
import Derived.Test.YtmpginmdaeclaaaGreatDoorRdG
set_option maxHeartbeats 32000000
set_option maxRecDepth 20000
namespace Go.Proofs.YtmpginmdaeclaaaGreatDoor
open Go.RowKit Go.Maps
theorem Pk.stay {B b m c : Nat} {w w' : World} {v : Value} {l : List UInt8} {K : Kn} (h : Pk B w b m v l K c) (h1 : w'.heap[b]? = w.heap[b]?) (h2 : w'.heap[m]? = w.heap[m]?) (h3 : ∀ g, v.ownBlock = some g -> w'.heap[g]? = w.heap[g]?) : Pk B w' b m v l K c := by
  obtain ⟨p, hp, hb⟩ := h.blk
  obtain ⟨D, n, ⟨es, cl, hm, r⟩, hn, hk⟩ := h.map
  refine ⟨h.hb, h.hm, ⟨p, hp, h1.trans hb⟩, ⟨h.row.1, ?_⟩, ⟨D, n, ⟨es, cl, h2.trans hm, r⟩, hn, hk⟩, h.nl⟩
  rcases h.row.2 with h' | ⟨g, cap, cur, fz, hv, hbg, hh, r⟩
  · exact .inl h'
  · exact .inr ⟨g, cap, cur, fz, hv, hbg, (h3 g (by rw [hv]; rfl)).trans hh, r⟩
theorem Pk.under {B B2 b m c : Nat} {w w0 w' : World} {v : Value} {l : List UInt8} {K : Kn} (h : Pk B w b m v l K c) (h0 : Pk B w0 b m v l K c) (hB : B2 = w0.heap.size) (hb : Below B2 w w') : Pk B w' b m v l K c := by
  subst hB
  exact h.stay (hb.block b h0.blt) (hb.block m h0.mlt) (fun g hg => hb.block g (h0.vlt g hg).2)
theorem Pk.behind {B B2 b m c b2 m2 c2 : Nat} {w w' w0 : World} {v v' v2 : Value} {l l2 : List UInt8} {K K2 : Kn} (h2 : Pk B2 w b2 m2 v2 l2 K2 c2) (h0 : Pk B w0 b m v l K c) (hB : B2 = w0.heap.size) (hk : Kp b m v v' w w') : Pk B2 w' b2 m2 v2 l2 K2 c2 := by
  have hb := h0.blt
  have hm := h0.mlt
  have hv := fun g hg => (h0.vlt g hg).2
  have hst : ∀ k, B2 <= k -> k < w.heap.size -> w'.heap[k]? = w.heap[k]? := fun k h1 h3 => hk.block k h3 (by omega) (by omega) (fun e => by have := hv k e; omega)
  exact h2.stay (hst b2 h2.hb h2.blt) (hst m2 h2.hm h2.mlt) (fun g hg => hst g (h2.vlt g hg).1 (h2.vlt g hg).2)
theorem Kp.toB {b m : Nat} {v v' : Value} {w w1 w2 : World} (h : Kp b m v v' w w1) (hb : Below w.heap.size w1 w2) (hs : w1.heap.size <= w2.heap.size) (hv : ∀ g, v'.ownBlock = some g -> v.ownBlock = some g \/ w.heap.size <= g) : Kp b m v v' w w2 :=
  ⟨hb.os.trans h.os, hb.tape.trans h.tape, hb.output.trans h.output, Nat.le_trans h.size hs, fun k hk h1 h2 h3 => (hb.block k hk).trans (h.block k hk h1 h2 h3), hv⟩
theorem maps_Clone_any (b n : Nat) (D : DataW Unit) (w : World) (hown : w.ownsMap Tryz.prog 9 intR b n D) :
    Calls Tryz.prog 277 #[.map (some b)] w fun e w' => e = .returned (.map (some w.heap.size)) /\ w'.ownsMap Tryz.prog 9 intR w.heap.size n D /\ Below w.heap.size w w' :=
  (AnyW.maps_Clone_owns cloneL 9 intR b n D w hown).mono fun _ _ ⟨h1, h2, _, h3⟩ => ⟨h1, h2, h3⟩
section
variable {B b m c : Nat} {w w' : World} {v v' : Value} {l : List UInt8} {K : Kn}
theorem Clone_any (h : Pk B w b m v l K c) (hl : l.length <= 1000000) :
    Calls Tryz.prog 268 #[pkP b] w fun e w' => ∃ b2 m2 v2, e = .returned (pkP b2) /\ Pk w.heap.size w' b2 m2 v2 l K c /\ Pk B w' b m v l K c /\ Kp b m v v w w' := by
  have c2 := h.cell2
  obtain ⟨D, n, hm1, hm2, hm3⟩ := h.map
  have HH := Ha h
  have HM1 := Ha hm1
  have HM2 := Ha hm2
  have HM3 := Ha hm3
  clear h hm1 hm2 hm3
  go_enter Tryz.func268, Tryz.ntmps268
  go_wp2_with fail
  refine (maps_Clone_any m n D w HM1.out).mono ?_
  rintro e w1 ⟨rfl, ho, hB⟩
  have hB2 : Below w.heap.size w1 (w1.alloc (.cells #[.pointer none, .slice none 0 0, .map (some w.heap.size)] pkT)) := (Below.refl _ _).alloc hB.size _
  have hw1 := Whole.new w1 pkT #[.pointer none, .slice none 0 0, .map (some w.heap.size)]
  have HP2 := Ha (show Pk w.heap.size (w1.alloc (.cells #[.pointer none, .slice none 0 0, .map (some w.heap.size)] pkT)) w1.heap.size w.heap.size (.slice none 0 0) [] K c from
    ⟨hB.size, Nat.le_refl _, ⟨_, .inl rfl, hw1⟩, World.ownsRowF_nil _ _ _ _, ⟨D, n, ho.alloc _, HM2.out, HM3.out⟩, fun _ => rfl⟩)
  have HB2 := Ha (hB.trans hB2)
  clear ho hB hB2 hw1
  go_wp2_with fail
  refine (Bytes_any (HH.out.same HB2.out)).mono ?_
  rintro e w3 ⟨rfl, h3, k3⟩
  have HP3 := Ha (HP2.out.behind HH.out rfl k3)
  have H3 := Ha h3
  have K3 := Ha ((Kp.of_below (b := b) (m := m) (v := v) HB2.out).trans k3)
  clear h3 k3
  go_wp2_with fail
  refine (Raw_any HP3.out (mk l) (by rw [mk_size]; simp; omega) K3.out.size).mono ?_
  rintro e w4 ⟨rfl, v2, h4, k4⟩
  have hb4 := k4.below HP3.out K3.out.size
  have HP4 := Ha (show Pk w.heap.size w4 w1.heap.size w.heap.size v2 l K c from by simpa [mk] using h4)
  have H4 := Ha (H3.out.under HH.out rfl hb4)
  have K4 := Ha (K3.out.toB hb4 k4.size (fun g hg => .inl hg))
  clear h4 k4 hb4
  go_wp2_with fail
  go_ret
  exact ⟨_, _, _, rfl, HP4.out, H4.out, K4.out⟩
theorem join_size {n : Nat} (hn : n < 65536) : joinR [(n : Int)] [2] = (mk (be n 2), 0) := by
  refine joinR_some (by decide) rfl ?_
  have e1 : ((n : Int)).toNat = n := by omega
  have e2 : ((2 : Int)).toNat = 2 := rfl
  have e3 : fitB n 2 = true := by unfold fitB; rw [decide_eq_true_eq]; omega
  simp only [joinF, e1, e2, e3, if_true, Option.map_some, List.append_nil]
theorem writeSize_any (h : Pk B w b m v l K c) (n : Nat) (hn : n < 65536) (hlen : l.length + 2 <= 1000000000) (hBw : B <= w.heap.size) :
    Calls Tryz.prog 239 #[pkP b, .int .i64 (n : Nat)] w fun e w' => e = .returned (.tuple #[]) /\ ∃ v', Pk B w' b m v' (l ++ be n 2) K c /\ Kp b m v v' w w' := by
  have HJ := Ha (join_size hn)
  have g0 : (0 : Int) <= (n : Int) := by omega
  have g1 : (n : Int) < 65536 := by omega
  have HH := Ha h
  clear h
  go_enter Tryz.func239, Tryz.ntmps239
  have F1 := (Whole.new w 44 #[.int .u64 (n : Int)]).alloc (.cells #[.int .i64 2] 3)
  have F2 := Whole.new (w.alloc (.cells #[.int .u64 (n : Int)] 44)) 3 #[.int .i64 2]
  rw [World.size_alloc] at F2
  have FB : Below w.heap.size w ((w.alloc (.cells #[.int .u64 (n : Int)] 44)).alloc (.cells #[.int .i64 2] 3)) := ((Below.refl _ _).alloc (Nat.le_refl _) _).alloc (by simp) _
  go_wp2_with fail
  refine (Join_any _ _ 1 1 1 1 (w.heap.size + 1) (w.heap.size + 1 + 1) [(n : Int)] [2] _ (sees_one F1) (sees_one F2) (by simp) (by simp) (by decide) (by decide) ?_).mono ?_
  · intro z hz
    obtain rfl : z = (n : Int) := by simpa using hz
    omega
  rintro e w1 ⟨he, hB1⟩
  rw [HJ.out] at he
  subst he
  have hB2 : Below w.heap.size w w1 := FB.trans (hB1.mono FB.size)
  have HP := Ha (HH.out.same hB2)
  have HB2 := Ha hB2
  clear hB1 hB2 F1 F2 FB
  go_wp2_with fail
  refine (Raw_any HP.out _ (by rw [mk_size, be_length]; omega) (Nat.le_trans hBw HB2.out.size)).mono ?_
  rintro e w2 ⟨rfl, v', h1, h2⟩
  go_wp2_with fail
  go_end0
  exact ⟨rfl, v', h1, (Kp.of_below HB2.out).trans h2⟩
theorem headWidths_any (w : World) : Calls Tryz.prog 214 #[] w fun e w' => ∃ g, e = .returned (.slice (some ⟨g, 0, none⟩) 3 3) /\ Sees w' w'.heap.size (some ⟨g, 0, none⟩) 3 (ints .i64 [2, 2, 4]) /\ Below w.heap.size w w' := by
  go_enter Tryz.func214, Tryz.ntmps214
  go_wp2
  go_ret
  have hw := Whole.new w 3 #[.int .i64 2, .int .i64 2, .int .i64 4]
  refine ⟨_, rfl, ⟨rfl, fun _ => ⟨_, 0, rfl, by simp, fun j u hu => ?_⟩⟩, (Below.refl _ _).alloc (Nat.le_refl _) _⟩
  rw [Nat.zero_add]
  refine (hw.cell j).trans ?_
  rw [<-hu]; simp [ints]
theorem join_head {t c l : Int} (ht : 0 <= t /\ t <= 65535) (hc : 0 <= c /\ c <= 65535) (hl : 0 <= l /\ l <= 2147483647) : joinR [t, c, l] [2, 2, 4] = (mk (headB t c l), 0) := by
  refine joinR_some (by decide) rfl ?_
  have e2 : ((2 : Int)).toNat = 2 := rfl
  have e4 : ((4 : Int)).toNat = 4 := rfl
  have f1 : fitB t.toNat 2 = true := by unfold fitB; rw [decide_eq_true_eq]; omega
  have f2 : fitB c.toNat 2 = true := by unfold fitB; rw [decide_eq_true_eq]; omega
  have f3 : fitB l.toNat 4 = true := by unfold fitB; rw [decide_eq_true_eq]; omega
  simp only [joinF, e2, e4, f1, f2, f3, if_true, Option.map_some, List.append_nil]
  rfl
end
end Go.Proofs.YtmpginmdaeclaaaGreatDoor
namespace Go.Proofs.YtmpginmdaeclaaaGreatDoor
open Go.RowKit Go.Maps
theorem sees_three {W : World} {g ty : Nat} {x y z : Int} (h : Whole W g ty #[.int .u64 x, .int .u64 y, .int .u64 z]) : Sees W (g + 1) (some ⟨g, 0, none⟩) 3 (ints .u64 [x, y, z]) := sees_whole h
section
variable {B b m c0 : Nat} {w w' : World} {v v' : Value} {l : List UInt8} {K : Kn}
theorem writeHead_any (h : Pk B w b m v l K c0) (N D : ByteArray) (t c ttl : Int) (ht : 0 <= t /\ t <= 65535) (hc : 0 <= c /\ c <= 65535) (hl : 0 <= ttl /\ ttl <= 2147483647) (hlen : l.length + 8 <= 1000000000) (hBw : B <= w.heap.size) :
    Calls Tryz.prog 238 #[pkP b, .agg (rrA N D t c ttl)] w fun e w' => e = .returned (.tuple #[]) /\ ∃ v', Pk B w' b m v' (l ++ headB t c ttl) K c0 /\ Kp b m v v' w w' := by
  have HJ := Ha (join_head ht hc hl)
  obtain ⟨t0, t1⟩ := ht
  obtain ⟨s0, s1⟩ := hc
  obtain ⟨l0, l1⟩ := hl
  have u1 : IntKind.u64.wrap t = t := by rw [IntKind.wrap_u64]; omega
  have u2 : IntKind.u64.wrap c = c := by rw [IntKind.wrap_u64]; omega
  have u3 : IntKind.u64.wrap ttl = ttl := by rw [IntKind.wrap_u64]; omega
  have HU := Ha (show U64s [t, c, ttl] from by intro z hz; simp at hz; omega)
  have hb0 : Below w.heap.size w (w.alloc (.cells (rrA N D t c ttl) rrT)) := (Below.refl _ _).alloc (Nat.le_refl _) _
  have hW0 := Whole.new w rrT (rrA N D t c ttl)
  have HH := Ha (h.same hb0)
  have HB0 := Ha hb0
  have HW0 := Ha hW0
  obtain ⟨_, c1, c2, c3, _⟩ := rr_facts hW0
  clear hb0 hW0
  unfold rrA at *
  go_enter Tryz.func238, Tryz.ntmps238
  go_wp2_with fail
  go_region_held3 (fun w' => w'.cell? ⟨w.heap.size, 1, none⟩ = some (.int .i64 t) /\ w'.cell? ⟨w.heap.size, 2, none⟩ = some (.int .i64 c) /\ w'.cell? ⟨w.heap.size, 3, none⟩ = some (.int .i64 ttl)) (go_keep) (first
    | (go_at_call 214; (refine (headWidths_any _).mono ?_; rintro e w1 ⟨g1, rfl, hs1, hB1⟩; have hB1 := (Below.refl _ _).drew.trans hB1; (first
        | (have hq : Below _ (w.alloc (.cells #[.string N, .int .i64 t, .int .i64 c, .int .i64 ttl, .string D] 46)) w1 := (by with_reducible exact hB1); have hw1 := HW0.out.below hq HW0.out.lt; have HB1 := thB HB0 hq; obtain ⟨_, k1, k2, k3, _⟩ := rr_facts hw1)
        | (have hq : Below _ ((w.alloc (.cells #[.string N, .int .i64 t, .int .i64 c, .int .i64 ttl, .string D] 46)).alloc (.cells #[.int .u64 t, .int .u64 c, .int .u64 ttl] 44)) w1 := (by with_reducible exact hB1); have hw0' := HW0.out.alloc (.cells #[.int .u64 t, .int .u64 c, .int .u64 ttl] 44); have hw1 := hw0'.below hq hw0'.lt; have hu0 := Whole.new (w.alloc (.cells #[.string N, .int .i64 t, .int .i64 c, .int .i64 ttl, .string D] rrT)) 44 #[.int .u64 t, .int .u64 c, .int .u64 ttl]; rw [World.size_alloc] at hu0; have hu1 := hu0.below hq hu0.lt; have HB1 := Ha ((HB0.out.alloc HB0.out.size (.cells #[.int .u64 t, .int .u64 c, .int .u64 ttl] 44)).trans (hq.mono (by first | (simp; omega) | simp | omega))); obtain ⟨_, k1, k2, k3, _⟩ := rr_facts hw1))))
    | (go_at_call 146; (first
        | (refine (Join_any _ _ 3 3 3 3 _ _ [t, c, ttl] [2, 2, 4] _ (sees_three hu1) hs1 (Nat.succ_le_of_lt hu1.lt) (Nat.le_refl _) (by decide) (by decide) HU.out).mono ?_; rintro e w2 ⟨he, hB2⟩; rw [HJ.out] at he; subst he; have HB2 := thB HB1 hB2; obtain ⟨_, z1, z2, z3, _⟩ := rr_facts (hw1.below hB2 hw1.lt))
        | (refine (Join_any _ _ 3 3 3 3 _ _ [t, c, ttl] [2, 2, 4] _ (sees_three (Whole.new w1 44 #[.int .u64 t, .int .u64 c, .int .u64 ttl])) (hs1.below ((Below.refl _ _).alloc (Nat.le_refl _) _)) (by simp) (by simp) (by decide) (by decide) HU.out).mono ?_; rintro e w2 ⟨he, hB2⟩; rw [HJ.out] at he; subst he; have HB2 := Ha ((HB1.out.alloc HB1.out.size (.cells #[.int .u64 t, .int .u64 c, .int .u64 ttl] 44)).trans (hB2.mono (by have := HB1.out.size; first | (simp; omega) | simp | omega))); obtain ⟨_, z1, z2, z3, _⟩ := rr_facts ((hw1.alloc (.cells #[.int .u64 t, .int .u64 c, .int .u64 ttl] 44)).below hB2 (hw1.alloc (.cells #[.int .u64 t, .int .u64 c, .int .u64 ttl] 44)).lt)))))
  all_goals (
    have HP2 := Ha (h.same HB2.out)
    clear hB2 hB1; go_wp2_with fail
    refine (Raw_any HP2.out _ (by rw [mk_size, headB_len]; omega) (Nat.le_trans hBw HB2.out.size)).mono ?_
    rintro e w3 ⟨rfl, v', h1, h2⟩; go_wp2_with fail
    go_end0
    exact ⟨rfl, v', h1, (Kp.of_below HB2.out).trans h2⟩)
end
end Go.Proofs.YtmpginmdaeclaaaGreatDoor
namespace Go.Proofs.YtmpginmdaeclaaaGreatDoor
open Go.RowKit Go.Maps
section
variable {B b m : Nat} {w w' : World} {v v' : Value} {l : List UInt8} {K : Kn}
theorem writeData_any (h : Pk B w b m v l K l.length) (N D : ByteArray) (t c ttl : Int) (d : List UInt8) (hD : D = mk d) (hd : d.length <= 65535) (hr : rightR (tyd t c d.length) d = true) (hl : l.length <= 800000) (hBw : B <= w.heap.size) (hK : InvK l K) :
    Calls Tryz.prog 241 #[pkP b, .agg (rrA N D t c ttl)] w fun e w' => e = .returned (.tuple #[]) /\ ∃ v', Pk B w' b m v' (dataW t c d (l, K)).1 (dataW t c d (l, K)).2 (dataW t c d (l, K)).1.length /\ Kp b m v v' w w' := by
  have hsz : D.size = d.length := by rw [hD, mk_size]
  have HS := Ha hsz
  have HD := Ha hD
  have HR := Ha hr
  have hb0 : Below w.heap.size w (w.alloc (.cells (rrA N D t c ttl) rrT)) := (Below.refl _ _).alloc (Nat.le_refl _) _
  have hW0 := Whole.new w rrT (rrA N D t c ttl)
  have HH := Ha (h.same hb0)
  have HB0 := Ha hb0
  have HW0 := Ha hW0
  have HE := Ha (show writeV true (visR (tyd t c d.length) d) (l, K) = dataW t c d (l, K) from rfl)
  obtain ⟨_, c1, c2, _, c4⟩ := rr_facts hW0
  clear h hb0 hW0 hD hr hsz
  unfold rrA at *
  go_enter Tryz.func241, Tryz.ntmps241
  go_wp2_with fail
  go_region_held3 (fun w' => w'.cell? ⟨w.heap.size, 1, none⟩ = some (.int .i64 t) /\ w'.cell? ⟨w.heap.size, 2, none⟩ = some (.int .i64 c) /\ w'.cell? ⟨w.heap.size, 4, none⟩ = some (.string D)) (go_keep) (first
    | (go_at_call 124; (refine (typeOf_any t c D.size _).mono ?_; rw [HS.out]; rintro e w1 ⟨rfl, rfl⟩))
    | (go_at_call 270; (refine (Write_yes HH.out.drew D d _ HD.out hd HR.out hl (Nat.le_trans hBw HB0.out.size) hK).mono ?_; rintro e w2 ⟨rfl, v2, h2, k2⟩; have k2 := (Kp.refl _ _ _ _).drew.trans k2; obtain ⟨_, z1, z2, _, z4⟩ := rr_facts (k2.whole HW0.out HH.out (by decide) (by decide)))))
  all_goals (
    go_wp2_with fail
    go_end0
    rw [HE.out] at h2
    exact ⟨rfl, v2, h2, (Kp.of_below HB0.out).trans k2⟩)
theorem sizeOfData_any (h : Pk B w b m v l K l.length) (N D : ByteArray) (r : Rec) (hD : D = mk r.d) (hd : r.d.length <= 65535) (hr : rightR (tyd r.t r.c r.d.length) r.d = true) (hl : l.length <= 700000) (_hBw : B <= w.heap.size) (hK : InvK l K) :
    Calls Tryz.prog 240 #[pkP b, .agg (rrA N D r.t r.c r.l)] w fun e w' => e = .returned (.int .i64 (sizeW r (l, K) : Nat)) /\ ∃ v', Pk B w' b m v' l K l.length /\ Kp b m v v' w w' := by
  obtain ⟨n, t, c, ttl, d⟩ := r
  simp only at hD hd hr ⊢
  obtain ⟨z, K', hz, _⟩ := data_same t c d (l := l ++ be 0 2) (l' := l ++ be 0 2) K rfl
  have hsz : sizeW ⟨n, t, c, ttl, d⟩ (l, K) = z.length := by
    unfold sizeW
    simp only
    rw [hz, List.length_append, List.length_append, be_length]
    omega
  have hlen : (l ++ be 0 2).length = l.length + 2 := by rw [List.length_append, be_length]
  have hzl : z.length <= 65535 := by
    obtain ⟨_, _, hcat, hwf, _⟩ := right_is hr
    obtain ⟨_, ⟨z2, hz3, hz4⟩, _⟩ := steps_write true (visR (tyd t c d.length) d) (l ++ be 0 2, K) (hK.raw _) hwf
    have e1 : (dataW t c d (l ++ be 0 2, K)).1 = (l ++ be 0 2) ++ z2 := hz3
    rw [hz] at e1
    have e2 := List.append_cancel_left e1
    rw [e2]; rw [hcat] at hz4; omega
  have hinv := hK.raw (be 0 2)
  have HZ := Ha hz
  have HSZ := Ha hsz
  have HI := Ha hinv
  have HL := Ha hlen
  have HD := Ha hD
  have HR := Ha hr
  have hb0 : Below w.heap.size w (w.alloc (.cells (rrA N D t c ttl) rrT)) := (Below.refl _ _).alloc (Nat.le_refl _) _
  have hW0 := Whole.new w rrT (rrA N D t c ttl)
  have HH := Ha (h.same hb0)
  have HB0 := Ha hb0
  have HW0 := Ha hW0
  clear h hb0 hW0 hD hr hz hsz hinv hlen
  unfold rrA at *
  obtain ⟨W, hW⟩ : ∃ W, W = w.alloc (.cells #[.string N, .int .i64 t, .int .i64 c, .int .i64 ttl, .string D] 46) := ⟨_, rfl⟩
  obtain ⟨g, hg⟩ : ∃ g, g = w.heap.size := ⟨_, rfl⟩
  have HH := Ha (show Pk B W b m v l K l.length by rw [hW]; exact HH.out)
  have HB0 := Ha (show Below w.heap.size w W by rw [hW]; exact HB0.out)
  have HW0 := Ha (show Whole W g rrT #[.string N, .int .i64 t, .int .i64 c, .int .i64 ttl, .string D] by rw [hW, hg]; exact HW0.out)
  have HWW := Ha hW
  have HG := Ha hg
  clear hW hg
  go_enter Tryz.func240, Tryz.ntmps240
  go_wp2_with fail
  rw [<-HWW.out, <-HG.out]
  refine (Clone_any HH.out (by omega)).mono ?_
  rintro e w1 ⟨b2, m2, v2, rfl, hp2, hp, hk⟩
  have HK1 := Ha hk
  have HP1 := Ha hp
  have HQ1 := Ha hp2
  have HW1 := Ha (hk.whole HW0.out HH.out (by decide) (by decide))
  have hs1 : W.heap.size <= w1.heap.size := hk.size
  clear hk hp hp2
  go_wp2_with fail
  refine (writeSize_any HQ1.out 0 (by decide) (by omega) hs1).mono ?_
  rintro e w2 ⟨rfl, v3, h3, k3⟩
  have hb3 := k3.below HQ1.out hs1
  have HQ2 := Ha (h3.more (c' := (l ++ be 0 2).length) (by rw [HL.out]; omega))
  have HP2 := Ha (HP1.out.under HH.out rfl hb3)
  have HK2 := Ha (HK1.out.toB hb3 k3.size (fun g hg => .inl hg))
  have HW2 := Ha (show Whole w2 g rrT #[.string N, .int .i64 t, .int .i64 c, .int .i64 ttl, .string D] from (hb3.block g HW0.out.lt).trans HW1.out)
  have hs2 : W.heap.size <= w2.heap.size := Nat.le_trans hs1 k3.size
  clear h3 k3 hb3
  go_wp2_with fail
  refine (Len_any HQ2.out).mono ?_
  rw [HL.out]
  rintro e w' ⟨rfl, rfl⟩
  obtain ⟨e0, e1, e2, e3, e4⟩ := rr_facts HW2.out
  go_wp2_with fail
  refine (writeData_any HQ2.out N D t c ttl d HD.out hd HR.out (by rw [HL.out]; omega) hs2 HI.out).mono ?_
  rw [HZ.out]
  rintro e w3 ⟨rfl, v4, h4, k4⟩
  have hb4 := k4.below HQ2.out hs2
  have HQ3 := Ha h4
  have HP3 := Ha (HP2.out.under HH.out rfl hb4)
  have HK3 := Ha (HK2.out.toB hb4 k4.size (fun g hg => .inl hg))
  have HLZ := Ha (show (l ++ be 0 2 ++ z).length = l.length + 2 + z.length by rw [List.length_append, HL.out])
  clear h4 k4 hb4 e0 e1 e2 e3 e4
  go_wp2_with fail
  refine (Len_any HQ3.out).mono ?_
  rw [HLZ.out]
  rintro e w' ⟨rfl, rfl⟩
  go_wp2_with fail
  go_ret
  exact ⟨by rw [HSZ.out]; show Ending.returned (.int .i64 ((l.length : Int) + 2 + (z.length : Int) - ((l.length : Int) + 2))) = _; rw [show (l.length : Int) + 2 + (z.length : Int) - ((l.length : Int) + 2) = (z.length : Int) by omega], v, HP3.out, (Kp.of_below HB0.out).trans HK3.out⟩
theorem RWrite_yes (h : Pk B w b m v l K l.length) (N D : ByteArray) (r : Rec) (hN : N = mk r.n) (hD : D = mk r.d) (hn : r.n.length <= 1073741824) (hok : okR r = true) (hl : l.length <= 600000) (hBw : B <= w.heap.size) (hK : InvK l K) :
    Calls Tryz.prog 193 #[pkP b, .agg (rrA N D r.t r.c r.l)] w fun e w' => e = .returned (.int .i64 0) /\ ∃ v', Pk B w' b m v' (writeW r (l, K)).1 (writeW r (l, K)).2 (writeW r (l, K)).1.length /\ Kp b m v v' w w' := by
  obtain ⟨⟨L, hL⟩, ht, hc, httl, hr⟩ := ok_parts hok
  have hd : r.d.length <= 65535 := (right_is hr).1
  have hsize := size_le hok (st := (l, K)) hK
  obtain ⟨htop, ⟨z, hz, _, hz2⟩, _⟩ := top_inv hok (st := (l, K)) hK
  have hnw : nameW r.n (l, K) = putL true L l K := by unfold nameW; rw [hL]
  obtain ⟨l1, K1, h1⟩ : ∃ l1 K1, putL true L l K = (l1, K1) := ⟨_, _, rfl⟩
  rw [hnw, h1] at hz
  have hl1 : l1.length <= 600255 := by
    have := congrArg List.length hz
    simp only [List.length_append] at this
    omega
  have htw : topW r (l, K) = (l1 ++ headB r.t r.c r.l, K1) := by unfold topW; rw [hnw, h1]
  have hwr : writeW r (l, K) = dataW r.t r.c r.d (l1 ++ headB r.t r.c r.l ++ be (sizeW r (l1 ++ headB r.t r.c r.l, K1)) 2, K1) := by unfold writeW; rw [htw]
  rw [htw] at htop hsize
  simp only at htop
  have hKt : ∀ r t, K r = some t -> t < 16384 := fun r t h => (hK r t h).2.1
  obtain ⟨l2, hl2⟩ : ∃ l2, l2 = l1 ++ headB r.t r.c r.l := ⟨_, rfl⟩
  rw [<-hl2] at htop hsize hwr
  have hl2l : l2.length <= 600263 := by rw [hl2, List.length_append, headB_len]; omega
  obtain ⟨sz, hsz⟩ : ∃ sz, sz = sizeW r (l2, K1) := ⟨_, rfl⟩
  rw [<-hsz] at hsize hwr
  have hb0 : Below w.heap.size w (w.alloc (.cells (rrA N D r.t r.c r.l) rrT)) := (Below.refl _ _).alloc (Nat.le_refl _) _
  have hW0 := Whole.new w rrT (rrA N D r.t r.c r.l)
  have HH := Ha (h.same hb0)
  have HB0 := Ha hb0
  have HW0 := Ha hW0
  obtain ⟨c0, c1, c2, c3, c4⟩ := rr_facts hW0
  have HN := Ha hN
  have HD := Ha hD
  have HOK := Ha hok
  have HLN := Ha hL
  have H1 := Ha h1
  have HT := Ha htop
  have HR := Ha hr
  have HL2 := Ha hl2
  have HSZ := Ha hsz
  have HWR := Ha hwr
  have HKT := Ha hKt
  have HIZ := Ha (htop.raw (be sz 2))
  have HLZ := Ha (show (l2 ++ be sz 2).length = l2.length + 2 by rw [List.length_append, be_length])
  clear h hb0 hW0 hN hD hok hL h1 htop hr hl2 hsz hwr hKt hz hz2 hnw htw
  unfold rrA at *
  go_enter Tryz.func193, Tryz.ntmps193
  go_wp2_with fail
  refine (RRight_any N D r _ HN.out HD.out hn hd).mono ?_
  rw [HOK.out]
  rintro e w1 ⟨rfl, hB⟩
  have HP1 := Ha (HH.out.same hB)
  have HW1 := Ha (HW0.out.below hB HW0.out.lt)
  have HK1 := Ha ((Kp.of_below (b := b) (m := m) (v := v) HB0.out).to hB)
  have hs1 : B <= w1.heap.size := Nat.le_trans hBw HK1.out.size
  clear c0 c1 c2 c3 c4 hB
  obtain ⟨c0, _, _, _, _⟩ := rr_facts HW1.out
  go_wp2_with fail
  refine (Name_yes HP1.out N r.n L true HN.out HLN.out (by omega) hs1 HKT.out).mono ?_
  rw [H1.out]
  rintro e w2 ⟨rfl, v2, h2, k2⟩
  have HP2 := Ha h2
  have HW2 := Ha (k2.whole HW1.out HP1.out (by decide) (by decide))
  have HK2 := Ha (HK1.out.trans k2)
  have hs2 : B <= w2.heap.size := Nat.le_trans hs1 k2.size
  clear h2 k2 c0
  obtain ⟨e0, e1, e2, e3, e4⟩ := rr_facts HW2.out
  go_wp2_with fail
  refine (writeHead_any HP2.out N D r.t r.c r.l ht hc httl (by omega) hs2).mono ?_
  rw [<-HL2.out]
  rintro e w3 ⟨rfl, v3, h3, k3⟩
  have HP3 := Ha (h3.more (c' := l2.length) (by rw [HL2.out, List.length_append]; omega))
  have HW3 := Ha (k3.whole HW2.out HP2.out (by decide) (by decide))
  have HK3 := Ha (HK2.out.trans k3)
  have hs3 : B <= w3.heap.size := Nat.le_trans hs2 k3.size
  clear h3 k3 e0 e1 e2 e3 e4
  obtain ⟨e0, e1, e2, e3, e4⟩ := rr_facts HW3.out
  go_wp2_with fail
  refine (sizeOfData_any HP3.out N D r HD.out hd HR.out (by omega) hs3 HT.out).mono ?_
  rw [<-HSZ.out]
  rintro e w4 ⟨rfl, v4, h4, k4⟩
  have HP4 := Ha h4
  have HW4 := Ha (k4.whole HW3.out HP3.out (by decide) (by decide))
  have HK4 := Ha (HK3.out.trans k4)
  have hs4 : B <= w4.heap.size := Nat.le_trans hs3 k4.size
  clear h4 k4 e0 e1 e2 e3 e4
  go_wp2_with fail
  refine (writeSize_any HP4.out sz (by omega) (by omega) hs4).mono ?_
  rintro e w5 ⟨rfl, v5, h5, k5⟩
  have HP5 := Ha (h5.more (c' := (l2 ++ be sz 2).length) (by rw [HLZ.out]; omega))
  have HW5 := Ha (k5.whole HW4.out HP4.out (by decide) (by decide))
  have HK5 := Ha (HK4.out.trans k5)
  have hs5 : B <= w5.heap.size := Nat.le_trans hs4 k5.size
  clear h5 k5
  obtain ⟨e0, e1, e2, e3, e4⟩ := rr_facts HW5.out
  go_wp2_with fail
  refine (writeData_any HP5.out N D r.t r.c r.l r.d HD.out hd HR.out (by rw [HLZ.out]; omega) hs5 HIZ.out).mono ?_
  rw [<-HWR.out]
  rintro e w6 ⟨rfl, v6, h6, k6⟩
  have HP6 := Ha h6
  have HK6 := Ha (HK5.out.trans k6)
  clear h6 k6
  go_wp2_with fail
  go_ret
  exact ⟨rfl, v6, HP6.out, HK6.out⟩
end
end Go.Proofs.YtmpginmdaeclaaaGreatDoor
