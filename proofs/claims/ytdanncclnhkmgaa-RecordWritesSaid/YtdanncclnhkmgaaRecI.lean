/- Clone; writeSize, writeHead, writeData of the program. No statement of the seat is proved here. -/
import Derived.Test.YtdanncclnhkmgaaRecB
import Derived.Test.YtdanncclnhkmgaaRdaJ
import Derived.Test.YtdanncclnhkmgaaRdaK
namespace Go.Proofs.Ytdanncclnhkmgaa
open Go.RowKit Go.Maps

/-- a packer whose blocks stand, stands -/
theorem Pk.stay {B b m c : Nat} {w w' : World} {v : Value} {l : List UInt8} {K : Kn} (h : Pk B w b m v l K c) (h1 : w'.heap[b]? = w.heap[b]?) (h2 : w'.heap[m]? = w.heap[m]?) (h3 : ∀ g, v.ownBlock = some g → w'.heap[g]? = w.heap[g]?) : Pk B w' b m v l K c := by
  obtain ⟨p, hp, hb⟩ := h.blk
  obtain ⟨D, n, ⟨es, cl, hm, r⟩, hn, hk⟩ := h.map
  refine ⟨h.hb, h.hm, ⟨p, hp, h1.trans hb⟩, ⟨h.row.1, ?_⟩, ⟨D, n, ⟨es, cl, h2.trans hm, r⟩, hn, hk⟩, h.nl⟩
  rcases h.row.2 with h' | ⟨g, cap, cur, fz, hv, hbg, hh, r⟩
  · exact .inl h'
  · exact .inr ⟨g, cap, cur, fz, hv, hbg, (h3 g (by rw [hv]; rfl)).trans hh, r⟩
/-- a packer stands while what lies behind it turns -/
theorem Pk.under {B B2 b m c : Nat} {w w0 w' : World} {v : Value} {l : List UInt8} {K : Kn} (h : Pk B w b m v l K c) (h0 : Pk B w0 b m v l K c) (hB : B2 = w0.heap.size) (hb : Below B2 w w') : Pk B w' b m v l K c := by
  subst hB
  exact h.stay (hb.block b h0.blt) (hb.block m h0.mlt) (fun g hg => hb.block g (h0.vlt g hg).2)
/-- a packer that lies behind another one stands while that one turns -/
theorem Pk.behind {B B2 b m c b2 m2 c2 : Nat} {w w' w0 : World} {v v' v2 : Value} {l l2 : List UInt8} {K K2 : Kn} (h2 : Pk B2 w b2 m2 v2 l2 K2 c2) (h0 : Pk B w0 b m v l K c) (hB : B2 = w0.heap.size) (hk : Kp b m v v' w w') : Pk B2 w' b2 m2 v2 l2 K2 c2 := by
  have hb := h0.blt
  have hm := h0.mlt
  have hv := fun g hg => (h0.vlt g hg).2
  have hst : ∀ k, B2 ≤ k → k < w.heap.size → w'.heap[k]? = w.heap[k]? := fun k h1 h3 => hk.block k h3 (by omega) (by omega) (fun e => by have := hv k e; omega)
  exact h2.stay (hst b2 h2.hb h2.blt) (hst m2 h2.hm h2.mlt) (fun g hg => hst g (h2.vlt g hg).1 (h2.vlt g hg).2)
/-- what turns behind w's memory, after a packer of w has turned -/
theorem Kp.toB {b m : Nat} {v v' : Value} {w w1 w2 : World} (h : Kp b m v v' w w1) (hb : Below w.heap.size w1 w2) (hs : w1.heap.size ≤ w2.heap.size) (hv : ∀ g, v'.ownBlock = some g → v.ownBlock = some g ∨ w.heap.size ≤ g) : Kp b m v v' w w2 :=
  ⟨hb.os.trans h.os, hb.tape.trans h.tape, hb.output.trans h.output, Nat.le_trans h.size hs, fun k hk h1 h2 h3 => (hb.block k hk).trans (h.block k hk h1 h2 h3), hv⟩

theorem maps_Clone_any (b n : Nat) (D : DataW Unit) (w : World) (hown : w.ownsMap Try.prog 9 intR b n D) :
    Calls Try.prog 103 #[.map (some b)] w fun e w' => e = .returned (.map (some w.heap.size)) ∧ w'.ownsMap Try.prog 9 intR w.heap.size n D ∧ Below w.heap.size w w' :=
  (AnyW.maps_Clone_owns cloneL 9 intR b n D w hown).mono fun _ _ ⟨h1, h2, _, h3⟩ => ⟨h1, h2, h3⟩

section
variable {B b m c : Nat} {w w' : World} {v v' : Value} {l : List UInt8} {K : Kn}
set_option maxHeartbeats 2000000 in
set_option maxRecDepth 20000 in
theorem Clone_any (h : Pk B w b m v l K c) (hl : l.length ≤ 1000000) :
    Calls Try.prog 79 #[pkP b] w fun e w' => ∃ b2 m2 v2, e = .returned (pkP b2) ∧ Pk w.heap.size w' b2 m2 v2 l K c ∧ Pk B w' b m v l K c ∧ Kp b m v v w w' := by
  have c2 := h.cell2
  obtain ⟨D, n, hm1, hm2, hm3⟩ := h.map
  have HH := Lib.hid h
  have HM1 := Lib.hid hm1
  have HM2 := Lib.hid hm2
  have HM3 := Lib.hid hm3
  clear h hm1 hm2 hm3
  go_enter Try.func79, Try.ntmps79
  go_wp2_with fail
  refine (maps_Clone_any m n D w HM1.out).mono ?_
  rintro e w1 ⟨rfl, ho, hB⟩
  have hB2 : Below w.heap.size w1 (w1.alloc (.cells #[.pointer none, .slice none 0 0, .map (some w.heap.size)] pkT)) := (Below.refl _ _).alloc hB.size _
  have hw1 := Whole.new w1 pkT #[.pointer none, .slice none 0 0, .map (some w.heap.size)]
  have HP2 := Lib.hid (show Pk w.heap.size (w1.alloc (.cells #[.pointer none, .slice none 0 0, .map (some w.heap.size)] pkT)) w1.heap.size w.heap.size (.slice none 0 0) [] K c from
    ⟨hB.size, Nat.le_refl _, ⟨_, .inl rfl, hw1⟩, World.ownsRowF_nil _ _ _ _, ⟨D, n, ho.alloc _, HM2.out, HM3.out⟩, fun _ => rfl⟩)
  have HB2 := Lib.hid (hB.trans hB2)
  clear ho hB hB2 hw1
  go_wp2_with fail
  refine (Bytes_any (HH.out.same HB2.out)).mono ?_
  rintro e w3 ⟨rfl, h3, k3⟩
  have HP3 := Lib.hid (HP2.out.behind HH.out rfl k3)
  have H3 := Lib.hid h3
  have K3 := Lib.hid ((Kp.of_below (b := b) (m := m) (v := v) HB2.out).trans k3)
  clear h3 k3
  go_wp2_with fail
  refine (Raw_any HP3.out (mk l) (by rw [mk_size]; simp; omega) K3.out.size).mono ?_
  rintro e w4 ⟨rfl, v2, h4, k4⟩
  have hb4 := k4.below HP3.out K3.out.size
  have HP4 := Lib.hid (show Pk w.heap.size w4 w1.heap.size w.heap.size v2 l K c from by simpa [mk] using h4)
  have H4 := Lib.hid (H3.out.under HH.out rfl hb4)
  have K4 := Lib.hid (K3.out.toB hb4 k4.size (fun g hg => .inl hg))
  clear h4 k4 hb4
  go_wp2_with fail
  go_ret
  exact ⟨_, _, _, rfl, HP4.out, H4.out, K4.out⟩

theorem join_size {n : Nat} (hn : n < 65536) : joinR [(n : Int)] [2] = (mk (be n 2), 0) := by
  refine joinR_some (by decide) rfl ?_
  have e1 : ((n : Int)).toNat = n := by omega
  have e2 : ((2 : Int)).toNat = 2 := rfl
  have e3 : fitB n 2 = true := by unfold fitB; rw [decide_eq_true_eq]; omega
  simp only [joinF, e1, e2, e3, if_true, Option.map_some, List.append_nil]
set_option maxHeartbeats 1000000 in
set_option maxRecDepth 20000 in
theorem writeSize_any (h : Pk B w b m v l K c) (n : Nat) (hn : n < 65536) (hlen : l.length + 2 ≤ 1000000000) (hBw : B ≤ w.heap.size) :
    Calls Try.prog 45 #[pkP b, .int .i64 (n : Nat)] w fun e w' => e = .returned (.tuple #[]) ∧ ∃ v', Pk B w' b m v' (l ++ be n 2) K c ∧ Kp b m v v' w w' := by
  have HJ := Lib.hid (join_size hn)
  have g0 : (0 : Int) ≤ (n : Int) := by omega
  have g1 : (n : Int) < 65536 := by omega
  have HH := Lib.hid h
  clear h
  go_enter Try.func45, Try.ntmps45
  have F1 := (Whole.new w 72 #[.int .u64 (n : Int)]).alloc (.cells #[.int .i64 2] 3)
  have F2 := Whole.new (w.alloc (.cells #[.int .u64 (n : Int)] 72)) 3 #[.int .i64 2]
  rw [World.size_alloc] at F2
  have FB : Below w.heap.size w ((w.alloc (.cells #[.int .u64 (n : Int)] 72)).alloc (.cells #[.int .i64 2] 3)) := ((Below.refl _ _).alloc (Nat.le_refl _) _).alloc (by simp) _
  go_wp2_with fail
  refine (Join_any _ _ 1 1 1 1 (w.heap.size + 1) (w.heap.size + 1 + 1) [(n : Int)] [2] _ (sees_one F1) (sees_one F2) (by simp) (by simp) (by decide) (by decide) ?_).mono ?_
  · intro z hz
    obtain rfl : z = (n : Int) := by simpa using hz
    omega
  rintro e w1 ⟨he, hB1⟩
  rw [HJ.out] at he
  subst he
  have hB2 : Below w.heap.size w w1 := FB.trans (hB1.mono FB.size)
  have HP := Lib.hid (HH.out.same hB2)
  have HB2 := Lib.hid hB2
  clear hB1 hB2 F1 F2 FB
  go_wp2_with fail
  refine (Raw_any HP.out _ (by rw [mk_size, be_length]; omega) (Nat.le_trans hBw HB2.out.size)).mono ?_
  rintro e w2 ⟨rfl, v', h1, h2⟩
  go_wp2_with fail
  go_end0
  exact ⟨rfl, v', h1, (Kp.of_below HB2.out).trans h2⟩

theorem headWidths_any (w : World) : Calls Try.prog 54 #[] w fun e w' => ∃ g, e = .returned (.slice (some ⟨g, 0, none⟩) 3 3) ∧ Sees w' w'.heap.size (some ⟨g, 0, none⟩) 3 (ints .i64 [2, 2, 4]) ∧ Below w.heap.size w w' := by
  go_enter Try.func54, Try.ntmps54
  go_wp2
  go_ret
  have hw := Whole.new w 3 #[.int .i64 2, .int .i64 2, .int .i64 4]
  refine ⟨_, rfl, ⟨rfl, fun _ => ⟨_, 0, rfl, by simp, fun j u hu => ?_⟩⟩, (Below.refl _ _).alloc (Nat.le_refl _) _⟩
  rw [Nat.zero_add]
  refine (hw.cell j).trans ?_
  rw [← hu]; simp [ints]
theorem join_head {t c l : Int} (ht : 0 ≤ t ∧ t ≤ 65535) (hc : 0 ≤ c ∧ c ≤ 65535) (hl : 0 ≤ l ∧ l ≤ 2147483647) : joinR [t, c, l] [2, 2, 4] = (mk (headB t c l), 0) := by
  refine joinR_some (by decide) rfl ?_
  have e2 : ((2 : Int)).toNat = 2 := rfl
  have e4 : ((4 : Int)).toNat = 4 := rfl
  have f1 : fitB t.toNat 2 = true := by unfold fitB; rw [decide_eq_true_eq]; omega
  have f2 : fitB c.toNat 2 = true := by unfold fitB; rw [decide_eq_true_eq]; omega
  have f3 : fitB l.toNat 4 = true := by unfold fitB; rw [decide_eq_true_eq]; omega
  simp only [joinF, e2, e4, f1, f2, f3, if_true, Option.map_some, List.append_nil]
  rfl
end
end Go.Proofs.Ytdanncclnhkmgaa
