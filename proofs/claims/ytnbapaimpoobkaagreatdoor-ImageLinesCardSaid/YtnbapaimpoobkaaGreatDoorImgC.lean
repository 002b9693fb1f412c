/- Parts of the proofs of the statements of image. No statement of the seat is proved here. -/
import Derived.Test.YtnbapaimpoobkaaGreatDoorRdB
import Derived.Test.YtnbapaimpoobkaaGreatDoorOcD
import Derived.Test.YtnbapaimpoobkaaGreatDoorOcJ
import Derived.Test.YtnbapaimpoobkaaGreatDoorNaA
import Derived.Test.YtnbapaimpoobkaaGreatDoorZonC
import Derived.Test.YtnbapaimpoobkaaGreatDoorEntC
import Derived.Test.YtnbapaimpoobkaaGreatDoorReE
import Derived.Test.YtnbapaimpoobkaaGreatDoorReI
import Derived.Deep.RegionWith
import Derived.Test.YtnbapaimpoobkaaGreatDoorOcA
import Derived.BigQuiet
namespace Go.Proofs.YtnbapaimpoobkaaGreatDoor
open Go.RowKit

/-! ### the parts of the data of an SOA -/
structure Soa7 (D m r a b c d e : List UInt8) : Prop where
  nm : (∃ L, nameL m = some L) ∧ ∃ L, nameL r = some L
  four : a.length = 4 ∧ b.length = 4 ∧ c.length = 4 ∧ d.length = 4 ∧ e.length = 4
  all : D = m ++ r ++ a ++ b ++ c ++ d ++ e
theorem Soa7.is {D m r a b c d e : List UInt8} (h : Soa7 D m r a b c d e) : rightR 6 D = true ∧ visR 6 D = [(-1, m), (-1, r), (20, a ++ b ++ c ++ d ++ e)] ∧
    steps D D.length (kindsR 6) 0 = ([(-1, m), (-1, r), (4, a), (4, b), (4, c), (4, d), (4, e)], some D.length) := by
  obtain ⟨h1, h2⟩ := h.nm
  obtain ⟨l0, l1, l2, l3, l4⟩ := h.four
  have hm : m.length ≤ 255 := by obtain ⟨L, hL⟩ := h1; exact (nameL_is hL).2.2
  have hr : r.length ≤ 255 := by obtain ⟨L, hL⟩ := h2; exact (nameL_is hL).2.2
  have w1 : WF [(-1, m), (-1, r), (20, a ++ b ++ c ++ d ++ e)] :=
    ⟨by simp [Part], ⟨fun _ => h1, by simp, by simp⟩, by simp, by simp [Part], ⟨fun _ => h2, by simp, by simp⟩, by simp, by simp [Part], ⟨by simp, by simp, fun _ => by simp [l0, l1, l2, l3, l4]⟩, by simp, trivial⟩
  have w2 : WF [(-1, m), (-1, r), (4, a), (4, b), (4, c), (4, d), (4, e)] :=
    ⟨by simp [Part], ⟨fun _ => h1, by simp, by simp⟩, by simp, by simp [Part], ⟨fun _ => h2, by simp, by simp⟩, by simp, by simp [Part], ⟨by simp, by simp, fun _ => by simp [l0]⟩, by simp, by simp [Part], ⟨by simp, by simp, fun _ => by simp [l1]⟩, by simp,
      by simp [Part], ⟨by simp, by simp, fun _ => by simp [l2]⟩, by simp, by simp [Part], ⟨by simp, by simp, fun _ => by simp [l3]⟩, by simp, by simp [Part], ⟨by simp, by simp, fun _ => by simp [l4]⟩, by simp, trivial⟩
  have c1 : cat [(-1, m), (-1, r), (20, a ++ b ++ c ++ d ++ e)] = D := by rw [h.all]; simp [cat]
  have c2 : cat [(-1, m), (-1, r), (4, a), (4, b), (4, c), (4, d), (4, e)] = D := by rw [h.all]; simp [cat]
  have hl : (cat [(-1, m), (-1, r), (20, a ++ b ++ c ++ d ++ e)]).length ≤ 65535 := by rw [c1, h.all]; simp; omega
  obtain ⟨r1, r2⟩ := right_of (t := 6) w1 rfl hl
  rw [c1] at r1 r2
  have s2 := steps_cat w2
  rw [c2] at s2
  exact ⟨r1, r2, s2⟩
end Go.Proofs.YtnbapaimpoobkaaGreatDoor
namespace Go.Proofs.YtnbapaimpoobkaaGreatDoor
open Go.RowKit Go.Op
set_option linter.unusedVariables false

theorem ZoneAt.keep {w w' : World} {B : Nat} {N : ByteArray} {D : List Rrd} {v : Value} (h : ZoneAt w B N D v) (hb : Below B w w') : ZoneAt w' B N D v := by
  obtain ⟨A, c, s, e, hs, hcap, hsoa⟩ := h
  exact ⟨A, c, s, e, hs.keep hb, hcap, hsoa⟩
theorem ZoneAt.more {w : World} {B B' : Nat} {N : ByteArray} {D : List Rrd} {v : Value} (h : ZoneAt w B N D v) (hb : B ≤ B') : ZoneAt w B' N D v := by
  obtain ⟨A, c, s, e, hs, hcap, hsoa⟩ := h
  exact ⟨A, c, s, e, hs.more hb, hcap, hsoa⟩
theorem ZoneAt.later {w w' : World} {N : ByteArray} {D : List Rrd} {v : Value} (h : ZoneAt w w.heap.size N D v) (hb : Below w.heap.size w w') : ZoneAt w' w'.heap.size N D v := (h.keep hb).more hb.size
set_option maxHeartbeats 8000000 in
set_option maxRecDepth 20000 in
theorem All_any (N : ByteArray) (D : List Rrd) (v : Value) (w : World) (hz : ZoneAt w w.heap.size N D v) (hn : D.length ≤ 1000000) :
    Calls Tryz.prog 21 #[v] w fun e w' => ∃ u, e = .returned u ∧ w'.ownsRow w.heap.size 27 5 u D.length (rcells D) ∧ Below w.heap.size w w' := by
  obtain ⟨A, c, s, rfl, hs, hcap, hsoa⟩ := hz
  obtain ⟨m, hm⟩ : ∃ m, m = D.length := ⟨_, rfl⟩
  have HM := Lib.hid hm
  rw [← hm] at hs hcap hn ⊢
  have hw0 := Whole.new w zoT #[.string N, .slice A m c, .string s.s, .int .i64 s.t, .int .i64 s.c, .int .i64 s.l, .string s.d]
  have hB0 : Below w.heap.size w (w.alloc (.cells #[.string N, .slice A m c, .string s.s, .int .i64 s.t, .int .i64 s.c, .int .i64 s.l, .string s.d] zoT)) := (Below.refl _ _).alloc (Nat.le_refl _) _
  obtain ⟨c0, c1, c2, c3, c4, c5, c6⟩ := zo_facts hw0
  have HW0 := Lib.hid hw0
  have HS := Lib.hid ((hs.keep hB0).more hB0.size)
  have HB0 := Lib.hid hB0
  have HCAP := Lib.hid hcap
  have HSOA := Lib.hid hsoa
  clear hw0 hB0 hs hcap hsoa
  clear hm
  go_enter Tryz.func21, Tryz.ntmps21
  go_wp2_with fail
  refine (RClone_any A m c D _ HS.out (by omega)).mono ?_
  rintro e w1 ⟨u, rfl, ho, hB⟩
  have HO := Lib.hid (own_less ho HB0.out.size)
  have HB := Lib.hid (HB0.out.trans (hB.mono HB0.out.size))
  clear ho hB c0 c1 c2 c3 c4 c5 c6
  go_wp2_with fail
  go_ret
  exact ⟨u, rfl, HO.out, HB.out⟩
set_option maxHeartbeats 8000000 in
set_option maxRecDepth 20000 in
theorem Apex_any (N : ByteArray) (D : List Rrd) (v : Value) (w : World) (hz : ZoneAt w w.heap.size N D v) :
    Calls Tryz.prog 19 #[v] w fun e w' => e = .returned (.string N) ∧ Below w.heap.size w w' := by
  obtain ⟨A, c, s, rfl, hs, hcap, hsoa⟩ := hz
  have hw0 := Whole.new w zoT #[.string N, .slice A D.length c, .string s.s, .int .i64 s.t, .int .i64 s.c, .int .i64 s.l, .string s.d]
  have hB0 : Below w.heap.size w (w.alloc (.cells #[.string N, .slice A D.length c, .string s.s, .int .i64 s.t, .int .i64 s.c, .int .i64 s.l, .string s.d] zoT)) := (Below.refl _ _).alloc (Nat.le_refl _) _
  obtain ⟨c0, c1, c2, c3, c4, c5, c6⟩ := zo_facts hw0
  have HW0 := Lib.hid hw0
  have HS := Lib.hid ((hs.keep hB0).more hB0.size)
  have HB0 := Lib.hid hB0
  have HCAP := Lib.hid hcap
  have HSOA := Lib.hid hsoa
  clear hw0 hB0 hs hcap hsoa
  go_enter Tryz.func19, Tryz.ntmps19
  go_wp2_with fail
  go_ret
  exact ⟨rfl, HB0.out⟩
/-! ### Few -/
/-! ### the least zone -/
def leA : Rrd := ⟨⟨#[1, 97, 0]⟩, 2, 1, 0, ⟨#[1, 110, 1, 97, 0]⟩⟩
def leB : Rrd := ⟨⟨#[1, 97, 0]⟩, 6, 1, 0, ⟨#[1, 110, 1, 97, 0, 0, 0, 0, 0, 1, 0, 0, 0, 2, 0, 0, 0, 3, 0, 0, 0, 4, 0, 0, 0, 5]⟩⟩
def leL : List Rrd := [leA, leB]
theorem name_n : nameL [1, 110, 1, 97, 0] = some [[110], [97]] := nameL_enc (L := [[110], [97]]) (by intro x hx; simp at hx; rcases hx with rfl | rfl <;> simp) (by decide)
theorem name_0 : nameL [0] = some [] := nameL_enc (L := []) (by intro x hx; cases hx) (by decide)
theorem nm_leA : nmX leA = [1, 97, 0] := rfl
theorem nm_leB : nmX leB = [1, 97, 0] := rfl
theorem right_leA : rightR 2 [1, 110, 1, 97, 0] = true := by
  have h := (right_of (t := 2) (V := [(-1, [1, 110, 1, 97, 0])]) ⟨by simp [Part], ⟨fun _ => ⟨_, name_n⟩, by simp, by simp⟩, by simp, trivial⟩ rfl (by simp [cat])).1
  simpa [cat] using h
theorem right_leB : rightR 6 [1, 110, 1, 97, 0, 0, 0, 0, 0, 1, 0, 0, 0, 2, 0, 0, 0, 3, 0, 0, 0, 4, 0, 0, 0, 5] = true :=
  (Soa7.is (D := [1, 110, 1, 97, 0, 0, 0, 0, 0, 1, 0, 0, 0, 2, 0, 0, 0, 3, 0, 0, 0, 4, 0, 0, 0, 5]) (m := [1, 110, 1, 97, 0]) (r := [0]) (a := [0, 0, 0, 1]) (b := [0, 0, 0, 2]) (c := [0, 0, 0, 3]) (d := [0, 0, 0, 4]) (e := [0, 0, 0, 5]) ⟨⟨⟨_, name_n⟩, ⟨_, name_0⟩⟩, ⟨rfl, rfl, rfl, rfl, rfl⟩, rfl⟩).1
theorem ok_leA : OkX leA := by
  refine ⟨?_, by decide⟩
  have h1 : leA.toRec = ⟨[1, 97, 0], 2, 1, 0, [1, 110, 1, 97, 0]⟩ := rfl
  rw [h1]
  unfold okR
  rw [name_a, show tyd 2 1 ([1, 110, 1, 97, 0] : List UInt8).length = 2 from rfl, right_leA]
  rfl
theorem ok_leB : OkX leB := by
  refine ⟨?_, by decide⟩
  have h1 : leB.toRec = ⟨[1, 97, 0], 6, 1, 0, [1, 110, 1, 97, 0, 0, 0, 0, 0, 1, 0, 0, 0, 2, 0, 0, 0, 3, 0, 0, 0, 4, 0, 0, 0, 5]⟩ := rfl
  rw [h1]
  unfold okR
  rw [name_a, show tyd 6 1 ([1, 110, 1, 97, 0, 0, 0, 0, 0, 1, 0, 0, 0, 2, 0, 0, 0, 3, 0, 0, 0, 4, 0, 0, 0, 5] : List UInt8).length = 6 from rfl, right_leB]
  rfl
theorem ok_leL : OkL leL := by
  intro x hx
  rcases List.mem_cons.1 hx with rfl | hx
  · exact ok_leA
  · rcases List.mem_cons.1 hx with rfl | hx
    · exact ok_leB
    · cases hx
theorem le_lt : cX leA leB = -1 := by
  unfold cX
  have h : cK leA.toRec.n leB.toRec.n = 0 := cmpL_self _
  rw [h]
  rfl
theorem ofC_leL : ofC leL = leL := by
  have h : putX cX leB [leA] = [leA, leB] := by
    unfold putX
    rw [if_pos (by rw [le_lt]; decide)]
    rfl
  exact h
theorem le_alike : alikeN [1, 97, 0] [1, 97, 0] = true := by unfold alikeN; rw [name_a]; rfl
theorem le_under : underN [1, 97, 0] [1, 97, 0] = true := by unfold underN; rw [name_a]; simp
theorem le_good : ∀ x ∈ leL, goodR [1, 97, 0] x = true := by
  intro x hx
  rcases List.mem_cons.1 hx with rfl | hx
  · unfold goodR; rw [nm_leA, le_under]; rfl
  · rcases List.mem_cons.1 hx with rfl | hx
    · unfold goodR; rw [nm_leB, le_under]; rfl
    · cases hx
theorem at_leL : atX [1, 97, 0] leL = leL := by
  unfold atX
  rw [List.filter_eq_self]
  intro x hx
  rcases List.mem_cons.1 hx with rfl | hx
  · rw [nm_leA, le_alike]
  · rcases List.mem_cons.1 hx with rfl | hx
    · rw [nm_leB, le_alike]
    · cases hx
theorem isZ_leL : isZ [1, 97, 0] (ofC leL) = true := by
  rw [ofC_leL]
  unfold isZ
  rw [at_leL, List.all_eq_true.2 le_good]
  rfl
theorem low_leL : LowL leL := ok_leL.low
set_option maxHeartbeats 8000000 in
set_option maxRecDepth 20000 in
theorem Least_any (w : World) : Calls Tryz.prog 24 #[] w fun e w' => (∃ A c, e = .returned (.slice A 2 c) ∧ SeesR w' w'.heap.size A 2 leL) ∧ Below w.heap.size w w' := by
  go_enter Tryz.func24, Tryz.ntmps24
  go_wp2_with fail
  go_ret
  refine ⟨⟨_, _, rfl, rfl, fun _ => ⟨w.heap.size, 0, rfl, by simp, ?_⟩⟩, (Below.refl _ _).alloc (Nat.le_refl _) _⟩
  have hw := fun cs => Whole.new w 27 cs
  intro j x hx
  match j, hx with
  | 0, hx =>
    obtain rfl : leA = x := by simpa [leL] using hx
    exact ⟨(hw _).cell 0, (hw _).cell 1, (hw _).cell 2, (hw _).cell 3, (hw _).cell 4⟩
  | 1, hx =>
    obtain rfl : leB = x := by simpa [leL] using hx
    exact ⟨(hw _).cell 5, (hw _).cell 6, (hw _).cell 7, (hw _).cell 8, (hw _).cell 9⟩
  | j + 2, hx => simp [leL] at hx
end Go.Proofs.YtnbapaimpoobkaaGreatDoor
namespace Go.Proofs.YtnbapaimpoobkaaGreatDoor
open Go.RowKit Go.Op

def headI (g : Nat) (nn : List UInt8) : List UInt8 := be g 8 ++ (be nn.length 2 ++ nn)
def imgB (g : Nat) (nn : List UInt8) (D : List Rrd) : List UInt8 := headI g nn ++ rowE ((D.map Rrd.toRec).map ownE)
theorem headI_len (g : Nat) (nn : List UInt8) : (headI g nn).length = 10 + nn.length := by unfold headI; simp [be_length]; omega
theorem join_gen {g : Nat} (hg : g < 18446744073709551616) : joinR [(g : Int)] [8] = (mk (be g 8), 0) := by
  refine joinR_some (by decide) rfl ?_
  have e8 : ((8 : Int)).toNat = 8 := rfl
  have a1 : fitB ((g : Int)).toNat 8 = true := by unfold fitB; rw [decide_eq_true_eq]; omega
  simp only [joinF, e8]
  rw [if_pos a1]
  simp
theorem piece_two (x : List UInt8) (hx : x.length < 65536) : pieceR (mk x) 2 = (mk (be x.length 2 ++ x), 0) := by
  have hf : fitB x.length 2 = true := by simp [fitB]; omega
  have e2 : ((2 : Int)).toNat = 2 := rfl
  rw [pieceR, if_pos (by decide), mk_size, e2, if_pos hf, ← mk_append]
  rfl
theorem sees_one_u {W : World} {g ty : Nat} {x : Int} (h : Whole W g ty #[.int .u64 x]) : Sees W (g + 1) (some ⟨g, 0, none⟩) 1 (ints .u64 [x]) := sees_whole h
theorem sees_one_i {W : World} {g ty : Nat} {x : Int} (h : Whole W g ty #[.int .i64 x]) : Sees W (g + 1) (some ⟨g, 0, none⟩) 1 (ints .i64 [x]) := sees_whole h

section
variable {B b : Nat} {w w' : World} {v v' : Value} {l : List UInt8}
set_option maxHeartbeats 2000000 in
set_option maxRecDepth 20000 in
theorem imgHead_any (h : Bd B w b v l) (g : Nat) (N : ByteArray) (nn : List UInt8) (hN : N = mk nn) (hg : g < 18446744073709551616) (hn : nn.length ≤ 60000) (hlen : l.length + 70000 ≤ 1000000000) (hBw : B ≤ w.heap.size) :
    Calls Tryz.prog 38 #[.pointer (some ⟨b, 0, none⟩), .int .u64 (g : Nat), .string N] w fun e w' => e = .returned (.tuple #[]) ∧ ∃ v', Bd B w' b v' (l ++ headI g nn) ∧ Kp b b v v' w w' := by
  have HJ := Lib.hid (join_gen hg)
  have HP := Lib.hid (show pieceR N 2 = (mk (be nn.length 2 ++ nn), 0) by rw [hN]; exact piece_two nn (by omega))
  have hNz : N.size ≤ 1073741824 := by rw [hN, mk_size]; omega
  have HU := Lib.hid (show U64s [(g : Int)] from by intro z hz; simp at hz; omega)
  have hw1 := (Whole.new w 23 #[.int .u64 (g : Nat)]).alloc (.cells #[.int .i64 8] 3)
  have hw2 := Whole.new (w.alloc (.cells #[.int .u64 (g : Nat)] 23)) 3 #[.int .i64 8]
  rw [World.size_alloc] at hw2
  have HS1 := Lib.hid (sees_one_u hw1)
  have HS2 := Lib.hid (sees_one_i hw2)
  have HB0 := Lib.hid (show Below w.heap.size w ((w.alloc (.cells #[.int .u64 (g : Nat)] 23)).alloc (.cells #[.int .i64 8] 3)) from ((Below.refl _ _).alloc (Nat.le_refl _) _).alloc (by rw [World.size_alloc]; omega) _)
  have HZ := Lib.hid (show ((w.alloc (.cells #[.int .u64 (g : Nat)] 23)).alloc (.cells #[.int .i64 8] 3)).heap.size = w.heap.size + 1 + 1 by rw [World.size_alloc, World.size_alloc])
  have HH := Lib.hid h
  clear h hw1 hw2 hN hg
  go_enter Tryz.func38, Tryz.ntmps38
  go_wp2_with fail
  refine (Join_any _ _ 1 1 1 1 _ _ [(g : Int)] [8] _ HS1.out HS2.out (by rw [HZ.out]; omega) (by rw [HZ.out]; omega) (by decide) (by decide) HU.out).mono ?_
  rintro e w1 ⟨he, hB1⟩
  rw [HJ.out] at he
  subst he
  have HB1 := Lib.hid (HB0.out.trans (hB1.mono HB0.out.size))
  clear hB1
  go_wp2_with fail
  refine (Piece_any N 2 _ hNz).mono ?_
  rw [HP.out]
  rintro e w2 ⟨rfl, hB2⟩
  have HB2 := Lib.hid (HB1.out.trans (hB2.mono HB1.out.size))
  have HP2 := Lib.hid (HH.out.same HB2.out)
  clear hB2
  go_wp2_with fail
  refine (writeB_any HP2.out _ (by rw [mk_size, be_length]; omega) (Nat.le_trans hBw HB2.out.size)).mono ?_
  rintro e w3 ⟨rfl, v3, h3, k3⟩
  have H3 := Lib.hid h3
  have K3 := Lib.hid ((Kp.of_below HB2.out).trans k3)
  have HS3 := Lib.hid (Nat.le_trans (Nat.le_trans hBw HB2.out.size) k3.size)
  clear h3 k3
  go_wp2_with fail
  refine (writeB_any H3.out _ (by rw [mk_size]; simp [be_length, mk]; omega) HS3.out).mono ?_
  rintro e w4 ⟨rfl, v4, h4, k4⟩
  have H4 := Lib.hid (show Bd B w4 b v4 (l ++ headI g nn) by unfold headI; rw [← List.append_assoc]; exact h4)
  have K4 := Lib.hid (K3.out.trans k4)
  clear h4 k4
  go_wp2_with fail
  go_end0
  exact ⟨rfl, v4, H4.out, K4.out⟩

set_option maxHeartbeats 2000000 in
set_option maxRecDepth 20000 in
theorem imgRec_any (h : Bd B w b v l) (x : Rrd) (hok : okR x.toRec = true) (hlen : l.length + 100000 ≤ 1000000000) (hBw : B ≤ w.heap.size) :
    Calls Tryz.prog 39 #[.pointer (some ⟨b, 0, none⟩), .agg #[.string x.s, .int .i64 x.t, .int .i64 x.c, .int .i64 x.l, .string x.d]] w fun e w' => e = .returned (.tuple #[]) ∧ ∃ v', Bd B w' b v' (l ++ (be (ownE x.toRec).length 4 ++ ownE x.toRec)) ∧ Kp b b v v' w w' := by
  have hdl := ok_data hok
  have hol := own_len hok
  have hnl : x.toRec.n.length ≤ 1073741824 := by obtain ⟨⟨L, h1⟩, _⟩ := ok_parts hok; have := (nameL_is h1).2.2; omega
  have HP := Lib.hid (show pieceR (mk (ownE x.toRec)) 4 = (mk (be (ownE x.toRec).length 4 ++ ownE x.toRec), 0) from piece_rowE _ (by omega))
  have hMz : (mk (ownE x.toRec)).size ≤ 1073741824 := by rw [mk_size]; omega
  have hMl : (ownE x.toRec).length ≤ 66000 := by omega
  have hHX := Whole.new w rrT (rrA x.s x.d x.t x.c x.l)
  obtain ⟨d0, d1, d2, d3, d4⟩ := rr_facts hHX
  have HB0 := Lib.hid (show Below w.heap.size w (w.alloc (.cells #[.string x.s, .int .i64 x.t, .int .i64 x.c, .int .i64 x.l, .string x.d] rrT)) from (Below.refl _ _).alloc (Nat.le_refl _) _)
  have HOW := Lib.hid (fun (W : World) => (Own_yes x.s x.d x.toRec W (rrd_name x) (rrd_data x) hnl hok :
    Calls Tryz.prog 89 #[.agg #[.string x.s, .int .i64 x.t, .int .i64 x.c, .int .i64 x.l, .string x.d]] W fun e w' => e = .returned (.tuple #[.string (mk (ownE x.toRec)), .int .i64 0]) ∧ Below W.heap.size W w'))
  have HH := Lib.hid h
  clear h hHX hok hol hdl hnl
  unfold rrA at *
  go_enter Tryz.func39, Tryz.ntmps39
  go_wp2_with fail
  refine (HOW.out _).mono ?_
  rintro e w1 ⟨rfl, hB1⟩
  have HB1 := Lib.hid (HB0.out.trans (hB1.mono HB0.out.size))
  clear hB1 d0 d1 d2 d3 d4
  go_wp2_with fail
  refine (Piece_any _ 4 _ hMz).mono ?_
  rw [HP.out]
  rintro e w2 ⟨rfl, hB2⟩
  have HB2 := Lib.hid (HB1.out.trans (hB2.mono HB1.out.size))
  have HP2 := Lib.hid (HH.out.same HB2.out)
  clear hB2
  go_wp2_with fail
  refine (writeB_any HP2.out _ (by rw [mk_size, List.length_append, be_length]; omega) (Nat.le_trans hBw HB2.out.size)).mono ?_
  rintro e w3 ⟨rfl, v3, h3, k3⟩
  have H3 := Lib.hid h3
  have K3 := Lib.hid ((Kp.of_below HB2.out).trans k3)
  clear h3 k3
  go_wp2_with fail
  go_end0
  exact ⟨rfl, v3, H3.out, K3.out⟩
end

def accI (g : Nat) (nn : List UInt8) (D : List Rrd) (k : Nat) : List UInt8 := headI g nn ++ rowE (((D.take k).map Rrd.toRec).map ownE)
theorem accI_zero (g : Nat) (nn : List UInt8) (D : List Rrd) : accI g nn D 0 = headI g nn := by unfold accI; simp [rowE]
theorem accI_succ {g : Nat} {nn : List UInt8} {D : List Rrd} {k : Nat} {x : Rrd} (h : D[k]? = some x) : accI g nn D (k + 1) = accI g nn D k ++ (be (ownE x.toRec).length 4 ++ ownE x.toRec) := by
  unfold accI
  rw [List.take_add_one, h]
  simp only [Option.toList_some, List.map_append, List.map_cons, List.map_nil, rowE_append, rowE, List.append_nil, List.append_assoc]
theorem accI_all (g : Nat) (nn : List UInt8) (D : List Rrd) : accI g nn D D.length = imgB g nn D := by unfold accI imgB; rw [List.take_length]
set_option maxHeartbeats 8000000 in
set_option maxRecDepth 20000 in
theorem IBytes_any (g : Nat) (N : ByteArray) (nn : List UInt8) (D : List Rrd) (z : Value) (w : World) (hz : ZoneAt w w.heap.size N D z) (hN : N = mk nn) (hg : g < 18446744073709551616) (hn : nn.length ≤ 60000) (hD : D.length ≤ 100) (hok : OkL D) :
    Calls Tryz.prog 13 #[.int .u64 (g : Nat), z] w fun e w' => e = .returned (.string (mk (imgB g nn D))) ∧ Below w.heap.size w w' := by
  obtain ⟨m, hm⟩ : ∃ m, m = D.length := ⟨_, rfl⟩
  have HZA := Lib.hid hz
  have HAC := Lib.hid (fun k x => accI_succ (g := g) (nn := nn) (D := D) (k := k) (x := x))
  have HALL := Lib.hid (accI_all g nn D)
  have HOKL := Lib.hid hok
  have HN := Lib.hid hN
  obtain ⟨A, c, s, rfl, _, _, _⟩ := hz
  obtain ⟨W0, hW0⟩ : ∃ W0, W0 = w.alloc (.cells #[.string N, .slice A D.length c, .string s.s, .int .i64 s.t, .int .i64 s.c, .int .i64 s.l, .string s.d] zoT) := ⟨_, rfl⟩
  have hs0 : W0.heap.size = w.heap.size + 1 := by rw [hW0, World.size_alloc]
  have HB0 := Lib.hid (show Below w.heap.size w W0 by rw [hW0]; exact (Below.refl _ _).alloc (Nat.le_refl _) _)
  have HX0 := Lib.hid (show Whole W0 w.heap.size zoT #[.string N, .slice A D.length c, .string s.s, .int .i64 s.t, .int .i64 s.c, .int .i64 s.l, .string s.d] by rw [hW0]; exact Whole.new w zoT _)
  have HBD := Lib.hid (show Bd (w.heap.size + 1) (W0.alloc (.cells #[.pointer none, .slice none 0 0] bdT)) (w.heap.size + 1) (.slice none 0 0) [] by have := Bd.new W0; rw [hs0] at this; exact this)
  have HW1 := Lib.hid (HX0.out.alloc (.cells #[.pointer none, .slice none 0 0] bdT))
  have HB1 := Lib.hid (HB0.out.alloc HB0.out.size (.cells #[.pointer none, .slice none 0 0] bdT))
  have HS1 := Lib.hid (show w.heap.size + 1 ≤ (W0.alloc (.cells #[.pointer none, .slice none 0 0] bdT)).heap.size by rw [World.size_alloc, hs0]; omega)
  have HW0 := Lib.hid hW0
  have HM := Lib.hid hm
  clear hW0 hs0 hok hN
  obtain ⟨d0, d1, d2, d3, d4, d5, d6⟩ := zo_facts HX0.out
  obtain ⟨c0, c1, c2, c3, c4, c5, c6⟩ := zo_facts HW1.out
  rw [← hm] at hD
  clear hm
  go_enter Tryz.func13, Tryz.ntmps13
  go_wp2_with fail
  rw [← HW0.out]
  go_wp2_with fail
  refine (Apex_any N D _ _ (HZA.out.later HB1.out)).mono ?_
  rintro e w2 ⟨rfl, hB2⟩
  have HB2 := Lib.hid (HB1.out.trans (hB2.mono HB1.out.size))
  have HD2 := Lib.hid (HBD.out.same hB2)
  have HS2 := Lib.hid (Nat.le_trans HS1.out hB2.size)
  have hW2 := HW1.out.below hB2 HW1.out.lt
  have HW2 := Lib.hid hW2
  clear c0 c1 c2 c3 c4 c5 c6 d0 d1 d2 d3 d4 d5 d6 hB2
  obtain ⟨c0, c1, c2, c3, c4, c5, c6⟩ := zo_facts hW2
  clear hW2
  go_wp2_with fail
  refine (imgHead_any HD2.out g N nn HN.out hg hn (by simp) HS2.out).mono ?_
  rintro e w3 ⟨rfl, v3, hd3, hk3⟩
  have hBb := HD2.out.below hk3 HS2.out
  have HB3 := Lib.hid (HB2.out.trans (hBb.mono (Nat.le_succ _)))
  have hW3 := HW2.out.below hBb (Nat.lt_succ_self _)
  have HD3 := Lib.hid (show Bd (w.heap.size + 1) w3 (w.heap.size + 1) v3 (accI g nn D 0) by rw [accI_zero]; simpa using hd3)
  have HS3 := Lib.hid (Nat.le_trans HS2.out hk3.size)
  clear c0 c1 c2 c3 c4 c5 c6 hBb hd3 hk3
  obtain ⟨c0, c1, c2, c3, c4, c5, c6⟩ := zo_facts hW3
  clear hW3
  go_wp2_with fail
  refine (All_any N D _ _ (HZA.out.later HB3.out) (by rw [← HM.out]; omega)).mono ?_
  rintro e w4 ⟨u, rfl, hown, hB4⟩
  have HB4 := Lib.hid (HB3.out.trans (hB4.mono HB3.out.size))
  have HD4 := Lib.hid (HD3.out.same hB4)
  have HS4 := Lib.hid (Nat.le_trans HS3.out hB4.size)
  obtain ⟨R, hRR⟩ : ∃ R, R = w3.heap.size := ⟨_, rfl⟩
  rw [← hRR, ← HM.out] at hown
  obtain ⟨A4, k4, rfl, hs4⟩ := SeesR.own hown
  have HO4 := Lib.hid hown
  clear hown hB4 hs4 hRR c0 c1 c2 c3 c4 c5 c6
  go_wp2_with fail
  obtain ⟨B, hBB⟩ : ∃ B, B = w.heap.size + 1 := ⟨_, rfl⟩
  rw [← hBB] at HD4 HS4 ⊢
  have HBB := Lib.hid hBB
  have HHL := Lib.hid (show (accI g nn D 0).length ≤ 70000 by rw [accI_zero, headI_len]; omega)
  clear hBB
  go_loopw [15] (fun i wr => ∃ (k : Nat) (v : Value), k ≤ m ∧ i = .int .i64 (k : Nat) ∧ Bd B wr B v (accI g nn D k) ∧ (accI g nn D k).length ≤ 70000 + k * 66000 ∧ wr.ownsRow R 27 5 (.slice A4 m k4) m (rcells D) ∧ Below w.heap.size w wr ∧ B ≤ wr.heap.size) (fun i _ => m - (intOf i).toNat)
  case atStart => exact ⟨0, _, Nat.zero_le _, rfl, HD4.out, by have := HHL.out; omega, HO4.out, HB4.out, HS4.out⟩
  case round =>
    obtain ⟨k, v, hk, rfl, hbd, hlen, hO, hB, hBs⟩ := hrel
    have HD := Lib.hid hbd
    have HO := Lib.hid hO
    have HB := Lib.hid hB
    have HBs := Lib.hid hBs
    obtain ⟨A5, k5, e5, hs5⟩ := SeesR.own hO
    injection e5 with e51 e52 e53
    subst e51 e53
    have HS5 := Lib.hid hs5
    clear hbd hO hB hBs hs5
    by_cases hkN : k < m
    · have g1 : (k : Int) < (m : Int) := by omega
      have g0 : (0 : Int) ≤ (k : Int) := by omega
      obtain ⟨b, off, x, rfl, hb, hxk, hx5⟩ := HS5.out.at hkN
      have HXK := Lib.hid hxk
      obtain ⟨x0, x1, x2, x3, x4⟩ := hx5
      have hokx := HOKL.out x (List.mem_of_getElem? hxk)
      have hHX := Whole.new wr rrT (rrA x.s x.d x.t x.c x.l)
      obtain ⟨d0, d1, d2, d3, d4⟩ := rr_facts hHX
      have HB1' := Lib.hid (HB.out.alloc HB.out.size (.cells #[.string x.s, .int .i64 x.t, .int .i64 x.c, .int .i64 x.l, .string x.d] rrT))
      have HO1' := Lib.hid (HO.out.alloc (.cells #[.string x.s, .int .i64 x.t, .int .i64 x.c, .int .i64 x.l, .string x.d] rrT))
      have HD1' := Lib.hid (HD.out.same ((Below.refl wr.heap.size wr).alloc (Nat.le_refl _) (.cells #[.string x.s, .int .i64 x.t, .int .i64 x.c, .int .i64 x.l, .string x.d] rrT)))
      have HBs1 := Lib.hid (show B ≤ (wr.alloc (.cells #[.string x.s, .int .i64 x.t, .int .i64 x.c, .int .i64 x.l, .string x.d] rrT)).heap.size from Nat.le_trans HBs.out ((Below.refl wr.heap.size wr).alloc (Nat.le_refl _) _).size)
      have HAC2 := Lib.hid (HAC.out k x hxk)
      have HOX := Lib.hid hokx
      have hol := own_len hokx.1
      have hdd := ok_data hokx.1
      have HL2 := Lib.hid (show (accI g nn D (k + 1)).length ≤ 70000 + (k + 1) * 66000 by rw [HAC2.out]; simp only [List.length_append, be_length]; omega)
      have hl3 : (accI g nn D k).length + 100000 ≤ 1000000000 := by omega
      clear hHX hxk hokx hol hdd hlen
      unfold rrA at *
      go_wp2_with fail
      refine (imgRec_any HD1'.out x HOX.out.1 hl3 HBs1.out).mono ?_
      rintro e w6 ⟨rfl, v6, hd6, hk6⟩
      have HO6 := Lib.hid (hk6.rowB HD1'.out HO1'.out (by decide) (by decide))
      have HB6 := Lib.hid (HB1'.out.trans ((HD1'.out.below hk6 HBs1.out).mono (by rw [HBB.out]; exact Nat.le_succ _)))
      have HBs6 := Lib.hid (Nat.le_trans HBs1.out hk6.size)
      rw [← HAC2.out] at hd6
      have HD6 := Lib.hid hd6
      clear hd6 hk6 x0 x1 x2 x3 x4 d0 d1 d2 d3 d4
      go_wp2_with fail
      go_roundw
      case rel => exact ⟨k + 1, v6, by omega, by go_num, HD6.out, HL2.out, HO6.out, HB6.out, HBs6.out⟩
      case measure => simp [intOf]; omega
    · obtain rfl : k = m := by omega
      have HE := Lib.hid (show accI g nn D k = imgB g nn D by rw [HM.out]; exact HALL.out)
      go_wp2_with fail
      refine (stringB_any HD.out).mono ?_
      rw [HE.out]
      rintro e w5 ⟨rfl, hd5, hk5⟩
      have HB5 := Lib.hid (HB.out.trans ((HD.out.below hk5 HBs.out).mono (by rw [HBB.out]; exact Nat.le_succ _)))
      clear hd5 hk5
      go_wp2_with fail
      go_ret
      exact ⟨rfl, HB5.out⟩
end Go.Proofs.YtnbapaimpoobkaaGreatDoor
