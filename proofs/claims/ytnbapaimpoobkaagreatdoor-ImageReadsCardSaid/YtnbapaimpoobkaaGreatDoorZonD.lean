/- Parts of the proofs of the statements of image. No statement of the seat is proved here. -/
import Derived.Test.YtnbapaimpoobkaaGreatDoorRdB
import Derived.Test.YtnbapaimpoobkaaGreatDoorOcD
import Derived.Test.YtnbapaimpoobkaaGreatDoorOcJ
import Derived.Test.YtnbapaimpoobkaaGreatDoorNaA
import Derived.Test.YtnbapaimpoobkaaGreatDoorZonC
namespace Go.Proofs.YtnbapaimpoobkaaGreatDoor
open Go.RowKit

/-! ### the parts of the data of an SOA -/
structure Soa7 (D m r a b c d e : List UInt8) : Prop where
  nm : (∃ L, nameL m = some L) ∧ ∃ L, nameL r = some L
  four : a.length = 4 ∧ b.length = 4 ∧ c.length = 4 ∧ d.length = 4 ∧ e.length = 4
  all : D = m ++ r ++ a ++ b ++ c ++ d ++ e
theorem Soa7.is {D m r a b c d e : List UInt8} (h : Soa7 D m r a b c d e) : rightR 6 D = true ∧ visR 6 D = [(-1, m), (-1, r), (20, a ++ b ++ c ++ d ++ e)] ∧
    steps D D.length (kindsR 6) 0 = ([(-1, m), (-1, r), (4, a), (4, b), (4, c), (4, d), (4, e)], some D.length) := by
  obtain ⟨h1, h2⟩ := h.nm
  obtain ⟨l0, l1, l2, l3, l4⟩ := h.four
  have hm : m.length ≤ 255 := by obtain ⟨L, hL⟩ := h1; exact (nameL_is hL).2.2
  have hr : r.length ≤ 255 := by obtain ⟨L, hL⟩ := h2; exact (nameL_is hL).2.2
  have w1 : WF [(-1, m), (-1, r), (20, a ++ b ++ c ++ d ++ e)] :=
    ⟨by simp [Part], ⟨fun _ => h1, by simp, by simp⟩, by simp, by simp [Part], ⟨fun _ => h2, by simp, by simp⟩, by simp, by simp [Part], ⟨by simp, by simp, fun _ => by simp [l0, l1, l2, l3, l4]⟩, by simp, trivial⟩
  have w2 : WF [(-1, m), (-1, r), (4, a), (4, b), (4, c), (4, d), (4, e)] :=
    ⟨by simp [Part], ⟨fun _ => h1, by simp, by simp⟩, by simp, by simp [Part], ⟨fun _ => h2, by simp, by simp⟩, by simp, by simp [Part], ⟨by simp, by simp, fun _ => by simp [l0]⟩, by simp, by simp [Part], ⟨by simp, by simp, fun _ => by simp [l1]⟩, by simp,
      by simp [Part], ⟨by simp, by simp, fun _ => by simp [l2]⟩, by simp, by simp [Part], ⟨by simp, by simp, fun _ => by simp [l3]⟩, by simp, by simp [Part], ⟨by simp, by simp, fun _ => by simp [l4]⟩, by simp, trivial⟩
  have c1 : cat [(-1, m), (-1, r), (20, a ++ b ++ c ++ d ++ e)] = D := by rw [h.all]; simp [cat]
  have c2 : cat [(-1, m), (-1, r), (4, a), (4, b), (4, c), (4, d), (4, e)] = D := by rw [h.all]; simp [cat]
  have hl : (cat [(-1, m), (-1, r), (20, a ++ b ++ c ++ d ++ e)]).length ≤ 65535 := by rw [c1, h.all]; simp; omega
  obtain ⟨r1, r2⟩ := right_of (t := 6) w1 rfl hl
  rw [c1] at r1 r2
  have s2 := steps_cat w2
  rw [c2] at s2
  exact ⟨r1, r2, s2⟩
end Go.Proofs.YtnbapaimpoobkaaGreatDoor
namespace Go.Proofs.YtnbapaimpoobkaaGreatDoor
open Go.RowKit Go.Op
set_option linter.unusedVariables false

theorem ZoneAt.keep {w w' : World} {B : Nat} {N : ByteArray} {D : List Rrd} {v : Value} (h : ZoneAt w B N D v) (hb : Below B w w') : ZoneAt w' B N D v := by
  obtain ⟨A, c, s, e, hs, hcap, hsoa⟩ := h
  exact ⟨A, c, s, e, hs.keep hb, hcap, hsoa⟩
theorem ZoneAt.more {w : World} {B B' : Nat} {N : ByteArray} {D : List Rrd} {v : Value} (h : ZoneAt w B N D v) (hb : B ≤ B') : ZoneAt w B' N D v := by
  obtain ⟨A, c, s, e, hs, hcap, hsoa⟩ := h
  exact ⟨A, c, s, e, hs.more hb, hcap, hsoa⟩
theorem ZoneAt.later {w w' : World} {N : ByteArray} {D : List Rrd} {v : Value} (h : ZoneAt w w.heap.size N D v) (hb : Below w.heap.size w w') : ZoneAt w' w'.heap.size N D v := (h.keep hb).more hb.size
set_option maxHeartbeats 8000000 in
set_option maxRecDepth 20000 in
theorem All_any (N : ByteArray) (D : List Rrd) (v : Value) (w : World) (hz : ZoneAt w w.heap.size N D v) (hn : D.length ≤ 1000000) :
    Calls Tryz.prog 21 #[v] w fun e w' => ∃ u, e = .returned u ∧ w'.ownsRow w.heap.size 27 5 u D.length (rcells D) ∧ Below w.heap.size w w' := by
  obtain ⟨A, c, s, rfl, hs, hcap, hsoa⟩ := hz
  obtain ⟨m, hm⟩ : ∃ m, m = D.length := ⟨_, rfl⟩
  have HM := Lib.hid hm
  rw [← hm] at hs hcap hn ⊢
  have hw0 := Whole.new w zoT #[.string N, .slice A m c, .string s.s, .int .i64 s.t, .int .i64 s.c, .int .i64 s.l, .string s.d]
  have hB0 : Below w.heap.size w (w.alloc (.cells #[.string N, .slice A m c, .string s.s, .int .i64 s.t, .int .i64 s.c, .int .i64 s.l, .string s.d] zoT)) := (Below.refl _ _).alloc (Nat.le_refl _) _
  obtain ⟨c0, c1, c2, c3, c4, c5, c6⟩ := zo_facts hw0
  have HW0 := Lib.hid hw0
  have HS := Lib.hid ((hs.keep hB0).more hB0.size)
  have HB0 := Lib.hid hB0
  have HCAP := Lib.hid hcap
  have HSOA := Lib.hid hsoa
  clear hw0 hB0 hs hcap hsoa
  clear hm
  go_enter Tryz.func21, Tryz.ntmps21
  go_wp2_with fail
  refine (RClone_any A m c D _ HS.out (by omega)).mono ?_
  rintro e w1 ⟨u, rfl, ho, hB⟩
  have HO := Lib.hid (own_less ho HB0.out.size)
  have HB := Lib.hid (HB0.out.trans (hB.mono HB0.out.size))
  clear ho hB c0 c1 c2 c3 c4 c5 c6
  go_wp2_with fail
  go_ret
  exact ⟨u, rfl, HO.out, HB.out⟩
set_option maxHeartbeats 8000000 in
set_option maxRecDepth 20000 in
theorem Apex_any (N : ByteArray) (D : List Rrd) (v : Value) (w : World) (hz : ZoneAt w w.heap.size N D v) :
    Calls Tryz.prog 19 #[v] w fun e w' => e = .returned (.string N) ∧ Below w.heap.size w w' := by
  obtain ⟨A, c, s, rfl, hs, hcap, hsoa⟩ := hz
  have hw0 := Whole.new w zoT #[.string N, .slice A D.length c, .string s.s, .int .i64 s.t, .int .i64 s.c, .int .i64 s.l, .string s.d]
  have hB0 : Below w.heap.size w (w.alloc (.cells #[.string N, .slice A D.length c, .string s.s, .int .i64 s.t, .int .i64 s.c, .int .i64 s.l, .string s.d] zoT)) := (Below.refl _ _).alloc (Nat.le_refl _) _
  obtain ⟨c0, c1, c2, c3, c4, c5, c6⟩ := zo_facts hw0
  have HW0 := Lib.hid hw0
  have HS := Lib.hid ((hs.keep hB0).more hB0.size)
  have HB0 := Lib.hid hB0
  have HCAP := Lib.hid hcap
  have HSOA := Lib.hid hsoa
  clear hw0 hB0 hs hcap hsoa
  go_enter Tryz.func19, Tryz.ntmps19
  go_wp2_with fail
  go_ret
  exact ⟨rfl, HB0.out⟩
/-! ### Few -/
def lowR (x : Rrd) : Bool := decide (x.d.size ≤ 2000) && decide (x.s.size ≤ 600)
def fewL (xs : List Rrd) : Bool := decide (xs.length ≤ 30) && xs.all lowR
theorem fewL_is {xs : List Rrd} (h : fewL xs = true) : xs.length ≤ 30 ∧ LowL xs := by
  unfold fewL at h
  rw [Bool.and_eq_true, decide_eq_true_eq, List.all_eq_true] at h
  refine ⟨h.1, fun x hx => ?_⟩
  have := h.2 x hx
  unfold lowR at this
  rw [Bool.and_eq_true, decide_eq_true_eq, decide_eq_true_eq] at this
  exact ⟨this.2, by omega⟩
theorem fewL_not {xs : List Rrd} {k : Nat} {x : Rrd} (hx : xs[k]? = some x) (h : lowR x = false) : fewL xs = false := by
  unfold fewL
  rw [not_all hx h, Bool.and_false]
set_option maxHeartbeats 8000000 in
set_option maxRecDepth 20000 in
theorem Few_any (A : Option Addr) (n c : Nat) (xs : List Rrd) (w : World) (hx : SeesR w w.heap.size A n xs) (h63 : n ≤ 9223372036854775807) :
    Calls Tryz.prog 9 #[.slice A n c] w fun e w' => e = .returned (.bool (fewL xs)) ∧ Below w.heap.size w w' := by
  have HX := Lib.hid hx
  have HN := Lib.hid hx.1
  clear hx
  go_enter Tryz.func9, Tryz.ntmps9
  go_wp2_with fail
  go_loopw [3] (fun i wr => ∃ k : Nat, k ≤ n ∧ k ≤ 40 ∧ i = .int .i64 (k : Nat) ∧ Upto lowR xs k ∧ Below w.heap.size w wr) (fun i _ => n - (intOf i).toNat)
  case atStart => exact ⟨0, Nat.zero_le _, by decide, rfl, Upto.zero _ _, Below.refl _ _⟩
  case round =>
    obtain ⟨k, hk, hk40, rfl, hup, hB⟩ := hrel
    have HU := Lib.hid hup
    have HB := Lib.hid hB
    clear hup hB
    by_cases hkn : k < n
    · have g2 : (k : Int) < (n : Int) := by omega
      by_cases hk4 : k < 40
      · have g3 : (k : Int) < 40 := by omega
        have g0 : (0 : Int) ≤ (k : Int) := by omega
        obtain ⟨b, off, x, rfl, hb, hxk, ht⟩ := (HX.out.keep HB.out).at hkn
        obtain ⟨x0, x1, x2, x3, x4⟩ := ht
        have HXK := Lib.hid hxk
        clear hxk
        by_cases h1 : x.d.size ≤ 2000
        · have gd : ¬ ((x.d.size : Int) > 2000) := by omega
          by_cases h2 : x.s.size ≤ 600
          · have gs : ¬ ((x.s.size : Int) > 600) := by omega
            have HU2 := Lib.hid (HU.out.succ HXK.out (show lowR x = true by unfold lowR; rw [decide_eq_true h1, decide_eq_true h2]; rfl))
            clear h1 h2
            go_wp2_with fail
            go_roundw
            case rel => exact ⟨k + 1, by omega, by omega, by go_num, HU2.out, HB.out⟩
            case measure => simp [intOf]; omega
          · have gs : (x.s.size : Int) > 600 := by omega
            have HR := Lib.hid (fewL_not HXK.out (show lowR x = false by unfold lowR; rw [decide_eq_false h2, Bool.and_false]))
            clear h1 h2
            go_wp2_with fail
            go_ret
            exact ⟨by rw [HR.out]; rfl, HB.out⟩
        · have gd : (x.d.size : Int) > 2000 := by omega
          have HR := Lib.hid (fewL_not HXK.out (show lowR x = false by unfold lowR; rw [decide_eq_false h1, Bool.false_and]))
          clear h1
          go_wp2_with fail
          go_ret
          exact ⟨by rw [HR.out]; rfl, HB.out⟩
      · have g3 : ¬ (k : Int) < 40 := by omega
        have g4 : ¬ (n : Int) ≤ 30 := by omega
        have HR := Lib.hid (show fewL xs = false by unfold fewL; rw [decide_eq_false (by rw [HN.out]; omega)]; rfl)
        go_wp2_with fail
        go_ret
        exact ⟨by rw [HR.out]; rfl, HB.out⟩
    · obtain rfl : k = n := by omega
      have g2 : ¬ ((k : Int) < (k : Int)) := by omega
      have ha := HU.out
      rw [← HN.out] at ha
      have hall := ha.all
      by_cases h30 : k ≤ 30
      · have g4 : (k : Int) ≤ 30 := by omega
        have HR := Lib.hid (show fewL xs = true by unfold fewL; rw [decide_eq_true (by rw [HN.out]; exact h30), hall]; rfl)
        clear ha hall h30
        go_wp2_with fail
        go_ret
        exact ⟨by rw [HR.out]; rfl, HB.out⟩
      · have g4 : ¬ (k : Int) ≤ 30 := by omega
        have HR := Lib.hid (show fewL xs = false by unfold fewL; rw [decide_eq_false (by rw [HN.out]; exact h30)]; rfl)
        clear ha hall h30
        go_wp2_with fail
        go_ret
        exact ⟨by rw [HR.out]; rfl, HB.out⟩

/-! ### the least zone -/
def leA : Rrd := ⟨⟨#[1, 97, 0]⟩, 2, 1, 0, ⟨#[1, 110, 1, 97, 0]⟩⟩
def leB : Rrd := ⟨⟨#[1, 97, 0]⟩, 6, 1, 0, ⟨#[1, 110, 1, 97, 0, 0, 0, 0, 0, 1, 0, 0, 0, 2, 0, 0, 0, 3, 0, 0, 0, 4, 0, 0, 0, 5]⟩⟩
def leL : List Rrd := [leA, leB]
theorem name_n : nameL [1, 110, 1, 97, 0] = some [[110], [97]] := nameL_enc (L := [[110], [97]]) (by intro x hx; simp at hx; rcases hx with rfl | rfl <;> simp) (by decide)
theorem name_0 : nameL [0] = some [] := nameL_enc (L := []) (by intro x hx; cases hx) (by decide)
theorem nm_leA : nmX leA = [1, 97, 0] := rfl
theorem nm_leB : nmX leB = [1, 97, 0] := rfl
theorem right_leA : rightR 2 [1, 110, 1, 97, 0] = true := by
  have h := (right_of (t := 2) (V := [(-1, [1, 110, 1, 97, 0])]) ⟨by simp [Part], ⟨fun _ => ⟨_, name_n⟩, by simp, by simp⟩, by simp, trivial⟩ rfl (by simp [cat])).1
  simpa [cat] using h
theorem right_leB : rightR 6 [1, 110, 1, 97, 0, 0, 0, 0, 0, 1, 0, 0, 0, 2, 0, 0, 0, 3, 0, 0, 0, 4, 0, 0, 0, 5] = true :=
  (Soa7.is (D := [1, 110, 1, 97, 0, 0, 0, 0, 0, 1, 0, 0, 0, 2, 0, 0, 0, 3, 0, 0, 0, 4, 0, 0, 0, 5]) (m := [1, 110, 1, 97, 0]) (r := [0]) (a := [0, 0, 0, 1]) (b := [0, 0, 0, 2]) (c := [0, 0, 0, 3]) (d := [0, 0, 0, 4]) (e := [0, 0, 0, 5]) ⟨⟨⟨_, name_n⟩, ⟨_, name_0⟩⟩, ⟨rfl, rfl, rfl, rfl, rfl⟩, rfl⟩).1
theorem ok_leA : OkX leA := by
  refine ⟨?_, by decide⟩
  have h1 : leA.toRec = ⟨[1, 97, 0], 2, 1, 0, [1, 110, 1, 97, 0]⟩ := rfl
  rw [h1]
  unfold okR
  rw [name_a, show tyd 2 1 ([1, 110, 1, 97, 0] : List UInt8).length = 2 from rfl, right_leA]
  rfl
theorem ok_leB : OkX leB := by
  refine ⟨?_, by decide⟩
  have h1 : leB.toRec = ⟨[1, 97, 0], 6, 1, 0, [1, 110, 1, 97, 0, 0, 0, 0, 0, 1, 0, 0, 0, 2, 0, 0, 0, 3, 0, 0, 0, 4, 0, 0, 0, 5]⟩ := rfl
  rw [h1]
  unfold okR
  rw [name_a, show tyd 6 1 ([1, 110, 1, 97, 0, 0, 0, 0, 0, 1, 0, 0, 0, 2, 0, 0, 0, 3, 0, 0, 0, 4, 0, 0, 0, 5] : List UInt8).length = 6 from rfl, right_leB]
  rfl
theorem ok_leL : OkL leL := by
  intro x hx
  rcases List.mem_cons.1 hx with rfl | hx
  · exact ok_leA
  · rcases List.mem_cons.1 hx with rfl | hx
    · exact ok_leB
    · cases hx
theorem le_lt : cX leA leB = -1 := by
  unfold cX
  have h : cK leA.toRec.n leB.toRec.n = 0 := cmpL_self _
  rw [h]
  rfl
theorem ofC_leL : ofC leL = leL := by
  have h : putX cX leB [leA] = [leA, leB] := by
    unfold putX
    rw [if_pos (by rw [le_lt]; decide)]
    rfl
  exact h
theorem le_alike : alikeN [1, 97, 0] [1, 97, 0] = true := by unfold alikeN; rw [name_a]; rfl
theorem le_under : underN [1, 97, 0] [1, 97, 0] = true := by unfold underN; rw [name_a]; simp
theorem le_good : ∀ x ∈ leL, goodR [1, 97, 0] x = true := by
  intro x hx
  rcases List.mem_cons.1 hx with rfl | hx
  · unfold goodR; rw [nm_leA, le_under]; rfl
  · rcases List.mem_cons.1 hx with rfl | hx
    · unfold goodR; rw [nm_leB, le_under]; rfl
    · cases hx
theorem at_leL : atX [1, 97, 0] leL = leL := by
  unfold atX
  rw [List.filter_eq_self]
  intro x hx
  rcases List.mem_cons.1 hx with rfl | hx
  · rw [nm_leA, le_alike]
  · rcases List.mem_cons.1 hx with rfl | hx
    · rw [nm_leB, le_alike]
    · cases hx
theorem isZ_leL : isZ [1, 97, 0] (ofC leL) = true := by
  rw [ofC_leL]
  unfold isZ
  rw [at_leL, List.all_eq_true.2 le_good]
  rfl
theorem low_leL : LowL leL := ok_leL.low
set_option maxHeartbeats 8000000 in
set_option maxRecDepth 20000 in
theorem Least_any (w : World) : Calls Tryz.prog 24 #[] w fun e w' => (∃ A c, e = .returned (.slice A 2 c) ∧ SeesR w' w'.heap.size A 2 leL) ∧ Below w.heap.size w w' := by
  go_enter Tryz.func24, Tryz.ntmps24
  go_wp2_with fail
  go_ret
  refine ⟨⟨_, _, rfl, rfl, fun _ => ⟨w.heap.size, 0, rfl, by simp, ?_⟩⟩, (Below.refl _ _).alloc (Nat.le_refl _) _⟩
  have hw := fun cs => Whole.new w 27 cs
  intro j x hx
  match j, hx with
  | 0, hx =>
    obtain rfl : leA = x := by simpa [leL] using hx
    exact ⟨(hw _).cell 0, (hw _).cell 1, (hw _).cell 2, (hw _).cell 3, (hw _).cell 4⟩
  | 1, hx =>
    obtain rfl : leB = x := by simpa [leL] using hx
    exact ⟨(hw _).cell 5, (hw _).cell 6, (hw _).cell 7, (hw _).cell 8, (hw _).cell 9⟩
  | j + 2, hx => simp [leL] at hx
end Go.Proofs.YtnbapaimpoobkaaGreatDoor
