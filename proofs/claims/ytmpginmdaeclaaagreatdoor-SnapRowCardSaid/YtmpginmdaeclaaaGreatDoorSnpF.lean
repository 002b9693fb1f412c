/- Parts of the proofs of the statements of image. No statement of the seat is proved here. -/
import Derived.Test.YtmpginmdaeclaaaGreatDoorSnpE
import Derived.Test.YtmpginmdaeclaaaGreatDoorZoE
set_option maxHeartbeats 32000000
set_option maxRecDepth 20000
namespace Go.Proofs.YtmpginmdaeclaaaGreatDoor
open Go.RowKit Go.Maps Go.Sort
set_option maxRecDepth 20000
def nx : List UInt8 := [2, 101, 120, 0]
structure Z7 where
  s : ByteArray
  A : Option Addr
  n : Nat
  c : Nat
  t : ByteArray
  x : Int
  y : Int
  z : Int
  d : ByteArray
def Z7.cells (z : Z7) : Array Value := #[.string z.s, .slice z.A z.n z.c, .string z.t, .int .i64 z.x, .int .i64 z.y, .int .i64 z.z, .string z.d]
theorem new_seven {w : World} {N : ByteArray} {nn : List UInt8} {xs : List Rrd} {e : Ending} (h : NewOut w N nn xs e) : ∃ z : Z7, e = .returned (.tuple #[.agg #[.string z.s, .slice z.A z.n z.c, .string z.t, .int .i64 z.x, .int .i64 z.y, .int .i64 z.z, .string z.d], .int .i64 (codeZ nn xs)]) /\ (codeZ nn xs = 0 -> ZoneAt w w.heap.size N (ofC xs) (.agg z.cells)) := by
  rcases h with ⟨h, rfl⟩ | ⟨h, rfl⟩ | ⟨h, v, rfl, hz⟩
  · rw [h]; exact ⟨⟨⟨#[]⟩, none, 0, 0, ⟨#[]⟩, 0, 0, 0, ⟨#[]⟩⟩, rfl, fun h => by cases h⟩
  · rw [h]; exact ⟨⟨⟨#[]⟩, none, 0, 0, ⟨#[]⟩, 0, 0, 0, ⟨#[]⟩⟩, rfl, fun h => by cases h⟩
  · have hz' := hz
    obtain ⟨A, c, s, rfl, _⟩ := hz
    rw [h]
    exact ⟨⟨N, A, (ofC xs).length, c, s.s, s.t, s.c, s.l, s.d⟩, rfl, fun _ => hz'⟩
theorem ref_two {w : World} {N : ByteArray} {nn : List UInt8} {xs : List Rrd} {e : Ending} (h : ZRefOut w N nn xs e) : ∃ (s : ByteArray) (A : Option Addr) (n c : Nat), e = .returned (.tuple #[.agg #[.string s, .slice A n c], .int .i64 (codeZ nn xs)]) /\ (codeZ nn xs = 0 -> ZRefAt w w.heap.size N (ofC xs) (.agg #[.string s, .slice A n c])) := by
  rcases h with ⟨h, rfl⟩ | ⟨h, rfl⟩ | ⟨h, v, rfl, hz⟩
  · rw [h]; exact ⟨⟨#[]⟩, none, 0, 0, rfl, fun h => by cases h⟩
  · rw [h]; exact ⟨⟨#[]⟩, none, 0, 0, rfl, fun h => by cases h⟩
  · have hz' := hz
    obtain ⟨A, c, rfl, _⟩ := hz
    rw [h]
    exact ⟨N, A, (ofC xs).length, c, rfl, fun _ => hz'⟩
theorem below_al {w w' : World} (h : Below w.heap.size w w') (o : Obj) : Below w.heap.size w (w'.alloc o) := h.alloc h.size o
theorem tkN {P : Program} {md : Region.Mode} {ops : Array Oper} {Q : Exit -> Act -> World -> Prop} {S : World -> Prop} {i : Nat} {d : Option Tmp} {op : Op} {ty : TypeId} {ps : String} {af : Array Edge} {gd : Option (Nat × Bool)} {fuel : Nat} {listed : Array Bool} {a : Act} {w : World} (hi : ops[i]? = some (Oper.mk d op ty ps af gd))
    (hs : Region.noSelect ops = true) (hf : Region.free md ops listed i = true) (hr : (Region.ready md ops listed).contains i = true) (hQ : ∀ c a w, Q (.panic c) (a.put d undef) w -> Q (.panic c) a w)
    (hw : Region.wanted (Oper.mk d op ty ps af gd) (yielded ops a.tmps) = false) (hS : S w) (h : wpAnyH P md ops Q S fuel (listed.setIfInBounds i true) (a.put d undef) w) : wpAnyH P md ops Q S (fuel + 1) listed a w :=
  takeH hi hs hf hr hQ (Or.inr ⟨hw, rfl⟩) hS h
theorem codeZ_three (nn : List UInt8) (xs : List Rrd) : codeZ nn xs = 0 \/ codeZ nn xs = 2 \/ codeZ nn xs = 9 := by
  unfold codeZ
  repeat' split
  all_goals simp
theorem al2_drew (w : World) (a b : Obj) : Below w.heap.size w ((w.alloc a).alloc b).drew := (below_al (below_al (Below.refl _ _) _) _).drew
theorem al_new1 (w : World) (t : TypeId) (cs : Array Value) (o : Obj) : Whole ((w.alloc (.cells cs t)).alloc o).drew w.heap.size t cs := ((Whole.new w t cs).alloc o).drew
theorem al_new2 (w : World) (o : Obj) (t : TypeId) (cs : Array Value) : Whole ((w.alloc o).alloc (.cells cs t)).drew (w.heap.size + 1) t cs := by
  have := (Whole.new (w.alloc o) t cs).drew
  rwa [World.size_alloc] at this
structure Two (w : World) (xs ys : List Rrd) (p q : Nat) (z1 z2 : Z7) (s1 s2 : ByteArray) (A1 A2 : Option Addr) (n1 c1 n2 c2 : Nat) : Prop where
  row : Whole w p zoT #[.string z1.s, .slice z1.A z1.n z1.c, .string z1.t, .int .i64 z1.x, .int .i64 z1.y, .int .i64 z1.z, .string z1.d, .string z2.s, .slice z2.A z2.n z2.c, .string z2.t, .int .i64 z2.x, .int .i64 z2.y, .int .i64 z2.z, .string z2.d]
  rrow : Whole w q rzT #[.string s1, .slice A1 n1 c1, .string s2, .slice A2 n2 c2]
  at1 : codeZ nx xs = 0 -> ZoneAt w w.heap.size (mk nx) (ofC xs) (.agg z1.cells)
  at2 : codeZ nx ys = 0 -> ZoneAt w w.heap.size (mk nx) (ofC ys) (.agg z2.cells)
  ref1 : codeZ nx xs = 0 -> ZRefAt w w.heap.size (mk nx) (ofC xs) (.agg #[.string s1, .slice A1 n1 c1])
  ref2 : codeZ nx ys = 0 -> ZRefAt w w.heap.size (mk nx) (ofC ys) (.agg #[.string s2, .slice A2 n2 c2])
theorem two_end {W W' : World} {xs ys : List Rrd} {p q : Nat} {z1 z2 : Z7} {s1 s2 : ByteArray} {A1 A2 : Option Addr} {n1 c1 n2 c2 : Nat} (hb : Below W.heap.size W W')
    (h1 : Whole W' p zoT #[.string z1.s, .slice z1.A z1.n z1.c, .string z1.t, .int .i64 z1.x, .int .i64 z1.y, .int .i64 z1.z, .string z1.d, .string z2.s, .slice z2.A z2.n z2.c, .string z2.t, .int .i64 z2.x, .int .i64 z2.y, .int .i64 z2.z, .string z2.d])
    (h2 : Whole W' q rzT #[.string s1, .slice A1 n1 c1, .string s2, .slice A2 n2 c2]) (t1 : codeZ nx xs = 0 -> ZoneAt W W.heap.size (mk nx) (ofC xs) (.agg z1.cells)) (t2 : codeZ nx ys = 0 -> ZoneAt W W.heap.size (mk nx) (ofC ys) (.agg z2.cells))
    (t3 : codeZ nx xs = 0 -> ZRefAt W W.heap.size (mk nx) (ofC xs) (.agg #[.string s1, .slice A1 n1 c1])) (t4 : codeZ nx ys = 0 -> ZRefAt W W.heap.size (mk nx) (ofC ys) (.agg #[.string s2, .slice A2 n2 c2])) : Two W' xs ys p q z1 z2 s1 s2 A1 A2 n1 c1 n2 c2 :=
  ⟨h1, h2, fun h => (t1 h).later hb, fun h => (t2 h).later hb, fun h => (t3 h).later hb, fun h => (t4 h).later hb⟩
theorem zones_any (A A' : Option Addr) (n c n' c' : Nat) (xs ys : List Rrd) (w : World) (hx : SeesR w w.heap.size A n xs) (hy : SeesR w w.heap.size A' n' ys) (hn : n <= 60) (hn' : n' <= 60) (hlx : LowL xs) (hly : LowL ys) :
    Calls Tryz.prog 8 #[.slice A n c, .slice A' n' c'] w fun e w' => (∃ p q, e = .returned (.tuple #[.slice (some ⟨p, 0, none⟩) 2 2, .slice (some ⟨q, 0, none⟩) 2 2, .bool (codeZ nx xs == 0 && codeZ nx ys == 0)]) /\
      ∃ z1 z2 s1 s2 B1 B2 n1 c1 n2 c2, Two w' xs ys p q z1 z2 s1 s2 B1 B2 n1 c1 n2 c2) /\ Below w.heap.size w w' := by
  have HX := Ha hx
  have HY := Ha hy
  have HLX := Ha hlx
  have HLY := Ha hly
  clear hx hy hlx hly
  go_enter Tryz.func8, Tryz.ntmps8
  go_wp2_with fail
  refine (ZNew_any A n c ⟨#[2, 101, 120, 0]⟩ nx xs _ rfl HX.out (by omega) HLX.out).mono ?_
  rintro e w1 ⟨h, hB⟩
  obtain ⟨z1, rfl, hz1⟩ := new_seven h
  have HZ1 := Ha hz1
  clear h hz1
  obtain ⟨W1, hW1⟩ : ∃ W1, W1 = w1.alloc (.cells #[.string z1.s, .slice z1.A z1.n z1.c, .string z1.t, .int .i64 z1.x, .int .i64 z1.y, .int .i64 z1.z, .string z1.d] zoT) := ⟨_, rfl⟩
  obtain ⟨g1, hg1⟩ : ∃ g1, g1 = w1.heap.size := ⟨_, rfl⟩
  have hb1 : Below w1.heap.size w1 W1 := by rw [hW1]; exact (Below.refl _ _).alloc (Nat.le_refl _) _
  have HV1 := Ha (show Whole W1 g1 zoT #[.string z1.s, .slice z1.A z1.n z1.c, .string z1.t, .int .i64 z1.x, .int .i64 z1.y, .int .i64 z1.z, .string z1.d] by rw [hW1, hg1]; exact Whole.new _ _ _)
  have HB1 := Ha (hB.trans (hb1.mono hB.size))
  have HL1 := Ha hb1
  have HW1 := Ha hW1
  have HG1 := Ha hg1
  clear hB hb1 hW1 hg1
  go_wp2_with fail
  rw [<-HW1.out, <-HG1.out]
  refine (ZNew_any A' n' c' ⟨#[2, 101, 120, 0]⟩ nx ys _ rfl ((HY.out.keep HB1.out).more HB1.out.size) (by omega) HLY.out).mono ?_
  rintro e w2 ⟨h, hB⟩
  obtain ⟨z2, rfl, hz2⟩ := new_seven h
  have HZ2 := Ha hz2
  clear h hz2
  obtain ⟨W2, hW2⟩ : ∃ W2, W2 = w2.alloc (.cells #[.string z2.s, .slice z2.A z2.n z2.c, .string z2.t, .int .i64 z2.x, .int .i64 z2.y, .int .i64 z2.z, .string z2.d] zoT) := ⟨_, rfl⟩
  obtain ⟨g2, hg2⟩ : ∃ g2, g2 = w2.heap.size := ⟨_, rfl⟩
  have hb2 : Below w2.heap.size w2 W2 := by rw [hW2]; exact (Below.refl _ _).alloc (Nat.le_refl _) _
  have HV2 := Ha (show Whole W2 g2 zoT #[.string z2.s, .slice z2.A z2.n z2.c, .string z2.t, .int .i64 z2.x, .int .i64 z2.y, .int .i64 z2.z, .string z2.d] by rw [hW2, hg2]; exact Whole.new _ _ _)
  have HK2 := Ha (show Below W1.heap.size W1 W2 from hB.trans (hb2.mono hB.size))
  have HL2 := Ha hb2
  have HW2 := Ha hW2
  have HG2 := Ha hg2
  have HB2 := Ha (HB1.out.trans (HK2.out.mono HB1.out.size))
  clear hB hb2 hW2 hg2
  go_wp2_with fail
  rw [<-HW2.out, <-HG2.out]
  refine (RefNew_any A n c ⟨#[2, 101, 120, 0]⟩ nx xs _ rfl ((HX.out.keep HB2.out).more HB2.out.size) (by omega) HLX.out).mono ?_
  rintro e w3 ⟨h, hB⟩
  obtain ⟨s1, B1, n1, c1, rfl, hz3⟩ := ref_two h
  have HZ3 := Ha hz3
  clear h hz3
  obtain ⟨W3, hW3⟩ : ∃ W3, W3 = w3.alloc (.cells #[.string s1, .slice B1 n1 c1] rzT) := ⟨_, rfl⟩
  obtain ⟨g3, hg3⟩ : ∃ g3, g3 = w3.heap.size := ⟨_, rfl⟩
  have hb3 : Below w3.heap.size w3 W3 := by rw [hW3]; exact (Below.refl _ _).alloc (Nat.le_refl _) _
  have HV3 := Ha (show Whole W3 g3 rzT #[.string s1, .slice B1 n1 c1] by rw [hW3, hg3]; exact Whole.new _ _ _)
  have HK3 := Ha (show Below W2.heap.size W2 W3 from hB.trans (hb3.mono hB.size))
  have HL3 := Ha hb3
  have HW3 := Ha hW3
  have HG3 := Ha hg3
  have HB3 := Ha (HB2.out.trans (HK3.out.mono HB2.out.size))
  clear hB hb3 hW3 hg3
  go_wp2_with fail
  rw [<-HW3.out, <-HG3.out]
  refine (RefNew_any A' n' c' ⟨#[2, 101, 120, 0]⟩ nx ys _ rfl ((HY.out.keep HB3.out).more HB3.out.size) (by omega) HLY.out).mono ?_
  rintro e w4 ⟨h, hB⟩
  obtain ⟨s2, B2, n2, c2, rfl, hz4⟩ := ref_two h
  have HZ4 := Ha hz4
  clear h hz4
  obtain ⟨W4, hW4⟩ : ∃ W4, W4 = w4.alloc (.cells #[.string s2, .slice B2 n2 c2] rzT) := ⟨_, rfl⟩
  obtain ⟨g4, hg4⟩ : ∃ g4, g4 = w4.heap.size := ⟨_, rfl⟩
  have hb4 : Below w4.heap.size w4 W4 := by rw [hW4]; exact (Below.refl _ _).alloc (Nat.le_refl _) _
  have HV4 := Ha (show Whole W4 g4 rzT #[.string s2, .slice B2 n2 c2] by rw [hW4, hg4]; exact Whole.new _ _ _)
  have HK4 := Ha (show Below W3.heap.size W3 W4 from hB.trans (hb4.mono hB.size))
  have HL4 := Ha hb4
  have HW4 := Ha hW4
  have HG4 := Ha hg4
  have HB4 := Ha (HB3.out.trans (HK4.out.mono HB3.out.size))
  clear hB hb4 hW4 hg4
  -- all four in the last world
  have hX3 := HV3.out.below HK4.out HV3.out.lt
  have hX2 := (HV2.out.below HK3.out HV2.out.lt)
  have hX2 := hX2.below HK4.out hX2.lt
  have hX1 := HV1.out.below HK2.out HV1.out.lt
  have hX1 := hX1.below HK3.out hX1.lt
  have hX1 := hX1.below HK4.out hX1.lt
  have HX1 := Ha hX1
  have HX2 := Ha hX2
  have HX3 := Ha hX3
  have HX4 := Ha HV4.out
  have HT1 := Ha (fun h => (((((HZ1.out h).later HL1.out).later HK2.out).later HK3.out).later HK4.out))
  have HT2 := Ha (fun h => ((((HZ2.out h).later HL2.out).later HK3.out).later HK4.out))
  have HT3 := Ha (fun h => (((HZ3.out h).later HL3.out).later HK4.out))
  have HT4 := Ha (fun h => ((HZ4.out h).later HL4.out))
  clear hX1 hX2 hX3 HZ1 HZ2 HZ3 HZ4 HL1 HL2 HL3 HL4 HK2 HK3 HK4 HV1 HV2 HV3 HV4
  obtain ⟨k1, hk1⟩ : ∃ k1, k1 = codeZ nx xs := ⟨_, rfl⟩
  obtain ⟨k2, hk2⟩ : ∃ k2, k2 = codeZ nx ys := ⟨_, rfl⟩
  rw [<-hk1, <-hk2]
  have hq1 : k1 = 0 \/ k1 = 2 \/ k1 = 9 := by rw [hk1]; exact codeZ_three _ _
  have hq2 : k2 = 0 \/ k2 = 2 \/ k2 = 9 := by rw [hk2]; exact codeZ_three _ _
  have HEND := Ha (fun (W5 : World) (hb : Below W4.heap.size W4 W5) (p q : Nat) h1 h2 => two_end (xs := xs) (ys := ys) hb (p := p) (q := q) h1 h2 HT1.out HT2.out HT3.out HT4.out)
  have HC1 := Ha hk1
  have HC2 := Ha hk2
  clear HT1 HT2 HT3 HT4 hk1 hk2
  go_wp2_with fail
  rw [<-HW4.out, <-HG4.out]
  have a0 : ∀ w' : World, Below W4.heap.size W4 w' -> w'.cell? ⟨g1, 0, none⟩ = some (.string z1.s) := fun w' h => (h.cell (HX1.out.lt)).trans ((HX1.out.cell 0).trans rfl)
  have a1 : ∀ w' : World, Below W4.heap.size W4 w' -> w'.cell? ⟨g1, 1, none⟩ = some (.slice z1.A z1.n z1.c) := fun w' h => (h.cell (HX1.out.lt)).trans ((HX1.out.cell 1).trans rfl)
  have a2 : ∀ w' : World, Below W4.heap.size W4 w' -> w'.cell? ⟨g1, 2, none⟩ = some (.string z1.t) := fun w' h => (h.cell (HX1.out.lt)).trans ((HX1.out.cell 2).trans rfl)
  have a3 : ∀ w' : World, Below W4.heap.size W4 w' -> w'.cell? ⟨g1, 3, none⟩ = some (.int .i64 z1.x) := fun w' h => (h.cell (HX1.out.lt)).trans ((HX1.out.cell 3).trans rfl)
  have a4 : ∀ w' : World, Below W4.heap.size W4 w' -> w'.cell? ⟨g1, 4, none⟩ = some (.int .i64 z1.y) := fun w' h => (h.cell (HX1.out.lt)).trans ((HX1.out.cell 4).trans rfl)
  have a5 : ∀ w' : World, Below W4.heap.size W4 w' -> w'.cell? ⟨g1, 5, none⟩ = some (.int .i64 z1.z) := fun w' h => (h.cell (HX1.out.lt)).trans ((HX1.out.cell 5).trans rfl)
  have a6 : ∀ w' : World, Below W4.heap.size W4 w' -> w'.cell? ⟨g1, 6, none⟩ = some (.string z1.d) := fun w' h => (h.cell (HX1.out.lt)).trans ((HX1.out.cell 6).trans rfl)
  have b0 : ∀ w' : World, Below W4.heap.size W4 w' -> w'.cell? ⟨g2, 0, none⟩ = some (.string z2.s) := fun w' h => (h.cell (HX2.out.lt)).trans ((HX2.out.cell 0).trans rfl)
  have b1 : ∀ w' : World, Below W4.heap.size W4 w' -> w'.cell? ⟨g2, 1, none⟩ = some (.slice z2.A z2.n z2.c) := fun w' h => (h.cell (HX2.out.lt)).trans ((HX2.out.cell 1).trans rfl)
  have b2 : ∀ w' : World, Below W4.heap.size W4 w' -> w'.cell? ⟨g2, 2, none⟩ = some (.string z2.t) := fun w' h => (h.cell (HX2.out.lt)).trans ((HX2.out.cell 2).trans rfl)
  have b3 : ∀ w' : World, Below W4.heap.size W4 w' -> w'.cell? ⟨g2, 3, none⟩ = some (.int .i64 z2.x) := fun w' h => (h.cell (HX2.out.lt)).trans ((HX2.out.cell 3).trans rfl)
  have b4 : ∀ w' : World, Below W4.heap.size W4 w' -> w'.cell? ⟨g2, 4, none⟩ = some (.int .i64 z2.y) := fun w' h => (h.cell (HX2.out.lt)).trans ((HX2.out.cell 4).trans rfl)
  have b5 : ∀ w' : World, Below W4.heap.size W4 w' -> w'.cell? ⟨g2, 5, none⟩ = some (.int .i64 z2.z) := fun w' h => (h.cell (HX2.out.lt)).trans ((HX2.out.cell 5).trans rfl)
  have b6 : ∀ w' : World, Below W4.heap.size W4 w' -> w'.cell? ⟨g2, 6, none⟩ = some (.string z2.d) := fun w' h => (h.cell (HX2.out.lt)).trans ((HX2.out.cell 6).trans rfl)
  have r0 : ∀ w' : World, Below W4.heap.size W4 w' -> w'.cell? ⟨g3, 0, none⟩ = some (.string s1) := fun w' h => (h.cell (HX3.out.lt)).trans ((HX3.out.cell 0).trans rfl)
  have r1 : ∀ w' : World, Below W4.heap.size W4 w' -> w'.cell? ⟨g3, 1, none⟩ = some (.slice B1 n1 c1) := fun w' h => (h.cell (HX3.out.lt)).trans ((HX3.out.cell 1).trans rfl)
  have t0 : ∀ w' : World, Below W4.heap.size W4 w' -> w'.cell? ⟨g4, 0, none⟩ = some (.string s2) := fun w' h => (h.cell (HX4.out.lt)).trans ((HX4.out.cell 0).trans rfl)
  have t1 : ∀ w' : World, Below W4.heap.size W4 w' -> w'.cell? ⟨g4, 1, none⟩ = some (.slice B2 n2 c2) := fun w' h => (h.cell (HX4.out.lt)).trans ((HX4.out.cell 1).trans rfl)
  have hbd : Below W4.heap.size W4 W4.drew := (Below.refl _ _).drew
  rcases hq1 with rfl | rfl | rfl
  · rcases hq2 with rfl | rfl | rfl
    · go_region_held3 (fun w' => Below W4.heap.size W4 w') (first | go_keep | exact below_al hbd _ | exact below_al (below_al hbd _) _) (fail)
      all_goals (
        go_wp2_with fail
        go_ret3
        first
          | exact ⟨⟨W4.heap.size, W4.heap.size + 1, by rw [<-HC1.out, <-HC2.out]; rfl, z1, z2, s1, s2, B1, B2, n1, c1, n2, c2, HEND.out _ (al2_drew _ _ _) _ _ (al_new1 _ _ _ _) (al_new2 _ _ _ _)⟩, HB4.out.trans ((al2_drew _ _ _).mono HB4.out.size)⟩
          | exact ⟨⟨W4.heap.size + 1, W4.heap.size, by rw [<-HC1.out, <-HC2.out]; rfl, z1, z2, s1, s2, B1, B2, n1, c1, n2, c2, HEND.out _ (al2_drew _ _ _) _ _ (al_new2 _ _ _ _) (al_new1 _ _ _ _)⟩, HB4.out.trans ((al2_drew _ _ _).mono HB4.out.size)⟩)
    all_goals (
      refine wp_region_held_drew (S := fun w' => Below W4.heap.size W4 w') (by kernel_rfl) hbd (fun hHeld => ?_)
      refine takeH (i := 0) (v := ?_) rfl (by kernel_rfl) (by kernel_rfl) (by kernel_rfl) (fun _ _ _ h => h) (Or.inl ⟨by rfl, ?_⟩) hHeld ?_
      rotate_left
      · intro w hSw
        go_simp
        try with_reducible rfl
      try simp only [Act.put, List.setIfInBounds_toArray, List.set_cons_zero, List.set_cons_succ]
      refine takeH (i := 1) (v := ?_) rfl (by kernel_rfl) (by kernel_rfl) (by kernel_rfl) (fun _ _ _ h => h) (Or.inl ⟨by rfl, ?_⟩) hHeld ?_
      rotate_left
      · intro w hSw
        go_simp
        try with_reducible rfl
      try simp only [Act.put, List.setIfInBounds_toArray, List.set_cons_zero, List.set_cons_succ]
      refine takeH (i := 3) (v := ?_) rfl (by kernel_rfl) (by kernel_rfl) (by kernel_rfl) (fun _ _ _ h => h) (Or.inl ⟨by rfl, ?_⟩) hHeld ?_
      rotate_left
      · intro w hSw
        go_simp
        try with_reducible rfl
      try simp only [Act.put, List.setIfInBounds_toArray, List.set_cons_zero, List.set_cons_succ]
      refine takeH (i := 4) (v := ?_) rfl (by kernel_rfl) (by kernel_rfl) (by kernel_rfl) (fun _ _ _ h => h) (Or.inl ⟨by rfl, ?_⟩) hHeld ?_
      rotate_left
      · intro w hSw
        go_simp
        try with_reducible rfl
      try simp only [Act.put, List.setIfInBounds_toArray, List.set_cons_zero, List.set_cons_succ]
      refine takeH (i := 6) (v := ?_) rfl (by kernel_rfl) (by kernel_rfl) (by kernel_rfl) (fun _ _ _ h => h) (Or.inl ⟨by rfl, ?_⟩) hHeld ?_
      rotate_left
      · intro w hSw
        go_simp
        try with_reducible rfl
      try simp only [Act.put, List.setIfInBounds_toArray, List.set_cons_zero, List.set_cons_succ]
      refine takeH (i := 7) (v := ?_) rfl (by kernel_rfl) (by kernel_rfl) (by kernel_rfl) (fun _ _ _ h => h) (Or.inl ⟨by rfl, ?_⟩) hHeld ?_
      rotate_left
      · intro w hSw
        go_simp
        try with_reducible rfl
      try simp only [Act.put, List.setIfInBounds_toArray, List.set_cons_zero, List.set_cons_succ]
      refine takeH (i := 8) (v := ?_) rfl (by kernel_rfl) (by kernel_rfl) (by kernel_rfl) (fun _ _ _ h => h) (Or.inl ⟨by rfl, ?_⟩) hHeld ?_
      rotate_left
      · intro w hSw
        go_simp
        try with_reducible rfl
      try simp only [Act.put, List.setIfInBounds_toArray, List.set_cons_zero, List.set_cons_succ]
      refine takeH (i := 9) (v := ?_) rfl (by kernel_rfl) (by kernel_rfl) (by kernel_rfl) (fun _ _ _ h => h) (Or.inl ⟨by rfl, ?_⟩) hHeld ?_
      rotate_left
      · intro w hSw
        go_simp
        try with_reducible rfl
      try simp only [Act.put, List.setIfInBounds_toArray, List.set_cons_zero, List.set_cons_succ]
      refine takeH (i := 10) (v := ?_) rfl (by kernel_rfl) (by kernel_rfl) (by kernel_rfl) (fun _ _ _ h => h) (Or.inl ⟨by rfl, ?_⟩) hHeld ?_
      rotate_left
      · intro w hSw
        go_simp
        try with_reducible rfl
      try simp only [Act.put, List.setIfInBounds_toArray, List.set_cons_zero, List.set_cons_succ]
      refine takeH (i := 11) (v := ?_) rfl (by kernel_rfl) (by kernel_rfl) (by kernel_rfl) (fun _ _ _ h => h) (Or.inl ⟨by rfl, ?_⟩) hHeld ?_
      rotate_left
      · intro w hSw
        go_simp
        try with_reducible rfl
      try simp only [Act.put, List.setIfInBounds_toArray, List.set_cons_zero, List.set_cons_succ]
      refine takeH (i := 12) (v := ?_) rfl (by kernel_rfl) (by kernel_rfl) (by kernel_rfl) (fun _ _ _ h => h) (Or.inl ⟨by rfl, ?_⟩) hHeld ?_
      rotate_left
      · intro w hSw
        go_simp
        try with_reducible rfl
      try simp only [Act.put, List.setIfInBounds_toArray, List.set_cons_zero, List.set_cons_succ]
      refine tkN (i := 13) rfl (by kernel_rfl) (by kernel_rfl) (by kernel_rfl) (fun _ _ _ h => h) (by rfl) hHeld ?_
      try simp only [Act.put, List.setIfInBounds_toArray, List.set_cons_zero, List.set_cons_succ]
      refine tkN (i := 14) rfl (by kernel_rfl) (by kernel_rfl) (by kernel_rfl) (fun _ _ _ h => h) (by rfl) hHeld ?_
      try simp only [Act.put, List.setIfInBounds_toArray, List.set_cons_zero, List.set_cons_succ]
      refine takeH (i := 15) (v := ?_) rfl (by kernel_rfl) (by kernel_rfl) (by kernel_rfl) (fun _ _ _ h => h) (Or.inl ⟨by rfl, ?_⟩) hHeld ?_
      rotate_left
      · intro w hSw
        go_simp
        try with_reducible rfl
      try simp only [Act.put, List.setIfInBounds_toArray, List.set_cons_zero, List.set_cons_succ]
      refine takeH (i := 16) (v := ?_) rfl (by kernel_rfl) (by kernel_rfl) (by kernel_rfl) (fun _ _ _ h => h) (Or.inl ⟨by rfl, ?_⟩) hHeld ?_
      rotate_left
      · intro w hSw
        go_simp
        try with_reducible rfl
      try simp only [Act.put, List.setIfInBounds_toArray, List.set_cons_zero, List.set_cons_succ]
      refine tkN (i := 17) rfl (by kernel_rfl) (by kernel_rfl) (by kernel_rfl) (fun _ _ _ h => h) (by rfl) hHeld ?_
      try simp only [Act.put, List.setIfInBounds_toArray, List.set_cons_zero, List.set_cons_succ]
      refine tkN (i := 18) rfl (by kernel_rfl) (by kernel_rfl) (by kernel_rfl) (fun _ _ _ h => h) (by rfl) hHeld ?_
      try simp only [Act.put, List.setIfInBounds_toArray, List.set_cons_zero, List.set_cons_succ]
      refine takeH (i := 19) (v := ?_) rfl (by kernel_rfl) (by kernel_rfl) (by kernel_rfl) (fun _ _ _ h => h) (Or.inl ⟨by rfl, ?_⟩) hHeld ?_
      rotate_left
      · intro w hSw
        go_simp
        try with_reducible rfl
      try simp only [Act.put, List.setIfInBounds_toArray, List.set_cons_zero, List.set_cons_succ]
      refine wpAnyH_ready (rs := [2, 5]) (by decide +kernel) (by simp) ?_
      refine consH (i := 2) rfl (fun K hK => ?_) (consH (i := 5) rfl (fun K hK => ?_) AllReadyH.nil)
      · go_simp
        refine hK.out _ _ ?_ (fun hHeld => ?_)
        · first | exact below_al hbd _ | exact below_al (below_al hbd _) _
        clear hK K
        try simp only [Act.put, List.setIfInBounds_toArray, List.set_cons_zero, List.set_cons_succ]
        refine takeH (i := 20) (v := ?_) rfl (by kernel_rfl) (by kernel_rfl) (by kernel_rfl) (fun _ _ _ h => h) (Or.inl ⟨by rfl, ?_⟩) hHeld ?_
        rotate_left
        · intro w hSw
          go_simp
          try with_reducible rfl
        try simp only [Act.put, List.setIfInBounds_toArray, List.set_cons_zero, List.set_cons_succ]
        refine wpAnyH_ready (rs := [5]) (by decide +kernel) (by simp) ?_
        refine consH (i := 5) rfl (fun K hK => ?_) AllReadyH.nil
        go_simp
        refine hK.out _ _ ?_ (fun hHeld => ?_)
        · first | exact below_al hbd _ | exact below_al (below_al hbd _) _
        clear hK K
        try simp only [Act.put, List.setIfInBounds_toArray, List.set_cons_zero, List.set_cons_succ]
        refine takeH (i := 21) (v := ?_) rfl (by kernel_rfl) (by kernel_rfl) (by kernel_rfl) (fun _ _ _ h => h) (Or.inl ⟨by rfl, ?_⟩) hHeld ?_
        rotate_left
        · intro w hSw
          go_simp
          try with_reducible rfl
        try simp only [Act.put, List.setIfInBounds_toArray, List.set_cons_zero, List.set_cons_succ]
        refine takeH (i := 22) (v := ?_) rfl (by kernel_rfl) (by kernel_rfl) (by kernel_rfl) (fun _ _ _ h => h) (Or.inl ⟨by rfl, ?_⟩) hHeld ?_
        rotate_left
        · intro w hSw
          go_simp
          try with_reducible rfl
        try simp only [Act.put, List.setIfInBounds_toArray, List.set_cons_zero, List.set_cons_succ]
        refine wpAnyH_done (by kernel_rfl) ?_ _
        (
          go_wp2_with fail
          go_ret3
          first
            | exact ⟨⟨W4.heap.size, W4.heap.size + 1, by rw [<-HC1.out, <-HC2.out]; rfl, z1, z2, s1, s2, B1, B2, n1, c1, n2, c2, HEND.out _ (al2_drew _ _ _) _ _ (al_new1 _ _ _ _) (al_new2 _ _ _ _)⟩, HB4.out.trans ((al2_drew _ _ _).mono HB4.out.size)⟩
            | exact ⟨⟨W4.heap.size + 1, W4.heap.size, by rw [<-HC1.out, <-HC2.out]; rfl, z1, z2, s1, s2, B1, B2, n1, c1, n2, c2, HEND.out _ (al2_drew _ _ _) _ _ (al_new2 _ _ _ _) (al_new1 _ _ _ _)⟩, HB4.out.trans ((al2_drew _ _ _).mono HB4.out.size)⟩)
      · go_simp
        refine hK.out _ _ ?_ (fun hHeld => ?_)
        · first | exact below_al hbd _ | exact below_al (below_al hbd _) _
        clear hK K
        try simp only [Act.put, List.setIfInBounds_toArray, List.set_cons_zero, List.set_cons_succ]
        refine wpAnyH_ready (rs := [2]) (by decide +kernel) (by simp) ?_
        refine consH (i := 2) rfl (fun K hK => ?_) AllReadyH.nil
        go_simp
        refine hK.out _ _ ?_ (fun hHeld => ?_)
        · first | exact below_al hbd _ | exact below_al (below_al hbd _) _
        clear hK K
        try simp only [Act.put, List.setIfInBounds_toArray, List.set_cons_zero, List.set_cons_succ]
        refine takeH (i := 20) (v := ?_) rfl (by kernel_rfl) (by kernel_rfl) (by kernel_rfl) (fun _ _ _ h => h) (Or.inl ⟨by rfl, ?_⟩) hHeld ?_
        rotate_left
        · intro w hSw
          go_simp
          try with_reducible rfl
        try simp only [Act.put, List.setIfInBounds_toArray, List.set_cons_zero, List.set_cons_succ]
        refine takeH (i := 21) (v := ?_) rfl (by kernel_rfl) (by kernel_rfl) (by kernel_rfl) (fun _ _ _ h => h) (Or.inl ⟨by rfl, ?_⟩) hHeld ?_
        rotate_left
        · intro w hSw
          go_simp
          try with_reducible rfl
        try simp only [Act.put, List.setIfInBounds_toArray, List.set_cons_zero, List.set_cons_succ]
        refine takeH (i := 22) (v := ?_) rfl (by kernel_rfl) (by kernel_rfl) (by kernel_rfl) (fun _ _ _ h => h) (Or.inl ⟨by rfl, ?_⟩) hHeld ?_
        rotate_left
        · intro w hSw
          go_simp
          try with_reducible rfl
        try simp only [Act.put, List.setIfInBounds_toArray, List.set_cons_zero, List.set_cons_succ]
        refine wpAnyH_done (by kernel_rfl) ?_ _
        (
          go_wp2_with fail
          go_ret3
          first
            | exact ⟨⟨W4.heap.size, W4.heap.size + 1, by rw [<-HC1.out, <-HC2.out]; rfl, z1, z2, s1, s2, B1, B2, n1, c1, n2, c2, HEND.out _ (al2_drew _ _ _) _ _ (al_new1 _ _ _ _) (al_new2 _ _ _ _)⟩, HB4.out.trans ((al2_drew _ _ _).mono HB4.out.size)⟩
            | exact ⟨⟨W4.heap.size + 1, W4.heap.size, by rw [<-HC1.out, <-HC2.out]; rfl, z1, z2, s1, s2, B1, B2, n1, c1, n2, c2, HEND.out _ (al2_drew _ _ _) _ _ (al_new2 _ _ _ _) (al_new1 _ _ _ _)⟩, HB4.out.trans ((al2_drew _ _ _).mono HB4.out.size)⟩)
      )
  all_goals (
    refine wp_region_held_drew (S := fun w' => Below W4.heap.size W4 w') (by kernel_rfl) hbd (fun hHeld => ?_)
    refine takeH (i := 0) (v := ?_) rfl (by kernel_rfl) (by kernel_rfl) (by kernel_rfl) (fun _ _ _ h => h) (Or.inl ⟨by rfl, ?_⟩) hHeld ?_
    rotate_left
    · intro w hSw
      go_simp
      try with_reducible rfl
    try simp only [Act.put, List.setIfInBounds_toArray, List.set_cons_zero, List.set_cons_succ]
    refine takeH (i := 1) (v := ?_) rfl (by kernel_rfl) (by kernel_rfl) (by kernel_rfl) (fun _ _ _ h => h) (Or.inl ⟨by rfl, ?_⟩) hHeld ?_
    rotate_left
    · intro w hSw
      go_simp
      try with_reducible rfl
    try simp only [Act.put, List.setIfInBounds_toArray, List.set_cons_zero, List.set_cons_succ]
    refine takeH (i := 3) (v := ?_) rfl (by kernel_rfl) (by kernel_rfl) (by kernel_rfl) (fun _ _ _ h => h) (Or.inl ⟨by rfl, ?_⟩) hHeld ?_
    rotate_left
    · intro w hSw
      go_simp
      try with_reducible rfl
    try simp only [Act.put, List.setIfInBounds_toArray, List.set_cons_zero, List.set_cons_succ]
    refine takeH (i := 4) (v := ?_) rfl (by kernel_rfl) (by kernel_rfl) (by kernel_rfl) (fun _ _ _ h => h) (Or.inl ⟨by rfl, ?_⟩) hHeld ?_
    rotate_left
    · intro w hSw
      go_simp
      try with_reducible rfl
    try simp only [Act.put, List.setIfInBounds_toArray, List.set_cons_zero, List.set_cons_succ]
    refine takeH (i := 6) (v := ?_) rfl (by kernel_rfl) (by kernel_rfl) (by kernel_rfl) (fun _ _ _ h => h) (Or.inl ⟨by rfl, ?_⟩) hHeld ?_
    rotate_left
    · intro w hSw
      go_simp
      try with_reducible rfl
    try simp only [Act.put, List.setIfInBounds_toArray, List.set_cons_zero, List.set_cons_succ]
    refine takeH (i := 7) (v := ?_) rfl (by kernel_rfl) (by kernel_rfl) (by kernel_rfl) (fun _ _ _ h => h) (Or.inl ⟨by rfl, ?_⟩) hHeld ?_
    rotate_left
    · intro w hSw
      go_simp
      try with_reducible rfl
    try simp only [Act.put, List.setIfInBounds_toArray, List.set_cons_zero, List.set_cons_succ]
    refine takeH (i := 8) (v := ?_) rfl (by kernel_rfl) (by kernel_rfl) (by kernel_rfl) (fun _ _ _ h => h) (Or.inl ⟨by rfl, ?_⟩) hHeld ?_
    rotate_left
    · intro w hSw
      go_simp
      try with_reducible rfl
    try simp only [Act.put, List.setIfInBounds_toArray, List.set_cons_zero, List.set_cons_succ]
    refine tkN (i := 9) rfl (by kernel_rfl) (by kernel_rfl) (by kernel_rfl) (fun _ _ _ h => h) (by rfl) hHeld ?_
    try simp only [Act.put, List.setIfInBounds_toArray, List.set_cons_zero, List.set_cons_succ]
    refine tkN (i := 10) rfl (by kernel_rfl) (by kernel_rfl) (by kernel_rfl) (fun _ _ _ h => h) (by rfl) hHeld ?_
    try simp only [Act.put, List.setIfInBounds_toArray, List.set_cons_zero, List.set_cons_succ]
    refine takeH (i := 11) (v := ?_) rfl (by kernel_rfl) (by kernel_rfl) (by kernel_rfl) (fun _ _ _ h => h) (Or.inl ⟨by rfl, ?_⟩) hHeld ?_
    rotate_left
    · intro w hSw
      go_simp
      try with_reducible rfl
    try simp only [Act.put, List.setIfInBounds_toArray, List.set_cons_zero, List.set_cons_succ]
    refine takeH (i := 12) (v := ?_) rfl (by kernel_rfl) (by kernel_rfl) (by kernel_rfl) (fun _ _ _ h => h) (Or.inl ⟨by rfl, ?_⟩) hHeld ?_
    rotate_left
    · intro w hSw
      go_simp
      try with_reducible rfl
    try simp only [Act.put, List.setIfInBounds_toArray, List.set_cons_zero, List.set_cons_succ]
    refine tkN (i := 13) rfl (by kernel_rfl) (by kernel_rfl) (by kernel_rfl) (fun _ _ _ h => h) (by rfl) hHeld ?_
    try simp only [Act.put, List.setIfInBounds_toArray, List.set_cons_zero, List.set_cons_succ]
    refine tkN (i := 14) rfl (by kernel_rfl) (by kernel_rfl) (by kernel_rfl) (fun _ _ _ h => h) (by rfl) hHeld ?_
    try simp only [Act.put, List.setIfInBounds_toArray, List.set_cons_zero, List.set_cons_succ]
    refine takeH (i := 15) (v := ?_) rfl (by kernel_rfl) (by kernel_rfl) (by kernel_rfl) (fun _ _ _ h => h) (Or.inl ⟨by rfl, ?_⟩) hHeld ?_
    rotate_left
    · intro w hSw
      go_simp
      try with_reducible rfl
    try simp only [Act.put, List.setIfInBounds_toArray, List.set_cons_zero, List.set_cons_succ]
    refine takeH (i := 16) (v := ?_) rfl (by kernel_rfl) (by kernel_rfl) (by kernel_rfl) (fun _ _ _ h => h) (Or.inl ⟨by rfl, ?_⟩) hHeld ?_
    rotate_left
    · intro w hSw
      go_simp
      try with_reducible rfl
    try simp only [Act.put, List.setIfInBounds_toArray, List.set_cons_zero, List.set_cons_succ]
    refine tkN (i := 17) rfl (by kernel_rfl) (by kernel_rfl) (by kernel_rfl) (fun _ _ _ h => h) (by rfl) hHeld ?_
    try simp only [Act.put, List.setIfInBounds_toArray, List.set_cons_zero, List.set_cons_succ]
    refine tkN (i := 18) rfl (by kernel_rfl) (by kernel_rfl) (by kernel_rfl) (fun _ _ _ h => h) (by rfl) hHeld ?_
    try simp only [Act.put, List.setIfInBounds_toArray, List.set_cons_zero, List.set_cons_succ]
    refine takeH (i := 19) (v := ?_) rfl (by kernel_rfl) (by kernel_rfl) (by kernel_rfl) (fun _ _ _ h => h) (Or.inl ⟨by rfl, ?_⟩) hHeld ?_
    rotate_left
    · intro w hSw
      go_simp
      try with_reducible rfl
    try simp only [Act.put, List.setIfInBounds_toArray, List.set_cons_zero, List.set_cons_succ]
    refine wpAnyH_ready (rs := [2, 5]) (by decide +kernel) (by simp) ?_
    refine consH (i := 2) rfl (fun K hK => ?_) (consH (i := 5) rfl (fun K hK => ?_) AllReadyH.nil)
    · go_simp
      refine hK.out _ _ ?_ (fun hHeld => ?_)
      · first | exact below_al hbd _ | exact below_al (below_al hbd _) _
      clear hK K
      try simp only [Act.put, List.setIfInBounds_toArray, List.set_cons_zero, List.set_cons_succ]
      refine takeH (i := 20) (v := ?_) rfl (by kernel_rfl) (by kernel_rfl) (by kernel_rfl) (fun _ _ _ h => h) (Or.inl ⟨by rfl, ?_⟩) hHeld ?_
      rotate_left
      · intro w hSw
        go_simp
        try with_reducible rfl
      try simp only [Act.put, List.setIfInBounds_toArray, List.set_cons_zero, List.set_cons_succ]
      refine wpAnyH_ready (rs := [5]) (by decide +kernel) (by simp) ?_
      refine consH (i := 5) rfl (fun K hK => ?_) AllReadyH.nil
      go_simp
      refine hK.out _ _ ?_ (fun hHeld => ?_)
      · first | exact below_al hbd _ | exact below_al (below_al hbd _) _
      clear hK K
      try simp only [Act.put, List.setIfInBounds_toArray, List.set_cons_zero, List.set_cons_succ]
      refine takeH (i := 21) (v := ?_) rfl (by kernel_rfl) (by kernel_rfl) (by kernel_rfl) (fun _ _ _ h => h) (Or.inl ⟨by rfl, ?_⟩) hHeld ?_
      rotate_left
      · intro w hSw
        go_simp
        try with_reducible rfl
      try simp only [Act.put, List.setIfInBounds_toArray, List.set_cons_zero, List.set_cons_succ]
      refine takeH (i := 22) (v := ?_) rfl (by kernel_rfl) (by kernel_rfl) (by kernel_rfl) (fun _ _ _ h => h) (Or.inl ⟨by rfl, ?_⟩) hHeld ?_
      rotate_left
      · intro w hSw
        go_simp
        try with_reducible rfl
      try simp only [Act.put, List.setIfInBounds_toArray, List.set_cons_zero, List.set_cons_succ]
      refine wpAnyH_done (by kernel_rfl) ?_ _
      (
        go_wp2_with fail
        go_ret3
        first
          | exact ⟨⟨W4.heap.size, W4.heap.size + 1, by rw [<-HC1.out, <-HC2.out]; rfl, z1, z2, s1, s2, B1, B2, n1, c1, n2, c2, HEND.out _ (al2_drew _ _ _) _ _ (al_new1 _ _ _ _) (al_new2 _ _ _ _)⟩, HB4.out.trans ((al2_drew _ _ _).mono HB4.out.size)⟩
          | exact ⟨⟨W4.heap.size + 1, W4.heap.size, by rw [<-HC1.out, <-HC2.out]; rfl, z1, z2, s1, s2, B1, B2, n1, c1, n2, c2, HEND.out _ (al2_drew _ _ _) _ _ (al_new2 _ _ _ _) (al_new1 _ _ _ _)⟩, HB4.out.trans ((al2_drew _ _ _).mono HB4.out.size)⟩)
    · go_simp
      refine hK.out _ _ ?_ (fun hHeld => ?_)
      · first | exact below_al hbd _ | exact below_al (below_al hbd _) _
      clear hK K
      try simp only [Act.put, List.setIfInBounds_toArray, List.set_cons_zero, List.set_cons_succ]
      refine wpAnyH_ready (rs := [2]) (by decide +kernel) (by simp) ?_
      refine consH (i := 2) rfl (fun K hK => ?_) AllReadyH.nil
      go_simp
      refine hK.out _ _ ?_ (fun hHeld => ?_)
      · first | exact below_al hbd _ | exact below_al (below_al hbd _) _
      clear hK K
      try simp only [Act.put, List.setIfInBounds_toArray, List.set_cons_zero, List.set_cons_succ]
      refine takeH (i := 20) (v := ?_) rfl (by kernel_rfl) (by kernel_rfl) (by kernel_rfl) (fun _ _ _ h => h) (Or.inl ⟨by rfl, ?_⟩) hHeld ?_
      rotate_left
      · intro w hSw
        go_simp
        try with_reducible rfl
      try simp only [Act.put, List.setIfInBounds_toArray, List.set_cons_zero, List.set_cons_succ]
      refine takeH (i := 21) (v := ?_) rfl (by kernel_rfl) (by kernel_rfl) (by kernel_rfl) (fun _ _ _ h => h) (Or.inl ⟨by rfl, ?_⟩) hHeld ?_
      rotate_left
      · intro w hSw
        go_simp
        try with_reducible rfl
      try simp only [Act.put, List.setIfInBounds_toArray, List.set_cons_zero, List.set_cons_succ]
      refine takeH (i := 22) (v := ?_) rfl (by kernel_rfl) (by kernel_rfl) (by kernel_rfl) (fun _ _ _ h => h) (Or.inl ⟨by rfl, ?_⟩) hHeld ?_
      rotate_left
      · intro w hSw
        go_simp
        try with_reducible rfl
      try simp only [Act.put, List.setIfInBounds_toArray, List.set_cons_zero, List.set_cons_succ]
      refine wpAnyH_done (by kernel_rfl) ?_ _
      (
        go_wp2_with fail
        go_ret3
        first
          | exact ⟨⟨W4.heap.size, W4.heap.size + 1, by rw [<-HC1.out, <-HC2.out]; rfl, z1, z2, s1, s2, B1, B2, n1, c1, n2, c2, HEND.out _ (al2_drew _ _ _) _ _ (al_new1 _ _ _ _) (al_new2 _ _ _ _)⟩, HB4.out.trans ((al2_drew _ _ _).mono HB4.out.size)⟩
          | exact ⟨⟨W4.heap.size + 1, W4.heap.size, by rw [<-HC1.out, <-HC2.out]; rfl, z1, z2, s1, s2, B1, B2, n1, c1, n2, c2, HEND.out _ (al2_drew _ _ _) _ _ (al_new2 _ _ _ _) (al_new1 _ _ _ _)⟩, HB4.out.trans ((al2_drew _ _ _).mono HB4.out.size)⟩)
    )
end Go.Proofs.YtmpginmdaeclaaaGreatDoor
