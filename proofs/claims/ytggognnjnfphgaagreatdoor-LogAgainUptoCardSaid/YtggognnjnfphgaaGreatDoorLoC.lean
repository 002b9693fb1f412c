/- LoC: texts LogO, LogF, LogE of our own, joined. No statement of the seat is proved here. -/
import Derived.Test.YtggognnjnfphgaaGreatDoorLoB
import Derived.Test.YtggognnjnfphgaaGreatDoorEnC
import Derived.Test.YtggognnjnfphgaaGreatDoorFrA
import Derived.Test.YtggognnjnfphgaaGreatDoorEnL
namespace Go.Proofs.YtggognnjnfphgaaGreatDoor
open Go.RowKit Go.Maps Go.Sort

/-- what Open leaves -/
def Opened (B d gen k M : Nat) (S : St) (nm : List UInt8) (w : World) (e : Ending) (w' : World) : Prop :=
  ∃ p, e = .returned (.tuple #[.pointer p, .int .i64 (openL S nm).2]) ∧ Live B w' d (k + 6) (M + 800000) (openL S nm).1 ∧ Kept B w w' ∧
    ((openL S nm).2 = 0 → ∃ g v vs, p = some ⟨g, 0, none⟩ ∧ LogAt B w' g d gen v vs vs.length (hadL (readS S nm).1).2 false ∧ vs.map Ev.ent = (hadL (readS S nm).1).1 ∧ w.heap.size ≤ g ∧ ∀ j, v.ownBlock = some j → w.heap.size ≤ j)
theorem logat_new {B d gen : Nat} {w : World} {v : Value} {vs : List Ev} {en R : Nat} (hB : B ≤ w.heap.size) (hBR : B ≤ R) (ho : w.ownsRow R enT 4 v vs.length (ecells vs)) (hs : SeesVs B w vs) :
    LogAt B (w.alloc (.cells #[dptr d, .int .u64 (gen : Nat), v, .int .i64 (en : Nat), .bool false] logT)) w.heap.size d gen v vs vs.length en false := by
  have hb : Below w.heap.size w (w.alloc (.cells #[dptr d, .int .u64 (gen : Nat), v, .int .i64 (en : Nat), .bool false] logT)) := (Below.refl _ _).alloc (Nat.le_refl _) _
  refine ⟨Whole.new w logT _, ?_, hs.keep hb, hB⟩
  obtain ⟨h1, h2⟩ := ho.alloc (.cells #[dptr d, .int .u64 (gen : Nat), v, .int .i64 (en : Nat), .bool false] logT)
  refine ⟨h1, ?_⟩
  rcases h2 with h2 | ⟨g, cap, cur, h3, h4, h5⟩
  · exact .inl h2
  · exact .inr ⟨g, cap, cur, h3, by omega, h5⟩
set_option maxHeartbeats 8000000 in
set_option maxRecDepth 20000 in
theorem Open_any {B d k M : Nat} {w : World} {S : St} (h : Live B w d k M S) (hk : k ≤ 30000) (hM : M ≤ 300000000) (gen : Nat) (nm : List UInt8)
    (HN : ∀ W, Calls Tryz.prog 8 #[.int .u64 (gen : Nat)] W fun e w' => e = .returned (.string (mk nm)) ∧ Below W.heap.size W w') (hnm : nm.length ≤ 1000) (hb : (readS S nm).1.length ≤ 800000) :
    Calls Tryz.prog 13 #[dptr d, .int .u64 (gen : Nat)] w (Opened B d gen k M S nm w) := by
  obtain ⟨F, hF⟩ : ∃ F, F = mk nm := ⟨_, rfl⟩
  have hFd : F.data.toList = nm := by rw [hF]; simp [mk]
  have hFz : F.size ≤ 1000 := by rw [hF, mk_size]; exact hnm
  rw [← hF] at HN
  obtain ⟨b, c, hr⟩ : ∃ b c, readS S nm = (b, c) := ⟨_, _, rfl⟩
  rw [hr] at hb
  obtain ⟨T, hT⟩ : ∃ T, T = mk b := ⟨_, rfl⟩
  have hTz : T.size = b.length := by rw [hT, mk_size]
  have HNN := Lib.hid HN
  have HFD := Lib.hid hFd
  have HV0 := Lib.hid h
  have HR := Lib.hid hr
  have HT := Lib.hid hT
  have HTZ := Lib.hid hTz
  have hbl : b.length ≤ 800000 := hb
  have hw0 : B ≤ w.heap.size := h.base
  clear HN hFd h hF hr hT hTz hb
  go_enter Tryz.func13, Tryz.ntmps13
  go_wp2_with fail
  refine (HNN.out _).mono ?_
  rintro e w1 ⟨rfl, hB1⟩
  have HV1 := Lib.hid (HV0.out.same hB1)
  have HB1 := Lib.hid hB1
  have hrd := live_Read HV1.out F
  rw [HFD.out, HR.out, show (⟨((b, c) : Bys × Int).1.toArray⟩ : ByteArray) = T from HT.out.symm] at hrd
  have HRD := Lib.hid hrd
  clear hB1 hrd
  go_wp2_with fail
  refine Calls.mono HRD.out ?_
  rintro e w2 ⟨rfl, hB2⟩
  have HV2 := Lib.hid (HV1.out.same hB2)
  have HB2 := Lib.hid (HB1.out.trans (hB2.mono HB1.out.size))
  clear hB2
  by_cases q : c ≠ 0 ∧ c ≠ 6
  · have g1 : (c != 0) = true := by rw [bne_iff_ne]; exact q.1
    have g2 : (c != 6) = true := by rw [bne_iff_ne]; exact q.2
    have HO := Lib.hid (show openL S nm = (S, c) by unfold openL; rw [HR.out, if_pos q])
    have HC := Lib.hid q.1
    clear q
    go_wp2_with fail
    go_ret2
    unfold Opened
    rw [HO.out]
    exact ⟨_, rfl, HV2.out.mono (by omega) (by omega), .of_below HB2.out, fun h0 => absurd h0 HC.out⟩
  · have hcc : c = 0 ∨ c = 6 := by omega
    have HO := Lib.hid (show openL S nm = if (hadL b).2 = b.length then (S, 0) else repairS S nm (b.take (hadL b).2) by unfold openL; rw [HR.out, if_neg q])
    have HHL := Lib.hid (had_again b).2.2
    clear q
    rcases hcc with rfl | rfl
    all_goals
      go_wp2_with fail
      refine (scanOf_any (B := B) T b _ HT.out hbl HV2.out.base).mono ?_
      rintro e w3 ⟨v, vs, rfl, ho, hs, hvs, hB3⟩
      obtain ⟨en, hen⟩ : ∃ en, en = (hadL b).2 := ⟨_, rfl⟩
      rw [← hen]
      obtain ⟨Av, cv, rfl, _, _⟩ := own_shape ho
      have hel : en ≤ b.length := by rw [hen]; exact HHL.out
      have HV3 := Lib.hid (HV2.out.same hB3)
      have HB3 := Lib.hid (HB2.out.trans (hB3.mono HB2.out.size))
      have hb4 : Below w3.heap.size w3 (w3.alloc (.cells #[.slice Av vs.length cv, .int .i64 (en : Nat)] scT)) := (Below.refl _ _).alloc (Nat.le_refl _) _
      have HW4 := Lib.hid (Whole.new w3 scT #[.slice Av vs.length cv, .int .i64 (en : Nat)])
      have HO4 := Lib.hid (ho.alloc (.cells #[.slice Av vs.length cv, .int .i64 (en : Nat)] scT))
      have HS4 := Lib.hid (hs.keep hb4)
      have HV4 := Lib.hid (HV3.out.same hb4)
      have HB4 := Lib.hid (HB3.out.trans (hb4.mono HB3.out.size))
      have HVS := Lib.hid hvs
      have HEN := Lib.hid hen
      have HFR := Lib.hid (show ∀ j, (Value.slice Av vs.length cv).ownBlock = some j → w.heap.size ≤ j from fun j hj => Nat.le_trans HB2.out.size (own_block_ge ho j hj))
      have hw2 : w.heap.size ≤ w2.heap.size := HB2.out.size
      obtain ⟨y0, y1⟩ : (w3.alloc (.cells #[.slice Av vs.length cv, .int .i64 (en : Nat)] scT)).cell? ⟨w3.heap.size, 0, none⟩ = some (.slice Av vs.length cv) ∧ (w3.alloc (.cells #[.slice Av vs.length cv, .int .i64 (en : Nat)] scT)).cell? ⟨w3.heap.size, 1, none⟩ = some (.int .i64 (en : Nat)) := ⟨HW4.out.cell 0, HW4.out.cell 1⟩
      clear ho hs hvs hB3 hb4 hen
      by_cases hq : en = b.length
      · have gq : ((en : Int) == (T.size : Int)) = true := by rw [HTZ.out, hq]; simp
        have HO2 := Lib.hid (show openL S nm = (S, 0) by rw [HO.out, if_pos (by rw [← HEN.out]; exact hq)])
        clear hq
        go_wp2_with fail
        go_ret2
        unfold Opened
        rw [HO2.out, HR.out]
        refine ⟨_, rfl, (HV4.out.same ((Below.refl _ _).alloc (Nat.le_refl _) _)).mono (by omega) (by omega), .of_below (HB4.out.alloc HB4.out.size _), fun _ => ⟨_, _, vs, rfl, ?_, HVS.out, by have := HB4.out.size; rwa [World.size_alloc] at this, HFR.out⟩⟩
        show LogAt B _ _ d gen _ vs vs.length (hadL b).2 false
        rw [← HEN.out]
        have hla := logat_new (d := d) (gen := gen) (en := en) HV4.out.base HV2.out.base HO4.out HS4.out
        rw [World.size_alloc] at hla
        exact hla
      · have gq : ((en : Int) == (T.size : Int)) = false := by rw [HTZ.out, beq_eq_false_iff_ne]; omega
        have hTl := HTZ.out
        have s1 : (en : Int) ≤ (T.size : Int) := by omega
        obtain ⟨G, hG⟩ : ∃ G, G = T.extract 0 en := ⟨_, rfl⟩
        have hGd : G.data.toList = b.take en := by rw [hG, HT.out, mk_extract]; simp [mk]
        have hGz : G.size ≤ 800000 := by rw [hG, ByteArray.size_extract]; omega
        obtain ⟨S5, c5, e5⟩ : ∃ S5 c5, repairS S nm (b.take en) = (S5, c5) := ⟨_, _, rfl⟩
        have hrp := repair_any HV4.out (by omega) (by omega) F G (by omega)
        rw [HFD.out, hGd, e5] at hrp
        have HRP := Lib.hid hrp
        have HO2 := Lib.hid (show openL S nm = (S5, c5) by rw [HO.out, if_neg (by rw [← HEN.out]; exact hq), ← HEN.out]; exact e5)
        have HG := Lib.hid hG
        clear hq hrp e5 hGd hG hTl
        go_wp2_with fail
        rw [← HG.out]
        refine Calls.mono HRP.out ?_
        rintro e w5 ⟨rfl, hL5, hK5⟩
        have HV5 := Lib.hid (hL5.mono (k' := k + 6) (M' := M + 800000) (Nat.le_refl _) (by omega))
        have HK5 := Lib.hid ((Kept.of_below (B := B) HB4.out).trans hK5)
        have HW5 := Lib.hid (hK5.whole HW4.out (by decide))
        have HO5 := Lib.hid (hK5.own HO4.out (by decide))
        have HS5 := Lib.hid (HS4.out.keepX (.of_kept (fun _ => False) hK5) (fun _ h => h.elim))
        obtain ⟨z0, z1⟩ : w5.cell? ⟨w3.heap.size, 0, none⟩ = some (.slice Av vs.length cv) ∧ w5.cell? ⟨w3.heap.size, 1, none⟩ = some (.int .i64 (en : Nat)) := ⟨HW5.out.cell 0, HW5.out.cell 1⟩
        clear hL5 hK5 y0 y1
        by_cases q5 : c5 = 0
        · subst q5
          go_wp2_with fail
          go_ret2
          unfold Opened
          rw [HO2.out, HR.out]
          refine ⟨_, rfl, HV5.out.same ((Below.refl _ _).alloc (Nat.le_refl _) _), HK5.out.alloc _, fun _ => ⟨_, _, vs, rfl, ?_, HVS.out, HK5.out.size, HFR.out⟩⟩
          show LogAt B _ _ d gen _ vs vs.length (hadL b).2 false
          rw [← HEN.out]
          exact logat_new HV5.out.base HV2.out.base HO5.out HS5.out
        · have g5 : (c5 != 0) = true := by rw [bne_iff_ne]; exact q5
          have HC := Lib.hid q5
          clear q5
          go_wp2_with fail
          go_ret2
          unfold Opened
          rw [HO2.out]
          exact ⟨_, rfl, HV5.out, HK5.out, fun h0 => absurd h0 HC.out⟩
end Go.Proofs.YtggognnjnfphgaaGreatDoor
namespace Go.Proofs.YtggognnjnfphgaaGreatDoor
open Go.RowKit Go.Maps Go.Sort

theorem KeptX.wide {B : Nat} {X Y : Nat → Prop} {w w' : World} (h : KeptX B X w w') (hXY : ∀ k, X k → Y k) : KeptX B Y w w' := ⟨h.os, h.tape, h.output, h.size, fun k hk hc => h.block k hk (hc.imp id fun hc => ⟨hc.1, fun hx => hc.2 (hXY k hx)⟩)⟩
/-- what Add leaves -/
def AddLeft (B g d gen k M : Nat) (v : Value) (R : Added) (w : World) (e : Ending) (w' : World) : Prop :=
  e = .returned (.int .i64 R.c) ∧ Live B w' d (k + 2) (M + 800000) R.S ∧ (∃ v' vs', LogAt B w' g d gen v' vs' vs'.length R.en R.br ∧ vs'.map Ev.ent = R.es ∧ ∀ j, v'.ownBlock = some j → v.ownBlock = some j ∨ w.heap.size ≤ j) ∧
    KeptX B (fun j => j = g ∨ v.ownBlock = some j) w w'
theorem left_same {B g d gen n en k k' M M' : Nat} {v : Value} {vs : List Ev} {br : Bool} {S : St} {R : Added} {w w' : World} {c : Int} (hR : R = ⟨S, vs.map Ev.ent, en, br, c⟩) (hn : vs.length = n) (hl : LogAt B w' g d gen v vs n en br) (h : Live B w' d k' M' S) (hk : k' ≤ k + 2) (hM : M' ≤ M + 800000) (hX : KeptX B (fun j => j = g) w w') :
    AddLeft B g d gen k M v R w (.returned (.int .i64 c)) w' := by
  subst hR
  subst hn
  exact ⟨rfl, h.mono hk hM, ⟨v, vs, hl, rfl, fun j hj => .inl hj⟩, hX.wide fun _ h => .inl h⟩
theorem goes_bytes {E : Ent} (hok : okE E = true) (hf : u32 E.f) (ht : u32 E.t) (hN : (E.xs ++ E.ys).length ≤ 30) (hd : ∀ r ∈ E.xs ++ E.ys, r.d.length ≤ 2000) : goodE E ∧ (bytesE E).length ≤ 100000 := by
  have h := bytes_len hok hd
  rw [List.length_append] at hN
  have h2 : (E.xs ++ E.ys).length ≤ 30 := by rw [List.length_append]; exact hN
  exact ⟨⟨hok, hf, ht, by omega, by omega⟩, by omega⟩
theorem added_log {B g d gen n en k M : Nat} {v : Value} {vs : List Ev} {S2 : St} {R : Added} {w w6 w7 : World} {E : Ent} {P : ByteArray} (hR : R = ⟨S2, vs.map Ev.ent ++ [E], en + (8 + P.size), false, 0⟩) (hl : LogAt B w6 g d gen v vs n en false) (hn : vs.length = n) (h : Live B w6 d (k + 2) (M + 800000) S2)
    (hk6 : KeptX B (fun j => j = g) w w6) (ht : Taken 2 B B g w6 w7 logT #[dptr d, .int .u64 (gen : Nat), v, .int .i64 (en : Nat), .bool false] v vs n en P E) : AddLeft B g d gen k M v R w (.returned (.int .i64 0)) w7 := by
  subst hR
  obtain ⟨x, v', t1, t2, t3, t4, t5, t6⟩ := ht
  have hX : ∀ j, (j = g ∨ v.ownBlock = some j) → mineT (typ w6.heap[j]?) = false := by
    rintro j (rfl | hj)
    · rw [whole_typ hl.cells]; decide
    · rw [own_typ hl.row hj]; decide
  have hlive : Live B w7 d (k + 2) (M + 800000) S2 := h.keptA t6 hX
  have t7 := t6.keptX (B := B) (by
    rintro j (rfl | hj)
    · exact hl.base
    · exact own_block_ge hl.row j hj)
  refine ⟨rfl, hlive, ⟨v', vs ++ [x], ⟨?_, ?_, t4, hl.base⟩, by rw [List.map_append, List.map_cons, List.map_nil, t1], fun j hj => (t5 j hj).imp id fun h => Nat.le_trans hk6.size h⟩, (hk6.wide fun _ h => .inl h).trans t7⟩
  · have e : (((#[dptr d, .int .u64 (gen : Nat), v, .int .i64 (en : Nat), .bool false] : Array Value).setIfInBounds 2 v').setIfInBounds (2 + 1) (.int .i64 ((en : Int) + (8 + (P.size : Int))))) = #[dptr d, .int .u64 (gen : Nat), v', .int .i64 ((en + (8 + P.size) : Nat) : Int), .bool false] := by simp
    rw [← e]; exact t2
  · rw [List.length_append, hn]; exact t3
theorem writeL_ok {S : St} {file fr : Bys} (h : (writeL S file fr).2.2 = 0) : (writeL S file fr).2.1 = false := by
  revert h
  unfold writeL
  split
  · intro _; rfl
  split
  · intro _; rfl
  split
  · rename_i h1; intro h; exact absurd h h1
  split
  · intro _; rfl
  split
  · rename_i h1; intro h; exact absurd h h1
  · intro _; rfl
theorem ent_f (x : Ev) : x.ent.f = x.f := rfl
theorem ent_len (x : Ev) : (x.ent.xs ++ x.ent.ys).length = x.xs.length + x.ys.length := by
  unfold Ev.ent entOf
  simp
theorem ent_small {x : Ev} (h : ∀ z ∈ x.xs ++ x.ys, z.s.size ≤ 600 ∧ z.d.size ≤ 2000) : ∀ r ∈ x.ent.xs ++ x.ent.ys, r.d.length ≤ 2000 := by
  intro r hr
  have hr' : r ∈ (x.xs ++ x.ys).map Rrd.toRec := by rw [List.map_append]; exact hr
  obtain ⟨z, hz, rfl⟩ := List.mem_map.1 hr'
  have := (h z hz).2
  rw [rrd_data z, mk_size] at this
  exact this
set_option maxHeartbeats 8000000 in
set_option maxRecDepth 20000 in
theorem Add_any {B g d gen n en k M : Nat} {w : World} {v : Value} {vs : List Ev} {br : Bool} {S : St} (h : Live B w d k M S) (hk : k ≤ 30000) (hM : M ≤ 300000000) (hl : LogAt B w g d gen v vs n en br) (nm : List UInt8)
    (HN : ∀ W, Calls Tryz.prog 8 #[.int .u64 (gen : Nat)] W fun e w' => e = .returned (.string (mk nm)) ∧ Below W.heap.size W w') (hnm : nm.length ≤ 1000) (x : Ev) (hx1 : SeesR w w.heap.size x.A x.n x.xs) (hx2 : SeesR w w.heap.size x.A' x.n' x.ys) (hf : u32 x.f) (ht : u32 x.t)
    (hN : x.n + x.n' ≤ 30) (hsm : ∀ z ∈ x.xs ++ x.ys, z.s.size ≤ 600 ∧ z.d.size ≤ 2000) (hn : n ≤ 1000) (hen : en ≤ 10000000) :
    Calls Tryz.prog 18 #[.pointer (some ⟨g, 0, none⟩), .agg x.arr] w (AddLeft B g d gen k M v (addL S nm (vs.map Ev.ent) en br x.ent) w) := by
  have hvl := evs_len hl.row
  obtain ⟨E, hE⟩ : ∃ E, E = x.ent := ⟨_, rfl⟩
  have hEf : E.f = x.f := by rw [hE]; rfl
  have hEn : (E.xs ++ E.ys).length ≤ 30 := by rw [hE, ent_len, hx1.1, hx2.1]; exact hN
  have hEd : ∀ r ∈ E.xs ++ E.ys, r.d.length ≤ 2000 := by rw [hE]; exact ent_small hsm
  have hEt : u32 E.t := by rw [hE]; exact ht
  have hEf2 : u32 E.f := by rw [hEf]; exact hf
  have hb0 : Below w.heap.size w (w.alloc (.cells #[.int .u32 x.f, .int .u32 x.t, .slice x.A x.n x.c, .slice x.A' x.n' x.c'] enT)) := (Below.refl _ _).alloc (Nat.le_refl _) _
  have HBY := Lib.hid (by have := EBytes_any x.f x.t x.A x.A' x.n x.c x.n' x.c' x.xs x.ys _ ((hx1.keep hb0).more hb0.size) ((hx2.keep hb0).more hb0.size) hf ht hN hsm; rw [show entOf x.f x.t x.xs x.ys = E from hE.symm] at this; exact this :
    Calls Tryz.prog 41 #[.agg #[.int .u32 x.f, .int .u32 x.t, .slice x.A x.n x.c, .slice x.A' x.n' x.c']] (w.alloc (.cells #[.int .u32 x.f, .int .u32 x.t, .slice x.A x.n x.c, .slice x.A' x.n' x.c'] enT)) fun e w' => e = .returned (bytesT E) ∧ Below (w.alloc (.cells #[.int .u32 x.f, .int .u32 x.t, .slice x.A x.n x.c, .slice x.A' x.n' x.c'] enT)).heap.size (w.alloc (.cells #[.int .u32 x.f, .int .u32 x.t, .slice x.A x.n x.c, .slice x.A' x.n' x.c'] enT)) w')
  have HX0 := Lib.hid (show Whole (w.alloc (.cells #[.int .u32 x.f, .int .u32 x.t, .slice x.A x.n x.c, .slice x.A' x.n' x.c'] enT)) w.heap.size enT x.arr from Whole.new w enT x.arr)
  have HL0 := Lib.hid (hl.below hb0)
  have HV0 := Lib.hid (h.same hb0)
  have HB0 := Lib.hid hb0
  rw [← hE]
  have HNN := Lib.hid HN
  have HVL := Lib.hid hvl
  have HEF := Lib.hid hEf
  have HROW := Lib.hid hl.base
  obtain ⟨x0, x1, x2, x3⟩ := (show (w.alloc (.cells #[.int .u32 x.f, .int .u32 x.t, .slice x.A x.n x.c, .slice x.A' x.n' x.c'] enT)).cell? ⟨w.heap.size, 0, none⟩ = some (.int .u32 x.f) ∧ _ ∧ _ ∧ _ from ev_facts HX0.out)
  clear hb0 hl h hE hEf HN hx1 hx2 hsm hvl hf ht
  unfold Ev.arr enA
  cases hok : okE E with
  | false =>
    have HBT := Lib.hid (show bytesT E = .tuple #[.string ⟨#[]⟩, .int .i64 2] by unfold bytesT; rw [if_neg (by rw [hok]; decide)])
    have HR := Lib.hid (show addL S nm (vs.map Ev.ent) en br E = ⟨S, vs.map Ev.ent, en, br, 2⟩ by unfold addL; rw [if_pos hok])
    clear hok hEn hEd hEt hEf2
    go_enter Tryz.func18, Tryz.ntmps18
    go_wp2_with fail
    refine Calls.mono HBY.out ?_
    rw [HBT.out]
    rintro e w1 ⟨rfl, hB1⟩
    have HB1 := Lib.hid (HB0.out.trans (hB1.mono HB0.out.size))
    have HL1 := Lib.hid (HL0.out.below hB1)
    have HV1 := Lib.hid (HV0.out.same hB1)
    clear hB1 x0 x1 x2 x3
    go_wp2_with fail
    go_ret
    exact left_same HR.out HVL.out HL1.out HV1.out (by omega) (by omega) (KeptX.of_below _ HB1.out)
  | true =>
    obtain ⟨hgd, hbl⟩ := goes_bytes hok hEf2 hEt hEn hEd
    obtain ⟨P, hP⟩ : ∃ P, P = mk (bytesE E) := ⟨_, rfl⟩
    have hPz : P.size ≤ 100000 := by rw [hP, mk_size]; exact hbl
    have HBT := Lib.hid (show bytesT E = .tuple #[.string P, .int .i64 0] by unfold bytesT; rw [if_pos hok, hP])
    have HOF := Lib.hid (show ofE P = some E by rw [hP]; exact of_good hgd)
    have HP := Lib.hid hP
    have HOK := Lib.hid hok
    have HGD := Lib.hid hgd
    clear hok hEn hEd hEt hEf2 hgd hbl hP
    go_enter Tryz.func18, Tryz.ntmps18
    go_wp2_with fail
    refine Calls.mono HBY.out ?_
    rw [HBT.out]
    rintro e w1 ⟨rfl, hB1⟩
    have HB1 := Lib.hid (HB0.out.trans (hB1.mono HB0.out.size))
    have HL1 := Lib.hid (HL0.out.below hB1)
    have HV1 := Lib.hid (HV0.out.same hB1)
    have HX1 := Lib.hid (HX0.out.below hB1 HX0.out.lt)
    clear hB1 x0 x1 x2 x3
    obtain ⟨G, hG⟩ : ∃ G, G = w.heap.size := ⟨_, rfl⟩
    have k0 : ∀ q : Later w1, q.val.cell? ⟨G, 0, none⟩ = some (.int .u32 x.f) := fun q => by rw [hG]; exact (HX1.out.later q).cell 0
    have k1 : ∀ q : Later w1, q.val.cell? ⟨G, 1, none⟩ = some (.int .u32 x.t) := fun q => by rw [hG]; exact (HX1.out.later q).cell 1
    have k2 : ∀ q : Later w1, q.val.cell? ⟨G, 2, none⟩ = some (.slice x.A x.n x.c) := fun q => by rw [hG]; exact (HX1.out.later q).cell 2
    have k3 : ∀ q : Later w1, q.val.cell? ⟨G, 3, none⟩ = some (.slice x.A' x.n' x.c') := fun q => by rw [hG]; exact (HX1.out.later q).cell 3
    obtain ⟨bg, hbg⟩ : ∃ bg, bg = goesE (lastT (vs.map Ev.ent)) E.f := ⟨_, rfl⟩
    have HGO := Lib.hid (fun q : Later w1 => (by
      have hlq := HL1.out.below q.below
      have := goesOn_2 (log_facts hlq).1.2.2.1 hlq.row x (by omega)
      rw [← HEF.out, ← hbg] at this
      exact this : Calls Tryz.prog 42 #[.pointer (some ⟨g, 2, none⟩), .agg #[.int .u32 x.f, .int .u32 x.t, .slice x.A x.n x.c, .slice x.A' x.n' x.c']] q.val fun e w' => e = .returned (.bool bg) ∧ Below q.val.heap.size q.val w'))
    have HBG := Lib.hid hbg
    have HG := Lib.hid hG
    clear hG hbg
    go_wp2_with fail
    rw [← HG.out]
    refine region_later (by kernel_rfl) ?_
    repeat (go_big_quiet_step ((go_at_call 42; refine later_call (v := .bool bg) ?_; with_reducible exact HGO.out _)))
    refine wpQuiet_nil ?_
    rintro _ ⟨q2, rfl⟩
    have HB2 := Lib.hid (HB1.out.trans (q2.below.mono HB1.out.size))
    have HL2 := Lib.hid (HL1.out.below q2.below)
    have HV2 := Lib.hid (HV1.out.same q2.below)
    generalize q2.val = w2 at HB2 HL2 HV2 ⊢
    clear k0 k1 k2 k3 HGO
    cases bg with
    | false =>
      have HR := Lib.hid (show addL S nm (vs.map Ev.ent) en br E = ⟨S, vs.map Ev.ent, en, br, 8⟩ by unfold addL; rw [if_neg (by rw [HOK.out]; decide), if_pos HBG.out.symm])
      go_wp2_with fail
      go_ret
      exact left_same HR.out HVL.out HL2.out HV2.out (by omega) (by omega) (KeptX.of_below _ HB2.out)
    | true =>
      obtain ⟨FR, hFR⟩ : ∃ FR, FR = mk (frameL (bytesE E)) := ⟨_, rfl⟩
      have hfr := Frame_any (bytesE E) w2 HGD.out.2.2.2.2
      rw [← HP.out, ← hFR] at hfr
      have HFM := Lib.hid hfr
      have HFR := Lib.hid hFR
      have hFz : FR.size ≤ 200000 := by
        have h1 := HP.out
        have : P.size = (bytesE E).length := by rw [h1, mk_size]
        rw [hFR, mk_size, frameL_len]; omega
      have hFd : FR.data.toList = frameL (bytesE E) := by rw [hFR]; simp [mk]
      have HFD := Lib.hid hFd
      clear hfr hFR hFd
      go_wp2_with fail
      refine Calls.mono HFM.out ?_
      rintro e w3 ⟨rfl, hB3⟩
      have HB3 := Lib.hid (HB2.out.trans (hB3.mono HB2.out.size))
      have HL3 := Lib.hid (HL2.out.below hB3)
      have HV3 := Lib.hid (HV2.out.same hB3)
      obtain ⟨⟨_, _, _, _, y4⟩, _⟩ := log_facts HL3.out
      clear hB3
      cases br with
      | true =>
        have HR := Lib.hid (show addL S nm (vs.map Ev.ent) en true E = ⟨S, vs.map Ev.ent, en, true, 5⟩ by unfold addL; rw [if_neg (by rw [HOK.out]; decide), if_neg (by rw [← HBG.out]; decide), if_pos rfl])
        go_wp2_with fail
        go_ret
        exact left_same HR.out HVL.out HL3.out HV3.out (by omega) (by omega) (KeptX.of_below _ HB3.out)
      | false =>
        obtain ⟨S5, b5, c5, e5⟩ : ∃ S5 b5 c5, writeL S nm (frameL (bytesE E)) = (S5, b5, c5) := ⟨_, _, _, rfl⟩
        have hwr := write_any HV3.out (by omega) (by omega) HL3.out nm HNN.out hnm FR (by omega)
        rw [HFD.out, e5] at hwr
        have HWR := Lib.hid hwr
        have E5 := Lib.hid e5
        clear hwr e5
        go_wp2_with fail
        refine Calls.mono HWR.out ?_
        rintro e w5 ⟨rfl, hV5, hL5, hK5⟩
        have HV5 := Lib.hid hV5
        have HL5 := Lib.hid hL5
        have HK5 := Lib.hid ((KeptX.of_below _ HB3.out).trans hK5)
        clear hV5 hL5 hK5 y4
        by_cases q5 : c5 = 0
        · subst q5
          have hb5 : b5 = false := by
            have := writeL_ok (S := S) (file := nm) (fr := frameL (bytesE E)) (by rw [E5.out])
            rwa [E5.out] at this
          subst hb5
          have HR := Lib.hid (show addL S nm (vs.map Ev.ent) en false E = ⟨S5, vs.map Ev.ent ++ [E], en + (8 + P.size), false, 0⟩ by
            have hPs : P.size = (bytesE E).length := by have h1 := HP.out; rw [h1, mk_size]
            unfold addL
            rw [if_neg (by rw [HOK.out]; decide), if_neg (by rw [← HBG.out]; decide), if_neg (by decide), E5.out, if_neg (by simp), hPs])
          go_wp2_with fail
          refine (take_yes_2 HL5.out.cells rfl rfl (by decide) (by decide) HL5.out.row HL5.out.sees P (by omega) (by omega) (by omega) (Nat.le_refl _) HV5.out.base HROW.out HOF.out HBG.out.symm).mono ?_
          rintro e w7 ⟨rfl, hT⟩
          have HT := Lib.hid hT
          clear hT
          go_wp2_with fail
          go_ret
          exact added_log HR.out HL5.out HVL.out (HV5.out.mono (by omega) (by omega)) HK5.out HT.out
        · have g5 : (c5 != 0) = true := by rw [bne_iff_ne]; exact q5
          have HR := Lib.hid (show addL S nm (vs.map Ev.ent) en false E = ⟨S5, vs.map Ev.ent, en, b5, c5⟩ by unfold addL; rw [if_neg (by rw [HOK.out]; decide), if_neg (by rw [← HBG.out]; decide), if_neg (by decide), E5.out, if_pos q5])
          clear q5
          go_wp2_with fail
          go_ret
          exact left_same HR.out HVL.out HL5.out HV5.out (by omega) (by omega) HK5.out
end Go.Proofs.YtggognnjnfphgaaGreatDoor
namespace Go.Proofs.YtggognnjnfphgaaGreatDoor
open Go.RowKit Go.Maps Go.Sort

set_option maxHeartbeats 4000000 in
set_option maxRecDepth 20000 in
theorem RClone_any (A : Option Addr) (n c : Nat) (xs : List Rrd) (w : World) (hx : SeesR w w.heap.size A n xs) (hn : n ≤ 1073741824) :
    Calls Tryz.prog 35 #[.slice A n c] w fun e w' => ∃ v, e = .returned v ∧ w'.ownsRow w.heap.size 76 5 v n (rcells xs) ∧ Below w.heap.size w w' := by
  have HX := Lib.hid hx
  have q22 : ∀ (w : World) (a : Option Addr) (n c n' c' : Nat), (binOp .eql 43 (.slice a n c) (.slice none n' c')).run Tryz.prog w = .ok (.bool a.isNone) w := fun w a n c n' c' => Lib.run_eql_slice_nil w _ _ a n c n' c' Tryz.underlying43
  clear hx
  rcases A with _ | ad
  · have hm : n = 0 := by
      rcases Nat.eq_zero_or_pos n with h0 | h0
      · exact h0
      · obtain ⟨b, off, e, _⟩ := HX.out.2 h0
        cases e
    have hxs : xs = [] := List.eq_nil_of_length_eq_zero (by rw [HX.out.1, hm])
    subst hm hxs
    clear HX
    go_enter Tryz.func35, Tryz.ntmps35
    go_wp2_with fail
    go_ret
    exact ⟨_, rfl, own_nil _ _ _ _, Below.refl _ _⟩
  · have HO := Lib.hid (own_noneR w w.heap.size (Nat.le_refl _))
    have HB := Lib.hid (show Below w.heap.size w (w.alloc (.cells #[] 76)) from (Below.refl _ _).alloc (Nat.le_refl _) _)
    have HX2 := Lib.hid (HX.out.keep HB.out)
    have HN := Lib.hid (show 0 + n ≤ 1073741824 by omega)
    go_enter Tryz.func35, Tryz.ntmps35
    go_wp2_with (at_builtin; (refine wpList_append_R rfl _ _ rfl w.heap.size _ 0 [] rfl HO.out w.heap.size _ _ _ _ rfl HX2.out HN.out HB.out.size ?_); intro v' w' ho hg)
    rw [Nat.zero_add, List.nil_append] at ho
    have HO2 := Lib.hid ho
    have HB2 := Lib.hid (HB.out.grown hg HB.out.size (own_block_ge HO.out))
    clear ho hg
    go_wp2_with fail
    go_ret
    exact ⟨_, rfl, HO2.out, HB2.out⟩


theorem Size_log {B g d gen n en : Nat} {w : World} {v : Value} {vs : List Ev} {br : Bool} (h : LogAt B w g d gen v vs n en br) : Calls Tryz.prog 24 #[.pointer (some ⟨g, 0, none⟩)] w fun e w' => e = .returned (.int .i64 (en : Nat)) ∧ w = w' := by
  obtain ⟨⟨c0, c1, c2, c3, c4⟩, f4⟩ := log_facts h
  clear h
  go_enter Tryz.func24, Tryz.ntmps24
  go_wp2_with fail
  go_ret
  exact ⟨rfl, rfl⟩
theorem Gen_log {B g d gen n en : Nat} {w : World} {v : Value} {vs : List Ev} {br : Bool} (h : LogAt B w g d gen v vs n en br) : Calls Tryz.prog 23 #[.pointer (some ⟨g, 0, none⟩)] w fun e w' => e = .returned (.int .u64 (gen : Nat)) ∧ w = w' := by
  obtain ⟨⟨c0, c1, c2, c3, c4⟩, f4⟩ := log_facts h
  clear h
  go_enter Tryz.func23, Tryz.ntmps23
  go_wp2_with fail
  go_ret
  exact ⟨rfl, rfl⟩
/-- what Entries leaves -/
def EntsOf (B n : Nat) (vs : List Ev) (w : World) (e : Ending) (w' : World) : Prop :=
  ∃ A c us, e = .returned (.slice A n c) ∧ w'.ownsRow w.heap.size enT 4 (.slice A n c) n (ecells us) ∧ us.map Ev.ent = vs.map Ev.ent ∧ SeesVs B w' us ∧ Below w.heap.size w w'
def EntsSt (B : Nat) (vs : List Ev) (w : World) (k : Nat) (t : Value) (wr : World) : Prop :=
  ∃ us, us.length = k ∧ us.map Ev.ent = (vs.take k).map Ev.ent ∧ wr.ownsRow w.heap.size enT 4 t k (ecells us) ∧ SeesVs B wr us ∧ Below w.heap.size w wr
/-- an entry whose lists were cloned lies in a block -/
def Cloned (B : Nat) (y : Ev) (W : World) (wc : World) : Prop := ∃ u : Ev, u.ent = y.ent ∧ u.f = y.f ∧ u.t = y.t ∧ Whole wc W.heap.size enT u.arr ∧ SeesV B wc u ∧ Below W.heap.size W wc
theorem seesK_own {B base : Nat} {w : World} {A : Option Addr} {n c : Nat} {xs : List Rrd} (h : w.ownsRow base 76 5 (.slice A n c) n (rcells xs)) : SeesK B w A n xs := by
  obtain ⟨A', c', e, hs⟩ := SeesR.own h
  injection e with e1
  subst e1
  exact ⟨hs, fun _ b off sp e => .inr (own_ty h b off sp e)⟩
theorem SeesK.below {B : Nat} {w w' : World} {A : Option Addr} {n : Nat} {xs : List Rrd} (h : SeesK B w A n xs) (hk : Below w.heap.size w w') : SeesK B w' A n xs := h.stay hk.size fun k hl _ => hk.block k hl
theorem SeesK.setCell {B g t : Nat} {w : World} {A : Option Addr} {n : Nat} {xs : List Rrd} {cs : Array Value} (h : SeesK B w A n xs) (hW : Whole w g t cs) (ht : t ≠ rrT) (hg : B ≤ g) (o : Nat) (u : Value) : SeesK B (w.setCell ⟨g, o, none⟩ u) A n xs :=
  h.stay (by simp [World.setCell]) fun k _ hc => Below.heap_setCell _ _ _ _ (by
    intro e
    have e' : k = g := e
    subst e'
    rcases hc with hc | hc
    · omega
    · rw [whole_typ hW] at hc; exact ht hc)
theorem cloned_of {B : Nat} {y : Ev} {W W0 w4 w5 : World} {A4 A5 : Option Addr} {c4 c5 : Nat} (hBW : B ≤ W.heap.size) (hW : Whole W0 W.heap.size enT y.arr) (hB0 : Below W.heap.size W W0) (hB4 : Below W0.heap.size W0 w4) (ho4 : w4.ownsRow W0.heap.size 76 5 (.slice A4 y.n c4) y.n (rcells y.xs))
    (hB5 : Below w4.heap.size w4 w5) (ho5 : w5.ownsRow w4.heap.size 76 5 (.slice A5 y.n' c5) y.n' (rcells y.ys)) :
    Cloned B y W ((w5.setCell ⟨W.heap.size, 2, none⟩ (.slice A4 y.n c4)).setCell ⟨W.heap.size, 3, none⟩ (.slice A5 y.n' c5)) := by
  have h5 := (hW.below hB4 hW.lt).below hB5 (hW.below hB4 hW.lt).lt
  have h6 := h5.put 2 (.slice A4 y.n c4)
  have h7 := h6.put 3 (.slice A5 y.n' c5)
  have e7 : ((y.arr.setIfInBounds 2 (.slice A4 y.n c4)).setIfInBounds 3 (.slice A5 y.n' c5)) = (⟨y.f, y.t, A4, y.n, c4, y.xs, A5, y.n', c5, y.ys⟩ : Ev).arr := by unfold Ev.arr enA; simp
  rw [e7] at h7
  have s4 := (seesK_own (B := B) ho4).below hB5
  have s5 := seesK_own (B := B) ho5
  refine ⟨⟨y.f, y.t, A4, y.n, c4, y.xs, A5, y.n', c5, y.ys⟩, rfl, rfl, rfl, h7, ⟨?_, ?_⟩, ?_⟩
  · exact (s4.setCell h5 (by decide) hBW 2 _).setCell h6 (by decide) hBW 3 _
  · exact (s5.setCell h5 (by decide) hBW 2 _).setCell h6 (by decide) hBW 3 _
  · exact ((hB0.trans ((hB4.mono hB0.size).trans (hB5.mono (Nat.le_trans hB0.size hB4.size)))).setCell (Nat.le_refl _) _).setCell (Nat.le_refl _) _
theorem ents_next {B k : Nat} {w wa w7 : World} {vs us : List Ev} {y u : Ev} {v v7 : Value} (hul : us.length = k) (hum : us.map Ev.ent = (vs.take k).map Ev.ent) (hy : vs[k]? = some y) (hue : u.ent = y.ent) (ho : wa.ownsRow w.heap.size enT 4 v k (ecells us)) (hown : w7.ownsRow w.heap.size enT 4 v7 (k + 1) (ecells (us ++ [u]))) (hg : wa.grownBy w7 v.ownBlock)
    (hs : SeesVs B wa (us ++ [u])) (hB : Below w.heap.size w wa) (hBw : B ≤ w.heap.size) : EntsSt B vs w (k + 1) v7 w7 := by
  have hk : KeptA (fun j => v.ownBlock = some j) wa w7 := .of_grown hg fun j hj => hj
  refine ⟨us ++ [u], by simp [hul], ?_, hown, ?_, hB.grown hg hB.size (own_block_ge ho)⟩
  · rw [List.take_add_one, hy, List.map_append, List.map_append, hum]
    simp [hue]
  · exact hs.keepR (Nat.le_refl B) (hk.keptX fun j hj => Nat.le_trans hBw (own_block_ge ho j hj)) fun j hj => by rw [own_typ ho hj]; decide
set_option maxHeartbeats 8000000 in
set_option maxRecDepth 20000 in
theorem Entries_any {B g d gen n en : Nat} {w : World} {v : Value} {vs : List Ev} {br : Bool} (h : LogAt B w g d gen v vs n en br) (hn : n ≤ 1000) (hsz : ∀ y ∈ vs, y.n ≤ 1073741824 ∧ y.n' ≤ 1073741824) :
    Calls Tryz.prog 14 #[.pointer (some ⟨g, 0, none⟩)] w (EntsOf B n vs w) := by
  have hvl := evs_len h.row
  obtain ⟨A, c, rfl, hc1, hc2⟩ := own_shape h.row
  obtain ⟨⟨c0, c1, c2, c3, c4⟩, f4⟩ := log_facts h
  have HL := Lib.hid h
  have HVL := Lib.hid hvl
  have HSZ := Lib.hid hsz
  clear h c0 c1 c3 c4 f4 hvl hsz
  go_enter Tryz.func14, Tryz.ntmps14
  go_wp2_with fail
  go_loopw [3, 12] (fun t i wr => ∃ k : Nat, k ≤ n ∧ i = .int .i64 (k : Nat) ∧ EntsSt B vs w k t wr) (fun _ i _ => n - (intOf i).toNat)
  case atStart => exact ⟨0, Nat.zero_le _, rfl, [], rfl, by simp, own_nil _ _ _ _, SeesVs.nil _ _, Below.refl _ _⟩
  case round =>
    obtain ⟨k, hk, rfl, us, hul, hum, ho, hs, hB⟩ := hrel
    obtain ⟨At, ct, rfl, _, _⟩ := own_shape ho
    have HUL := Lib.hid hul
    have HUM := Lib.hid hum
    have HO := Lib.hid ho
    have HS := Lib.hid hs
    have HB := Lib.hid hB
    have hBs : w.heap.size ≤ wr.heap.size := hB.size
    clear hul hum ho hs hB
    by_cases hkn : k < n
    · have g1 : (k : Int) < (n : Int) := by omega
      have g0 : (0 : Int) ≤ (k : Int) := by omega
      obtain ⟨y, hy⟩ : ∃ y, vs[k]? = some y := ⟨vs[k]'(by rw [HVL.out]; exact hkn), List.getElem?_eq_getElem _⟩
      have HLr := Lib.hid (HL.out.below HB.out)
      obtain ⟨gg, rfl, _, hgl, y0, y1, y2, y3⟩ := own_ev HLr.out.row HVL.out hy
      have HY := Lib.hid hy
      have hyv := HLr.out.sees y (List.mem_of_getElem? hy)
      have hyz := HSZ.out y (List.mem_of_getElem? hy)
      have HYV := Lib.hid hyv
      have HW := Lib.hid (show Whole (wr.alloc (.cells #[.int .u32 y.f, .int .u32 y.t, .slice y.A y.n y.c, .slice y.A' y.n' y.c'] enT)) wr.heap.size enT y.arr from Whole.new wr enT y.arr)
      have hba : Below wr.heap.size wr (wr.alloc (.cells #[.int .u32 y.f, .int .u32 y.t, .slice y.A y.n y.c, .slice y.A' y.n' y.c'] enT)) := (Below.refl _ _).alloc (Nat.le_refl _) _
      have HBA := Lib.hid hba
      have HYA := Lib.hid (hyv.keep hba)
      clear hy hyv hba c2
      go_upto_region 5 with fail
      obtain ⟨hyz1, hyz2⟩ := hyz
      clear y0 y1 y2 y3
      generalize wr.alloc (.cells #[.int .u32 y.f, .int .u32 y.t, .slice y.A y.n y.c, .slice y.A' y.n' y.c'] enT) = W0 at HW HBA HYA ⊢
      have HD := Lib.hid (show Whole W0.drew wr.heap.size enT y.arr from HW.out.drew)
      have HD1 := Lib.hid (show SeesR W0.drew W0.drew.heap.size y.A y.n y.xs from HYA.out.1.1)
      have HD2 := Lib.hid (show SeesR W0.drew W0.drew.heap.size y.A' y.n' y.ys from HYA.out.2.1)
      have HD0 := Lib.hid (show Below wr.heap.size wr W0.drew from HBA.out.drew)
      have d2 : W0.drew.cell? ⟨wr.heap.size, 2, none⟩ = some (.slice y.A y.n y.c) := HD.out.cell 2
      have d3 : W0.drew.cell? ⟨wr.heap.size, 3, none⟩ = some (.slice y.A' y.n' y.c') := HD.out.cell 3
      have HBASE := Lib.hid (Nat.le_trans (Nat.le_of_lt (Nat.lt_of_le_of_lt HLr.out.base HLr.out.cells.lt)) (Nat.le_refl _))
      go_cut [] (fun wx => Cloned B y wr wx)
      case first =>
        go_region_with (first
          | (go_at_call 35; refine (RClone_any y.A' y.n' y.c' y.ys _ ((HD2.out.keep hB4).more hB4.size) hyz2).mono ?_; rintro e w5 ⟨v5, rfl, ho5, hB5⟩; obtain ⟨A5, c5, rfl, _, _⟩ := own_shape ho5; have q5 := (HD.out.below hB4 HD.out.lt).below hB5 (HD.out.below hB4 HD.out.lt).lt; have f2 := q5.frozen 2; have f3 := q5.frozen 3; have e2 : w5.cell? ⟨wr.heap.size, 2, none⟩ = some (.slice y.A y.n y.c) := q5.cell 2; have e3 : w5.cell? ⟨wr.heap.size, 3, none⟩ = some (.slice y.A' y.n' y.c') := q5.cell 3)
          | (go_at_call 35; refine (RClone_any y.A y.n y.c y.xs _ HD1.out hyz1).mono ?_; rintro e w4 ⟨v4, rfl, ho4, hB4⟩; obtain ⟨A4, c4', rfl, _, _⟩ := own_shape ho4; have q4 := HD.out.below hB4 HD.out.lt; have x3 : w4.cell? ⟨wr.heap.size, 3, none⟩ = some (.slice y.A' y.n' y.c') := q4.cell 3))
        all_goals
          have HCL := Lib.hid (cloned_of HBASE.out HD.out HD0.out hB4 ho4 hB5 ho5)
          go_wp2_with fail
          go_meet
          exact HCL.out
      case rest =>
        obtain ⟨u, hue, huf, hut, hWc, hVc, hBc⟩ := hcut
        have HBc := Lib.hid (HB.out.trans (hBc.mono hBs))
        have HOc := Lib.hid (own_below HO.out hBc)
        have HSc := Lib.hid ((HS.out.keep hBc).snoc hVc)
        have HWc := Lib.hid hWc
        obtain ⟨z0, z1, z2, z3⟩ := ev_facts hWc
        have HUE := Lib.hid hue
        have hwc : w.heap.size ≤ wc.heap.size := HBc.out.size
        clear hBc hVc hWc hue huf hut d2 d3
        have HO6 := Lib.hid (HOc.out.alloc (.cells #[.int .u32 u.f, .int .u32 u.t, .slice u.A u.n u.c, .slice u.A' u.n' u.c'] enT))
        have HX6 := Lib.hid (show Whole (wc.alloc (.cells #[.int .u32 u.f, .int .u32 u.t, .slice u.A u.n u.c, .slice u.A' u.n' u.c'] enT)) wc.heap.size enT u.arr from Whole.new wc enT u.arr)
        have HB6 := Lib.hid (HBc.out.alloc HBc.out.size (.cells #[.int .u32 u.f, .int .u32 u.t, .slice u.A u.n u.c, .slice u.A' u.n' u.c'] enT))
        have HS6 := Lib.hid (HSc.out.keep ((Below.refl wc.heap.size wc).alloc (Nat.le_refl _) (.cells #[.int .u32 u.f, .int .u32 u.t, .slice u.A u.n u.c, .slice u.A' u.n' u.c'] enT)))
        go_wp2_with (at_builtin; (refine wpList_append_E rfl _ _ rfl w.heap.size _ us k rfl HUL.out HO6.out wc.heap.size 1 u rfl HX6.out (by omega) HB6.out.size (wc.heap.size + 1) (by simp) ?_); intro g7 cap7 w7 hown7 hgrow7 hat7 hlt7)
        have HNX := Lib.hid (show EntsSt B vs w (k + 1) (.slice (some ⟨g7, 0, none⟩) (k + 1) cap7) w7 from ents_next HUL.out HUM.out HY.out HUE.out HO6.out hown7 hgrow7 HS6.out HB6.out (Nat.le_trans HL.out.base (Nat.le_of_lt HL.out.cells.lt)))
        clear hown7 hgrow7 hat7 hlt7
        go_wp2_with fail
        go_roundw
        case rel => exact ⟨k + 1, by omega, by go_num, HNX.out⟩
        case measure => simp [intOf]; omega
    · obtain rfl : k = n := by omega
      have g1 : ¬ (k : Int) < (k : Int) := by omega
      have HE := Lib.hid (show us.map Ev.ent = vs.map Ev.ent by have := HUM.out; rwa [List.take_of_length_le (by rw [HVL.out]; exact Nat.le_refl _)] at this)
      go_wp2_with fail
      go_ret
      exact ⟨_, _, us, rfl, HO.out, HE.out, HS.out, HB.out⟩
end Go.Proofs.YtggognnjnfphgaaGreatDoor
