/- EnC: texts EntC, EntD of our own, joined. No statement of the seat is proved here. -/
import Derived.Test.YtggognnjnfphgaaGreatDoorEnA
import Derived.Test.YtggognnjnfphgaaGreatDoorEnL
import Derived.Test.YtggognnjnfphgaaGreatDoorEnM
import Derived.Test.YtggognnjnfphgaaGreatDoorReI
import Derived.Test.YtggognnjnfphgaaGreatDoorRdB
import Derived.Deep.RegionHeld3
namespace Go.Proofs.YtggognnjnfphgaaGreatDoor
open Go.RowKit Go.Op

def ofRec (r : Rec) : Rrd := ⟨mk r.n, r.t, r.c, r.l, mk r.d⟩
theorem entryWidths_any (w : World) : Calls Tryz.prog 86 #[] w fun e w' => ∃ g, e = .returned (.slice (some ⟨g, 0, none⟩) 3 3) ∧ Sees w' w'.heap.size (some ⟨g, 0, none⟩) 3 (ints .i64 [4, 4, 4]) ∧ Below w.heap.size w w' := by
  go_enter Tryz.func86, Tryz.ntmps86
  go_wp2
  go_ret
  have hw := Whole.new w 3 #[.int .i64 4, .int .i64 4, .int .i64 4]
  refine ⟨_, rfl, ⟨rfl, fun _ => ⟨_, 0, rfl, by simp, fun j u hu => ?_⟩⟩, (Below.refl _ _).alloc (Nat.le_refl _) _⟩
  rw [Nat.zero_add]
  refine (hw.cell j).trans ?_
  rw [← hu]; simp [ints]

set_option maxHeartbeats 2000000 in
set_option maxRecDepth 20000 in
theorem Own_yes (N D : ByteArray) (r : Rec) (w : World) (hN : N = mk r.n) (hD : D = mk r.d) (hn : r.n.length ≤ 1073741824) (hok : okR r = true) :
    Calls Tryz.prog 63 #[.agg (rrA N D r.t r.c r.l)] w fun e w' => e = .returned (.tuple #[.string (mk (ownE r)), .int .i64 0]) ∧ Below w.heap.size w w' := by
  have HB0 := Lib.hid (show Below w.heap.size w (w.alloc (.cells (rrA N D r.t r.c r.l) rrT)) from (Below.refl _ _).alloc (Nat.le_refl _) _)
  have HW0 := Lib.hid (Whole.new w rrT (rrA N D r.t r.c r.l))
  obtain ⟨c0, c1, c2, c3, c4⟩ := rr_facts HW0.out
  have HN := Lib.hid hN
  have HD := Lib.hid hD
  have HOK := Lib.hid hok
  have HOW := Lib.hid (show ownE r = (writeW r ([], noneK)).1 from rfl)
  clear hN hD hok
  unfold rrA at *
  go_enter Tryz.func63, Tryz.ntmps63
  go_wp2_with fail
  refine (New_any _).mono ?_
  rintro e w2 ⟨b, m, rfl, hp, hB2⟩
  have HP := Lib.hid hp
  have HB2 := Lib.hid (HB0.out.trans (hB2.mono HB0.out.size))
  have HW2 := HW0.out.below hB2 HW0.out.lt
  have HS2 := Lib.hid hB2.size
  clear c0 c1 c2 c3 c4 hp hB2
  obtain ⟨c0, c1, c2, c3, c4⟩ := rr_facts HW2
  clear HW2
  go_wp2_with fail
  refine (RWrite_yes HP.out N D r HN.out HD.out hn HOK.out (by simp) HS2.out InvK.none).mono ?_
  rintro e w3 ⟨rfl, v', hp3, hk3⟩
  have HP3 := Lib.hid hp3
  have HB3 := Lib.hid (HB2.out.trans ((hk3.below HP.out HS2.out).mono (Nat.le_trans HB0.out.size (Nat.le_refl _))))
  have HS3 := Lib.hid (Nat.le_trans HS2.out hk3.size)
  clear hp3 hk3 c0 c1 c2 c3 c4
  go_wp2_with fail
  refine (Bytes_any HP3.out).mono ?_
  rintro e w4 ⟨rfl, hp4, hk4⟩
  have HB4 := Lib.hid (HB3.out.trans ((hk4.below HP3.out HS3.out).mono HB0.out.size))
  clear hp4 hk4
  go_wp2_with fail
  go_ret2
  exact ⟨by rw [HOW.out]; rfl, HB4.out⟩

set_option maxHeartbeats 2000000 in
set_option maxRecDepth 20000 in
theorem Own_no (N D : ByteArray) (r : Rec) (w : World) (hN : N = mk r.n) (hD : D = mk r.d) (hn : r.n.length ≤ 1073741824) (hd : r.d.length ≤ 65535) (hok : okR r = false) :
    Calls Tryz.prog 63 #[.agg (rrA N D r.t r.c r.l)] w fun e w' => e = .returned (.tuple #[.string ⟨#[]⟩, .int .i64 2]) ∧ Below w.heap.size w w' := by
  have HB0 := Lib.hid (show Below w.heap.size w (w.alloc (.cells (rrA N D r.t r.c r.l) rrT)) from (Below.refl _ _).alloc (Nat.le_refl _) _)
  have HW0 := Lib.hid (Whole.new w rrT (rrA N D r.t r.c r.l))
  obtain ⟨c0, c1, c2, c3, c4⟩ := rr_facts HW0.out
  have HN := Lib.hid hN
  have HD := Lib.hid hD
  have HOK := Lib.hid hok
  clear hN hD hok
  unfold rrA at *
  go_enter Tryz.func63, Tryz.ntmps63
  go_wp2_with fail
  refine (New_any _).mono ?_
  rintro e w2 ⟨b, m, rfl, hp, hB2⟩
  have HP := Lib.hid hp
  have HB2 := Lib.hid (HB0.out.trans (hB2.mono HB0.out.size))
  have HW2 := HW0.out.below hB2 HW0.out.lt
  clear c0 c1 c2 c3 c4 hp hB2
  obtain ⟨c0, c1, c2, c3, c4⟩ := rr_facts HW2
  clear HW2
  go_wp2_with fail
  refine (RWrite_no HP.out N D r HN.out HD.out hn hd HOK.out).mono ?_
  rintro e w3 ⟨rfl, hp3, hB3⟩
  have HB3 := Lib.hid (HB2.out.trans (hB3.mono HB2.out.size))
  clear hp3 hB3 c0 c1 c2 c3 c4
  go_wp2_with fail
  go_ret2
  exact ⟨rfl, HB3.out⟩

/-- the shape of a row of one's own -/
def CapA (base : Nat) (A : Option Addr) (n c : Nat) : Prop := InCap A n c ∧ ((A = none ∧ c = 0) ∨ ∃ g, A = some ⟨g, 0, none⟩ ∧ base ≤ g)
theorem CapA.less {b b' : Nat} {A : Option Addr} {n c : Nat} (h : CapA b A n c) (hb : b' ≤ b) : CapA b' A n c := ⟨h.1, h.2.imp id fun ⟨g, e, hg⟩ => ⟨g, e, Nat.le_trans hb hg⟩⟩
theorem own_cap {w : World} {base : Nat} {v : Value} {n : Nat} {xs : List Rrd} (h : w.ownsRow base 76 5 v n (rcells xs)) : ∃ A c, v = .slice A n c ∧ SeesR w w.heap.size A n xs ∧ CapA base A n c := by
  obtain ⟨A, c, rfl, hs⟩ := SeesR.own h
  refine ⟨A, c, rfl, hs, ?_⟩
  rcases h.2 with ⟨e, h0⟩ | ⟨g, cap, cur, e, hb, hg, h1, h2, h3⟩
  · injection e with e1 e2 e3
    subst e1 e2 e3
    exact ⟨⟨Nat.le_refl _, by omega, fun _ => rfl, fun _ h => by cases h⟩, .inl ⟨rfl, rfl⟩⟩
  · injection e with e1 e2 e3
    subst e1 e3
    exact ⟨⟨h1, (by unfold maxLen at h2; omega), (fun h => by cases h), fun ad h _ => by injection h with h; subst h; rfl⟩, .inr ⟨g, rfl, hb⟩⟩

theorem one_two (w3 : World) (C : Obj) (r : Rec) : SeesR ((w3.alloc C).alloc (.cells #[.string (mk r.n), .int .i64 r.t, .int .i64 r.c, .int .i64 r.l, .string (mk r.d)] rrT)) (w3.heap.size + 1 + 1) (some ⟨w3.heap.size + 1, 0, none⟩) 1 [ofRec r] := by
  have h := SeesR.one (w3.alloc C) (ofRec r)
  rw [World.size_alloc] at h
  exact h
theorem RRead_zero (S : ByteArray) (M : List UInt8) (w : World) (hS : S = mk M) (hM : M.length ≤ 800000) :
    Calls Tryz.prog 130 #[.string S, .int .i64 0] w fun e w' => e = .returned (recV (recR M 0)) ∧ Below w.heap.size w w' := RRead_any S M 0 w hS hM (Nat.zero_le _)
theorem one_is {M : List UInt8} {r : Rec} {x : Nat} (h : recR M 0 = some (r, x)) : oneE M = if x = M.length then some r else none := by unfold oneE; rw [h]
theorem one_none {M : List UInt8} (h : recR M 0 = none) : oneE M = none := by unfold oneE; rw [h]

/-- what Records leaves -/
def RecsLeaves (S : ByteArray) (z : Value) (w : World) (e : Ending) (w' : World) : Prop :=
  ∃ A n c, e = .returned (.tuple #[.slice A n c, z]) ∧ SeesR w' w'.heap.size A n (((recsE S).getD []).map ofRec) ∧ CapA w.heap.size A n c ∧ Below w.heap.size w w' ∧ TyR w' A rrT
theorem recs_nil {S : ByteArray} {z : Value} {w w' : World} (h : recsE S = none) (hB : Below w.heap.size w w') : RecsLeaves S z w (.returned (.tuple #[.slice none 0 0, z])) w' := by
  refine ⟨none, 0, 0, rfl, ?_, ⟨⟨Nat.le_refl _, by omega, fun _ => rfl, fun _ h => by cases h⟩, .inl ⟨rfl, rfl⟩⟩, hB, ty_none _ _⟩
  rw [h]
  exact ⟨rfl, fun h => absurd h (by omega)⟩
def RecsAt (ps : List ByteArray) (w : World) (k : Nat) (v : Value) (wr : World) : Prop :=
  ∃ acc : List Rec, acc.length = k ∧ Recs ps acc k ∧ wr.ownsRow w.heap.size 76 5 v k (rcells (acc.map ofRec)) ∧ Below w.heap.size w wr
def errE (o : Option (List Rec)) : Value := .int .i64 (if o.isSome then 0 else 2)

set_option maxHeartbeats 4000000 in
set_option maxRecDepth 20000 in
theorem Records_any (S : ByteArray) (w : World) (hS : S.size ≤ 800000) : Calls Tryz.prog 96 #[.string S] w (RecsLeaves S (errE (recsE S)) w) := by
  obtain ⟨ps, z, hps⟩ : ∃ ps z, piecesR S 4 = (ps, z) := ⟨_, _, rfl⟩
  have hlen := piecesR_len S 4
  have hsz := piecesR_size S 4
  rw [hps] at hlen hsz
  simp only at hlen hsz
  have HPS := Lib.hid hps
  have HSZ := Lib.hid hsz
  clear hps hsz
  by_cases hz : z = 0
  · subst hz
    have HRE := Lib.hid (show recsE S = recsP ps by unfold recsE; rw [HPS.out]; rfl)
    go_enter Tryz.func96, Tryz.ntmps96
    go_wp2_with fail
    refine (Pieces_any S 4 _ (by omega)).mono ?_
    unfold PiecesLeaves
    rw [HPS.out]
    rintro e w1 ⟨A1, c1, rfl, hsee, hB1⟩
    have HSE := Lib.hid hsee
    have HB1 := Lib.hid hB1
    clear hsee hB1
    go_wp2_with fail
    go_loopw [6, 22] (fun v i wr => ∃ k : Nat, k ≤ ps.length ∧ i = .int .i64 (k : Nat) ∧ RecsAt ps w1 k v wr) (fun _ i _ => ps.length - (intOf i).toNat)
    case atStart => exact ⟨0, Nat.zero_le _, rfl, ⟨[], rfl, Recs.start ps, own_nil _ _ _ _, Below.refl _ _⟩⟩
    case round =>
      obtain ⟨k, hk, rfl, ⟨acc, hacc, hre, hO, hB2⟩⟩ := hrel
      have HO := Lib.hid hO
      have HB := Lib.hid (HB1.out.trans (hB2.mono HB1.out.size))
      have HB2 := Lib.hid hB2
      have HR := Lib.hid hre
      have HA := Lib.hid hacc
      obtain ⟨A, c, rfl, hs0, hcap⟩ := own_cap hO
      have HS0 := Lib.hid hs0
      have HCAP := Lib.hid hcap
      clear hO hB2 hre hs0 hcap hacc
      by_cases hkn : k < ps.length
      · have g1 : (k : Int) < (ps.length : Int) := by omega
        obtain ⟨b, off, rfl, hb, hc⟩ := texts_at (HSE.out.below HB2.out) hkn
        obtain ⟨P, hP⟩ : ∃ P, P = ps[k] := ⟨_, rfl⟩
        have hg : ps.getD k ByteArray.empty = P := by rw [hP]; simp [List.getD, hkn]
        have hpk : ps[k]? = some P := by rw [hP]; exact List.getElem?_eq_getElem hkn
        rw [hg] at hc
        obtain ⟨M, hM⟩ : ∃ M, M = P.data.toList := ⟨_, rfl⟩
        have hPM : P = mk M := by rw [hM]; exact (mk_toList P).symm
        have hPz : P.size = M.length := by rw [hPM, mk_size]
        have hMl : M.length ≤ 800000 := by have := HSZ.out P (List.mem_of_getElem? hpk); omega
        have HPK := Lib.hid hpk
        have HM := Lib.hid hM
        have HPM := Lib.hid hPM
        clear hg hpk hP hM hPM
        cases hr : recR M 0 with
        | none =>
          have HN := Lib.hid (show recsE S = none by rw [HRE.out]; exact HR.out.fails HPK.out (by rw [← HM.out]; exact one_none hr))
          have HRR := Lib.hid hr
          clear hr
          go_wp2_with fail
          refine (RRead_zero P M _ HPM.out hMl).mono ?_
          rw [HRR.out]
          unfold recV
          rintro e w3 ⟨rfl, hB3⟩
          have HB3 := Lib.hid (HB.out.trans (hB3.mono HB.out.size))
          have HB4 := Lib.hid (HB3.out.alloc HB3.out.size (.cells #[.string ⟨#[]⟩, .int .i64 0, .int .i64 0, .int .i64 0, .string ⟨#[]⟩] rrT))
          clear hB3
          go_wp2_with fail
          go_ret2
          exact (show errE (recsE S) = .int .i64 2 by unfold errE; rw [HN.out]; rfl) ▸ recs_nil HN.out HB4.out
        | some q =>
          obtain ⟨r, x⟩ := q
          have HRR := Lib.hid hr
          have HX5 := fun (W : World) => Whole.new W rrT #[.string (mk r.n), .int .i64 r.t, .int .i64 r.c, .int .i64 r.l, .string (mk r.d)]
          by_cases hx : x = M.length
          · have HOE := Lib.hid (show oneE M = some r by rw [one_is hr, if_pos hx])
            have gx : ((x : Int) != (P.size : Int)) = false := by rw [bne_eq_false_iff_eq]; omega
            clear hr hx hPz
            go_wp2_with fail
            refine (RRead_zero P M _ HPM.out hMl).mono ?_
            rw [HRR.out]
            unfold recV
            rintro e w3 ⟨rfl, hB3⟩
            have HB3 := Lib.hid (HB.out.trans (hB3.mono HB.out.size))
            have HO4 := Lib.hid ((own_below HO.out hB3).alloc (.cells #[.string (mk r.n), .int .i64 r.t, .int .i64 r.c, .int .i64 r.l, .string (mk r.d)] rrT))
            have HB24 := Lib.hid ((HB2.out.trans (hB3.mono HB2.out.size)).alloc (Nat.le_trans HB2.out.size hB3.size) (.cells #[.string (mk r.n), .int .i64 r.t, .int .i64 r.c, .int .i64 r.l, .string (mk r.d)] rrT))
            have hw4 := Whole.new w3 rrT (rrA (mk r.n) (mk r.d) r.t r.c r.l)
            obtain ⟨d0, d1, d2, d3, d4⟩ := rr_facts hw4
            clear hB3 hw4
            have HLE := Lib.hid (show k + 1 ≤ 1073741824 by omega)
            have HST := Lib.hid (HR.out.step HPK.out (by rw [← HM.out]; exact HOE.out))
            have HO5 := Lib.hid (HO4.out.alloc (.cells #[.string (mk r.n), .int .i64 r.t, .int .i64 r.c, .int .i64 r.l, .string (mk r.d)] rrT))
            have HB25 := Lib.hid (HB24.out.alloc HB24.out.size (.cells #[.string (mk r.n), .int .i64 r.t, .int .i64 r.c, .int .i64 r.l, .string (mk r.d)] rrT))
            have HA5 := Lib.hid HB25.out.size
            go_wp2_with (at_builtin; (refine wpList_append_R rfl _ _ rfl w1.heap.size _ _ (acc.map ofRec) rfl HO5.out (w3.heap.size + 1 + 1) _ _ _ _ rfl (one_two w3 _ r) HLE.out HA5.out ?_); intro v6 w6 ho hg)
            have HO6 := Lib.hid (show w6.ownsRow w1.heap.size 76 5 v6 (k + 1) (rcells ((acc ++ [r]).map ofRec)) by rw [List.map_append]; exact ho)
            have HB26 := Lib.hid (HB25.out.grown hg HA5.out (own_block_ge HO5.out))
            clear ho hg
            go_wp2_with fail
            go_roundw
            case rel => exact ⟨k + 1, by omega, by go_num, ⟨acc ++ [r], by rw [List.length_append, HA.out]; rfl, HST.out, HO6.out, HB26.out⟩⟩
            case measure => simp [intOf]; omega
          · have HN := Lib.hid (show recsE S = none by rw [HRE.out]; exact HR.out.fails HPK.out (by rw [← HM.out, one_is hr, if_neg hx]))
            have gx : ((x : Int) != (P.size : Int)) = true := by rw [bne_iff_ne]; omega
            clear hr hx hPz
            go_wp2_with fail
            refine (RRead_zero P M _ HPM.out hMl).mono ?_
            rw [HRR.out]
            unfold recV
            rintro e w3 ⟨rfl, hB3⟩
            have HB3 := Lib.hid (HB.out.trans (hB3.mono HB.out.size))
            have HB4 := Lib.hid (HB3.out.alloc HB3.out.size (.cells #[.string (mk r.n), .int .i64 r.t, .int .i64 r.c, .int .i64 r.l, .string (mk r.d)] rrT))
            clear hB3
            go_wp2_with fail
            go_ret2
            exact (show errE (recsE S) = .int .i64 2 by unfold errE; rw [HN.out]; rfl) ▸ recs_nil HN.out HB4.out
      · obtain rfl : k = ps.length := by omega
        have HN := Lib.hid (show recsE S = some acc by rw [HRE.out]; exact HR.out.ends)
        go_wp2_with fail
        go_ret2
        exact ⟨A, ps.length, c, by unfold errE; rw [HN.out]; rfl, by rw [HN.out]; exact HS0.out, HCAP.out.less HB1.out.size, HB.out, own_ty HO.out⟩
  · have HN := Lib.hid (show recsE S = none by unfold recsE; rw [HPS.out]; simp only; rw [if_neg hz])
    have hz2 : ps = [] ∧ z = 2 := by
      rcases pieces_code S with h | h
      · rw [HPS.out] at h; exact absurd h hz
      · rw [HPS.out] at h; simpa using h
    obtain ⟨rfl, rfl⟩ := hz2
    go_enter Tryz.func96, Tryz.ntmps96
    go_wp2_with fail
    refine (Pieces_any S 4 _ (by omega)).mono ?_
    unfold PiecesLeaves
    rw [HPS.out]
    rintro e w1 ⟨A1, c1, rfl, hsee, hB1⟩
    have HB1 := Lib.hid hB1
    clear hsee hB1 hz
    go_wp2_with fail
    go_ret2
    exact (show errE (recsE S) = .int .i64 2 by unfold errE; rw [HN.out]; rfl) ▸ recs_nil HN.out HB1.out
end Go.Proofs.YtggognnjnfphgaaGreatDoor
namespace Go.Proofs.YtggognnjnfphgaaGreatDoor
open Go.RowKit Go.Op

abbrev enT : TypeId := 45
def enA (f t : Int) (A : Option Addr) (n c : Nat) (A' : Option Addr) (n' c' : Nat) : Array Value := #[.int .u32 f, .int .u32 t, .slice A n c, .slice A' n' c']
theorem en_facts {w : World} {g : Nat} {f t : Int} {A A' : Option Addr} {n c n' c' : Nat} (h : Whole w g enT (enA f t A n c A' n' c')) :
    w.cell? ⟨g, 0, none⟩ = some (.int .u32 f) ∧ w.cell? ⟨g, 1, none⟩ = some (.int .u32 t) ∧ w.cell? ⟨g, 2, none⟩ = some (.slice A n c) ∧ w.cell? ⟨g, 3, none⟩ = some (.slice A' n' c') := ⟨h.cell 0, h.cell 1, h.cell 2, h.cell 3⟩
theorem Kp.rowB {B b : Nat} {w w' : World} {v v' : Value} {l : List UInt8} {base e size n : Nat} {x : Value} {xs : List Value} (hk : Kp b b v v' w w') (hp : Bd B w b v l) (ho : w.ownsRow base e size x n xs) (h1 : e ≠ bdT) (h2 : e ≠ 5) : w'.ownsRow base e size x n xs := by
  refine ⟨ho.1, ?_⟩
  rcases ho.2 with h3 | ⟨g, cap, cur, hx, hg, hh, r⟩
  · exact .inl h3
  · refine .inr ⟨g, cap, cur, hx, hg, ?_, r⟩
    have hgb : g ≠ b := by
      rintro rfl
      obtain ⟨p, _, hb⟩ := hp.blk
      rw [hh] at hb
      injection hb with hb
      injection hb with _ hb _
      exact absurd hb h1
    exact (hk.block g (Array.getElem?_eq_some_iff.1 hh).1 hgb hgb (Lib.ownBlock_neF hp.row hh h2)).trans hh
theorem join_headE {f t : Int} {n : Nat} (hf : u32 f) (ht : u32 t) (hn : n < 4294967296) : joinR [f, t, (n : Int)] [4, 4, 4] = (mk (headE f t n), 0) := by
  obtain ⟨f0, f1⟩ := hf
  obtain ⟨t0, t1⟩ := ht
  refine joinR_some (by decide) rfl ?_
  have e4 : ((4 : Int)).toNat = 4 := rfl
  have a1 : fitB f.toNat 4 = true := by unfold fitB; rw [decide_eq_true_eq]; omega
  have a2 : fitB t.toNat 4 = true := by unfold fitB; rw [decide_eq_true_eq]; omega
  have a3 : fitB ((n : Int)).toNat 4 = true := by unfold fitB; rw [decide_eq_true_eq]; omega
  simp only [joinF, e4]
  rw [if_pos a1, if_pos a2, if_pos a3]
  simp [headE]

section
variable {B b : Nat} {w w' : World} {v v' : Value} {l : List UInt8}
set_option maxHeartbeats 4000000 in
set_option maxRecDepth 20000 in
theorem entryHead_any (h : Bd B w b v l) (f t : Int) (A A' : Option Addr) (n c n' c' : Nat) (hf : u32 f) (ht : u32 t) (hn : n < 4294967296) (hlen : l.length + 12 ≤ 1000000000) (hBw : B ≤ w.heap.size) :
    Calls Tryz.prog 61 #[.pointer (some ⟨b, 0, none⟩), .agg (enA f t A n c A' n' c')] w fun e w' => e = .returned (.tuple #[]) ∧ ∃ v', Bd B w' b v' (l ++ headE f t n) ∧ Kp b b v v' w w' := by
  have HJ := Lib.hid (join_headE hf ht hn)
  obtain ⟨f0, f1⟩ := hf
  obtain ⟨t0, t1⟩ := ht
  have u1 : IntKind.u64.wrap f = f := by rw [IntKind.wrap_u64]; omega
  have u2 : IntKind.u64.wrap t = t := by rw [IntKind.wrap_u64]; omega
  have u3 : IntKind.u64.wrap (n : Int) = (n : Int) := by rw [IntKind.wrap_u64]; omega
  have HU := Lib.hid (show U64s [f, t, (n : Int)] from by intro z hz; simp at hz; omega)
  have hb0 : Below w.heap.size w (w.alloc (.cells (enA f t A n c A' n' c') enT)) := (Below.refl _ _).alloc (Nat.le_refl _) _
  have hW0 := Whole.new w enT (enA f t A n c A' n' c')
  have HH := Lib.hid (h.same hb0)
  have HB0 := Lib.hid hb0
  have HW0 := Lib.hid hW0
  obtain ⟨c0, c1, c2, c3⟩ := en_facts hW0
  clear hb0 hW0
  unfold enA at *
  go_enter Tryz.func61, Tryz.ntmps61
  go_wp2_with fail
  go_region_held3 (fun w' => w'.cell? ⟨w.heap.size, 0, none⟩ = some (.int .u32 f) ∧ w'.cell? ⟨w.heap.size, 1, none⟩ = some (.int .u32 t) ∧ w'.cell? ⟨w.heap.size, 2, none⟩ = some (.slice A n c)) (go_keep) (first
    | (go_at_call 86; (refine (entryWidths_any _).mono ?_; rintro e w1 ⟨g1, rfl, hs1, hB1⟩; have hB1 := (Below.refl _ _).drew.trans hB1; (first
        | (have hq : Below _ (w.alloc (.cells #[.int .u32 f, .int .u32 t, .slice A n c, .slice A' n' c'] enT)) w1 := (by with_reducible exact hB1); have hw1 := HW0.out.below hq HW0.out.lt; have HB1 := Lib.hid (HB0.out.trans (hq.mono HB0.out.size)); obtain ⟨k1, k2, k3, _⟩ := en_facts hw1)
        | (have hq : Below _ ((w.alloc (.cells #[.int .u32 f, .int .u32 t, .slice A n c, .slice A' n' c'] enT)).alloc (.cells #[.int .u64 f, .int .u64 t, .int .u64 (n : Int)] 22)) w1 := (by with_reducible exact hB1); have hw0' := HW0.out.alloc (.cells #[.int .u64 f, .int .u64 t, .int .u64 (n : Int)] 22); have hw1 := hw0'.below hq hw0'.lt; have hu0 := Whole.new (w.alloc (.cells #[.int .u32 f, .int .u32 t, .slice A n c, .slice A' n' c'] enT)) 22 #[.int .u64 f, .int .u64 t, .int .u64 (n : Int)]; rw [World.size_alloc] at hu0; have hu1 := hu0.below hq hu0.lt; have HB1 := Lib.hid ((HB0.out.alloc HB0.out.size (.cells #[.int .u64 f, .int .u64 t, .int .u64 (n : Int)] 22)).trans (hq.mono (by first | (simp; omega) | simp | omega))); obtain ⟨k1, k2, k3, _⟩ := en_facts hw1))))
    | (go_at_call 85; (first
        | (refine (Join_any _ _ 3 3 3 3 _ _ [f, t, (n : Int)] [4, 4, 4] _ (sees_three hu1) hs1 (Nat.succ_le_of_lt hu1.lt) (Nat.le_refl _) (by decide) (by decide) HU.out).mono ?_; rintro e w2 ⟨he, hB2⟩; rw [HJ.out] at he; subst he; have HB2 := Lib.hid (HB1.out.trans (hB2.mono HB1.out.size)); obtain ⟨z1, z2, z3, _⟩ := en_facts (hw1.below hB2 hw1.lt))
        | (refine (Join_any _ _ 3 3 3 3 _ _ [f, t, (n : Int)] [4, 4, 4] _ (sees_three (Whole.new w1 22 #[.int .u64 f, .int .u64 t, .int .u64 (n : Int)])) (hs1.below ((Below.refl _ _).alloc (Nat.le_refl _) _)) (by simp) (by simp) (by decide) (by decide) HU.out).mono ?_; rintro e w2 ⟨he, hB2⟩; rw [HJ.out] at he; subst he; have HB2 := Lib.hid ((HB1.out.alloc HB1.out.size (.cells #[.int .u64 f, .int .u64 t, .int .u64 (n : Int)] 22)).trans (hB2.mono (by have := HB1.out.size; first | (simp; omega) | simp | omega))); obtain ⟨z1, z2, z3, _⟩ := en_facts ((hw1.alloc (.cells #[.int .u64 f, .int .u64 t, .int .u64 (n : Int)] 22)).below hB2 (hw1.alloc (.cells #[.int .u64 f, .int .u64 t, .int .u64 (n : Int)] 22)).lt)))))
  all_goals (
    have HP2 := Lib.hid (h.same HB2.out)
    clear hB2 hB1
    go_wp2_with fail
    refine (writeB_any HP2.out _ (by rw [mk_size, headE_len]; omega) (Nat.le_trans hBw HB2.out.size)).mono ?_
    rintro e w3 ⟨rfl, v', h1, h2⟩
    go_wp2_with fail
    go_end0
    exact ⟨rfl, v', h1, (Kp.of_below HB2.out).trans h2⟩)

set_option maxHeartbeats 2000000 in
set_option maxRecDepth 20000 in
theorem entryPiece_any (h : Bd B w b v l) (S : ByteArray) (M : List UInt8) (hS : S = mk M) (hM : M.length ≤ 100000) (hlen : l.length + M.length + 4 ≤ 1000000000) (hBw : B ≤ w.heap.size) :
    Calls Tryz.prog 64 #[.pointer (some ⟨b, 0, none⟩), .string S] w fun e w' => e = .returned (.tuple #[]) ∧ ∃ v', Bd B w' b v' (l ++ (be M.length 4 ++ M)) ∧ Kp b b v v' w w' := by
  have HP := Lib.hid (show pieceR S 4 = (mk (be M.length 4 ++ M), 0) by rw [hS]; exact piece_rowE M (by omega))
  have HH := Lib.hid h
  have hsz : S.size ≤ 1073741824 := by rw [hS, mk_size]; omega
  clear h hS
  go_enter Tryz.func64, Tryz.ntmps64
  go_wp2_with fail
  refine (Piece_any S 4 _ hsz).mono ?_
  rw [HP.out]
  rintro e w1 ⟨rfl, hB1⟩
  have HP1 := Lib.hid (HH.out.same hB1)
  have HB1 := Lib.hid hB1
  clear hB1
  go_wp2_with fail
  refine (writeB_any HP1.out _ (by rw [mk_size, List.length_append, be_length]; omega) (Nat.le_trans hBw HB1.out.size)).mono ?_
  rintro e w3 ⟨rfl, v', h1, h2⟩
  go_wp2_with fail
  go_end0
  exact ⟨rfl, v', h1, (Kp.of_below HB1.out).trans h2⟩
end

theorem two_slots {W : World} {A A' : Option Addr} {n c n' c' : Nat} {xs ys : List Rrd} (t : TypeId) (h1 : SeesR W W.heap.size A n xs) (h2 : SeesR W W.heap.size A' n' ys) :
    SeesSl (W.alloc (.cells #[.slice A n c, .slice A' n' c'] t)) (W.alloc (.cells #[.slice A n c, .slice A' n' c'] t)).heap.size (some ⟨W.heap.size, 0, none⟩) [⟨A, n, c, xs⟩, ⟨A', n', c', ys⟩] := by
  have hw := Whole.new W t #[.slice A n c, .slice A' n' c']
  have hb : Below W.heap.size W (W.alloc (.cells #[.slice A n c, .slice A' n' c'] t)) := (Below.refl _ _).alloc (Nat.le_refl _) _
  refine ⟨⟨W.heap.size, 0, rfl, hw.lt, fun j s hs => ?_⟩, fun s hs => ?_⟩
  · rw [Nat.zero_add]
    refine (hw.cell j).trans ?_
    match j, hs with
    | 0, hs => simp only [List.getElem?_cons_zero, Option.some.injEq] at hs; subst hs; rfl
    | 1, hs => simp only [List.getElem?_cons_succ, List.getElem?_cons_zero, Option.some.injEq] at hs; subst hs; rfl
    | j + 2, hs => simp at hs
  · simp only [List.mem_cons, List.not_mem_nil, or_false] at hs
    rcases hs with rfl | rfl
    · exact (h1.keep hb).more hb.size
    · exact (h2.keep hb).more hb.size
def entOf (f t : Int) (xs ys : List Rrd) : Ent := ⟨f, t, xs.map Rrd.toRec, ys.map Rrd.toRec⟩
def bytesT (e : Ent) : Value := if okE e = true then .tuple #[.string (mk (bytesE e)), .int .i64 0] else .tuple #[.string ⟨#[]⟩, .int .i64 2]
def accE (f t : Int) (n : Nat) (all : List Rrd) (k : Nat) : List UInt8 := headE f t n ++ rowE (((all.take k).map Rrd.toRec).map ownE)
theorem accE_zero (f t : Int) (n : Nat) (all : List Rrd) : accE f t n all 0 = headE f t n := by simp [accE, rowE]
theorem accE_succ {f t : Int} {n : Nat} {all : List Rrd} {k : Nat} {x : Rrd} (h : all[k]? = some x) : accE f t n all (k + 1) = accE f t n all k ++ (be (ownE x.toRec).length 4 ++ ownE x.toRec) := by
  unfold accE
  rw [List.take_add_one, h]
  simp only [Option.toList_some, List.map_append, List.map_cons, List.map_nil, rowE_append, rowE, List.append_nil, List.append_assoc]
theorem accE_all {f t : Int} {xs ys : List Rrd} {N : Nat} (h : (xs ++ ys).length = N) : accE f t xs.length (xs ++ ys) N = bytesE (entOf f t xs ys) := by
  unfold accE bytesE entOf
  rw [← h, List.take_length, List.map_append, List.length_map]
theorem okE_is {f t : Int} {xs ys : List Rrd} : okE (entOf f t xs ys) = (xs ++ ys).all fun x => okR x.toRec := by
  unfold okE entOf
  rw [List.all_append, List.all_map, List.all_map]
  rfl

set_option maxHeartbeats 8000000 in
set_option maxRecDepth 20000 in
theorem EBytes_any (f t : Int) (A A' : Option Addr) (n c n' c' : Nat) (xs ys : List Rrd) (w : World) (h1 : SeesR w w.heap.size A n xs) (h2 : SeesR w w.heap.size A' n' ys) (hf : u32 f) (ht : u32 t) (hN : n + n' ≤ 30)
    (hsm : ∀ x ∈ xs ++ ys, x.s.size ≤ 600 ∧ x.d.size ≤ 2000) :
    Calls Tryz.prog 41 #[.agg (enA f t A n c A' n' c')] w fun e w' => e = .returned (bytesT (entOf f t xs ys)) ∧ Below w.heap.size w w' := by
  obtain ⟨all, hall⟩ : ∃ all, all = xs ++ ys := ⟨_, rfl⟩
  obtain ⟨N, hNN⟩ : ∃ N, N = n + n' := ⟨_, rfl⟩
  have HAL := Lib.hid (show all.length = N by rw [hall, hNN, List.length_append, h1.1, h2.1])
  have HSM := Lib.hid (show ∀ x ∈ all, x.s.size ≤ 600 ∧ x.d.size ≤ 2000 by rw [hall]; exact hsm)
  have HJS := Lib.hid (show joinS [⟨A, n, c, xs⟩, ⟨A', n', c', ys⟩] = all by rw [hall]; exact joinS2)
  have HOK := Lib.hid (show okE (entOf f t xs ys) = all.all fun x => okR x.toRec by rw [hall]; exact okE_is)
  have HBY := Lib.hid (show accE f t n all N = bytesE (entOf f t xs ys) by have := HAL.out; rw [hall] at this ⊢; rw [← h1.1]; exact accE_all this)
  have HF := Lib.hid hf
  have HT := Lib.hid ht
  have HNN := Lib.hid hNN
  have hN30 : N ≤ 30 := by omega
  clear hall hNN hsm hf ht
  obtain ⟨W0, hW0⟩ : ∃ W0, W0 = w.alloc (.cells (enA f t A n c A' n' c') enT) := ⟨_, rfl⟩
  have hs0 : W0.heap.size = w.heap.size + 1 := by rw [hW0, World.size_alloc]
  have HB0 := Lib.hid (show Below w.heap.size w W0 by rw [hW0]; exact (Below.refl _ _).alloc (Nat.le_refl _) _)
  have HX0 := Lib.hid (show Whole W0 w.heap.size enT (enA f t A n c A' n' c') by rw [hW0]; exact Whole.new w enT _)
  have HBD := Lib.hid (show Bd (w.heap.size + 1) (W0.alloc (.cells #[.pointer none, .slice none 0 0] bdT)) (w.heap.size + 1) (.slice none 0 0) [] by have := Bd.new W0; rw [hs0] at this; exact this)
  have HW1 := Lib.hid (HX0.out.alloc (.cells #[.pointer none, .slice none 0 0] bdT))
  have HB1 := Lib.hid (HB0.out.alloc HB0.out.size (.cells #[.pointer none, .slice none 0 0] bdT))
  have HS1 := Lib.hid (show w.heap.size + 1 ≤ (W0.alloc (.cells #[.pointer none, .slice none 0 0] bdT)).heap.size by rw [World.size_alloc, hs0]; omega)
  have H1 := Lib.hid h1
  have H2 := Lib.hid h2
  have HW0 := Lib.hid hW0
  have HS0 := Lib.hid hs0
  clear h1 h2 hW0 hs0
  obtain ⟨c0, c1, c2, c3⟩ := en_facts HX0.out
  obtain ⟨d0, d1, d2, d3⟩ := en_facts HW1.out
  have gn : ¬ ((65536 : Int) < (n : Int)) := by omega
  have gn' : ¬ ((65536 : Int) < (n' : Int)) := by omega
  unfold enA at HW0 ⊢
  go_enter Tryz.func41, Tryz.ntmps41
  go_wp2_with fail
  rw [← HW0.out]
  go_wp2_with fail
  refine (entryHead_any HBD.out f t A A' n c n' c' HF.out HT.out (by omega) (by simp) HS1.out).mono ?_
  rintro e w2 ⟨rfl, v2, hb2, hk2⟩
  have hBb := HBD.out.below hk2 HS1.out
  have HB2 := Lib.hid (HB1.out.trans (hBb.mono (Nat.le_succ _)))
  have hW2 := HW1.out.below hBb (Nat.lt_succ_self _)
  have HD2 := Lib.hid hb2
  have HS2 := Lib.hid (Nat.le_trans HS1.out hk2.size)
  clear c0 c1 c2 c3 d0 d1 d2 d3 hBb hb2 hk2
  obtain ⟨c0, c1, c2, c3⟩ := en_facts hW2
  have hSl := two_slots (c := c) (c' := c') 43 ((H1.out.keep HB2.out).more HB2.out.size) ((H2.out.keep HB2.out).more HB2.out.size)
  have HSL := Lib.hid hSl
  have HB3 := Lib.hid (HB2.out.alloc HB2.out.size (.cells #[.slice A n c, .slice A' n' c'] 43))
  have HD3 := Lib.hid (HD2.out.same ((Below.refl w2.heap.size w2).alloc (Nat.le_refl _) (.cells #[.slice A n c, .slice A' n' c'] 43)))
  have HS3 := Lib.hid (show w.heap.size + 1 ≤ (w2.alloc (.cells #[.slice A n c, .slice A' n' c'] 43)).heap.size from Nat.le_trans HS2.out ((Below.refl w2.heap.size w2).alloc (Nat.le_refl _) _).size)
  clear hW2 hSl
  go_wp2_with fail
  refine (Concat_any (some ⟨w2.heap.size, 0, none⟩) 2 2 [⟨A, n, c, xs⟩, ⟨A', n', c', ys⟩] _ HSL.out rfl (by decide) (by rw [HJS.out]; have := HAL.out; omega)).mono ?_
  rw [HJS.out, HAL.out]
  rintro e w4 ⟨vR, rfl, hown, hB⟩
  have HB4 := Lib.hid (HB3.out.trans (hB.mono HB3.out.size))
  have HD4 := Lib.hid (HD3.out.same hB)
  have HS4 := Lib.hid (Nat.le_trans HS3.out hB.size)
  have HO4 := Lib.hid hown
  obtain ⟨A4, k4, rfl, hs4⟩ := SeesR.own hown
  clear hown hB hs4 c0 c1 c2 c3
  go_wp2_with fail
  obtain ⟨B, hBB⟩ : ∃ B, B = w.heap.size + 1 := ⟨_, rfl⟩
  obtain ⟨R, hRR⟩ : ∃ R, R = (w2.alloc (.cells #[.slice A n c, .slice A' n' c'] 43)).heap.size := ⟨_, rfl⟩
  rw [← hBB] at HD4 HS4 ⊢
  rw [← hRR] at HO4
  have HBB := Lib.hid hBB
  have HAC := Lib.hid (show ∀ k x, all[k]? = some x → accE f t n all (k + 1) = accE f t n all k ++ (be (ownE x.toRec).length 4 ++ ownE x.toRec) from fun k x h => accE_succ h)
  have hz := HD4.out
  rw [List.nil_append, ← accE_zero f t n all] at hz
  have HZ := Lib.hid hz
  clear hBB hRR hz
  go_loopw [28] (fun i wr => ∃ (k : Nat) (v : Value), k ≤ N ∧ i = .int .i64 (k : Nat) ∧ Upto (fun x : Rrd => okR x.toRec) all k ∧ Bd B wr B v (accE f t n all k) ∧ (accE f t n all k).length ≤ 12 + k * 2269 ∧ wr.ownsRow R 76 5 (.slice A4 N k4) N (rcells all) ∧ Below w.heap.size w wr ∧ B ≤ wr.heap.size) (fun i _ => N - (intOf i).toNat)
  case atStart => exact ⟨0, _, Nat.zero_le _, rfl, Upto.zero _ _, HZ.out, by rw [accE_zero, headE_len]; omega, HO4.out, HB4.out, HS4.out⟩
  case round =>
    obtain ⟨k, v, hk, rfl, hup, hbd, hlen, hO, hB, hBs⟩ := hrel
    have HU := Lib.hid hup
    have HD := Lib.hid hbd
    have HO := Lib.hid hO
    have HB := Lib.hid hB
    have HBs := Lib.hid hBs
    obtain ⟨A5, k5, e5, hs5⟩ := SeesR.own hO
    injection e5 with e51 e52 e53
    subst e51 e53
    have HS5 := Lib.hid hs5
    clear hup hbd hO hB hBs hs5
    by_cases hkN : k < N
    · have g1 : (k : Int) < (N : Int) := by omega
      have g0 : (0 : Int) ≤ (k : Int) := by omega
      obtain ⟨b, off, x, rfl, hb, hxk, hx5⟩ := HS5.out.at hkN
      have HXK := Lib.hid hxk
      obtain ⟨x0, x1, x2, x3, x4⟩ := hx5
      have hx6 := HSM.out x (List.mem_of_getElem? hxk)
      have hHX := Whole.new wr rrT (rrA x.s x.d x.t x.c x.l)
      obtain ⟨d0, d1, d2, d3, d4⟩ := rr_facts hHX
      have HB1' := Lib.hid (HB.out.alloc HB.out.size (.cells #[.string x.s, .int .i64 x.t, .int .i64 x.c, .int .i64 x.l, .string x.d] rrT))
      have HO1' := Lib.hid (HO.out.alloc (.cells #[.string x.s, .int .i64 x.t, .int .i64 x.c, .int .i64 x.l, .string x.d] rrT))
      have HD1' := Lib.hid (HD.out.same ((Below.refl wr.heap.size wr).alloc (Nat.le_refl _) (.cells #[.string x.s, .int .i64 x.t, .int .i64 x.c, .int .i64 x.l, .string x.d] rrT)))
      have HBs1 := Lib.hid (show B ≤ (wr.alloc (.cells #[.string x.s, .int .i64 x.t, .int .i64 x.c, .int .i64 x.l, .string x.d] rrT)).heap.size from Nat.le_trans HBs.out ((Below.refl wr.heap.size wr).alloc (Nat.le_refl _) _).size)
      have hnl : x.toRec.n.length ≤ 600 := by have := hx6.1; rw [rrd_name x, mk_size] at this; exact this
      have hdl : x.toRec.d.length ≤ 2000 := by have := hx6.2; rw [rrd_data x, mk_size] at this; exact this
      clear hHX hxk
      cases hok : okR x.toRec with
      | false =>
        have HN := Lib.hid (show bytesT (entOf f t xs ys) = .tuple #[.string ⟨#[]⟩, .int .i64 2] by unfold bytesT; rw [HOK.out, not_all HXK.out hok]; rfl)
        have HOW := Lib.hid (fun (W : World) => (Own_no x.s x.d x.toRec W (rrd_name x) (rrd_data x) (by omega) (by omega) hok :
          Calls Tryz.prog 63 #[.agg #[.string x.s, .int .i64 x.t, .int .i64 x.c, .int .i64 x.l, .string x.d]] W fun e w' => e = .returned (.tuple #[.string ⟨#[]⟩, .int .i64 2]) ∧ Below W.heap.size W w'))
        clear hok
        go_wp2_with fail
        refine (HOW.out _).mono ?_
        rintro e w5 ⟨rfl, hB5⟩
        have HB5 := Lib.hid (HB1'.out.trans (hB5.mono HB1'.out.size))
        clear hB5
        go_wp2_with fail
        go_ret2
        exact ⟨by rw [HN.out]; rfl, HB5.out⟩
      | true =>
        have hol := own_len hok
        have HOW := Lib.hid (fun (W : World) => (Own_yes x.s x.d x.toRec W (rrd_name x) (rrd_data x) (by omega) hok :
          Calls Tryz.prog 63 #[.agg #[.string x.s, .int .i64 x.t, .int .i64 x.c, .int .i64 x.l, .string x.d]] W fun e w' => e = .returned (.tuple #[.string (mk (ownE x.toRec)), .int .i64 0]) ∧ Below W.heap.size W w'))
        have HU2 := Lib.hid (HU.out.succ HXK.out hok)
        have HAC2 := Lib.hid (HAC.out k x HXK.out)
        have HL2 := Lib.hid (show (accE f t n all (k + 1)).length ≤ 12 + (k + 1) * 2269 by rw [HAC2.out]; simp only [List.length_append, be_length]; omega)
        clear hok
        go_wp2_with fail
        refine (HOW.out _).mono ?_
        rintro e w5 ⟨rfl, hB5⟩
        have HB5 := Lib.hid (HB1'.out.trans (hB5.mono HB1'.out.size))
        have HO5 := Lib.hid (own_below HO1'.out hB5)
        have HD5 := Lib.hid (HD1'.out.same hB5)
        have HBs5 := Lib.hid (Nat.le_trans HBs1.out hB5.size)
        clear hB5 x0 x1 x2 x3 x4 d0 d1 d2 d3 d4
        go_wp2_with fail
        refine (entryPiece_any HD5.out (mk (ownE x.toRec)) (ownE x.toRec) rfl (by omega) (by omega) HBs5.out).mono ?_
        rintro e w6 ⟨rfl, v6, hd6, hk6⟩
        have HO6 := Lib.hid (hk6.rowB HD5.out HO5.out (by decide) (by decide))
        have HB6 := Lib.hid (HB5.out.trans ((HD5.out.below hk6 HBs5.out).mono (by rw [HBB.out]; exact Nat.le_succ _)))
        have HBs6 := Lib.hid (Nat.le_trans HBs5.out hk6.size)
        rw [← HAC2.out] at hd6
        have HD6 := Lib.hid hd6
        clear hd6 hk6
        go_wp2_with fail
        go_roundw
        case rel => exact ⟨k + 1, v6, by omega, by go_num, HU2.out, HD6.out, HL2.out, HO6.out, HB6.out, HBs6.out⟩
        case measure => simp [intOf]; omega
    · obtain rfl : k = N := by omega
      have hu := HU.out
      rw [← HAL.out] at hu
      have HN := Lib.hid (show bytesT (entOf f t xs ys) = .tuple #[.string (mk (accE f t n all k)), .int .i64 0] by unfold bytesT; rw [HOK.out, hu.all, HBY.out]; rfl)
      clear hu
      go_wp2_with fail
      refine (stringB_any HD.out).mono ?_
      rintro e w5 ⟨rfl, hd5, hk5⟩
      have HB5 := Lib.hid (HB.out.trans ((HD.out.below hk5 HBs.out).mono (by rw [HBB.out]; exact Nat.le_succ _)))
      clear hd5 hk5
      go_wp2_with fail
      go_ret2
      exact ⟨by rw [HN.out]; rfl, HB5.out⟩
end Go.Proofs.YtggognnjnfphgaaGreatDoor
