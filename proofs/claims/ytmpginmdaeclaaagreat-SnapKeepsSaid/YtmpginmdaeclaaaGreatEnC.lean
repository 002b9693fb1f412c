/- Parts of the proofs of the statements of image. No statement of the seat is proved here. -/
import Derived.Test.YtmpginmdaeclaaaGreatEnA
import Derived.Test.YtmpginmdaeclaaaGreatEnL
import Derived.Test.YtmpginmdaeclaaaGreatReI
import Derived.Test.YtmpginmdaeclaaaGreatRdB
import Derived.Deep.RegionHeld3
set_option maxHeartbeats 32000000
set_option maxRecDepth 20000
namespace Go.Proofs.YtmpginmdaeclaaaGreat
open Go.RowKit Go.Op
def ofRec (r : Rec) : Rrd := ⟨mk r.n, r.t, r.c, r.l, mk r.d⟩
theorem Own_yes (N D : ByteArray) (r : Rec) (w : World) (hN : N = mk r.n) (hD : D = mk r.d) (hn : r.n.length <= 1073741824) (hok : okR r = true) :
    Calls Tryz.prog 130 #[.agg (rrA N D r.t r.c r.l)] w fun e w' => e = .returned (.tuple #[.string (mk (ownE r)), .int .i64 0]) /\ Below w.heap.size w w' := by
  have HB0 := Ha (show Below w.heap.size w (w.alloc (.cells (rrA N D r.t r.c r.l) rrT)) from (Below.refl _ _).alloc (Nat.le_refl _) _)
  have HW0 := Ha (Whole.new w rrT (rrA N D r.t r.c r.l))
  obtain ⟨c0, c1, c2, c3, c4⟩ := rr_facts HW0.out
  have HN := Ha hN
  have HD := Ha hD
  have HOK := Ha hok
  have HOW := Ha (show ownE r = (writeW r ([], noneK)).1 from rfl)
  clear hN hD hok
  unfold rrA at *
  go_enter Tryz.func130, Tryz.ntmps130
  go_wp2_with fail
  refine (New_any _).mono ?_
  rintro e w2 ⟨b, m, rfl, hp, hB2⟩
  have HP := Ha hp
  have HB2 := thB HB0 hB2
  have HW2 := HW0.out.below hB2 HW0.out.lt
  have HS2 := Ha hB2.size
  clear c0 c1 c2 c3 c4 hp hB2
  obtain ⟨c0, c1, c2, c3, c4⟩ := rr_facts HW2
  clear HW2
  go_wp2_with fail
  refine (RWrite_yes HP.out N D r HN.out HD.out hn HOK.out (by simp) HS2.out InvK.none).mono ?_
  rintro e w3 ⟨rfl, v', hp3, hk3⟩
  have HP3 := Ha hp3
  have HB3 := Ha (HB2.out.trans ((hk3.below HP.out HS2.out).mono (Nat.le_trans HB0.out.size (Nat.le_refl _))))
  have HS3 := Ha (Nat.le_trans HS2.out hk3.size)
  clear hp3 hk3 c0 c1 c2 c3 c4
  go_wp2_with fail
  refine (Bytes_any HP3.out).mono ?_
  rintro e w4 ⟨rfl, hp4, hk4⟩
  have HB4 := Ha (HB3.out.trans ((hk4.below HP3.out HS3.out).mono HB0.out.size))
  clear hp4 hk4
  go_wp2_with fail
  go_ret2
  exact ⟨by rw [HOW.out]; rfl, HB4.out⟩
def CapA (base : Nat) (A : Option Addr) (n c : Nat) : Prop := InCap A n c /\ ((A = none /\ c = 0) \/ ∃ g, A = some ⟨g, 0, none⟩ /\ base <= g)
theorem CapA.less {b b' : Nat} {A : Option Addr} {n c : Nat} (h : CapA b A n c) (hb : b' <= b) : CapA b' A n c := ⟨h.1, h.2.imp id fun ⟨g, e, hg⟩ => ⟨g, e, Nat.le_trans hb hg⟩⟩
theorem own_cap {w : World} {base : Nat} {v : Value} {n : Nat} {xs : List Rrd} (h : w.ownsRow base 27 5 v n (rcells xs)) : ∃ A c, v = .slice A n c /\ SeesR w w.heap.size A n xs /\ CapA base A n c := by
  obtain ⟨A, c, rfl, hs⟩ := SeesR.own h
  refine ⟨A, c, rfl, hs, ?_⟩
  rcases h.2 with ⟨e, h0⟩ | ⟨g, cap, cur, e, hb, hg, h1, h2, h3⟩
  · injection e with e1 e2 e3
    subst e1 e2 e3
    exact ⟨⟨Nat.le_refl _, by omega, fun _ => rfl, fun _ h => by cases h⟩, .inl ⟨rfl, rfl⟩⟩
  · injection e with e1 e2 e3
    subst e1 e3
    exact ⟨⟨h1, (by unfold maxLen at h2; omega), (fun h => by cases h), fun ad h _ => by injection h with h; subst h; rfl⟩, .inr ⟨g, rfl, hb⟩⟩
theorem one_two (w3 : World) (C : Obj) (r : Rec) : SeesR ((w3.alloc C).alloc (.cells #[.string (mk r.n), .int .i64 r.t, .int .i64 r.c, .int .i64 r.l, .string (mk r.d)] rrT)) (w3.heap.size + 1 + 1) (some ⟨w3.heap.size + 1, 0, none⟩) 1 [ofRec r] := by
  have h := SeesR.one (w3.alloc C) (ofRec r)
  rw [World.size_alloc] at h
  exact h
theorem RRead_zero (S : ByteArray) (M : List UInt8) (w : World) (hS : S = mk M) (hM : M.length <= 800000) :
    Calls Tryz.prog 142 #[.string S, .int .i64 0] w fun e w' => e = .returned (recV (recR M 0)) /\ Below w.heap.size w w' := RRead_any S M 0 w hS hM (Nat.zero_le _)
theorem one_is {M : List UInt8} {r : Rec} {x : Nat} (h : recR M 0 = some (r, x)) : oneE M = if x = M.length then some r else none := by unfold oneE; rw [h]
theorem one_none {M : List UInt8} (h : recR M 0 = none) : oneE M = none := by unfold oneE; rw [h]
def RecsLeaves (S : ByteArray) (z : Value) (w : World) (e : Ending) (w' : World) : Prop :=
  ∃ A n c, e = .returned (.tuple #[.slice A n c, z]) /\ SeesR w' w'.heap.size A n (((recsE S).getD []).map ofRec) /\ CapA w.heap.size A n c /\ Below w.heap.size w w'
theorem recs_nil {S : ByteArray} {z : Value} {w w' : World} (h : recsE S = none) (hB : Below w.heap.size w w') : RecsLeaves S z w (.returned (.tuple #[.slice none 0 0, z])) w' := by
  refine ⟨none, 0, 0, rfl, ?_, ⟨⟨Nat.le_refl _, by omega, fun _ => rfl, fun _ h => by cases h⟩, .inl ⟨rfl, rfl⟩⟩, hB⟩
  rw [h]
  exact ⟨rfl, fun h => absurd h (by omega)⟩
def RecsAt (ps : List ByteArray) (w : World) (k : Nat) (v : Value) (wr : World) : Prop :=
  ∃ acc : List Rec, acc.length = k /\ Recs ps acc k /\ wr.ownsRow w.heap.size 27 5 v k (rcells (acc.map ofRec)) /\ Below w.heap.size w wr
def errE (o : Option (List Rec)) : Value := .int .i64 (if o.isSome then 0 else 2)
theorem Records_any (S : ByteArray) (w : World) (hS : S.size <= 800000) : Calls Tryz.prog 107 #[.string S] w (RecsLeaves S (errE (recsE S)) w) := by
  obtain ⟨ps, z, hps⟩ : ∃ ps z, piecesR S 4 = (ps, z) := ⟨_, _, rfl⟩
  have hlen := piecesR_len S 4
  have hsz := piecesR_size S 4
  rw [hps] at hlen hsz
  simp only at hlen hsz
  have HPS := Ha hps
  have HSZ := Ha hsz
  clear hps hsz
  by_cases hz : z = 0
  · subst hz
    have HRE := Ha (show recsE S = recsP ps by unfold recsE; rw [HPS.out]; rfl)
    go_enter Tryz.func107, Tryz.ntmps107
    go_wp2_with fail
    refine (Pieces_any S 4 _ (by omega)).mono ?_
    unfold PiecesLeaves; rw [HPS.out]
    rintro e w1 ⟨A1, c1, rfl, hsee, hB1⟩; have HSE := Ha hsee
    have HB1 := Ha hB1
    clear hsee hB1; go_wp2_with fail
    go_loopw [6, 22] (fun v i wr => ∃ k : Nat, k <= ps.length /\ i = .int .i64 (k : Nat) /\ RecsAt ps w1 k v wr) (fun _ i _ => ps.length - (intOf i).toNat)
    case atStart => exact ⟨0, Nat.zero_le _, rfl, ⟨[], rfl, Recs.start ps, own_nil _ _ _ _, Below.refl _ _⟩⟩
    case round =>
      obtain ⟨k, hk, rfl, ⟨acc, hacc, hre, hO, hB2⟩⟩ := hrel
      have HO := Ha hO
      have HB := thB HB1 hB2
      have HB2 := Ha hB2
      have HR := Ha hre
      have HA := Ha hacc
      obtain ⟨A, c, rfl, hs0, hcap⟩ := own_cap hO
      have HS0 := Ha hs0
      have HCAP := Ha hcap
      clear hO hB2 hre hs0 hcap hacc
      by_cases hkn : k < ps.length
      · have g1 : (k : Int) < (ps.length : Int) := by omega
        obtain ⟨b, off, rfl, hb, hc⟩ := texts_at (HSE.out.below HB2.out) hkn
        obtain ⟨P, hP⟩ : ∃ P, P = ps[k] := ⟨_, rfl⟩
        have hg : ps.getD k ByteArray.empty = P := by rw [hP]; simp [List.getD, hkn]
        have hpk : ps[k]? = some P := by rw [hP]; exact List.getElem?_eq_getElem hkn
        rw [hg] at hc
        obtain ⟨M, hM⟩ : ∃ M, M = P.data.toList := ⟨_, rfl⟩
        have hPM : P = mk M := by rw [hM]; exact (mk_toList P).symm
        have hPz : P.size = M.length := by rw [hPM, mk_size]
        have hMl : M.length <= 800000 := by have := HSZ.out P (List.mem_of_getElem? hpk); omega
        have HPK := Ha hpk
        have HM := Ha hM
        have HPM := Ha hPM
        clear hg hpk hP hM hPM
        cases hr : recR M 0 with
        | none =>
          have HN := Ha (show recsE S = none by rw [HRE.out]; exact HR.out.fails HPK.out (by rw [<-HM.out]; exact one_none hr))
          have HRR := Ha hr
          clear hr; go_wp2_with fail
          refine (RRead_zero P M _ HPM.out hMl).mono ?_
          rw [HRR.out]
          unfold recV; rintro e w3 ⟨rfl, hB3⟩; have HB3 := thB HB hB3
          have HB4 := Ha (HB3.out.alloc HB3.out.size (.cells #[.string ⟨#[]⟩, .int .i64 0, .int .i64 0, .int .i64 0, .string ⟨#[]⟩] rrT))
          clear hB3; go_wp2_with fail
          go_ret2
          exact (show errE (recsE S) = .int .i64 2 by unfold errE; rw [HN.out]; rfl) ▸ recs_nil HN.out HB4.out
        | some q =>
          obtain ⟨r, x⟩ := q
          have HRR := Ha hr
          have HX5 := fun (W : World) => Whole.new W rrT #[.string (mk r.n), .int .i64 r.t, .int .i64 r.c, .int .i64 r.l, .string (mk r.d)]
          by_cases hx : x = M.length
          · have HOE := Ha (show oneE M = some r by rw [one_is hr, if_pos hx])
            have gx : ((x : Int) != (P.size : Int)) = false := by rw [bne_eq_false_iff_eq]; omega
            clear hr hx hPz; go_wp2_with fail
            refine (RRead_zero P M _ HPM.out hMl).mono ?_
            rw [HRR.out]
            unfold recV; rintro e w3 ⟨rfl, hB3⟩; have HB3 := thB HB hB3
            have HO4 := Ha ((own_below HO.out hB3).alloc (.cells #[.string (mk r.n), .int .i64 r.t, .int .i64 r.c, .int .i64 r.l, .string (mk r.d)] rrT))
            have HB24 := Ha ((HB2.out.trans (hB3.mono HB2.out.size)).alloc (Nat.le_trans HB2.out.size hB3.size) (.cells #[.string (mk r.n), .int .i64 r.t, .int .i64 r.c, .int .i64 r.l, .string (mk r.d)] rrT))
            have hw4 := Whole.new w3 rrT (rrA (mk r.n) (mk r.d) r.t r.c r.l)
            obtain ⟨d0, d1, d2, d3, d4⟩ := rr_facts hw4
            clear hB3 hw4; have HLE := Ha (show k + 1 <= 1073741824 by omega)
            have HST := Ha (HR.out.step HPK.out (by rw [<-HM.out]; exact HOE.out))
            have HO5 := Ha (HO4.out.alloc (.cells #[.string (mk r.n), .int .i64 r.t, .int .i64 r.c, .int .i64 r.l, .string (mk r.d)] rrT))
            have HB25 := Ha (HB24.out.alloc HB24.out.size (.cells #[.string (mk r.n), .int .i64 r.t, .int .i64 r.c, .int .i64 r.l, .string (mk r.d)] rrT))
            have HA5 := Ha HB25.out.size
            go_wp2_with (at_builtin; (refine wpList_append_R rfl _ _ rfl w1.heap.size _ _ (acc.map ofRec) rfl HO5.out (w3.heap.size + 1 + 1) _ _ _ _ rfl (one_two w3 _ r) HLE.out HA5.out ?_); intro v6 w6 ho hg)
            have HO6 := Ha (show w6.ownsRow w1.heap.size 27 5 v6 (k + 1) (rcells ((acc ++ [r]).map ofRec)) by rw [List.map_append]; exact ho)
            have HB26 := Ha (HB25.out.grown hg HA5.out (own_block_ge HO5.out))
            clear ho hg; go_wp2_with fail
            go_roundw
            case rel => exact ⟨k + 1, by omega, by go_num, ⟨acc ++ [r], by rw [List.length_append, HA.out]; rfl, HST.out, HO6.out, HB26.out⟩⟩
            case measure => simp [intOf]; omega
          · have HN := Ha (show recsE S = none by rw [HRE.out]; exact HR.out.fails HPK.out (by rw [<-HM.out, one_is hr, if_neg hx]))
            have gx : ((x : Int) != (P.size : Int)) = true := by rw [bne_iff_ne]; omega
            clear hr hx hPz; go_wp2_with fail
            refine (RRead_zero P M _ HPM.out hMl).mono ?_
            rw [HRR.out]
            unfold recV; rintro e w3 ⟨rfl, hB3⟩; have HB3 := thB HB hB3
            have HB4 := Ha (HB3.out.alloc HB3.out.size (.cells #[.string (mk r.n), .int .i64 r.t, .int .i64 r.c, .int .i64 r.l, .string (mk r.d)] rrT))
            clear hB3; go_wp2_with fail
            go_ret2
            exact (show errE (recsE S) = .int .i64 2 by unfold errE; rw [HN.out]; rfl) ▸ recs_nil HN.out HB4.out
      · obtain rfl : k = ps.length := by omega
        have HN := Ha (show recsE S = some acc by rw [HRE.out]; exact HR.out.ends)
        go_wp2_with fail
        go_ret2
        exact ⟨A, ps.length, c, by unfold errE; rw [HN.out]; rfl, by rw [HN.out]; exact HS0.out, HCAP.out.less HB1.out.size, HB.out⟩
  · have HN := Ha (show recsE S = none by unfold recsE; rw [HPS.out]; simp only; rw [if_neg hz])
    have hz2 : ps = [] /\ z = 2 := by
      rcases pieces_code S with h | h
      · rw [HPS.out] at h; exact absurd h hz
      · rw [HPS.out] at h; simpa using h
    obtain ⟨rfl, rfl⟩ := hz2
    go_enter Tryz.func107, Tryz.ntmps107
    go_wp2_with fail
    refine (Pieces_any S 4 _ (by omega)).mono ?_
    unfold PiecesLeaves; rw [HPS.out]
    rintro e w1 ⟨A1, c1, rfl, hsee, hB1⟩; have HB1 := Ha hB1
    clear hsee hB1 hz; go_wp2_with fail
    go_ret2
    exact (show errE (recsE S) = .int .i64 2 by unfold errE; rw [HN.out]; rfl) ▸ recs_nil HN.out HB1.out
end Go.Proofs.YtmpginmdaeclaaaGreat
namespace Go.Proofs.YtmpginmdaeclaaaGreat
open Go.RowKit Go.Op
theorem Kp.rowB {B b : Nat} {w w' : World} {v v' : Value} {l : List UInt8} {base e size n : Nat} {x : Value} {xs : List Value} (hk : Kp b b v v' w w') (hp : Bd B w b v l) (ho : w.ownsRow base e size x n xs) (h1 : e ≠ bdT) (h2 : e ≠ 5) : w'.ownsRow base e size x n xs := by
  refine ⟨ho.1, ?_⟩
  rcases ho.2 with h3 | ⟨g, cap, cur, hx, hg, hh, r⟩
  · exact .inl h3
  · refine .inr ⟨g, cap, cur, hx, hg, ?_, r⟩
    have hgb : g ≠ b := by
      rintro rfl; obtain ⟨p, _, hb⟩ := hp.blk
      rw [hh] at hb
      injection hb with hb
      injection hb with _ hb _
      exact absurd hb h1
    exact (hk.block g (Array.getElem?_eq_some_iff.1 hh).1 hgb hgb (Lib.ownBlock_neF hp.row hh h2)).trans hh
section
variable {B b : Nat} {w w' : World} {v v' : Value} {l : List UInt8}
end
end Go.Proofs.YtmpginmdaeclaaaGreat
