/- Parts of the proofs of the statements of image. No statement of the seat is proved here. -/
import Derived.Test.YtmpginmdaeclaaaGreatDoorRrE
import Derived.Test.YtmpginmdaeclaaaGreatDoorNaI
import Derived.Test.YtmpginmdaeclaaaGreatDoorOcJ
import Derived.Lib.SmallJoins
import Derived.Deep.Fields
import Derived.Deep.AppendSrc
import Derived.Deep.RegionHeld3
import Derived.Lib.SliceRun
import Derived.Test.YtmpginmdaeclaaaGreatDoorReM
import Derived.Test.YtmpginmdaeclaaaGreatDoorEnA
import Derived.Test.YtmpginmdaeclaaaGreatDoorReI
import Derived.Test.YtmpginmdaeclaaaGreatDoorRdB
set_option maxHeartbeats 32000000
set_option maxRecDepth 20000
namespace Go.Proofs.YtmpginmdaeclaaaGreatDoor
open Go.RowKit Go.Op
section
variable {P : Program} {ops : Array Oper} {Q : Exit -> Act -> World -> Prop} {md : Region.Mode} {S : World -> Prop}
end
end Go.Proofs.YtmpginmdaeclaaaGreatDoor
namespace Go.Proofs.YtmpginmdaeclaaaGreatDoor
open Go.Op
def rowE : List (List UInt8) -> List UInt8
  | [] => []
  | x :: xs => be x.length 4 ++ x ++ rowE xs
theorem rowE_append : ∀ xs ys : List (List UInt8), rowE (xs ++ ys) = rowE xs ++ rowE ys := by
  intro xs ys
  induction xs with
  | nil => rfl
  | cons x xs ih => rw [List.cons_append, rowE, rowE, ih]; simp [List.append_assoc]
theorem rowE_len (b : Nat) : ∀ xs : List (List UInt8), (∀ x ∈ xs, x.length <= b) -> (rowE xs).length <= xs.length * (4 + b) := by
  intro xs
  induction xs with
  | nil => intro _; simp [rowE]
  | cons x xs ih =>
    intro h
    have h1 := ih fun y hy => h y (by simp [hy])
    have h2 := h x (by simp)
    rw [rowE, List.length_append, List.length_append, be_length, List.length_cons, Nat.add_mul]
    omega
theorem piece_rowE (x : List UInt8) (hx : x.length < 4294967296) : pieceR (mk x) 4 = (mk (be x.length 4 ++ x), 0) := by
  have hf : fitB x.length 4 = true := by simp [fitB]; omega
  have e4 : ((4 : Int)).toNat = 4 := rfl
  rw [pieceR, if_pos (by decide), mk_size, e4, if_pos hf, <-mk_append]
  rfl
theorem cut_rowE (x r : List UInt8) (hx : x.length < 4294967296) : cutR (mk (be x.length 4 ++ x ++ r)) 4 = (mk x, mk r, 0) := by
  have hlt : x.length < 256 ^ 4 := by omega
  have hbl := be_length x.length 4
  have e4 : ((4 : Int)).toNat = 4 := rfl
  have e1 : (be x.length 4 ++ x ++ r).take 4 = be x.length 4 := by rw [List.append_assoc, List.take_left' hbl]
  have e2 : (be x.length 4 ++ x ++ r).drop 4 = x ++ r := by rw [List.append_assoc, List.drop_left' hbl]
  have hlen : (be x.length 4 ++ x ++ r).length = 4 + x.length + r.length := by simp [hbl]; omega
  have hn : numOf ((mk (be x.length 4 ++ x ++ r)).extract 0 4) = x.length := by rw [mk_extract, mk_num, List.drop_zero, e1, num_be_eq _ _ hlt]
  rw [cutR, if_pos (by decide), e4, hn, mk_size, hlen, if_neg (by omega), mk_extract, mk_extract, mk_extract]
  have h1 : (be x.length 4 ++ x ++ r).take (4 + x.length + r.length) = be x.length 4 ++ x ++ r := List.take_of_length_le (by omega)
  rw [h1, e2, List.drop_zero, List.take_left' rfl]
  have h2 : (x ++ r).take (4 + x.length + r.length - 4) = x ++ r := List.take_of_length_le (by simp; omega)
  rw [h2, List.drop_left' rfl]
theorem rowE_pieces : ∀ (xs : List (List UInt8)) (f : Nat), (∀ x ∈ xs, x.length < 4294967296) -> (rowE xs).length < f -> piecesF f (mk (rowE xs)) 4 = some (xs.map mk) := by
  intro xs
  induction xs with
  | nil =>
    intro f _ hf
    cases f with
    | zero => omega
    | succ f => rfl
  | cons x xs ih =>
    intro f h hf
    cases f with
    | zero => omega
    | succ f =>
      have hx := h x (by simp)
      have hbl := be_length x.length 4
      have hlen : (rowE (x :: xs)).length = 4 + x.length + (rowE xs).length := by rw [rowE]; simp [hbl]; omega
      rw [piecesF, mk_size, hlen, if_neg (by omega), rowE, cut_rowE x _ hx]
      simp only [if_true]
      rw [ih f (fun y hy => h y (by simp [hy])) (by omega)]
      rfl
theorem rowE_piecesR (xs : List (List UInt8)) (h : ∀ x ∈ xs, x.length < 4294967296) : piecesR (mk (rowE xs)) 4 = (xs.map mk, 0) :=
  piecesR_some (by decide) (rowE_pieces xs _ h (by rw [mk_size]; omega))
theorem cutR_size (s : ByteArray) (n : Int) : (cutR s n).1.size <= s.size /\ (cutR s n).2.1.size <= s.size := by
  unfold cutR
  split
  · split
    · exact ⟨Nat.zero_le _, Nat.zero_le _⟩
    · simp; omega
  · exact ⟨Nat.zero_le _, Nat.zero_le _⟩
theorem piecesF_size (n : Int) : ∀ (f : Nat) (s : ByteArray) (l : List ByteArray), piecesF f s n = some l -> ∀ p ∈ l, p.size <= s.size := by
  intro f
  induction f with
  | zero => intro s l h; simp [piecesF] at h; subst h; intro p hp; cases hp
  | succ f ih =>
    intro s l h
    rw [piecesF] at h
    split at h
    · injection h with h; subst h; intro p hp; cases hp
    · split at h
      · cases hr : piecesF f (cutR s n).2.1 n with
        | none => rw [hr] at h; cases h
        | some l' =>
          rw [hr] at h
          simp only [Option.map_some, Option.some.injEq] at h
          subst h
          intro p hp
          obtain ⟨h1, h2⟩ := cutR_size s n
          rcases List.mem_cons.1 hp with rfl | hp
          · exact h1
          · exact Nat.le_trans (ih _ l' hr p hp) h2
      · cases h
theorem piecesR_size (s : ByteArray) (n : Int) : ∀ p ∈ (piecesR s n).1, p.size <= s.size := by
  unfold piecesR
  split
  · cases hr : piecesF (s.size + 1) s n with
    | none => intro p hp; cases hp
    | some l => exact piecesF_size n _ s l hr
  · intro p hp; cases hp
theorem pieces_code (s : ByteArray) : (piecesR s 4).2 = 0 \/ piecesR s 4 = ([], 2) := by
  unfold piecesR
  rw [if_pos (by decide)]
  cases piecesF (s.size + 1) s 4 with
  | none => exact .inr rfl
  | some l => exact .inl rfl
def oneE (M : List UInt8) : Option Rec := match recR M 0 with | some (r, x) => if x = M.length then some r else none | none => none
def recsP : List ByteArray -> Option (List Rec)
  | [] => some []
  | b :: l => match oneE b.data.toList with | some r => (recsP l).map (r :: ·) | none => none
def recsE (s : ByteArray) : Option (List Rec) := if (piecesR s 4).2 = 0 then recsP (piecesR s 4).1 else none
def Recs (ps : List ByteArray) (acc : List Rec) (k : Nat) : Prop := recsP ps = (recsP (ps.drop k)).map (acc ++ ·)
theorem Recs.start (ps : List ByteArray) : Recs ps [] 0 := by unfold Recs; cases h : recsP ps <;> simp [h]
theorem Recs.step {ps : List ByteArray} {acc : List Rec} {k : Nat} {p : ByteArray} {r : Rec} (h : Recs ps acc k) (hp : ps[k]? = some p) (ho : oneE p.data.toList = some r) : Recs ps (acc ++ [r]) (k + 1) := by
  have hk : k < ps.length := (List.getElem?_eq_some_iff.1 hp).1
  have e : ps[k] = p := (List.getElem?_eq_some_iff.1 hp).2
  unfold Recs at h ⊢
  rw [h, List.drop_eq_getElem_cons hk, e, recsP, ho]
  cases recsP (ps.drop (k + 1)) <;> simp
theorem Recs.fails {ps : List ByteArray} {acc : List Rec} {k : Nat} {p : ByteArray} (h : Recs ps acc k) (hp : ps[k]? = some p) (ho : oneE p.data.toList = none) : recsP ps = none := by
  have hk : k < ps.length := (List.getElem?_eq_some_iff.1 hp).1
  have e : ps[k] = p := (List.getElem?_eq_some_iff.1 hp).2
  unfold Recs at h
  rw [h, List.drop_eq_getElem_cons hk, e, recsP, ho]
  rfl
theorem Recs.ends {ps : List ByteArray} {acc : List Rec} (h : Recs ps acc ps.length) : recsP ps = some acc := by
  unfold Recs at h
  rw [h, List.drop_length, recsP]
  simp
def u32 (n : Int) : Prop := 0 <= n /\ n < 4294967296
def ownE (r : Rec) : List UInt8 := (writeW r ([], noneK)).1
theorem own_len {r : Rec} (h : okR r = true) : 11 <= (ownE r).length /\ (ownE r).length <= 265 + r.d.length := by
  obtain ⟨_, z, hz, hl⟩ := write_inv2 h (st := ([], noneK)) InvK.none
  obtain ⟨z2, K', e1, e2, e3⟩ := write_is r ([], noneK)
  obtain ⟨_, ⟨z3, hz3, hz4, _⟩, _⟩ := top_inv h (st := ([], noneK)) InvK.none
  have h1 : (ownE r).length = ((topW r ([], noneK)).1 ++ be z2.length 2 ++ z2).length := by unfold ownE; rw [e3]
  have h2 : (topW r ([], noneK)).1 = (nameW r.n ([], noneK)).1 ++ headB r.t r.c r.l := rfl
  have h4 : (ownE r).length = z.length := by unfold ownE; rw [hz]; simp
  rw [h2, hz3] at h1
  simp only [List.length_append, headB_len, be_length, List.length_nil] at h1
  omega
theorem one_own {r : Rec} (h : okR r = true) : oneE (ownE r) = some r := by
  have := back_rec h (st := ([], noneK)) InvK.none []
  rw [List.append_nil] at this
  unfold oneE ownE
  rw [show (0 : Nat) = (([], noneK) : WSt).1.length from rfl, this]
  simp
theorem recs_own : ∀ (l : List Rec), l.all okR = true -> recsP ((l.map ownE).map mk) = some l := by
  intro l
  induction l with
  | nil => intro _; rfl
  | cons r l ih =>
    intro h
    rw [List.all_cons, Bool.and_eq_true] at h
    have e : (mk (ownE r)).data.toList = ownE r := by simp [mk]
    rw [List.map_cons, List.map_cons, recsP, e, one_own h.1, ih h.2]
    rfl
theorem own_lt {l : List Rec} (h : l.all okR = true) (hd : ∀ r ∈ l, r.d.length <= 65535) : ∀ x ∈ l.map ownE, x.length < 4294967296 := by
  intro x hx
  obtain ⟨r, hr, rfl⟩ := List.mem_map.1 hx
  have := own_len (List.all_eq_true.1 h r hr)
  have := hd r hr
  omega
theorem ok_data {r : Rec} (h : okR r = true) : r.d.length <= 65535 := (right_is (ok_parts h).2.2.2.2).1
end Go.Proofs.YtmpginmdaeclaaaGreatDoor
set_option maxHeartbeats 32000000
set_option maxRecDepth 20000
namespace Go.Proofs.YtmpginmdaeclaaaGreatDoor
open Go.RowKit Go.Op
def ofRec (r : Rec) : Rrd := ⟨mk r.n, r.t, r.c, r.l, mk r.d⟩
theorem Own_yes (N D : ByteArray) (r : Rec) (w : World) (hN : N = mk r.n) (hD : D = mk r.d) (hn : r.n.length <= 1073741824) (hok : okR r = true) :
    Calls Tryz.prog 150 #[.agg (rrA N D r.t r.c r.l)] w fun e w' => e = .returned (.tuple #[.string (mk (ownE r)), .int .i64 0]) /\ Below w.heap.size w w' := by
  have HB0 := Ha (show Below w.heap.size w (w.alloc (.cells (rrA N D r.t r.c r.l) rrT)) from (Below.refl _ _).alloc (Nat.le_refl _) _)
  have HW0 := Ha (Whole.new w rrT (rrA N D r.t r.c r.l))
  obtain ⟨c0, c1, c2, c3, c4⟩ := rr_facts HW0.out
  have HN := Ha hN
  have HD := Ha hD
  have HOK := Ha hok
  have HOW := Ha (show ownE r = (writeW r ([], noneK)).1 from rfl)
  clear hN hD hok
  unfold rrA at *
  go_enter Tryz.func150, Tryz.ntmps150
  go_wp2_with fail
  refine (New_any _).mono ?_
  rintro e w2 ⟨b, m, rfl, hp, hB2⟩
  have HP := Ha hp
  have HB2 := thB HB0 hB2
  have HW2 := HW0.out.below hB2 HW0.out.lt
  have HS2 := Ha hB2.size
  clear c0 c1 c2 c3 c4 hp hB2
  obtain ⟨c0, c1, c2, c3, c4⟩ := rr_facts HW2
  clear HW2
  go_wp2_with fail
  refine (RWrite_yes HP.out N D r HN.out HD.out hn HOK.out (by simp) HS2.out InvK.none).mono ?_
  rintro e w3 ⟨rfl, v', hp3, hk3⟩
  have HP3 := Ha hp3
  have HB3 := Ha (HB2.out.trans ((hk3.below HP.out HS2.out).mono (Nat.le_trans HB0.out.size (Nat.le_refl _))))
  have HS3 := Ha (Nat.le_trans HS2.out hk3.size)
  clear hp3 hk3 c0 c1 c2 c3 c4
  go_wp2_with fail
  refine (Bytes_any HP3.out).mono ?_
  rintro e w4 ⟨rfl, hp4, hk4⟩
  have HB4 := Ha (HB3.out.trans ((hk4.below HP3.out HS3.out).mono HB0.out.size))
  clear hp4 hk4
  go_wp2_with fail
  go_ret2
  exact ⟨by rw [HOW.out]; rfl, HB4.out⟩
def CapA (base : Nat) (A : Option Addr) (n c : Nat) : Prop := InCap A n c /\ ((A = none /\ c = 0) \/ ∃ g, A = some ⟨g, 0, none⟩ /\ base <= g)
theorem CapA.less {b b' : Nat} {A : Option Addr} {n c : Nat} (h : CapA b A n c) (hb : b' <= b) : CapA b' A n c := ⟨h.1, h.2.imp id fun ⟨g, e, hg⟩ => ⟨g, e, Nat.le_trans hb hg⟩⟩
theorem own_cap {w : World} {base : Nat} {v : Value} {n : Nat} {xs : List Rrd} (h : w.ownsRow base 46 5 v n (rcells xs)) : ∃ A c, v = .slice A n c /\ SeesR w w.heap.size A n xs /\ CapA base A n c := by
  obtain ⟨A, c, rfl, hs⟩ := SeesR.own h
  refine ⟨A, c, rfl, hs, ?_⟩
  rcases h.2 with ⟨e, h0⟩ | ⟨g, cap, cur, e, hb, hg, h1, h2, h3⟩
  · injection e with e1 e2 e3
    subst e1 e2 e3
    exact ⟨⟨Nat.le_refl _, by omega, fun _ => rfl, fun _ h => by cases h⟩, .inl ⟨rfl, rfl⟩⟩
  · injection e with e1 e2 e3
    subst e1 e3
    exact ⟨⟨h1, (by unfold maxLen at h2; omega), (fun h => by cases h), fun ad h _ => by injection h with h; subst h; rfl⟩, .inr ⟨g, rfl, hb⟩⟩
theorem one_two (w3 : World) (C : Obj) (r : Rec) : SeesR ((w3.alloc C).alloc (.cells #[.string (mk r.n), .int .i64 r.t, .int .i64 r.c, .int .i64 r.l, .string (mk r.d)] rrT)) (w3.heap.size + 1 + 1) (some ⟨w3.heap.size + 1, 0, none⟩) 1 [ofRec r] := by
  have h := SeesR.one (w3.alloc C) (ofRec r)
  rw [World.size_alloc] at h
  exact h
theorem RRead_zero (S : ByteArray) (M : List UInt8) (w : World) (hS : S = mk M) (hM : M.length <= 800000) :
    Calls Tryz.prog 166 #[.string S, .int .i64 0] w fun e w' => e = .returned (recV (recR M 0)) /\ Below w.heap.size w w' := RRead_any S M 0 w hS hM (Nat.zero_le _)
theorem one_is {M : List UInt8} {r : Rec} {x : Nat} (h : recR M 0 = some (r, x)) : oneE M = if x = M.length then some r else none := by unfold oneE; rw [h]
theorem one_none {M : List UInt8} (h : recR M 0 = none) : oneE M = none := by unfold oneE; rw [h]
def RecsLeaves (S : ByteArray) (z : Value) (w : World) (e : Ending) (w' : World) : Prop :=
  ∃ A n c, e = .returned (.tuple #[.slice A n c, z]) /\ SeesR w' w'.heap.size A n (((recsE S).getD []).map ofRec) /\ CapA w.heap.size A n c /\ Below w.heap.size w w'
theorem recs_nil {S : ByteArray} {z : Value} {w w' : World} (h : recsE S = none) (hB : Below w.heap.size w w') : RecsLeaves S z w (.returned (.tuple #[.slice none 0 0, z])) w' := by
  refine ⟨none, 0, 0, rfl, ?_, ⟨⟨Nat.le_refl _, by omega, fun _ => rfl, fun _ h => by cases h⟩, .inl ⟨rfl, rfl⟩⟩, hB⟩
  rw [h]
  exact ⟨rfl, fun h => absurd h (by omega)⟩
def RecsAt (ps : List ByteArray) (w : World) (k : Nat) (v : Value) (wr : World) : Prop :=
  ∃ acc : List Rec, acc.length = k /\ Recs ps acc k /\ wr.ownsRow w.heap.size 46 5 v k (rcells (acc.map ofRec)) /\ Below w.heap.size w wr
def errE (o : Option (List Rec)) : Value := .int .i64 (if o.isSome then 0 else 2)
theorem Records_any (S : ByteArray) (w : World) (hS : S.size <= 800000) : Calls Tryz.prog 113 #[.string S] w (RecsLeaves S (errE (recsE S)) w) := by
  obtain ⟨ps, z, hps⟩ : ∃ ps z, piecesR S 4 = (ps, z) := ⟨_, _, rfl⟩
  have hlen := piecesR_len S 4
  have hsz := piecesR_size S 4
  rw [hps] at hlen hsz
  simp only at hlen hsz
  have HPS := Ha hps
  have HSZ := Ha hsz
  clear hps hsz
  by_cases hz : z = 0
  · subst hz
    have HRE := Ha (show recsE S = recsP ps by unfold recsE; rw [HPS.out]; rfl)
    go_enter Tryz.func113, Tryz.ntmps113
    go_wp2_with fail
    refine (Pieces_any S 4 _ (by omega)).mono ?_
    unfold PiecesLeaves; rw [HPS.out]
    rintro e w1 ⟨A1, c1, rfl, hsee, hB1⟩; have HSE := Ha hsee
    have HB1 := Ha hB1
    clear hsee hB1; go_wp2_with fail
    go_loopw [6, 22] (fun v i wr => ∃ k : Nat, k <= ps.length /\ i = .int .i64 (k : Nat) /\ RecsAt ps w1 k v wr) (fun _ i _ => ps.length - (intOf i).toNat)
    case atStart => exact ⟨0, Nat.zero_le _, rfl, ⟨[], rfl, Recs.start ps, own_nil _ _ _ _, Below.refl _ _⟩⟩
    case round =>
      obtain ⟨k, hk, rfl, ⟨acc, hacc, hre, hO, hB2⟩⟩ := hrel
      have HO := Ha hO
      have HB := thB HB1 hB2
      have HB2 := Ha hB2
      have HR := Ha hre
      have HA := Ha hacc
      obtain ⟨A, c, rfl, hs0, hcap⟩ := own_cap hO
      have HS0 := Ha hs0
      have HCAP := Ha hcap
      clear hO hB2 hre hs0 hcap hacc
      by_cases hkn : k < ps.length
      · have g1 : (k : Int) < (ps.length : Int) := by omega
        obtain ⟨b, off, rfl, hb, hc⟩ := texts_at (HSE.out.below HB2.out) hkn
        obtain ⟨P, hP⟩ : ∃ P, P = ps[k] := ⟨_, rfl⟩
        have hg : ps.getD k ByteArray.empty = P := by rw [hP]; simp [List.getD, hkn]
        have hpk : ps[k]? = some P := by rw [hP]; exact List.getElem?_eq_getElem hkn
        rw [hg] at hc
        obtain ⟨M, hM⟩ : ∃ M, M = P.data.toList := ⟨_, rfl⟩
        have hPM : P = mk M := by rw [hM]; exact (mk_toList P).symm
        have hPz : P.size = M.length := by rw [hPM, mk_size]
        have hMl : M.length <= 800000 := by have := HSZ.out P (List.mem_of_getElem? hpk); omega
        have HPK := Ha hpk
        have HM := Ha hM
        have HPM := Ha hPM
        clear hg hpk hP hM hPM
        cases hr : recR M 0 with
        | none =>
          have HN := Ha (show recsE S = none by rw [HRE.out]; exact HR.out.fails HPK.out (by rw [<-HM.out]; exact one_none hr))
          have HRR := Ha hr
          clear hr; go_wp2_with fail
          refine (RRead_zero P M _ HPM.out hMl).mono ?_
          rw [HRR.out]
          unfold recV; rintro e w3 ⟨rfl, hB3⟩; have HB3 := thB HB hB3
          have HB4 := Ha (HB3.out.alloc HB3.out.size (.cells #[.string ⟨#[]⟩, .int .i64 0, .int .i64 0, .int .i64 0, .string ⟨#[]⟩] rrT))
          clear hB3; go_wp2_with fail
          go_ret2
          exact (show errE (recsE S) = .int .i64 2 by unfold errE; rw [HN.out]; rfl) ▸ recs_nil HN.out HB4.out
        | some q =>
          obtain ⟨r, x⟩ := q
          have HRR := Ha hr
          have HX5 := fun (W : World) => Whole.new W rrT #[.string (mk r.n), .int .i64 r.t, .int .i64 r.c, .int .i64 r.l, .string (mk r.d)]
          by_cases hx : x = M.length
          · have HOE := Ha (show oneE M = some r by rw [one_is hr, if_pos hx])
            have gx : ((x : Int) != (P.size : Int)) = false := by rw [bne_eq_false_iff_eq]; omega
            clear hr hx hPz; go_wp2_with fail
            refine (RRead_zero P M _ HPM.out hMl).mono ?_
            rw [HRR.out]
            unfold recV; rintro e w3 ⟨rfl, hB3⟩; have HB3 := thB HB hB3
            have HO4 := Ha ((own_below HO.out hB3).alloc (.cells #[.string (mk r.n), .int .i64 r.t, .int .i64 r.c, .int .i64 r.l, .string (mk r.d)] rrT))
            have HB24 := Ha ((HB2.out.trans (hB3.mono HB2.out.size)).alloc (Nat.le_trans HB2.out.size hB3.size) (.cells #[.string (mk r.n), .int .i64 r.t, .int .i64 r.c, .int .i64 r.l, .string (mk r.d)] rrT))
            have hw4 := Whole.new w3 rrT (rrA (mk r.n) (mk r.d) r.t r.c r.l)
            obtain ⟨d0, d1, d2, d3, d4⟩ := rr_facts hw4
            clear hB3 hw4; have HLE := Ha (show k + 1 <= 1073741824 by omega)
            have HST := Ha (HR.out.step HPK.out (by rw [<-HM.out]; exact HOE.out))
            have HO5 := Ha (HO4.out.alloc (.cells #[.string (mk r.n), .int .i64 r.t, .int .i64 r.c, .int .i64 r.l, .string (mk r.d)] rrT))
            have HB25 := Ha (HB24.out.alloc HB24.out.size (.cells #[.string (mk r.n), .int .i64 r.t, .int .i64 r.c, .int .i64 r.l, .string (mk r.d)] rrT))
            have HA5 := Ha HB25.out.size
            go_wp2_with (at_builtin; (refine wpList_append_R rfl _ _ rfl w1.heap.size _ _ (acc.map ofRec) rfl HO5.out (w3.heap.size + 1 + 1) _ _ _ _ rfl (one_two w3 _ r) HLE.out HA5.out ?_); intro v6 w6 ho hg)
            have HO6 := Ha (show w6.ownsRow w1.heap.size 46 5 v6 (k + 1) (rcells ((acc ++ [r]).map ofRec)) by rw [List.map_append]; exact ho)
            have HB26 := Ha (HB25.out.grown hg HA5.out (own_block_ge HO5.out))
            clear ho hg; go_wp2_with fail
            go_roundw
            case rel => exact ⟨k + 1, by omega, by go_num, ⟨acc ++ [r], by rw [List.length_append, HA.out]; rfl, HST.out, HO6.out, HB26.out⟩⟩
            case measure => simp [intOf]; omega
          · have HN := Ha (show recsE S = none by rw [HRE.out]; exact HR.out.fails HPK.out (by rw [<-HM.out, one_is hr, if_neg hx]))
            have gx : ((x : Int) != (P.size : Int)) = true := by rw [bne_iff_ne]; omega
            clear hr hx hPz; go_wp2_with fail
            refine (RRead_zero P M _ HPM.out hMl).mono ?_
            rw [HRR.out]
            unfold recV; rintro e w3 ⟨rfl, hB3⟩; have HB3 := thB HB hB3
            have HB4 := Ha (HB3.out.alloc HB3.out.size (.cells #[.string (mk r.n), .int .i64 r.t, .int .i64 r.c, .int .i64 r.l, .string (mk r.d)] rrT))
            clear hB3; go_wp2_with fail
            go_ret2
            exact (show errE (recsE S) = .int .i64 2 by unfold errE; rw [HN.out]; rfl) ▸ recs_nil HN.out HB4.out
      · obtain rfl : k = ps.length := by omega
        have HN := Ha (show recsE S = some acc by rw [HRE.out]; exact HR.out.ends)
        go_wp2_with fail
        go_ret2
        exact ⟨A, ps.length, c, by unfold errE; rw [HN.out]; rfl, by rw [HN.out]; exact HS0.out, HCAP.out.less HB1.out.size, HB.out⟩
  · have HN := Ha (show recsE S = none by unfold recsE; rw [HPS.out]; simp only; rw [if_neg hz])
    have hz2 : ps = [] /\ z = 2 := by
      rcases pieces_code S with h | h
      · rw [HPS.out] at h; exact absurd h hz
      · rw [HPS.out] at h; simpa using h
    obtain ⟨rfl, rfl⟩ := hz2
    go_enter Tryz.func113, Tryz.ntmps113
    go_wp2_with fail
    refine (Pieces_any S 4 _ (by omega)).mono ?_
    unfold PiecesLeaves; rw [HPS.out]
    rintro e w1 ⟨A1, c1, rfl, hsee, hB1⟩; have HB1 := Ha hB1
    clear hsee hB1 hz; go_wp2_with fail
    go_ret2
    exact (show errE (recsE S) = .int .i64 2 by unfold errE; rw [HN.out]; rfl) ▸ recs_nil HN.out HB1.out
end Go.Proofs.YtmpginmdaeclaaaGreatDoor
namespace Go.Proofs.YtmpginmdaeclaaaGreatDoor
open Go.RowKit Go.Op
theorem Kp.rowB {B b : Nat} {w w' : World} {v v' : Value} {l : List UInt8} {base e size n : Nat} {x : Value} {xs : List Value} (hk : Kp b b v v' w w') (hp : Bd B w b v l) (ho : w.ownsRow base e size x n xs) (h1 : e ≠ bdT) (h2 : e ≠ 5) : w'.ownsRow base e size x n xs := by
  refine ⟨ho.1, ?_⟩
  rcases ho.2 with h3 | ⟨g, cap, cur, hx, hg, hh, r⟩
  · exact .inl h3
  · refine .inr ⟨g, cap, cur, hx, hg, ?_, r⟩
    have hgb : g ≠ b := by
      rintro rfl; obtain ⟨p, _, hb⟩ := hp.blk
      rw [hh] at hb
      injection hb with hb
      injection hb with _ hb _
      exact absurd hb h1
    exact (hk.block g (Array.getElem?_eq_some_iff.1 hh).1 hgb hgb (Lib.ownBlock_neF hp.row hh h2)).trans hh
section
variable {B b : Nat} {w w' : World} {v v' : Value} {l : List UInt8}
end
end Go.Proofs.YtmpginmdaeclaaaGreatDoor
