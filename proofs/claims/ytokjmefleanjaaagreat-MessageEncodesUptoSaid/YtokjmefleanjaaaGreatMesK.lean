/- readSection of the program. No statement of the seat is proved here. -/
import Derived.Test.YtokjmefleanjaaaGreatMesJ
import Derived.Test.YtokjmefleanjaaaGreatMesN
namespace Go.Proofs.YtokjmefleanjaaaGreat
open Go.RowKit

theorem newsN (w : World) (t : TypeId) (cs : List Value) : ∀ j u, cs[j]? = some u → (w.alloc (.cells cs.toArray t)).cell? ((⟨w.heap.size, 0, none⟩ : Addr).add j) = some u := by
  intro j u hu
  rw [add_flat, Nat.zero_add, (Whole.new w t cs.toArray).cell, ← hu]
  simp
def q2d (q : Que) : Qrd := ⟨mk q.n, q.t, q.c⟩
def r2d (r : Rec) : Rrd := ⟨mk r.n, r.t, r.c, r.l, mk r.d⟩
theorem que_le {M : List UInt8} {p e : Nat} {q : Que} (h : queR M p = some (q, e)) : e ≤ M.length := by
  unfold queR at h
  cases hr : readR M [] p p none with
  | none => rw [hr] at h; cases h
  | some r =>
    obtain ⟨n, y⟩ := r
    rw [hr] at h
    simp only at h
    split at h
    · cases h
    · simp only [Option.some.injEq, Prod.mk.injEq] at h
      omega
theorem rec_le {M : List UInt8} {p e : Nat} {r : Rec} (h : recR M p = some (r, e)) : e ≤ M.length := by
  unfold recR at h
  cases hr : readR M [] p p none with
  | none => rw [hr] at h; cases h
  | some q =>
    obtain ⟨n, y⟩ := q
    rw [hr] at h
    simp only at h
    split at h
    · cases h
    · split at h
      · cases h
      · split at h
        · cases h
        · split at h
          · cases h
          · simp only [Option.some.injEq, Prod.mk.injEq] at h
            omega
def SecQOut (o : Option (List Que × Nat)) (n : Nat) (w : World) (e : Ending) (w' : World) : Prop :=
  Below w.heap.size w w' ∧ match o with
  | none => e = .returned (.tuple #[.slice none 0 0, .int .i64 0, .int .i64 2])
  | some r => ∃ A c, e = .returned (.tuple #[.slice A n c, .int .i64 (r.2 : Nat), .int .i64 0]) ∧ SeesQ w' w'.heap.size A n (r.1.map q2d) ∧ ∀ a, A = some a → w.heap.size ≤ a.block
theorem secoutQ_no {o : Option (List Que × Nat)} {n : Nat} {w w' : World} {e : Ending} (h : o = none) (he : e = .returned (.tuple #[.slice none 0 0, .int .i64 0, .int .i64 2])) (hb : Below w.heap.size w w') : SecQOut o n w e w' := by
  subst h; exact ⟨hb, he⟩
def SecROut (o : Option (List Rec × Nat)) (n : Nat) (w : World) (e : Ending) (w' : World) : Prop :=
  Below w.heap.size w w' ∧ match o with
  | none => e = .returned (.tuple #[.slice none 0 0, .int .i64 0, .int .i64 2])
  | some r => ∃ A c, e = .returned (.tuple #[.slice A n c, .int .i64 (r.2 : Nat), .int .i64 0]) ∧ SeesR w' w'.heap.size A n (r.1.map r2d) ∧ ∀ a, A = some a → w.heap.size ≤ a.block
theorem secoutR_no {o : Option (List Rec × Nat)} {n : Nat} {w w' : World} {e : Ending} (h : o = none) (he : e = .returned (.tuple #[.slice none 0 0, .int .i64 0, .int .i64 2])) (hb : Below w.heap.size w w') : SecROut o n w e w' := by
  subst h; exact ⟨hb, he⟩

set_option maxHeartbeats 4000000 in
set_option maxRecDepth 20000 in
theorem readSecQ_any (S : ByteArray) (M : List UInt8) (p n : Nat) (w : World) (hS : S = mk M) (hM : M.length ≤ 800000) (hp : p ≤ M.length) (hn : n ≤ 65535) :
    Calls Tryz.prog 35 #[.string S, .int .i64 (p : Nat), .int .u64 (n : Nat), .func (.func 36) #[] #[]] w fun e w' => SecQOut (secR queR M p n) n w e w' := by
  obtain ⟨i0, hi0, hz0, hz1, hz2⟩ := info_parts que_info
  have HS := Lib.hid hS
  have hown0 := World.ownsRow_nil w w.heap.size 45 3
  have HO0 := Lib.hid hown0
  have HSEC := Lib.hid (show secR queR M p n = (secR queR M p (n - 0)).map (fun r => (([] : List Que) ++ r.1, r.2)) by cases secR queR M p n <;> simp [*])
  clear hS hown0
  go_enter Tryz.func35, Tryz.ntmps35
  go_wp2_with fail
  go_loopw [1, 11, 16] (fun at' l i wr => ∃ (k p2 : Nat) (ds : List Que), k ≤ n ∧ ds.length = k ∧ p2 ≤ M.length ∧ at' = .int .i64 (p2 : Nat) ∧ i = .int .u64 (k : Nat) ∧ wr.ownsRow w.heap.size 45 3 l k (qcells (ds.map q2d)) ∧ secR queR M p n = (secR queR M p2 (n - k)).map (fun r => (ds ++ r.1, r.2)) ∧ Below w.heap.size w wr) (fun _ _ i _ => n - (intOf i).toNat)
  case atStart => exact ⟨0, p, [], Nat.zero_le _, rfl, hp, rfl, rfl, HO0.out, HSEC.out, Below.refl _ _⟩
  case round =>
    obtain ⟨k, p2, ds, hk, hds, hp2, rfl, rfl, ho, hsec, hB⟩ := hrel
    obtain ⟨A4, c4, rfl, hsee⟩ := SeesQ.own ho
    have HO := Lib.hid ho
    have HSC := Lib.hid hsec
    have HB := Lib.hid hB
    have HDS := Lib.hid hds
    have HSE := Lib.hid hsee
    clear ho hsec hB hds hsee
    by_cases hkn : k < n
    · have g2 : (k : Int) < (n : Int) := by omega
      have hsub : n - k = (n - (k + 1)) + 1 := by omega
      cases hq : queR M p2 with
      | none =>
        have HQ := Lib.hid hq
        have HNO := Lib.hid (show secR queR M p n = none by rw [HSC.out, hsub, secR_no hq]; rfl)
        have HWN := Lib.hid (fun w1 => Whole.new w1 quT #[.string ⟨#[]⟩, .int .i64 0, .int .i64 0])
        clear hq hsub
        go_wp2_with fail
        refine (readQue_none S M p2 _ HS.out hM hp2 HQ.out).mono ?_
        rintro e w1 ⟨he, hB1⟩
        unfold noQue at he
        subst he
        have HB1 := Lib.hid (HB.out.trans (hB1.mono HB.out.size))
        have HB2 := Lib.hid (HB1.out.alloc HB1.out.size (.cells #[.string ⟨#[]⟩, .int .i64 0, .int .i64 0] quT))
        clear hB1
        go_wp2_with fail
        go_ret3
        exact secoutQ_no HNO.out rfl HB2.out
      | some r =>
        obtain ⟨q, e2⟩ := r
        have he2 := que_le hq
        have HQ := Lib.hid hq
        have HSTEP := Lib.hid (show secR queR M p n = (secR queR M e2 (n - (k + 1))).map (fun r => ((ds ++ [q]) ++ r.1, r.2)) by
          rw [HSC.out, hsub, secR_yes hq]
          cases secR queR M e2 (n - (k + 1)) <;> simp)
        have HDS2 := Lib.hid (show (ds ++ [q]).length = k + 1 by rw [List.length_append, HDS.out]; rfl)
        have HCL := Lib.hid (show qcells (ds.map q2d) ++ [.string (mk q.n), .int .i64 q.t, .int .i64 q.c] = qcells ((ds ++ [q]).map q2d) by rw [List.map_append, qcells_append]; rfl)
        clear hq hsub
        go_wp2_with fail
        refine (readQue_some S M p2 e2 q _ HS.out hM hp2 HQ.out).mono ?_
        rintro e w1 ⟨rfl, hB1⟩
        have HB1 := Lib.hid (HB.out.trans (hB1.mono HB.out.size))
        have HO1 := Lib.hid (own_below HO.out hB1)
        have HA1 := Lib.hid (show Below w.heap.size w ((w1.alloc (.cells #[.string (mk q.n), .int .i64 q.t, .int .i64 q.c] quT)).alloc (.cells #[.string (mk q.n), .int .i64 q.t, .int .i64 q.c] quT)) from (HB1.out.alloc HB1.out.size (.cells #[.string (mk q.n), .int .i64 q.t, .int .i64 q.c] quT)).alloc (HB1.out.alloc HB1.out.size (.cells #[.string (mk q.n), .int .i64 q.t, .int .i64 q.c] quT)).size (.cells #[.string (mk q.n), .int .i64 q.t, .int .i64 q.c] quT))
        have HOA := Lib.hid ((HO1.out.alloc (.cells #[.string (mk q.n), .int .i64 q.t, .int .i64 q.c] quT)).alloc (.cells #[.string (mk q.n), .int .i64 q.t, .int .i64 q.c] quT))
        have HNW := Lib.hid (newsN (w1.alloc (.cells #[.string (mk q.n), .int .i64 q.t, .int .i64 q.c] quT)) quT [.string (mk q.n), .int .i64 q.t, .int .i64 q.c])
        have HSZ := Lib.hid (show (w1.alloc (.cells #[.string (mk q.n), .int .i64 q.t, .int .i64 q.c] quT)).heap.size = w1.heap.size + 1 by simp)
        have hle : w.heap.size ≤ w1.heap.size := HB1.out.size
        clear hB1
        go_wp2_with (at_builtin; refine wpList_append_own _ rfl _ _ 23 rfl w.heap.size 45 i0 (.agg #[.string ⟨#[]⟩, .int .i64 0, .int .i64 0]) 3 32 Tryz.underlying23 hi0 hz0 hz1 hz2 rfl (by decide) _ _ _ rfl HOA.out ⟨w1.heap.size + 1, 0, none⟩ 1 1 [.string (mk q.n), .int .i64 q.t, .int .i64 q.c] rfl rfl (by have := HNW.out; rw [HSZ.out] at this; exact this) (by intro u hu; simp only [List.mem_cons, List.not_mem_nil, or_false] at hu; rcases hu with rfl | rfl | rfl <;> rfl) (by unfold maxLen; omega) (by omega) HA1.out.size ?_)
        intro v2 w4 hown2 hgrow _
        have HB4 := Lib.hid (HA1.out.grown hgrow HA1.out.size (fun j hj => (HO.out.lt j hj).1))
        rw [HCL.out] at hown2
        have HO5 := Lib.hid hown2
        clear hown2 hgrow
        go_wp2_with fail
        go_roundw
        case rel => exact ⟨k + 1, e2, ds ++ [q], by omega, HDS2.out, he2, rfl, by go_num, HO5.out, HSTEP.out, HB4.out⟩
        case measure => simp [intOf]; omega
    · obtain rfl : k = n := by omega
      have HDONE := Lib.hid (show secR queR M p k = some (ds, p2) by rw [HSC.out, Nat.sub_self]; simp [secR])
      have HFAR := Lib.hid (show ∀ a, A4 = some a → w.heap.size ≤ a.block from fun a ha => (HO.out.lt a.block (by rw [ha]; rfl)).1)
      go_wp2_with fail
      go_ret3
      refine ⟨HB.out, ?_⟩
      rw [HDONE.out]
      exact ⟨A4, c4, rfl, HSE.out, HFAR.out⟩

set_option maxHeartbeats 4000000 in
set_option maxRecDepth 20000 in
theorem readSecR_any (S : ByteArray) (M : List UInt8) (p n : Nat) (w : World) (hS : S = mk M) (hM : M.length ≤ 800000) (hp : p ≤ M.length) (hn : n ≤ 65535) :
    Calls Tryz.prog 37 #[.string S, .int .i64 (p : Nat), .int .u64 (n : Nat), .func (.func 38) #[] #[]] w fun e w' => SecROut (secR recR M p n) n w e w' := by
  obtain ⟨i0, hi0, hz0, hz1, hz2⟩ := info_parts rec_info
  have HS := Lib.hid hS
  have hown0 := World.ownsRow_nil w w.heap.size 39 5
  have HO0 := Lib.hid hown0
  have HSEC := Lib.hid (show secR recR M p n = (secR recR M p (n - 0)).map (fun r => (([] : List Rec) ++ r.1, r.2)) by cases secR recR M p n <;> simp [*])
  clear hS hown0
  go_enter Tryz.func37, Tryz.ntmps37
  go_wp2_with fail
  go_loopw [1, 11, 16] (fun at' l i wr => ∃ (k p2 : Nat) (ds : List Rec), k ≤ n ∧ ds.length = k ∧ p2 ≤ M.length ∧ at' = .int .i64 (p2 : Nat) ∧ i = .int .u64 (k : Nat) ∧ wr.ownsRow w.heap.size 39 5 l k (rcells (ds.map r2d)) ∧ secR recR M p n = (secR recR M p2 (n - k)).map (fun r => (ds ++ r.1, r.2)) ∧ Below w.heap.size w wr) (fun _ _ i _ => n - (intOf i).toNat)
  case atStart => exact ⟨0, p, [], Nat.zero_le _, rfl, hp, rfl, rfl, HO0.out, HSEC.out, Below.refl _ _⟩
  case round =>
    obtain ⟨k, p2, ds, hk, hds, hp2, rfl, rfl, ho, hsec, hB⟩ := hrel
    obtain ⟨A4, c4, rfl, hsee⟩ := SeesR.own ho
    have HO := Lib.hid ho
    have HSC := Lib.hid hsec
    have HB := Lib.hid hB
    have HDS := Lib.hid hds
    have HSE := Lib.hid hsee
    clear ho hsec hB hds hsee
    by_cases hkn : k < n
    · have g2 : (k : Int) < (n : Int) := by omega
      have hsub : n - k = (n - (k + 1)) + 1 := by omega
      cases hq : recR M p2 with
      | none =>
        have HQ := Lib.hid hq
        have HNO := Lib.hid (show secR recR M p n = none by rw [HSC.out, hsub, secR_no hq]; rfl)
        have HWN := Lib.hid (fun w1 => Whole.new w1 rrT #[.string ⟨#[]⟩, .int .i64 0, .int .i64 0, .int .i64 0, .string ⟨#[]⟩])
        clear hq hsub
        go_wp2_with fail
        refine (RRead_none S M p2 _ HS.out hM hp2 HQ.out).mono ?_
        rintro e w1 ⟨he, hB1⟩
        unfold noRec at he
        subst he
        have HB1 := Lib.hid (HB.out.trans (hB1.mono HB.out.size))
        have HB2 := Lib.hid (HB1.out.alloc HB1.out.size (.cells #[.string ⟨#[]⟩, .int .i64 0, .int .i64 0, .int .i64 0, .string ⟨#[]⟩] rrT))
        clear hB1
        go_wp2_with fail
        go_ret3
        exact secoutR_no HNO.out rfl HB2.out
      | some r =>
        obtain ⟨q, e2⟩ := r
        have he2 := rec_le hq
        have HQ := Lib.hid hq
        have HSTEP := Lib.hid (show secR recR M p n = (secR recR M e2 (n - (k + 1))).map (fun r => ((ds ++ [q]) ++ r.1, r.2)) by
          rw [HSC.out, hsub, secR_yes hq]
          cases secR recR M e2 (n - (k + 1)) <;> simp)
        have HDS2 := Lib.hid (show (ds ++ [q]).length = k + 1 by rw [List.length_append, HDS.out]; rfl)
        have HCL := Lib.hid (show rcells (ds.map r2d) ++ [.string (mk q.n), .int .i64 q.t, .int .i64 q.c, .int .i64 q.l, .string (mk q.d)] = rcells ((ds ++ [q]).map r2d) by rw [List.map_append, rcells_append]; rfl)
        clear hq hsub
        go_wp2_with fail
        refine (RRead_of S M p2 e2 q _ HS.out hM hp2 HQ.out).mono ?_
        rintro e w1 ⟨rfl, hB1⟩
        have HB1 := Lib.hid (HB.out.trans (hB1.mono HB.out.size))
        have HO1 := Lib.hid (own_below HO.out hB1)
        have HA1 := Lib.hid (show Below w.heap.size w ((w1.alloc (.cells #[.string (mk q.n), .int .i64 q.t, .int .i64 q.c, .int .i64 q.l, .string (mk q.d)] rrT)).alloc (.cells #[.string (mk q.n), .int .i64 q.t, .int .i64 q.c, .int .i64 q.l, .string (mk q.d)] rrT)) from (HB1.out.alloc HB1.out.size (.cells #[.string (mk q.n), .int .i64 q.t, .int .i64 q.c, .int .i64 q.l, .string (mk q.d)] rrT)).alloc (HB1.out.alloc HB1.out.size (.cells #[.string (mk q.n), .int .i64 q.t, .int .i64 q.c, .int .i64 q.l, .string (mk q.d)] rrT)).size (.cells #[.string (mk q.n), .int .i64 q.t, .int .i64 q.c, .int .i64 q.l, .string (mk q.d)] rrT))
        have HOA := Lib.hid ((HO1.out.alloc (.cells #[.string (mk q.n), .int .i64 q.t, .int .i64 q.c, .int .i64 q.l, .string (mk q.d)] rrT)).alloc (.cells #[.string (mk q.n), .int .i64 q.t, .int .i64 q.c, .int .i64 q.l, .string (mk q.d)] rrT))
        have HNW := Lib.hid (newsN (w1.alloc (.cells #[.string (mk q.n), .int .i64 q.t, .int .i64 q.c, .int .i64 q.l, .string (mk q.d)] rrT)) rrT [.string (mk q.n), .int .i64 q.t, .int .i64 q.c, .int .i64 q.l, .string (mk q.d)])
        have HSZ := Lib.hid (show (w1.alloc (.cells #[.string (mk q.n), .int .i64 q.t, .int .i64 q.c, .int .i64 q.l, .string (mk q.d)] rrT)).heap.size = w1.heap.size + 1 by simp)
        have hle : w.heap.size ≤ w1.heap.size := HB1.out.size
        clear hB1
        go_wp2_with (at_builtin; refine wpList_append_own _ rfl _ _ 24 rfl w.heap.size 39 i0 (.agg #[.string ⟨#[]⟩, .int .i64 0, .int .i64 0, .int .i64 0, .string ⟨#[]⟩]) 5 56 Tryz.underlying24 hi0 hz0 hz1 hz2 rfl (by decide) _ _ _ rfl HOA.out ⟨w1.heap.size + 1, 0, none⟩ 1 1 [.string (mk q.n), .int .i64 q.t, .int .i64 q.c, .int .i64 q.l, .string (mk q.d)] rfl rfl (by have := HNW.out; rw [HSZ.out] at this; exact this) (by intro u hu; simp only [List.mem_cons, List.not_mem_nil, or_false] at hu; rcases hu with rfl | rfl | rfl | rfl | rfl <;> rfl) (by unfold maxLen; omega) (by omega) HA1.out.size ?_)
        intro v2 w4 hown2 hgrow _
        have HB4 := Lib.hid (HA1.out.grown hgrow HA1.out.size (fun j hj => (HO.out.lt j hj).1))
        rw [HCL.out] at hown2
        have HO5 := Lib.hid hown2
        clear hown2 hgrow
        go_wp2_with fail
        go_roundw
        case rel => exact ⟨k + 1, e2, ds ++ [q], by omega, HDS2.out, he2, rfl, by go_num, HO5.out, HSTEP.out, HB4.out⟩
        case measure => simp [intOf]; omega
    · obtain rfl : k = n := by omega
      have HDONE := Lib.hid (show secR recR M p k = some (ds, p2) by rw [HSC.out, Nat.sub_self]; simp [secR])
      have HFAR := Lib.hid (show ∀ a, A4 = some a → w.heap.size ≤ a.block from fun a ha => (HO.out.lt a.block (by rw [ha]; rfl)).1)
      go_wp2_with fail
      go_ret3
      refine ⟨HB.out, ?_⟩
      rw [HDONE.out]
      exact ⟨A4, c4, rfl, HSE.out, HFAR.out⟩
end Go.Proofs.YtokjmefleanjaaaGreat
