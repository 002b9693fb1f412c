/- DjC: texts DifC, DifD, DifE of our own, joined. No statement of the seat is proved here. -/
import Derived.Test.YtaijcoiepfjecaaGreatRsS
import Derived.Test.YtaijcoiepfjecaaGreatRrJ
import Derived.Test.YtaijcoiepfjecaaGreatDrw
import Derived.Test.YtaijcoiepfjecaaGreatShs
import Derived.Shelf.SlSortCmp.WholeK
import Derived.Shelf.SlSortCmp.NoneTotal
import Derived.Test.YtaijcoiepfjecaaGreatDjA
import Derived.Test.YtaijcoiepfjecaaGreatZoG
import Derived.Test.YtaijcoiepfjecaaGreatZoH
namespace Go.Proofs.YtaijcoiepfjecaaGreat
open Go.RowKit Go.Op Go.Sort Go.Shelf Go.Lib
/-! ### the row, as the library's contract has it -/
abbrev OkR := {x : Rrd // OkX x}
instance : Inhabited OkR := ⟨⟨wakeR, wakeR_ok⟩⟩
def encR (x : OkR) : List Value := [.string x.1.s, .int .i64 x.1.t, .int .i64 x.1.c, .int .i64 x.1.l, .string x.1.d]
def valsR (d : Array OkR) : List Rrd := d.toList.map Subtype.val
theorem flat_rcells (d : Array OkR) {t : Nat} (ht : t < d.size * 5) : (rcells (valsR d))[t]? = some (flatK encR 5 d)[t]! := by
  have hq : t / 5 < d.size := by omega
  have hr : t % 5 < 5 := Nat.mod_lt _ (by omega)
  rw [get_flatK encR 5 d t ht, getElem!_pos d (t / 5) hq]
  have hx : (valsR d)[t / 5]? = some d[t / 5].1 := by
    unfold valsR
    rw [List.getElem?_map, List.getElem?_eq_getElem (by simpa using hq)]
    simp
  obtain ⟨a0, a1, a2, a3, a4⟩ := rcells_at _ _ _ hx
  have e : t = t / 5 * 5 + t % 5 := by omega
  obtain ⟨r, hrr⟩ : ∃ r, r = t % 5 := ⟨_, rfl⟩
  rw [← hrr] at hr e ⊢
  generalize t / 5 = q at *
  subst e
  rcases (show r = 0 ∨ r = 1 ∨ r = 2 ∨ r = 3 ∨ r = 4 by omega) with rfl | rfl | rfl | rfl | rfl
  · rw [Nat.add_zero, a0]; rfl
  · rw [a1]; rfl
  · rw [a2]; rfl
  · rw [a3]; rfl
  · rw [a4]; rfl
theorem row_holds {base g n c : Nat} {d : Array OkR} {w : World} (h : RowX base g n c (valsR d) w) : HoldsK encR 5 w g 0 d := by
  have hl := h.len
  have hs : d.size = n := by rw [← hl]; simp [valsR]
  intro j hj
  rw [size_flatK] at hj
  refine ⟨?_, by rw [Nat.zero_add]; exact h.soft j⟩
  rw [Nat.zero_add, World.ownsRow.cellAt h j (by omega), flat_rcells d hj]
  rfl
theorem row_sorted {base g n c m : Nat} {d d' : Array OkR} {os : Array Obj} {w : World} (h : RowX base g n c (valsR d) w) (hs : d'.size = d.size) :
    RowX base g n c (valsR d') (sortWorldK encR 5 w g 0 m d' os) ∧ w.grownBy (sortWorldK encR 5 w g 0 m d' os) (some g) := by
  have hl := h.len
  have hsz : d.size = n := by rw [← hl]; simp [valsR]
  have hlen : (rcells (valsR d')).length = n * 5 := by rw [rcells_len]; simp [valsR]; omega
  rcases h.2 with ⟨e, _⟩ | ⟨g', cap, cur, e, hb, hg, h1, h2, h3, h4⟩
  · cases e
  · simp only [Value.slice.injEq, Option.some.injEq, Addr.mk.injEq, and_true, true_and] at e
    obtain ⟨rfl, rfl⟩ := e
    have hlt : g < w.heap.size := (Array.getElem?_eq_some_iff.1 hg).1
    have hblk : (sortWorldK encR 5 w g 0 m d' os).heap[g]? = some (.cells (putCells id 0 (flatK encR 5 d') cur) 26 (0, 0)) := by
      unfold sortWorldK grow putRowK putRow mapBlock Sort.ahead
      simp only
      rw [Array.getElem?_append_left (by simpa using hlt), Array.getElem?_modify, if_pos rfl, hg]
      rfl
    refine ⟨⟨hlen, .inr ⟨g, c, _, rfl, hb, hblk, h1, h2, by unfold putCells; simpa using h3, ?_⟩⟩, ⟨rfl, rfl, rfl, ?_, fun k hk hne => ?_⟩⟩
    · apply List.ext_getElem?
      intro j
      rw [List.getElem?_take]
      by_cases hj : j < n * 5
      · rw [if_pos hj, flat_rcells d' (by omega), Array.getElem?_toList]
        unfold putCells
        rw [Array.getElem?_mapIdx, Array.getElem?_eq_getElem (show j < cur.size by omega)]
        simp
        omega
      · rw [if_neg hj, List.getElem?_eq_none (by omega)]
    · unfold sortWorldK grow putRowK putRow mapBlock Sort.ahead
      simp
    · unfold sortWorldK grow putRowK putRow mapBlock Sort.ahead
      simp only
      rw [Array.getElem?_append_left (by simpa using hk), Array.getElem?_modify, if_neg (fun e => hne (by rw [e]))]
theorem ltY_swo : SWO (ltOf fun x y : OkR => cX x.1 y.1) where
  irrefl x := by unfold ltOf; have := cX_ord.self x.1; simp [this]
  trans x y z h k := by
    unfold ltOf at h k ⊢
    have h' : cX x.1 y.1 < 0 := of_decide_eq_true h
    have k' : cX y.1 z.1 < 0 := of_decide_eq_true k
    have h3 := cX_three x.1 y.1 z.1
    unfold Ord3 at h3
    show decide (cX x.1 z.1 < 0) = true
    exact decide_eq_true (by omega)
  ntrans x y z h k := by
    unfold ltOf at h k ⊢
    have h' : ¬ cX x.1 y.1 < 0 := of_decide_eq_false h
    have k' : ¬ cX y.1 z.1 < 0 := of_decide_eq_false k
    have h3 := cX_three z.1 y.1 x.1
    have h4 := cX_flip x.1 y.1
    have h5 := cX_flip y.1 z.1
    have h6 := cX_flip x.1 z.1
    unfold Ord3 at h3
    show decide (cX x.1 z.1 < 0) = false
    exact decide_eq_false (by omega)
/-- the list, each record with the fact that it is right -/
def subR (D : List Rrd) (h : OkL D) : Array OkR := (D.attachWith OkX h).toArray
theorem subR_vals (D : List Rrd) (h : OkL D) : valsR (subR D h) = D := by
  unfold valsR subR
  rw [List.toList_toArray]
  exact List.attachWith_map_subtype_val _
set_option maxHeartbeats 2000000 in
set_option maxRecDepth 20000 in
theorem SortC_any (base g n c : Nat) (D : List Rrd) (w : World) (hok : OkL D) (hn : n ≤ 1000000) (h : RowX base g n c D w) :
    Calls Tryz.prog 78 #[.slice (some ⟨g, 0, none⟩) n c, .func (.func 58) #[] #[]] w fun e w' =>
      e = .returned (.tuple #[]) ∧ ∃ D', D.Perm D' ∧ Srt cX D' ∧ RowX base g n c D' w' ∧ w.grownBy w' (some g) := by
  have hv := subR_vals D hok
  obtain ⟨d, hd⟩ : ∃ d, d = subR D hok := ⟨_, rfl⟩
  rw [← hd] at hv
  have hds : d.size = n := by rw [← h.len, ← hv]; simp [valsR]
  have hrow : RowX base g n c (valsR d) w := by rw [hv]; exact h
  have hlt := h.lt
  have hc : Calls Tryz.prog (sortL_ren.f 6) #[.slice (some ⟨g, 0, none⟩) d.size c, .func (.func 58) #[] #[]] w fun e w' => e = .returned (.tuple #[]) ∧ ∃ d' m os, PermIn 0 d.size d d' ∧ SortedIn (ltOf fun x y : OkR => cX x.1 y.1) 0 d.size d' ∧ w' = sortWorldK encR 5 w g 0 m d' os :=
    AnyQ.slices_SortFunc sortL 5 Tryz.isAgg26 Tryz.sizeOf26 encR (fun _ => rfl) (fun x v hv => by simp only [encR, List.mem_cons, List.not_mem_nil, or_false] at hv; rcases hv with rfl | rfl | rfl | rfl | rfl <;> rfl)
      (fun x y => cX x.1 y.1) ltY_swo 58 #[] g 0 c d w (enters_of Tryz.func58 (by kernel_rfl) rfl)
      (fun m os dk _ x y => by rw [Array.append_empty]; exact Calls.grows (cmpC_any x.2 y.2 _)) (row_holds hrow) hlt (by omega)
  rw [hds] at hc
  refine Calls.mono hc ?_
  rintro e w' ⟨rfl, d', m, os, hp, hsr, rfl⟩
  obtain ⟨hp1, _, hp3⟩ := hp
  obtain ⟨k1, k2⟩ := row_sorted (m := m) (os := os) hrow hp1
  refine ⟨rfl, valsR d', ?_, ?_, k1, k2⟩
  · rw [← hv]
    have e1 : d'.extract 0 n = d' := by rw [← hds, ← hp1]; simp
    have e2 : d.extract 0 n = d := by rw [← hds]; simp
    rw [e1, e2] at hp3
    exact (hp3.map Subtype.val).symm
  · unfold Srt
    rw [List.pairwise_iff_getElem]
    intro i j hi hj hij
    have hi' : i < d'.size := by simpa [valsR] using hi
    have hj' : j < d'.size := by simpa [valsR] using hj
    have k := hsr i j (Nat.zero_le _) hij (by omega)
    unfold ltOf at k
    have k' : ¬ cX (d'[j]!).1 (d'[i]!).1 < 0 := of_decide_eq_false k
    rw [getElem!_pos d' i hi', getElem!_pos d' j hj'] at k'
    have ei : (valsR d')[i] = d'[i].1 := by simp [valsR]
    have ej : (valsR d')[j] = d'[j].1 := by simp [valsR]
    rw [ei, ej]
    intro e
    rw [e] at k'
    exact k' (by decide)
theorem SortN_any (w : World) :
    Calls Tryz.prog 78 #[.slice none 0 0, .func (.func 58) #[] #[]] w fun e w' => e = .returned (.tuple #[]) ∧ Below w.heap.size w w' := by
  have hc : Calls Tryz.prog (sortL_ren.f 6) #[.slice none 0 0, .func (.func 58) #[] #[]] w fun e w' => e = .returned (.tuple #[]) ∧ w' = w := AnyF.slices_SortFunc_none sortL none 0 _ w
  refine Calls.mono hc ?_
  rintro e w' ⟨rfl, rfl⟩
  exact ⟨rfl, Below.refl _ _⟩
end Go.Proofs.YtaijcoiepfjecaaGreat
namespace Go.Proofs.YtaijcoiepfjecaaGreat
open Go.RowKit Go.Op
set_option linter.unusedVariables false
attribute [local go_sem] rr_eql rr_neq rr_guard

set_option maxHeartbeats 4000000 in
set_option maxRecDepth 20000 in
theorem named_any (x : Rrd) (hx : OkX x) (w : World) :
    Calls Tryz.prog 77 #[.agg #[.string x.s, .int .i64 x.t, .int .i64 x.c, .int .i64 x.l, .string x.d]] w fun e w' => e = .returned (.bool true) ∧ Below w.heap.size w w' := by
  have HB0 := Lib.hid (show Below w.heap.size w (w.alloc (.cells #[.string x.s, .int .i64 x.t, .int .i64 x.c, .int .i64 x.l, .string x.d] 26)) from (Below.refl _ _).alloc (Nat.le_refl _) _)
  obtain ⟨p0, p1, p2, p3, p4⟩ := box_five w x
  have HX := Lib.hid hx
  clear hx
  go_enter Tryz.func77, Tryz.ntmps77
  go_wp2_with fail
  refine (Right_any x.s (nmX x) _ (rrd_name x) (by have := HX.out.name; unfold nmX; omega)).mono ?_
  rw [HX.out.nm]
  rintro e w1 ⟨rfl, hB⟩
  have HB := Lib.hid hB
  clear hB p0 p1 p2 p3 p4
  go_wp2_with fail
  go_ret
  exact ⟨rfl, HB0.out.trans (HB.out.mono HB0.out.size)⟩

/-- a list of one's own is a row somewhere, or has nothing -/
theorem own_rowX {w : World} {base n : Nat} {v : Value} {D : List Rrd} (h : w.ownsRow base 26 5 v n (rcells D)) : (v = .slice none 0 0 ∧ n = 0 ∧ D = []) ∨ ∃ g c, v = .slice (some ⟨g, 0, none⟩) n c ∧ base ≤ g ∧ RowX base g n c D w := by
  have hl := h.1
  rcases h.2 with ⟨e, hn⟩ | ⟨g, cap, cur, e, hb, hg⟩
  · refine .inl ⟨e, hn, ?_⟩
    rw [rcells_len] at hl
    exact List.length_eq_zero_iff.1 (by omega)
  · subst e
    exact .inr ⟨g, cap, rfl, hb, h⟩

set_option maxHeartbeats 32000000 in
set_option maxRecDepth 20000 in
theorem clashes_any (A A2 : Option Addr) (n c n2 c2 : Nat) (D xs : List Rrd) (w : World) (hx : SeesR w w.heap.size A n D) (hy : SeesR w w.heap.size A2 n2 xs) (ox : OkL D) (sx : SetL cX D) (oy : OkL xs) (hn : n ≤ 1000000) (hn2 : n2 ≤ 1000000) (z : Bool) (hz : z = false ↔ Fits D xs) :
    Calls Tryz.prog 38 #[.slice A n c, .slice A2 n2 c2] w fun e w' => e = .returned (.bool z) ∧ Below w.heap.size w w' := by
  have HX := Lib.hid hx
  have HY := Lib.hid hy
  have HOX := Lib.hid ox
  have HSX := Lib.hid sx
  have HOY := Lib.hid oy
  have HZ := Lib.hid hz
  clear hx hy ox sx oy hz
  go_enter Tryz.func38, Tryz.ntmps38
  go_wp2_with fail
  refine (dpick0_any 77 (enters_of Tryz.func77 (by kernel_rfl) rfl) (fun _ => true) (fun _ _ => True) none w.heap.size A2 n2 c2 xs _ HY.out (fun r e => by cases e) (Nat.le_refl _) (fun r e => by cases e) hn2 trivial (fun _ _ _ _ _ => trivial) (fun k x wr hxk _ => ?_)).mono ?_
  · refine (named_any x (HOY.out.at hxk) wr).mono ?_
    rintro e w' ⟨rfl, hB⟩
    exact ⟨rfl, grown_below hB _, trivial⟩
  rw [show pickL (fun _ => true) xs n2 = xs by rw [← HY.out.1]; exact pickL_all xs]
  rintro e w1 ⟨v, rfl, ho, hg⟩
  have HB1 := Lib.hid (grown_none hg)
  have hlx : xs.length = n2 := HY.out.1
  clear hg
  rw [hlx] at ho
  rcases own_rowX ho with ⟨rfl, h0, hnil⟩ | ⟨g, cc, rfl, hgb, hrow⟩
  · have HNIL := Lib.hid hnil
    clear ho h0 hlx hnil
    go_wp2_with fail
    refine (SortN_any _).mono ?_
    rintro e w2 ⟨rfl, hB⟩
    have HB2 := Lib.hid (HB1.out.trans (hB.mono HB1.out.size))
    clear hB
    have HR2 := Lib.hid (show z = false from HZ.out.2 (by rw [HNIL.out]; exact ⟨fun x h => (by cases h), List.Pairwise.nil⟩))
    go_wp2_with fail
    go_loopw [16] (fun i wr => i = .int .i64 0 ∧ Below w.heap.size w wr) (fun _ _ => 0)
    case atStart => exact ⟨rfl, HB2.out⟩
    case round =>
      obtain ⟨rfl, hB⟩ := hrel
      have HB := Lib.hid hB
      clear hB
      go_wp2_with fail
      go_ret
      exact ⟨by rw [HR2.out]; rfl, HB.out⟩
  · have HROW := Lib.hid hrow
    have HGB := Lib.hid hgb
    clear ho hrow hgb
    go_wp2_with fail
    refine (SortC_any w.heap.size g n2 cc xs _ HOY.out hn2 HROW.out).mono ?_
    rintro e w2 ⟨rfl, D', hp, hs, hr, hg⟩
    have HB2 := Lib.hid (HB1.out.grown hg HB1.out.size (fun k e => by cases e; exact HGB.out))
    have HP := Lib.hid hp
    have HS := Lib.hid hs
    have HR := Lib.hid hr
    have HOD := Lib.hid (show OkL D' from fun y hy => HOY.out y (hp.mem_iff.2 hy))
    have HLD := Lib.hid (show D'.length = n2 by rw [← hp.length_eq]; exact hlx)
    clear hp hs hr hg hlx
    go_wp2_with fail
    go_loopw [16] (fun i wr => ∃ k : Nat, k ≤ n2 ∧ i = .int .i64 (k : Nat) ∧ FitsTo D D' k ∧ Below w.heap.size w wr ∧ Below w2.heap.size w2 wr) (fun i _ => n2 - (intOf i).toNat)
    case atStart => exact ⟨0, Nat.zero_le _, rfl, FitsTo.zero _ _, HB2.out, Below.refl _ _⟩
    case round =>
      obtain ⟨k, hk, rfl, hft, hB, hB3⟩ := hrel
      have HFT := Lib.hid hft
      have HB := Lib.hid hB
      have HRW := Lib.hid (HR.out.below hB3)
      have HB3 := Lib.hid hB3
      clear hft hB hB3
      by_cases hkn : k < n2
      · have g2 : (k : Int) < (n2 : Int) := by omega
        have g0 : (0 : Int) ≤ (k : Int) := by omega
        obtain ⟨x, hxk⟩ : ∃ x, D'[k]? = some x := ⟨D'[k]'(by rw [HLD.out]; exact hkn), List.getElem?_eq_getElem _⟩
        have HXK := Lib.hid hxk
        have HOX' := Lib.hid (HOD.out.at hxk)
        obtain ⟨x0, x1, x2, x3, x4⟩ := HRW.out.five hxk
        obtain ⟨p, hp⟩ : ∃ p, p = wr.heap.size := ⟨_, rfl⟩
        obtain ⟨W, hW⟩ : ∃ W, W = wr.alloc (.cells #[.string x.s, .int .i64 x.t, .int .i64 x.c, .int .i64 x.l, .string x.d] 26) := ⟨_, rfl⟩
        have HBX := Lib.hid (show Whole W p 26 #[.string x.s, .int .i64 x.t, .int .i64 x.c, .int .i64 x.l, .string x.d] by rw [hp, hW]; exact Whole.new _ _ _)
        have HBA := Lib.hid (show Below wr.heap.size wr W by rw [hW]; exact (Below.refl _ _).alloc (Nat.le_refl _) _)
        have HPP := Lib.hid hp
        have HWW := Lib.hid hW
        clear hxk hp hW
        go_wp2_with fail
        rw [← HWW.out, ← HPP.out]
        have HBW := Lib.hid (HB.out.trans (HBA.out.mono HB.out.size))
        refine (Search_any A n c D x _ ((HX.out.keep HBW.out).more HBW.out.size) HOX.out HOX'.out ((SetL_c HOX.out).2 HSX.out) (by omega)).mono ?_
        rw [hitX_c HOX'.out HOX.out, hit_one HSX.out]
        obtain ⟨ps, hps⟩ : ∃ ps, ps = posX cmpX x D := ⟨_, rfl⟩
        rw [← hps]
        clear hps
        obtain ⟨q, hq⟩ : ∃ q, q = oneL D x := ⟨_, rfl⟩
        have HQ := Lib.hid hq
        rw [← hq]
        rintro e w4 ⟨rfl, hB4⟩
        have HB4 := Lib.hid (HBW.out.trans (hB4.mono HBW.out.size))
        have HB34 := Lib.hid (HB3.out.trans ((HBA.out.trans (hB4.mono HBA.out.size)).mono HB3.out.size))
        have HR4 := Lib.hid (HR.out.below HB34.out)
        have HBX4 := Lib.hid (HBX.out.below hB4 HBX.out.lt)
        clear hB4 hq x0 x1 x2 x3 x4
        cases q with
        | true =>
          have HR2 := Lib.hid (show z = true by
            cases hz : z with
            | true => rfl
            | false => exact absurd (HZ.out.1 hz) (fits_hit HP.out HXK.out HQ.out.symm))
          go_wp2_with fail
          refine region_later (by kernel_rfl) ?_
          repeat (go_big_quiet_step (fail))
          refine wpQuiet_nil ?_
          rintro _ ⟨q2, rfl⟩
          have HB5 := Lib.hid (HB4.out.trans (q2.below.mono HB4.out.size))
          go_wp2_with fail
          go_ret
          exact ⟨by rw [HR2.out]; rfl, HB5.out⟩
        | false =>
          by_cases hk0 : k = 0
          · subst hk0
            have HFS := Lib.hid (HFT.out.step HXK.out HQ.out.symm (fun y h => absurd h (Nat.lt_irrefl 0)))
            go_wp2_with fail
            refine region_later (by kernel_rfl) ?_
            repeat (go_big_quiet_step (fail))
            refine wpQuiet_nil ?_
            rintro _ ⟨q2, rfl⟩
            have HB5 := Lib.hid (HB4.out.trans (q2.below.mono HB4.out.size))
            have HB35 := Lib.hid (HB34.out.trans (q2.below.mono HB34.out.size))
            go_wp2_with fail
            go_roundw
            case rel => exact ⟨1, by omega, by go_num, HFS.out, HB5.out, HB35.out⟩
            case measure => simp [intOf]; omega
          · obtain ⟨m, hm⟩ : ∃ m, m = k - 1 := ⟨_, rfl⟩
            have HM := Lib.hid hm
            have z1 : (k : Int) - 1 = (m : Int) := by omega
            have g3 : (m : Int) < (n2 : Int) := by omega
            have g4 : (0 : Int) ≤ (m : Int) := by omega
            have g5 : (0 : Int) < (k : Int) := by omega
            have g6 : 0 < k := by omega
            have g7 : decide ((k : Int) > 0) = true := decide_eq_true (by omega)
            have g8 : decide (0 < k) = true := decide_eq_true g6
            obtain ⟨y, hym⟩ : ∃ y, D'[m]? = some y := ⟨D'[m]'(by rw [HLD.out]; omega), List.getElem?_eq_getElem _⟩
            have HYM := Lib.hid (show D'[k - 1]? = some y by rw [← hm]; exact hym)
            have HOY' := Lib.hid (HOD.out.at hym)
            obtain ⟨d0, d1, d2, d3, d4⟩ := (HR4.out.five hym).later HR4.out.lt
            obtain ⟨e0, e1, e2, e3, e4⟩ := (HBX4.out.five).later HBX4.out.lt
            obtain ⟨u, hu⟩ : ∃ u, u = decide (cX y x = 0) := ⟨_, rfl⟩
            have HU := Lib.hid hu
            have HCL := Lib.hid (show ∀ q' : Later w4, Calls Tryz.prog 69 #[.agg #[.string y.s, .int .i64 y.t, .int .i64 y.c, .int .i64 y.l, .string y.d], .agg #[.string x.s, .int .i64 x.t, .int .i64 x.c, .int .i64 x.l, .string x.d]] q'.val fun e w'' => e = .returned (.bool u) ∧ ∃ q2 : Later w4, w'' = q2.val from
              fun q' => later_call (by rw [hu, ← cX_is HOY'.out HOX'.out]; exact one_any HOY'.out HOX'.out _))
            clear hym hm hu
            go_wp2_with fail
            refine region_later (by kernel_rfl) ?_
            repeat (go_big_quiet_step ((go_at_call 69; with_reducible exact HCL.out _)))
            refine wpQuiet_nil ?_
            rintro _ ⟨q2, rfl⟩
            have HB5 := Lib.hid (HB4.out.trans (q2.below.mono HB4.out.size))
            have HB35 := Lib.hid (HB34.out.trans (q2.below.mono HB34.out.size))
            clear d0 d1 d2 d3 d4 e0 e1 e2 e3 e4
            cases u with
            | true =>
              have HR2 := Lib.hid (show z = true by
                cases hz : z with
                | true => rfl
                | false => exact absurd (HZ.out.1 hz) (fits_one HP.out (by omega) HXK.out HYM.out (of_decide_eq_true HU.out.symm)))
              go_wp2_with fail
              go_ret
              exact ⟨by rw [HR2.out]; rfl, HB5.out⟩
            | false =>
              have HFS := Lib.hid (HFT.out.step HXK.out HQ.out.symm (fun y' _ h => by
                rw [HYM.out] at h
                cases h
                exact of_decide_eq_false HU.out.symm))
              go_wp2_with fail
              go_roundw
              case rel => exact ⟨k + 1, by omega, by go_num, HFS.out, HB5.out, HB35.out⟩
              case measure => simp [intOf]; omega
      · obtain rfl : k = n2 := by omega
        have g2 : ¬ ((k : Int) < (k : Int)) := by omega
        have HR2 := Lib.hid (show z = false from HZ.out.2 (FitsTo.all (by rw [HLD.out]; exact HFT.out) HS.out HP.out))
        go_wp2_with fail
        go_ret
        exact ⟨by rw [HR2.out]; rfl, HB.out⟩
end Go.Proofs.YtaijcoiepfjecaaGreat
namespace Go.Proofs.YtaijcoiepfjecaaGreat
open Go.RowKit Go.Op
set_option linter.unusedVariables false

set_option maxHeartbeats 8000000 in
set_option maxRecDepth 20000 in
theorem IndexN_any (fid : Nat) (hent : ∀ (args : Array Value) (w : World), (callFunc fid args).run Tryz.prog w = .ok (.enter fid args) w) (A : Option Addr) (n c : Nat) (xs : List Rrd) (g : Rrd → Bool) (w : World) (hx : SeesR w w.heap.size A n xs) (hn : n ≤ 1000000)
    (hf : ∀ (x : Rrd) (wr : World), x ∈ xs → Below w.heap.size w wr → Calls Tryz.prog fid #[.agg #[.string x.s, .int .i64 x.t, .int .i64 x.c, .int .i64 x.l, .string x.d]] wr fun e w' => e = .returned (.bool (g x)) ∧ Below wr.heap.size wr w') :
    Calls Tryz.prog 96 #[.slice A n c, .func (.func fid) #[] #[]] w fun e w' => IxOut (xs.any g) e ∧ Below w.heap.size w w' := by
  have HX := Lib.hid hx
  have HN := Lib.hid hx.1
  have HF := Lib.hid hf
  have HENT := Lib.hid hent
  clear hx hf hent
  go_enter Tryz.func96, Tryz.ntmps96
  go_wp2_with fail
  go_loopw [8] (fun i wr => ∃ k : Nat, k ≤ n ∧ i = .int .i64 (k : Nat) ∧ Upto (fun x => !g x) xs k ∧ Below w.heap.size w wr) (fun i _ => n - (intOf i).toNat)
  case atStart => exact ⟨0, Nat.zero_le _, rfl, Upto.zero _ _, Below.refl _ _⟩
  case round =>
    obtain ⟨k, hk, rfl, hup, hB⟩ := hrel
    have HU := Lib.hid hup
    have HB := Lib.hid hB
    clear hup hB
    by_cases hkn : k < n
    · have g2 : (k : Int) < (n : Int) := by omega
      have g0 : (0 : Int) ≤ (k : Int) := by omega
      obtain ⟨b, off, x, rfl, hb, hxk, ht⟩ := (HX.out.keep HB.out).at hkn
      obtain ⟨x0, x1, x2, x3, x4⟩ := ht
      have HXK := Lib.hid hxk
      have HMEM := Lib.hid (List.mem_of_getElem? hxk)
      clear hxk
      go_wp2_with fail
      rw [HENT.out, Oper.upon_enter]
      refine (HF.out x wr HMEM.out HB.out).mono ?_
      obtain ⟨z, hz⟩ : ∃ z, z = g x := ⟨_, rfl⟩
      have HZ := Lib.hid hz
      rw [← hz]
      rintro e w1 ⟨rfl, hB1⟩
      have HB1 := Lib.hid (HB.out.trans (hB1.mono HB.out.size))
      clear hB1 x0 x1 x2 x3 x4 hz
      cases z with
      | false =>
        have HU2 := Lib.hid (HU.out.succ HXK.out (by rw [← HZ.out]; rfl))
        go_wp2_with fail
        go_roundw
        case rel => exact ⟨k + 1, by omega, by go_num, HU2.out, HB1.out⟩
        case measure => simp [intOf]; omega
      | true =>
        go_wp2_with fail
        go_ret
        exact ⟨⟨_, rfl, ⟨fun _ => List.any_eq_true.2 ⟨x, HMEM.out, HZ.out.symm⟩, fun _ => by omega⟩⟩, HB1.out⟩
    · obtain rfl : k = n := by omega
      have g2 : ¬ ((k : Int) < (k : Int)) := by omega
      have HR := Lib.hid (show xs.any g = false by
        have := HU.out
        rw [← HN.out] at this
        have := this.all
        rw [List.all_eq_true] at this
        rw [List.any_eq_false]
        intro x hx
        have := this x hx
        simpa using this)
      go_wp2_with fail
      go_ret
      exact ⟨⟨_, rfl, ⟨fun h => absurd h (by decide), fun h => by rw [HR.out] at h; cases h⟩⟩, HB.out⟩
set_option maxHeartbeats 8000000 in
set_option maxRecDepth 20000 in
theorem ContN_any (fid : Nat) (hent : ∀ (args : Array Value) (w : World), (callFunc fid args).run Tryz.prog w = .ok (.enter fid args) w) (A : Option Addr) (n c : Nat) (xs : List Rrd) (g : Rrd → Bool) (w : World) (hx : SeesR w w.heap.size A n xs) (hn : n ≤ 1000000)
    (hf : ∀ (x : Rrd) (wr : World), x ∈ xs → Below w.heap.size w wr → Calls Tryz.prog fid #[.agg #[.string x.s, .int .i64 x.t, .int .i64 x.c, .int .i64 x.l, .string x.d]] wr fun e w' => e = .returned (.bool (g x)) ∧ Below wr.heap.size wr w') :
    Calls Tryz.prog 60 #[.slice A n c, .func (.func fid) #[] #[]] w fun e w' => e = .returned (.bool (xs.any g)) ∧ Below w.heap.size w w' := by
  have HX := Lib.hid hx
  have HF := Lib.hid hf
  have HENT := Lib.hid hent
  obtain ⟨z, hz⟩ : ∃ z, z = xs.any g := ⟨_, rfl⟩
  rw [← hz]
  have HZ := Lib.hid hz
  clear hx hf hent hz
  go_enter Tryz.func60, Tryz.ntmps60
  go_wp2_with fail
  refine (IndexN_any fid HENT.out A n c xs g _ HX.out hn HF.out).mono ?_
  rw [← HZ.out]
  rintro e w1 ⟨⟨r, rfl, hr⟩, hB⟩
  have HB := Lib.hid hB
  clear hB
  have hzd : decide (0 ≤ r) = z := by
    cases z with
    | false => exact decide_eq_false (fun h => by have := hr.1 h; cases this)
    | true => exact decide_eq_true (hr.2 rfl)
  have HZD := Lib.hid hzd
  clear hr hzd
  go_wp2_with fail
  go_ret
  exact ⟨by rw [← HZD.out]; rfl, HB.out⟩
set_option maxHeartbeats 8000000 in
set_option maxRecDepth 20000 in
theorem Equal_any (A A' : Option Addr) (n c n' c' : Nat) (xs ys : List Rrd) (w : World) (hx : SeesR w w.heap.size A n xs) (hy : SeesR w w.heap.size A' n' ys) (hn : n ≤ 1073741824) :
    Calls Tryz.prog 30 #[.slice A n c, .slice A' n' c'] w fun e w' => e = .returned (.bool (sameX xs ys)) ∧ Below w.heap.size w w' := by
  have HX := Lib.hid hx
  have HY := Lib.hid hy
  have HN := Lib.hid hx.1
  have HM := Lib.hid hy.1
  clear hx hy
  by_cases hnn : n = n'
  · subst hnn
    go_enter Tryz.func30, Tryz.ntmps30
    go_wp2_with fail
    go_loopw [13] (fun i wr => ∃ k : Nat, k ≤ n ∧ i = .int .i64 (k : Nat) ∧ sameX xs ys = sameX (xs.drop k) (ys.drop k) ∧ Below w.heap.size w wr) (fun i _ => n - (intOf i).toNat)
    case atStart => exact ⟨0, Nat.zero_le _, rfl, rfl, Below.refl _ _⟩
    case round =>
      obtain ⟨k, hk, rfl, hup, hB⟩ := hrel
      have HU := Lib.hid hup
      have HB := Lib.hid hB
      clear hup
      by_cases hkn : k < n
      · have g2 : (k : Int) < (n : Int) := by omega
        have g0 : (0 : Int) ≤ (k : Int) := by omega
        obtain ⟨b, off, x, rfl, hb, hxk, ht⟩ := (HX.out.keep hB).at hkn
        obtain ⟨b', off', y, rfl, hb', hyk, ht'⟩ := (HY.out.keep hB).at hkn
        have HXK := Lib.hid hxk
        have HYK := Lib.hid hyk
        obtain ⟨x0, x1, x2, x3, x4⟩ := ht
        obtain ⟨y0, y1, y2, y3, y4⟩ := ht'
        clear hB hxk hyk
        have hne := rr_neq x y
        have hgd := fun op a b => rr_guard op a b x y
        cases hxy : eqX x y with
        | true =>
          have HS := Lib.hid (show sameX xs ys = sameX (xs.drop (k + 1)) (ys.drop (k + 1)) by rw [HU.out, sameX_step HXK.out HYK.out, hxy, Bool.true_and])
          rw [hxy] at hne
          go_wp2_with fail
          go_quiet (fail)
          go_wp2_with fail
          go_roundw
          case rel => exact ⟨k + 1, by omega, by go_num, HS.out, below_drewN HB.out _⟩
          case measure => simp [intOf]; omega
        | false =>
          have HS := Lib.hid (show sameX xs ys = false by rw [HU.out, sameX_step HXK.out HYK.out, hxy, Bool.false_and])
          rw [hxy] at hne
          go_wp2_with fail
          go_quiet (fail)
          go_wp2_with fail
          go_ret
          exact ⟨by rw [HS.out]; rfl, below_drewN HB.out _⟩
      · obtain rfl : k = n := by omega
        have HS := Lib.hid (show sameX xs ys = true by rw [HU.out, sameX_end HN.out HM.out])
        clear hB
        go_wp2_with fail
        go_ret
        exact ⟨by rw [HS.out]; rfl, HB.out⟩
  · have gn : ((n : Int) == (n' : Int)) = false := by rw [beq_eq_false_iff_ne]; omega
    have HS := Lib.hid (show sameX xs ys = false by
      have h1 := HN.out
      have h2 := HM.out
      rw [Bool.eq_false_iff]
      intro e
      rw [sameX_is] at e
      subst e
      omega)
    go_enter Tryz.func30, Tryz.ntmps30
    go_wp2_with fail
    go_ret
    exact ⟨by rw [HS.out]; rfl, Below.refl _ _⟩

set_option maxHeartbeats 4000000 in
set_option maxRecDepth 20000 in
theorem bad_any (x : Rrd) (hx : OkX x) (w : World) :
    Calls Tryz.prog 76 #[.agg #[.string x.s, .int .i64 x.t, .int .i64 x.c, .int .i64 x.l, .string x.d]] w fun e w' => e = .returned (.bool false) ∧ Below w.heap.size w w' := by
  have HB0 := Lib.hid (show Below w.heap.size w (w.alloc (.cells #[.string x.s, .int .i64 x.t, .int .i64 x.c, .int .i64 x.l, .string x.d] 26)) from (Below.refl _ _).alloc (Nat.le_refl _) _)
  obtain ⟨p0, p1, p2, p3, p4⟩ := box_five w x
  have HX := Lib.hid hx
  clear hx
  go_enter Tryz.func76, Tryz.ntmps76
  go_wp2_with fail
  refine (RRight_any x.s x.d x.toRec _ (rrd_name x) (rrd_data x) (by have := HX.out.name; omega) (by have := HX.out.data; omega)).mono ?_
  rw [HX.out.1]
  rintro e w1 ⟨rfl, hB⟩
  have HB := Lib.hid hB
  clear hB p0 p1 p2 p3 p4
  go_wp2_with fail
  go_ret
  exact ⟨rfl, HB0.out.trans (HB.out.mono HB0.out.size)⟩
theorem gone_dec (D del : List Rrd) : ∃ z : Bool, (z = true ↔ Gone D del) := by
  by_cases h : Gone D del
  · exact ⟨true, by simp [h]⟩
  · exact ⟨false, by simp [h]⟩
/-- what is left, as a list of one's own -/
def RemOut (w w' : World) (D del : List Rrd) (z : Bool) (e : Ending) : Prop :=
  ∃ A c, e = .returned (.tuple #[.slice A (lackX D (ofC del)).length c, .bool z]) ∧ SeesR w' w'.heap.size A (lackX D (ofC del)).length (lackX D (ofC del)) ∧ InCap A (lackX D (ofC del)).length c
set_option maxHeartbeats 8000000 in
set_option maxRecDepth 20000 in
theorem remaining_any (A A2 : Option Addr) (n c n2 c2 : Nat) (D del : List Rrd) (w : World) (hx : SeesR w w.heap.size A n D) (hy : SeesR w w.heap.size A2 n2 del) (ox : OkL D) (sx : SetL cX D) (oy : OkL del) (hn : n ≤ 1000000) (hn2 : n2 ≤ 60) (z : Bool) (hz : z = true ↔ Gone D del) :
    Calls Tryz.prog 37 #[.slice A n c, .slice A2 n2 c2] w fun e w' => RemOut w w' D del z e ∧ Below w.heap.size w w' := by
  have HX := Lib.hid hx
  have HY := Lib.hid hy
  have HOX := Lib.hid ox
  have HSX := Lib.hid sx
  have HOY := Lib.hid oy
  have HLD := Lib.hid hx.1
  have HLL := Lib.hid hy.1
  have HGZ := Lib.hid hz
  clear hx hy ox sx oy hz
  go_enter Tryz.func37, Tryz.ntmps37
  go_wp2_with fail
  refine (ContN_any 76 (enters_of Tryz.func76 (by kernel_rfl) rfl) A2 n2 c2 del (fun _ => false) _ HY.out (by omega) (fun x wr hm _ => bad_any x (HOY.out x hm) wr)).mono ?_
  rw [show (del.any fun _ => false) = false by simp]
  rintro e w1 ⟨rfl, hB⟩
  have HB1 := Lib.hid hB
  have HX1 := Lib.hid ((HX.out.keep hB).more hB.size)
  have HY1 := Lib.hid ((HY.out.keep hB).more hB.size)
  clear hB
  go_wp2_with fail
  refine (Of_any A2 n2 c2 del _ HY1.out HOY.out hn2).mono ?_
  rintro e w2 ⟨v2, rfl, ho, hB⟩
  have HB2 := Lib.hid (HB1.out.trans (hB.mono HB1.out.size))
  have HX2 := Lib.hid ((HX1.out.keep hB).more hB.size)
  obtain ⟨A4, c4, rfl, hs4, hc4⟩ := own_sees ho
  have HS4 := Lib.hid hs4
  have HC4 := Lib.hid hc4
  have hl4 := ofC_len del
  clear hB ho hs4 hc4
  obtain ⟨n4, hn4⟩ : ∃ n4, n4 = (ofC del).length := ⟨_, rfl⟩
  rw [← hn4] at HS4 HC4 hl4 ⊢
  clear hn4
  go_wp2_with fail
  refine (without_any A A4 n c n4 c4 D (ofC del) _ HX2.out HS4.out HC4.out HOX.out HOY.out.ofC HSX.out (ofC_set del) hn (by have := HLL.out; omega)).mono ?_
  rintro e w3 ⟨v3, rfl, ho, hB⟩
  have HB3 := Lib.hid (HB2.out.trans (hB.mono HB2.out.size))
  have hg := gone_is (D := D) (del := del) HSX.out
  obtain ⟨A5, c5, rfl, hs5, hc5⟩ := own_sees ho
  obtain ⟨L, hL⟩ : ∃ L, L = lackX D (ofC del) := ⟨_, rfl⟩
  have HL := Lib.hid hL
  rw [← hL] at hs5 hc5 hg ⊢
  obtain ⟨m, hm⟩ : ∃ m, m = L.length := ⟨_, rfl⟩
  rw [← hm, HLL.out, HLD.out] at hg
  have HM := Lib.hid hm
  rw [← hm] at hs5 hc5 ⊢
  have HS5 := Lib.hid hs5
  have HC5 := Lib.hid hc5
  have hml : m ≤ 1000000 := by have := lackX_len D (ofC del); rw [hm, hL]; have := HLD.out; omega
  have HZ := Lib.hid (show z = ((m : Int) + (n2 : Int) == (n : Int)) by
    rw [Bool.eq_iff_iff, HGZ.out, ← hg, beq_iff_eq]
    omega)
  have gw : wrap64 ((m : Int) + (n2 : Int)) = (m : Int) + (n2 : Int) := by unfold wrap64; omega
  clear hB ho hs5 hc5 hL hm hg
  go_wp2_with fail
  go_ret2
  refine ⟨?_, HB3.out⟩
  unfold RemOut
  rw [← HL.out, ← HM.out]
  exact ⟨A5, c5, by rw [HZ.out]; rfl, HS5.out, HC5.out⟩
end Go.Proofs.YtaijcoiepfjecaaGreat
