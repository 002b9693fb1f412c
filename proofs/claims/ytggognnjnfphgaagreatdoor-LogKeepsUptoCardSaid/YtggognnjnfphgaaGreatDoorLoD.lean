/- LoD: texts LogG, LogB, LogH, LogP of our own, joined. No statement of the seat is proved here. -/
import Derived.Test.YtggognnjnfphgaaGreatDoorLoC
import Derived.Test.YtggognnjnfphgaaGreatDoorEnF
import Derived.Test.YtggognnjnfphgaaGreatDoorLoA
namespace Go.Proofs.YtggognnjnfphgaaGreatDoor
open Go.RowKit Go.Maps Go.Sort

/-- a slice of entries that is looked at -/
def SeesE (W : World) (A : Option Addr) (n : Nat) (vs : List Ev) : Prop :=
  vs.length = n ∧ (0 < n → ∃ b off, A = some ⟨b, off, none⟩ ∧ b < W.heap.size ∧ ∀ j x, vs[j]? = some x →
    W.cell? ⟨b, off + j * 4, none⟩ = some (.int .u32 x.f) ∧ W.cell? ⟨b, off + j * 4 + 1, none⟩ = some (.int .u32 x.t) ∧ W.cell? ⟨b, off + j * 4 + 2, none⟩ = some (.slice x.A x.n x.c) ∧ W.cell? ⟨b, off + j * 4 + 3, none⟩ = some (.slice x.A' x.n' x.c'))
theorem SeesE.keep {W W' : World} {A : Option Addr} {n : Nat} {vs : List Ev} (h : SeesE W A n vs) (hb : Below W.heap.size W W') : SeesE W' A n vs :=
  ⟨h.1, fun hn => by
    obtain ⟨b, off, e, hlt, hc⟩ := h.2 hn
    exact ⟨b, off, e, Nat.lt_of_lt_of_le hlt hb.size, fun j x hx => by
      obtain ⟨x0, x1, x2, x3⟩ := hc j x hx
      exact ⟨(hb.cell hlt).trans x0, (hb.cell hlt).trans x1, (hb.cell hlt).trans x2, (hb.cell hlt).trans x3⟩⟩⟩
theorem SeesE.keepB {B : Nat} {W W' : World} {A : Option Addr} {n : Nat} {vs : List Ev} (h : SeesE W A n vs) (hb : Below W.heap.size W W') (_h : B ≤ W.heap.size) : SeesE W' A n vs := h.keep hb
theorem SeesE.own {w : World} {base n c : Nat} {A : Option Addr} {vs : List Ev} (h : w.ownsRow base enT 4 (.slice A n c) n (ecells vs)) : SeesE w A n vs := by
  have hl := evs_len h
  refine ⟨hl, fun hn => ?_⟩
  obtain ⟨x, hx⟩ : ∃ x, vs[0]? = some x := ⟨vs[0]'(by omega), List.getElem?_eq_getElem _⟩
  obtain ⟨g, rfl, _, hg, _⟩ := own_ev h hl hx
  refine ⟨g, 0, rfl, hg, fun j y hy => ?_⟩
  obtain ⟨g', e, _, _, a0, a1, a2, a3⟩ := own_ev h hl hy
  injection e with e
  injection e with e
  subst e
  rw [Nat.zero_add]
  exact ⟨a0, a1, a2, a3⟩
theorem SeesE.take {w : World} {A : Option Addr} {n m : Nat} {vs : List Ev} (h : SeesE w A n vs) (hm : m ≤ n) : SeesE w A m (vs.take m) := by
  refine ⟨by rw [List.length_take, h.1]; omega, fun h0 => ?_⟩
  obtain ⟨b, off, e, hb, hc⟩ := h.2 (by omega)
  exact ⟨b, off, e, hb, fun j x hx => hc j x (by rw [List.getElem?_take] at hx; split at hx <;> first | exact hx | cases hx)⟩
theorem SeesE.drop {w : World} {b off n m : Nat} {vs : List Ev} (h : SeesE w (some ⟨b, off, none⟩) n vs) (hm : m ≤ n) : SeesE w (some ⟨b, off + m * 4, none⟩) (n - m) (vs.drop m) := by
  refine ⟨by rw [List.length_drop, h.1], fun h0 => ?_⟩
  obtain ⟨b', off', e, hb, hc⟩ := h.2 (by omega)
  obtain ⟨rfl, rfl⟩ : b = b' ∧ off = off' := by simpa using e
  refine ⟨b, off + m * 4, rfl, hb, fun j x hx => ?_⟩
  rw [List.getElem?_drop] at hx
  have := hc (m + j) x hx
  rwa [show off + (m + j) * 4 = off + m * 4 + j * 4 by omega] at this
theorem SeesE.at {w : World} {A : Option Addr} {n : Nat} {vs : List Ev} (h : SeesE w A n vs) {j : Nat} {x : Ev} (hx : vs[j]? = some x) : ∃ b off, A = some ⟨b, off, none⟩ ∧ b < w.heap.size ∧ w.cell? ⟨b, off + j * 4, none⟩ = some (.int .u32 x.f) ∧ w.cell? ⟨b, off + j * 4 + 1, none⟩ = some (.int .u32 x.t) ∧ w.cell? ⟨b, off + j * 4 + 2, none⟩ = some (.slice x.A x.n x.c) ∧ w.cell? ⟨b, off + j * 4 + 3, none⟩ = some (.slice x.A' x.n' x.c') := by
  have hj : j < n := by rw [← h.1]; exact (List.getElem?_eq_some_iff.1 hx).1
  obtain ⟨b, off, e, hb, hc⟩ := h.2 (by omega)
  exact ⟨b, off, e, hb, hc j x hx⟩

/-! ### Few -/
def fewV (v : Ev) : Bool := fewE v.xs v.ys
def fewL (vs : List Ev) : Bool := (vs.take 12).all fewV && decide (vs.length ≤ 10)
theorem fewL_bad {vs : List Ev} {k : Nat} {x : Ev} (hx : vs[k]? = some x) (hk : k < 12) (h : fewV x = false) : fewL vs = false := by
  unfold fewL
  have hm : x ∈ vs.take 12 := List.mem_of_getElem? (by rw [List.getElem?_take, if_pos hk]; exact hx)
  have : (vs.take 12).all fewV = false := by
    rw [List.all_eq_false]
    exact ⟨x, hm, by rw [h]; decide⟩
  rw [this]; rfl
theorem fewL_is {vs : List Ev} (h : fewL vs = true) : vs.length ≤ 10 ∧ ∀ x ∈ vs, fewV x = true := by
  unfold fewL at h
  rw [Bool.and_eq_true, decide_eq_true_eq] at h
  refine ⟨h.2, fun x hx => ?_⟩
  rw [List.take_of_length_le (by omega)] at h
  exact List.all_eq_true.1 h.1 x hx
/-- slices of records of the size that readings have -/
def Bulky (B : Nat) (vs : List Ev) : Prop := ∀ v ∈ vs, v.n ≤ B ∧ v.n' ≤ B
set_option maxHeartbeats 4000000 in
set_option maxRecDepth 20000 in
theorem FewL_any {B : Nat} (A : Option Addr) (n c : Nat) (vs : List Ev) (w : World) (h : SeesE w A n vs) (hs : SeesVs B w vs) (hb : Bulky 100000000 vs) :
    Calls Tryz.prog 9 #[.slice A n c] w fun e w' => e = .returned (.bool (fewL vs)) ∧ Below w.heap.size w w' := by
  have HS := Lib.hid hs
  have HE := Lib.hid h
  have HBK := Lib.hid hb
  have HN := Lib.hid h.1
  clear hs h hb
  go_enter Tryz.func9, Tryz.ntmps9
  go_wp2_with fail
  go_loopw [3] (fun i wr => ∃ k : Nat, k ≤ n ∧ k ≤ 12 ∧ i = .int .i64 (k : Nat) ∧ (vs.take k).all fewV = true ∧ Below w.heap.size w wr) (fun i _ => n - (intOf i).toNat)
  case atStart => exact ⟨0, Nat.zero_le _, by omega, rfl, by simp, Below.refl _ _⟩
  case round =>
    obtain ⟨k, hk, hk12, rfl, hall, hB⟩ := hrel
    have HALL := Lib.hid hall
    have HB := Lib.hid hB
    have gk : (k : Int) ≤ 12 := by omega
    clear hall hB
    by_cases hkn : k < n
    · have g1 : (k : Int) < (n : Int) := by omega
      have g0 : (0 : Int) ≤ (k : Int) := by omega
      by_cases h12 : k < 12
      · have g2 : (k : Int) < 12 := by omega
        obtain ⟨y, hy⟩ : ∃ y, vs[k]? = some y := ⟨vs[k]'(by rw [HN.out]; exact hkn), List.getElem?_eq_getElem _⟩
        obtain ⟨b, off, rfl, hbl, y0, y1, y2, y3⟩ := (HE.out.keep HB.out).at hy
        have hyv := (HS.out.keep HB.out) y (List.mem_of_getElem? hy)
        have hyb := HBK.out y (List.mem_of_getElem? hy)
        have HF := Lib.hid (Few_any y.f y.t y.A y.A' y.n y.c y.n' y.c' y.xs y.ys wr hyv.1.1 hyv.2.1 hyb.1 hyb.2)
        have HY := Lib.hid hy
        clear hyv hyb hy
        go_wp2_with fail
        refine Calls.mono HF.out ?_
        cases hf : fewV y with
        | false =>
          have HR := Lib.hid (fewL_bad HY.out h12 hf)
          have HFF := Lib.hid (show fewE y.xs y.ys = false from hf)
          rw [HFF.out]
          clear hf
          rintro e w3 ⟨rfl, hB3⟩
          have HB3 := Lib.hid (HB.out.trans (hB3.mono HB.out.size))
          clear hB3 y0 y1 y2 y3
          go_wp2_with fail
          go_ret
          exact ⟨by rw [HR.out]; rfl, HB3.out⟩
        | true =>
          have HFF := Lib.hid (show fewE y.xs y.ys = true from hf)
          rw [HFF.out]
          have HAL := Lib.hid (show (vs.take (k + 1)).all fewV = true by rw [List.take_add_one, HY.out, List.all_append, HALL.out]; simp [hf])
          clear hf
          rintro e w3 ⟨rfl, hB3⟩
          have HB3 := Lib.hid (HB.out.trans (hB3.mono HB.out.size))
          clear hB3 y0 y1 y2 y3
          go_wp2_with fail
          go_roundw
          case rel => exact ⟨k + 1, by omega, by omega, by go_num, HAL.out, HB3.out⟩
          case measure => simp [intOf]; omega
      · obtain rfl : k = 12 := by omega
        have g3 : (12 : Int) < (n : Int) := by omega
        have gz : ¬ (n : Int) ≤ 10 := by omega
        have HR := Lib.hid (show fewL vs = false by unfold fewL; rw [HN.out, show decide (n ≤ 10) = false by simp; omega, Bool.and_false])
        go_wp2_with fail
        go_ret
        exact ⟨by rw [HR.out]; rfl, HB.out⟩
    · obtain rfl : k = n := by omega
      have g1 : ¬ (k : Int) < (k : Int) := by omega
      have HR := Lib.hid (show fewL vs = decide ((k : Int) ≤ 10) by
        unfold fewL
        have := HALL.out
        rw [List.take_of_length_le (by rw [HN.out]; exact Nat.le_refl _)] at this
        rw [List.take_of_length_le (by rw [HN.out]; omega), this, HN.out, Bool.true_and, decide_eq_decide]
        omega)
      go_wp2_with fail
      go_ret
      exact ⟨by rw [HR.out]; rfl, HB.out⟩

/-! ### formed -/
def okV (v : Ev) : Bool := okE v.ent
theorem few_small {v : Ev} (h : fewV v = true) : (v.xs ++ v.ys).length ≤ 30 ∧ ∀ z ∈ v.xs ++ v.ys, z.s.size ≤ 600 ∧ z.d.size ≤ 2000 := by
  unfold fewV fewE at h
  rw [Bool.and_eq_true, decide_eq_true_eq] at h
  exact ⟨h.2, fun z hz => fewR_is.1 (List.all_eq_true.1 h.1 z hz)⟩
set_option maxHeartbeats 4000000 in
set_option maxRecDepth 20000 in
theorem formed_any {B : Nat} (A : Option Addr) (n c : Nat) (vs : List Ev) (w : World) (h : SeesE w A n vs) (hs : SeesVs B w vs) (hf : ∀ v ∈ vs, fewV v = true) (hn : n ≤ 100000) :
    Calls Tryz.prog 10 #[.slice A n c] w fun e w' => e = .returned (.bool (vs.all okV)) ∧ Below w.heap.size w w' := by
  have HS := Lib.hid hs
  have HE := Lib.hid h
  have HFW := Lib.hid hf
  have HN := Lib.hid h.1
  clear hs h hf
  go_enter Tryz.func10, Tryz.ntmps10
  go_wp2_with fail
  go_loopw [3] (fun i wr => ∃ k : Nat, k ≤ n ∧ i = .int .i64 (k : Nat) ∧ (vs.take k).all okV = true ∧ Below w.heap.size w wr) (fun i _ => n - (intOf i).toNat)
  case atStart => exact ⟨0, Nat.zero_le _, rfl, by simp, Below.refl _ _⟩
  case round =>
    obtain ⟨k, hk, rfl, hall, hB⟩ := hrel
    have HALL := Lib.hid hall
    have HB := Lib.hid hB
    clear hall hB
    by_cases hkn : k < n
    · have g1 : (k : Int) < (n : Int) := by omega
      have g0 : (0 : Int) ≤ (k : Int) := by omega
      obtain ⟨y, hy⟩ : ∃ y, vs[k]? = some y := ⟨vs[k]'(by rw [HN.out]; exact hkn), List.getElem?_eq_getElem _⟩
      obtain ⟨b, off, rfl, hbl, y0, y1, y2, y3⟩ := (HE.out.keep HB.out).at hy
      have hyv := (HS.out.keep HB.out) y (List.mem_of_getElem? hy)
      obtain ⟨s1, s2⟩ := few_small (HFW.out y (List.mem_of_getElem? hy))
      have hl1 := hyv.1.1.1
      have hl2 := hyv.2.1.1
      rw [List.length_append] at s1
      have HF := Lib.hid (Formed_any y.f y.t y.A y.A' y.n y.c y.n' y.c' y.xs y.ys wr hyv.1.1 hyv.2.1 (by omega) (by omega) s2)
      have HY := Lib.hid hy
      clear hyv hy s1 s2 hl1 hl2
      go_wp2_with fail
      refine Calls.mono HF.out ?_
      cases hf : okV y with
      | false =>
        have HR := Lib.hid (show vs.all okV = false from not_all HY.out hf)
        have HFF := Lib.hid (show okE (entOf y.f y.t y.xs y.ys) = false from hf)
        rw [HFF.out]
        clear hf
        rintro e w3 ⟨rfl, hB3⟩
        have HB3 := Lib.hid (HB.out.trans (hB3.mono HB.out.size))
        clear hB3 y0 y1 y2 y3
        go_wp2_with fail
        go_ret
        exact ⟨by rw [HR.out]; rfl, HB3.out⟩
      | true =>
        have HFF := Lib.hid (show okE (entOf y.f y.t y.xs y.ys) = true from hf)
        rw [HFF.out]
        have HAL := Lib.hid (show (vs.take (k + 1)).all okV = true by rw [List.take_add_one, HY.out, List.all_append, HALL.out]; simp [hf])
        clear hf
        rintro e w3 ⟨rfl, hB3⟩
        have HB3 := Lib.hid (HB.out.trans (hB3.mono HB.out.size))
        clear hB3 y0 y1 y2 y3
        go_wp2_with fail
        go_roundw
        case rel => exact ⟨k + 1, by omega, by go_num, HAL.out, HB3.out⟩
        case measure => simp [intOf]; omega
    · obtain rfl : k = n := by omega
      have g1 : ¬ (k : Int) < (k : Int) := by omega
      have HR := Lib.hid (show vs.all okV = true by
        have := HALL.out
        rwa [List.take_of_length_le (by rw [HN.out]; exact Nat.le_refl _)] at this)
      go_wp2_with fail
      go_ret
      exact ⟨by rw [HR.out]; rfl, HB.out⟩

/-! ### Same -/
theorem of_to (l : List Rrd) : (l.map Rrd.toRec).map ofRec = l := by
  induction l with
  | nil => rfl
  | cons x l ih =>
    rw [List.map_cons, List.map_cons, ih]
    congr 1
theorem ent_inj {x y : Ev} (h : x.ent = y.ent) : x.f = y.f ∧ x.t = y.t ∧ x.xs = y.xs ∧ x.ys = y.ys := by
  unfold Ev.ent entOf at h
  injection h with h1 h2 h3 h4
  refine ⟨h1, h2, ?_, ?_⟩
  · have := congrArg (List.map ofRec) h3; rwa [of_to, of_to] at this
  · have := congrArg (List.map ofRec) h4; rwa [of_to, of_to] at this
set_option maxHeartbeats 4000000 in
set_option maxRecDepth 20000 in
theorem SameL_any {B : Nat} (A A2 : Option Addr) (n c c2 : Nat) (vs us : List Ev) (w : World) (h : SeesE w A n vs) (hs : SeesVs B w vs) (h2 : SeesE w A2 n us) (hs2 : SeesVs B w us) (he : vs.map Ev.ent = us.map Ev.ent) (hb : Bulky 1073741824 vs) (hn : n ≤ 100000) :
    Calls Tryz.prog 15 #[.slice A n c, .slice A2 n c2] w fun e w' => e = .returned (.bool true) ∧ Below w.heap.size w w' := by
  have HS := Lib.hid hs
  have HE := Lib.hid h
  have HS2 := Lib.hid hs2
  have HE2 := Lib.hid h2
  have HBK := Lib.hid hb
  have HN := Lib.hid h.1
  have HN2 := Lib.hid h2.1
  have HEQ := Lib.hid he
  clear hs h hs2 h2 hb he
  go_enter Tryz.func15, Tryz.ntmps15
  go_wp2_with fail
  go_loopw [5] (fun i wr => ∃ k : Nat, k ≤ n ∧ i = .int .i64 (k : Nat) ∧ Below w.heap.size w wr) (fun i _ => n - (intOf i).toNat)
  case atStart => exact ⟨0, Nat.zero_le _, rfl, Below.refl _ _⟩
  case round =>
    obtain ⟨k, hk, rfl, hB⟩ := hrel
    have HB := Lib.hid hB
    clear hB
    by_cases hkn : k < n
    · have g1 : (k : Int) < (n : Int) := by omega
      have g0 : (0 : Int) ≤ (k : Int) := by omega
      obtain ⟨y, hy⟩ : ∃ y, vs[k]? = some y := ⟨vs[k]'(by rw [HN.out]; exact hkn), List.getElem?_eq_getElem _⟩
      obtain ⟨z, hz⟩ : ∃ z, us[k]? = some z := ⟨us[k]'(by rw [HN2.out]; exact hkn), List.getElem?_eq_getElem _⟩
      have hyz : y.ent = z.ent := by
        have := congrArg (fun l => l[k]?) HEQ.out
        simp only [List.getElem?_map, hy, hz, Option.map_some, Option.some.injEq] at this
        exact this
      obtain ⟨q1, q2, q3, q4⟩ := ent_inj hyz
      obtain ⟨b, off, rfl, hbl, y0, y1, y2, y3⟩ := (HE.out.keep HB.out).at hy
      obtain ⟨b2, off2, rfl, hbl2, z0, z1, z2, z3⟩ := (HE2.out.keep HB.out).at hz
      have hyv := (HS.out.keep HB.out) y (List.mem_of_getElem? hy)
      have hzv := (HS2.out.keep HB.out) z (List.mem_of_getElem? hz)
      have hyb := HBK.out y (List.mem_of_getElem? hy)
      rw [← q1] at z0
      rw [← q2] at z1
      have hzv1 := hzv.1.1
      have hzv2 := hzv.2.1
      rw [← q3] at hzv1
      rw [← q4] at hzv2
      have HSM := Lib.hid (fun q : Later wr => ESame_yes y.f y.t y.A y.A' z.A z.A' y.n y.c y.n' y.c' z.n z.c z.n' z.c' y.xs y.ys q.val ((hyv.1.1.keep q.below).more q.below.size) ((hyv.2.1.keep q.below).more q.below.size) ((hzv1.keep q.below).more q.below.size) ((hzv2.keep q.below).more q.below.size) hyb.1 hyb.2)
      unfold enA at HSM
      have a0 : ∀ q : Later wr, q.val.cell? ⟨b, off + k * 4, none⟩ = some (.int .u32 y.f) := fun q => (q.below.cell hbl).trans y0
      have a1 : ∀ q : Later wr, q.val.cell? ⟨b, off + k * 4 + 1, none⟩ = some (.int .u32 y.t) := fun q => (q.below.cell hbl).trans y1
      have a2 : ∀ q : Later wr, q.val.cell? ⟨b, off + k * 4 + 2, none⟩ = some (.slice y.A y.n y.c) := fun q => (q.below.cell hbl).trans y2
      have a3 : ∀ q : Later wr, q.val.cell? ⟨b, off + k * 4 + 3, none⟩ = some (.slice y.A' y.n' y.c') := fun q => (q.below.cell hbl).trans y3
      have b0 : ∀ q : Later wr, q.val.cell? ⟨b2, off2 + k * 4, none⟩ = some (.int .u32 y.f) := fun q => (q.below.cell hbl2).trans z0
      have b1 : ∀ q : Later wr, q.val.cell? ⟨b2, off2 + k * 4 + 1, none⟩ = some (.int .u32 y.t) := fun q => (q.below.cell hbl2).trans z1
      have b2' : ∀ q : Later wr, q.val.cell? ⟨b2, off2 + k * 4 + 2, none⟩ = some (.slice z.A z.n z.c) := fun q => (q.below.cell hbl2).trans z2
      have b3 : ∀ q : Later wr, q.val.cell? ⟨b2, off2 + k * 4 + 3, none⟩ = some (.slice z.A' z.n' z.c') := fun q => (q.below.cell hbl2).trans z3
      clear hyv hzv hyb hzv1 hzv2 y0 y1 y2 y3 z0 z1 z2 z3 q1 q2 q3 q4 hyz hy hz hbl hbl2
      go_wp2_with fail
      refine region_later (by kernel_rfl) ?_
      repeat (go_big_quiet_step ((go_at_call 36; refine later_call (v := .bool true) ?_; exact HSM.out _)))
      refine wpQuiet_nil ?_
      rintro _ ⟨q2, rfl⟩
      have HB3 := Lib.hid (HB.out.trans (q2.below.mono HB.out.size))
      clear a0 a1 a2 a3 b0 b1 b2' b3 HSM
      generalize q2.val = w3 at HB3 ⊢
      go_wp2_with fail
      go_roundw
      case rel => exact ⟨k + 1, by omega, by go_num, HB3.out⟩
      case measure => simp [intOf]; omega
    · obtain rfl : k = n := by omega
      have g1 : ¬ (k : Int) < (k : Int) := by omega
      go_wp2_with fail
      go_ret
      exact ⟨rfl, HB.out⟩
end Go.Proofs.YtggognnjnfphgaaGreatDoor
namespace Go.Proofs.YtggognnjnfphgaaGreatDoor
open Go.RowKit Go.Maps Go.Sort

theorem name_seven : mk (fileL 7) = ⟨#[108, 111, 103, 45, 55]⟩ := by
  have : Lib.decDigits 7 = [55] := by rw [Lib.decDigits_one (by decide)]; rfl
  unfold fileL
  rw [this]; rfl
theorem name_one : fileL 1 = L1 := by
  have : Lib.decDigits 1 = [49] := by rw [Lib.decDigits_one (by decide)]; rfl
  unfold fileL
  rw [this]; rfl
theorem hadL_nil : hadL [] = ([], 0) := by unfold hadL; rw [scan_nil]; rfl
theorem open_new (q : Int) (nm : Bys) (h : isN nm = true) : openL (St.new q) nm = (St.new q, 0) ∧ readS (St.new q) nm = ([], 6) := by
  have hr : readS (St.new q) nm = ([], 6) := by
    have e : openS (St.new q) nm (isN nm) = (0, 6) := by rw [h]; rfl
    unfold readS
    rw [e]
    rfl
  refine ⟨?_, hr⟩
  unfold openL
  rw [hr]
  simp [hadL_nil]
def oneTwo : Ev := ⟨1, 2, none, 0, 0, [], none, 0, 0, []⟩
theorem one_two_ok : okE oneTwo.ent = true := by decide
theorem one_two_len : (bytesE oneTwo.ent).length = 12 := by decide
theorem write_seven (fr : Bys) (h : (fr.length : Int) ≤ 1000) : (writeL (St.new 1000) [108, 111, 103, 45, 55] fr).2.2 = 0 := by
  have h1 : appendS (St.new 1000) [108, 111, 103, 45, 55] fr = (⟨1000, [(fr, 0)], [([108, 111, 103, 45, 55], 0)], [], [⟨[], [108, 111, 103, 45, 55], some 0⟩], 0, false⟩, 0) := by
    unfold appendS
    rw [if_neg (by simp [St.new]), if_pos (by decide), if_neg (by simp [used, St.new]; omega)]
    rfl
  have w1 : wr1 (St.new 1000) [108, 111, 103, 45, 55] fr = _ := h1
  have w2 : wr2 (St.new 1000) [108, 111, 103, 45, 55] fr = (⟨1000, [(fr, fr.length)], [([108, 111, 103, 45, 55], 0)], [], [⟨[], [108, 111, 103, 45, 55], some 0⟩], 0, false⟩, 0) := by unfold wr2; rw [w1]; rfl
  have w3 : (wr3 (St.new 1000) [108, 111, 103, 45, 55] fr).2 = 0 := by unfold wr3; rw [w2]; rfl
  unfold writeL
  rw [if_neg (by simp [St.new]), w1, if_neg (by simp), w2, if_neg (by simp)]
  split
  · rfl
  · rw [if_neg (by rw [w3]; decide)]
theorem add_seven : (addL (St.new 1000) [108, 111, 103, 45, 55] [] 0 false oneTwo.ent).c = 0 ∧ (addL (St.new 1000) [108, 111, 103, 45, 55] [] 0 false oneTwo.ent).en = 20 := by
  unfold addL
  rw [if_neg (by rw [one_two_ok]; decide), if_neg (by decide), if_neg (by decide), if_neg (by rw [write_seven _ (by rw [frameL_len, one_two_len]; decide)]; decide)]
  exact ⟨rfl, by simp [one_two_len]⟩
set_option maxHeartbeats 4000000 in
set_option maxRecDepth 20000 in
theorem awake_any (w : World) : Calls Tryz.prog 7 #[] w fun e w' => e = .returned (.bool true) ∧ Below w.heap.size w w' := by
  obtain ⟨F7, hF7⟩ : ∃ F7, F7 = mk (fileL 7) := ⟨_, rfl⟩
  have hF : F7 = ⟨#[108, 111, 103, 45, 55]⟩ := by rw [hF7]; exact name_seven
  have hfl : fileL 7 = [108, 111, 103, 45, 55] := by
    have := congrArg (fun b : ByteArray => b.data.toList) name_seven
    simpa [mk] using this
  have HFL := Lib.hid hfl
  have HN7 := Lib.hid (fun W => Name_small 7 (by decide) W)
  obtain ⟨o1, o2⟩ := open_new 1000 [108, 111, 103, 45, 55] (by decide)
  have O1 := Lib.hid o1
  have O2 := Lib.hid o2
  have HEQ := Lib.hid hF
  have HF7 := Lib.hid hF7
  clear hF hfl o1 o2 hF7
  go_enter Tryz.func7, Tryz.ntmps7
  go_wp2_with fail
  refine (live_New 1000 w (by decide)).mono ?_
  rintro e w1 ⟨d, rfl, hL, hB⟩
  have HL1 := Lib.hid hL
  have HB1 := Lib.hid hB
  clear hL hB
  go_wp2_with fail
  have hop := Open_any HL1.out (by omega) (by omega) 7 [108, 111, 103, 45, 55] (by intro W; have := HN7.out W; rw [HFL.out] at this; exact this) (by decide) (by rw [O2.out]; decide)
  unfold Opened at hop
  rw [O1.out, O2.out] at hop
  refine hop.mono ?_
  rintro e w2 ⟨p, rfl, hL2, hK2, hx⟩
  obtain ⟨g, v, vs, rfl, hla, hvs, _, _⟩ := hx rfl
  have hvs0 : vs = [] := by
    have : vs.map Ev.ent = [] := by rw [hvs]; exact congrArg Prod.fst hadL_nil
    simpa using this
  subst hvs0
  have hla' : LogAt w.heap.size w2 g d 7 v [] 0 0 false := by
    have e : (hadL (([], 6) : Bys × Int).1).2 = 0 := congrArg Prod.snd hadL_nil
    rw [e] at hla; exact hla
  have HLA := Lib.hid hla'
  have HL2 := Lib.hid hL2
  have HB2 := Lib.hid (HB1.out.trans (hK2.below HL1.out.base))
  clear hop hL2 hK2 hx hla hla' hvs
  go_wp2_with fail
  refine (Gen_log HLA.out).mono ?_
  rintro e w3 ⟨rfl, rfl⟩
  go_wp2_with fail
  refine (HN7.out _).mono ?_
  rw [← HF7.out, HEQ.out]
  rintro e w3 ⟨rfl, hB3⟩
  have HLA3 := Lib.hid (HLA.out.below hB3)
  have HL3 := Lib.hid (HL2.out.same hB3)
  have HB3 := Lib.hid (HB2.out.trans (hB3.mono HB2.out.size))
  clear hB3
  go_wp2_with fail
  have had := Add_any HL3.out (by omega) (by omega) HLA3.out [108, 111, 103, 45, 55] (by intro W; have := HN7.out W; rw [HFL.out] at this; exact this) (by decide) oneTwo ⟨rfl, fun h => absurd h (by decide)⟩ ⟨rfl, fun h => absurd h (by decide)⟩ ⟨by decide, by decide⟩ ⟨by decide, by decide⟩ (by decide) (fun z hz => by cases hz) (by omega) (by omega)
  refine (show Calls _ _ _ _ _ from had).mono ?_
  rintro e w4 ⟨rfl, hL4, ⟨v', vs', hla4, hvs4, _⟩, hK4⟩
  obtain ⟨a1, a2⟩ := add_seven
  rw [show addL (St.new 1000) [108, 111, 103, 45, 55] (([] : List Ev).map Ev.ent) 0 false oneTwo.ent = addL (St.new 1000) [108, 111, 103, 45, 55] [] 0 false oneTwo.ent from rfl] at hla4 ⊢
  rw [a2] at hla4
  rw [a1]
  have HLA4 := Lib.hid hla4
  have HB4 := Lib.hid (HB3.out.trans (hK4.below HL3.out.base))
  clear had hL4 hla4 hvs4 hK4 a1 a2
  go_wp2_with fail
  refine (Size_log HLA4.out).mono ?_
  rintro e w5 ⟨rfl, rfl⟩
  go_wp2_with fail
  go_ret
  exact ⟨rfl, HB4.out⟩
end Go.Proofs.YtggognnjnfphgaaGreatDoor
namespace Go.Proofs.YtggognnjnfphgaaGreatDoor
open Go.RowKit Go.Maps Go.Sort

/-- the entries numbered -/
def numV (i : Nat) (v : Ev) : Ev := { v with f := (i : Nat), t := (i : Int) + 1 }
def numE (vs : List Ev) : List Ev := vs.mapIdx numV
theorem numE_at {vs : List Ev} {k : Nat} {v : Ev} (h : vs[k]? = some v) : (numE vs)[k]? = some (numV k v) := by
  unfold numE
  rw [List.getElem?_mapIdx, h]; rfl
theorem numE_len (vs : List Ev) : (numE vs).length = vs.length := by simp [numE]
theorem numE_mem {vs : List Ev} {x : Ev} (h : x ∈ numE vs) : ∃ k v, vs[k]? = some v ∧ x = numV k v := by
  obtain ⟨k, hk⟩ := List.getElem?_of_mem h
  have hlt : k < vs.length := by rw [← numE_len]; exact (List.getElem?_eq_some_iff.1 hk).1
  have := numE_at (List.getElem?_eq_getElem hlt)
  rw [hk] at this
  exact ⟨k, vs[k], List.getElem?_eq_getElem hlt, by injection this⟩
theorem numE_sees {B : Nat} {w : World} {vs : List Ev} (h : SeesVs B w vs) : SeesVs B w (numE vs) := by
  intro x hx
  obtain ⟨k, v, hv, rfl⟩ := numE_mem hx
  exact h v (List.mem_of_getElem? hv)
def esOf (vs : List Ev) : List Ent := (numE vs).map Ev.ent
theorem esOf_at {vs : List Ev} {k : Nat} {v : Ev} (h : vs[k]? = some v) : (esOf vs)[k]? = some (numV k v).ent := by
  unfold esOf
  rw [List.getElem?_map, numE_at h]; rfl
theorem esOf_len (vs : List Ev) : (esOf vs).length = vs.length := by simp [esOf, numE_len]
/-- small and formed -/
def Fine (B : Nat) (w : World) (vs : List Ev) : Prop := SeesVs B w vs ∧ ∀ v ∈ vs, fewV v = true ∧ okV v = true
theorem num_good {v : Ev} {k : Nat} (hf : fewV v = true) (ho : okV v = true) (hk : k ≤ 100) : goodE (numV k v).ent ∧ (bytesE (numV k v).ent).length ≤ 100000 := by
  obtain ⟨s1, s2⟩ := few_small hf
  have hok : okE (numV k v).ent = true := ho
  refine goes_bytes hok ⟨?_, ?_⟩ ⟨?_, ?_⟩ ?_ (ent_small (x := numV k v) s2)
  · show (0 : Int) ≤ (k : Nat); omega
  · show ((k : Nat) : Int) < 4294967296; omega
  · show (0 : Int) ≤ (k : Int) + 1; omega
  · show (k : Int) + 1 < 4294967296; omega
  · rw [ent_len]; rw [List.length_append] at s1; exact s1
theorem num_bytes {v : Ev} {k : Nat} (hf : fewV v = true) (ho : okV v = true) : (bytesE (numV k v).ent).length ≤ 68100 := by
  obtain ⟨s1, s2⟩ := few_small hf
  have hok : okE (numV k v).ent = true := ho
  have h := bytes_len hok (ent_small (x := numV k v) s2)
  have : ((numV k v).ent.xs ++ (numV k v).ent.ys).length ≤ 30 := by rw [ent_len]; rw [List.length_append] at s1; exact s1
  omega
theorem es_links {B : Nat} {w : World} {vs : List Ev} (h : Fine B w vs) (hn : vs.length ≤ 10) : Links none (esOf vs) := by
  refine links_of _ _ 0 rfl fun j e he => ?_
  have hj : j < vs.length := by rw [← esOf_len]; exact (List.getElem?_eq_some_iff.1 he).1
  have hv := List.getElem?_eq_getElem hj
  rw [esOf_at hv] at he
  injection he with he
  subst he
  have hm := List.mem_of_getElem? hv
  refine ⟨?_, ?_, (num_good (h.2 _ hm).1 (h.2 _ hm).2 (by omega)).1⟩
  · show ((j : Nat) : Int) = ((0 + j : Nat) : Int); simp
  · show (j : Int) + 1 = ((0 + j + 1 : Nat) : Int); omega
theorem es_size {B : Nat} {w : World} {vs : List Ev} (h : Fine B w vs) (hn : vs.length ≤ 10) : (frL (esOf vs) (esOf vs).length).length ≤ 681080 := by
  unfold frL
  rw [List.take_length]
  have h1 := rowF_len 68100 ((esOf vs).map bytesE) (fun x hx => by
    obtain ⟨e, he, rfl⟩ := List.mem_map.1 hx
    obtain ⟨j, hj⟩ := List.getElem?_of_mem he
    have hlt : j < vs.length := by rw [← esOf_len]; exact (List.getElem?_eq_some_iff.1 hj).1
    have hv := List.getElem?_eq_getElem hlt
    rw [esOf_at hv] at hj
    injection hj with hj
    subst hj
    have hm := List.mem_of_getElem? hv
    exact num_bytes (h.2 _ hm).1 (h.2 _ hm).2)
  rw [List.length_map, esOf_len] at h1
  have h2 : vs.length * (8 + 68100) ≤ 10 * (8 + 68100) := Nat.mul_le_mul_right _ hn
  omega

theorem LogAt.grown {B g d gen n en : Nat} {w w' : World} {v : Value} {vs : List Ev} {br : Bool} {r : Option Nat} (h : LogAt B w g d gen v vs n en br) (hg : w.grownBy w' r) (hr : ∀ x, r = some x → typ w.heap[x]? = enT ∧ B ≤ x ∧ v.ownBlock ≠ some x) : LogAt B w' g d gen v vs n en br := by
  have hk : KeptX B (fun k => r = some k) w w' := .of_grown hg fun k hk => ⟨(hr k hk).2.1, hk⟩
  refine ⟨hk.whole h.cells (by decide) ?_, hk.own h.row (by decide) ?_, h.sees.keepX hk ?_, h.base⟩
  · intro e
    have := (hr g e).1
    rw [whole_typ h.cells] at this
    exact absurd this (by decide)
  · intro j hj e
    exact (hr j e).2.2 hj
  · intro k hk
    rw [(hr k hk).1]; decide
theorem addL_br {S : St} {file : Bys} {es : List Ent} {en : Nat} {e : Ent} (h : (addL S file es en false e).c = 0) : (addL S file es en false e).br = false := by
  revert h
  unfold addL
  split
  · intro h; exact absurd h (by simp)
  split
  · intro h; exact absurd h (by simp)
  split
  · intro h; exact absurd h (by simp)
  split
  · rename_i hq; intro h; exact absurd h hq
  · intro _; rfl
/-- where the loop of added stands -/
def AddSt (q : Int) (N : Nat) (evs : List Ev) (w : World) (d g k : Nat) (va : Value) (wr : World) : Prop :=
  ∃ v vs, Live w.heap.size wr d (2 * k + 6) (800000 * (k + 1)) (iterA (eS q N) (esOf evs) k).S ∧ LogAt w.heap.size wr g d 1 v vs vs.length (iterA (eS q N) (esOf evs) k).en (iterA (eS q N) (esOf evs) k).br ∧ vs.map Ev.ent = (iterA (eS q N) (esOf evs) k).es ∧
    wr.ownsRow w.heap.size enT 4 va k (ecells ((numE evs).take k)) ∧ (∀ j, va.ownBlock = some j → v.ownBlock ≠ some j) ∧ (∀ j, j ≤ k → (iterA (eS q N) (esOf evs) j).c = 0) ∧ Below w.heap.size w wr
theorem add_start {q : Int} {N d g : Nat} {evs : List Ev} {w w3 : World} {v : Value} (hL : Live w.heap.size w3 d 6 800000 (eS q N)) (hla : LogAt w.heap.size w3 g d 1 v [] 0 0 false) (hB : Below w.heap.size w w3) : AddSt q N evs w d g 0 (.slice none 0 0) w3 := by
  refine ⟨v, [], hL.mono (by omega) (by omega), hla, rfl, own_nil _ _ _ _, fun j hj => ?_, fun j hj => ?_, hB⟩
  · cases hj
  · obtain rfl : j = 0 := by omega
    rfl
/-- the entry appended to all: what stands -/
theorem add_grown {d g k en kk M gn g7 cap7 : Nat} {br : Bool} {S : St} {v va : Value} {vs : List Ev} {l l2 : List Value} {w wr W1 w7 : World} {x : Ev} {C : Obj} (hsz : W1.heap.size = wr.heap.size + 1) (hL : Live w.heap.size (W1.alloc C) d kk M S) (hla : LogAt w.heap.size (W1.alloc C) g d gn v vs vs.length en br)
    (hrow : wr.ownsRow w.heap.size enT 4 v vs.length (ecells vs)) (ho : (W1.alloc C).ownsRow w.heap.size enT 4 va k l) (ho0 : wr.ownsRow w.heap.size enT 4 va k l2) (hx : Whole (W1.alloc C) wr.heap.size enT x.arr) (hap : ∀ j, va.ownBlock = some j → v.ownBlock ≠ some j) (hB : Below w.heap.size w (W1.alloc C))
    (hg : (W1.alloc C).grownBy w7 va.ownBlock) (hat : va.ownBlock = some g7 ∨ g7 = W1.heap.size + 1) :
    Live w.heap.size w7 d kk M S ∧ LogAt w.heap.size w7 g d gn v vs vs.length en br ∧ Whole w7 wr.heap.size enT x.arr ∧ (∀ j, (Value.slice (some ⟨g7, 0, none⟩) (k + 1) cap7).ownBlock = some j → v.ownBlock ≠ some j) ∧ Below w.heap.size w w7 ∧ True := by
  refine ⟨hL.row ho hg, hla.grown hg (fun j hj => ⟨own_typ ho hj, own_block_ge ho j hj, hap j hj⟩), hx.grown hg ?_, fun j hj => ?_, hB.grown hg hB.size (own_block_ge ho), trivial⟩
  · intro e
    have := (ho0.lt _ e.symm).2
    omega
  · have e : g7 = j := by simpa [Value.ownBlock] using hj
    subst e
    rcases hat with h | h
    · exact hap _ h
    · intro e
      have := (hrow.lt _ e).2
      omega
/-- what added leaves -/
def AddedOf (N : Nat) (evs : List Ev) (w : World) (e : Ending) (w' : World) : Prop :=
  ∃ d m dn Aa ca, e = .returned (.tuple #[dptr d, .slice Aa m ca, .int .i64 (dn : Nat)]) ∧ Live w.heap.size w' d 40 20000000 (iterA (eS 1073741824 N) (esOf evs) m).S ∧ w'.ownsRow w.heap.size enT 4 (.slice Aa m ca) m (ecells ((numE evs).take m)) ∧
    (∀ j, j ≤ dn → (iterA (eS 1073741824 N) (esOf evs) j).c = 0) ∧ ((m = dn ∧ dn = evs.length) ∨ (m = dn + 1 ∧ dn < evs.length ∧ (iterA (eS 1073741824 N) (esOf evs) m).c ≠ 0)) ∧ Below w.heap.size w w'
theorem brk_new (q : Int) (N : Nat) (h : 1 ≤ N) : breakS (St.new q) (N : Nat) = (eS q N, 0) := by
  unfold breakS
  rw [if_neg (by omega), if_neg (by omega), Int.toNat_natCast]
  rfl
set_option maxHeartbeats 8000000 in
set_option maxRecDepth 20000 in
theorem added_any (A : Option Addr) (n c N : Nat) (evs : List Ev) (w : World) (h : SeesE w A n evs) (hf : Fine w.heap.size w evs) (hn : n ≤ 10) (hN : 1 ≤ N) (hN2 : N ≤ 1099511627776) :
    Calls Tryz.prog 11 #[.slice A n c, .int .i64 (N : Nat)] w (AddedOf N evs w) := by
  have hlen := h.1
  have HLK := Lib.hid (es_links hf (by omega))
  have HSZ := Lib.hid (es_size hf (by omega))
  have HE := Lib.hid h
  have HF := Lib.hid hf
  have HLEN := Lib.hid hlen
  have HN1 := Lib.hid (fun W => by have := Name_small 1 (by decide) W; rw [name_one] at this; exact this : ∀ W, Calls Tryz.prog 8 #[.int .u64 ((1 : Nat) : Int)] W fun e w' => e = .returned (.string (mk L1)) ∧ Below W.heap.size W w')
  obtain ⟨o1, o2⟩ := open_new 1073741824 L1 (by decide)
  have O1 := Lib.hid o1
  have O2 := Lib.hid o2
  have HBK := Lib.hid (brk_new 1073741824 N hN)
  have gN : (N : Int) ≤ 1099511627776 := by omega
  clear h hf hlen o1 o2
  go_enter Tryz.func11, Tryz.ntmps11
  go_wp2_with fail
  refine (live_New 1073741824 w (by decide)).mono ?_
  rintro e w1 ⟨d, rfl, hL, hB⟩
  have HL1 := Lib.hid hL
  have HB1 := Lib.hid hB
  clear hL hB
  go_wp2_with fail
  have hop := Open_any HL1.out (by omega) (by omega) 1 L1 HN1.out (by decide) (by rw [O2.out]; decide)
  unfold Opened at hop
  rw [O1.out, O2.out] at hop
  refine (show Calls _ _ _ _ _ from hop).mono ?_
  rintro e w2 ⟨p, rfl, hL2, hK2, hx⟩
  obtain ⟨g, v, vs, rfl, hla, hvs, _, _⟩ := hx rfl
  have hvs0 : vs = [] := by
    have : vs.map Ev.ent = [] := by rw [hvs]; exact congrArg Prod.fst hadL_nil
    simpa using this
  subst hvs0
  have hla' : LogAt w.heap.size w2 g d 1 v [] 0 0 false := by
    have e : (hadL (([], 6) : Bys × Int).1).2 = 0 := congrArg Prod.snd hadL_nil
    rw [e] at hla; exact hla
  have HLA := Lib.hid hla'
  have HB2 := Lib.hid (HB1.out.trans (hK2.below HL1.out.base))
  have hbr := live_Break hL2 (N : Nat) (by omega)
  rw [HBK.out] at hbr
  have HBR := Lib.hid hbr
  have HL2 := Lib.hid hL2
  clear hop hL2 hK2 hx hla hla' hvs hbr
  go_wp2_with fail
  refine Calls.mono HBR.out ?_
  rintro e w3 ⟨rfl, hL3, hK3⟩
  have HST := Lib.hid (add_start (q := 1073741824) (N := N) (evs := evs) (hL3.mono (by omega) (by omega)) (HLA.out.disk hK3) (HB2.out.trans (hK3.below HL2.out.base)))
  clear hL3 hK3
  go_wp2_with fail
  go_loopw [11, 12, 13] (fun va dn i wr => ∃ k : Nat, k ≤ n ∧ i = .int .i64 (k : Nat) ∧ dn = .int .i64 (k : Nat) ∧ AddSt 1073741824 N evs w d g k va wr) (fun _ _ i _ => n - (intOf i).toNat)
  case atStart => exact ⟨0, Nat.zero_le _, rfl, rfl, HST.out⟩
  case round =>
    obtain ⟨k, hk, rfl, rfl, v, vs, hL, hla, hvs, hown, hap, hc, hB⟩ := hrel
    obtain ⟨Aa, ca, rfl, _, _⟩ := own_shape hown
    have HL := Lib.hid hL
    have HLA := Lib.hid hla
    have HVS := Lib.hid hvs
    have HOWN := Lib.hid hown
    have HAP := Lib.hid hap
    have HC := Lib.hid hc
    have HB := Lib.hid hB
    have hws : w.heap.size ≤ wr.heap.size := hB.size
    clear hL hla hvs hown hap hc hB
    by_cases hkn : k < n
    · have g1 : (k : Int) < (n : Int) := by omega
      have g0 : (0 : Int) ≤ (k : Int) := by omega
      have gk : (k : Int) ≤ 10 := by omega
      obtain ⟨y, hy⟩ : ∃ y, evs[k]? = some y := ⟨evs[k]'(by rw [HLEN.out]; exact hkn), List.getElem?_eq_getElem _⟩
      obtain ⟨b, off, rfl, hbl, y0, y1, y2, y3⟩ := (HE.out.keep HB.out).at hy
      have HY := Lib.hid hy
      clear hy
      have hiter := iter_good HLK.out hN (by have := HSZ.out; omega) k (by rw [esOf_len, HLEN.out]; exact hk) HC.out
      have hvl : vs.length ≤ 1000 := by
        have h1 := congrArg List.length HVS.out
        rw [List.length_map, hiter] at h1
        have h2 : ((esOf evs).take k).length ≤ 10 := by rw [List.length_take]; omega
        rw [h1]; exact Nat.le_trans h2 (by omega)
      have hen : (iterA (eS 1073741824 N) (esOf evs) k).en ≤ 10000000 := by
        rw [hiter]
        have := frL_le (esOf evs) k
        have := HSZ.out
        show (frL (esOf evs) k).length ≤ _
        omega
      have HIT := Lib.hid (iterA_succ (S0 := eS 1073741824 N) (esOf_at HY.out))
      have hb1 : Below wr.heap.size wr (wr.alloc (.cells #[.int .u32 (k : Nat), .int .u32 ((k : Int) + 1), .slice y.A y.n y.c, .slice y.A' y.n' y.c'] enT)) := (Below.refl _ _).alloc (Nat.le_refl _) _
      have HX1 := Lib.hid (show Whole (wr.alloc (.cells #[.int .u32 (k : Nat), .int .u32 ((k : Int) + 1), .slice y.A y.n y.c, .slice y.A' y.n' y.c'] enT)) wr.heap.size enT (numV k y).arr from Whole.new wr enT (numV k y).arr)
      have HL1 := Lib.hid (HL.out.same hb1)
      have HLA1 := Lib.hid (HLA.out.below hb1)
      have HOWN1 := Lib.hid (own_below HOWN.out hb1)
      have HB1 := Lib.hid (HB.out.trans (hb1.mono HB.out.size))
      have hsz1 : (wr.alloc (.cells #[.int .u32 (k : Nat), .int .u32 ((k : Int) + 1), .slice y.A y.n y.c, .slice y.A' y.n' y.c'] enT)).heap.size = wr.heap.size + 1 := by simp
      clear hb1 hiter hbl
      go_upto_region 16 with fail
      clear y0 y1 y2 y3
      generalize wr.alloc (.cells #[.int .u32 (k : Nat), .int .u32 ((k : Int) + 1), .slice y.A y.n y.c, .slice y.A' y.n' y.c'] enT) = W1 at HX1 HL1 HLA1 HOWN1 HB1 hsz1 ⊢
      have HSZ1 := Lib.hid hsz1
      clear hsz1
      obtain ⟨x0, x1, x2, x3⟩ := (show W1.cell? ⟨wr.heap.size, 0, none⟩ = some (.int .u32 (k : Nat)) ∧ W1.cell? ⟨wr.heap.size, 1, none⟩ = some (.int .u32 ((k : Int) + 1)) ∧ W1.cell? ⟨wr.heap.size, 2, none⟩ = some (.slice y.A y.n y.c) ∧ W1.cell? ⟨wr.heap.size, 3, none⟩ = some (.slice y.A' y.n' y.c') from ev_facts HX1.out)
      have hb2 : Below W1.heap.size W1 (W1.alloc (.cells #[.int .u32 (k : Nat), .int .u32 ((k : Int) + 1), .slice y.A y.n y.c, .slice y.A' y.n' y.c'] enT)) := (Below.refl _ _).alloc (Nat.le_refl _) _
      have HX2 := Lib.hid (show Whole (W1.alloc (.cells #[.int .u32 (k : Nat), .int .u32 ((k : Int) + 1), .slice y.A y.n y.c, .slice y.A' y.n' y.c'] enT)) W1.heap.size enT (numV k y).arr from Whole.new W1 enT (numV k y).arr)
      have HY2 := Lib.hid (HX1.out.below hb2 HX1.out.lt)
      have HL2 := Lib.hid (HL1.out.same hb2)
      have HLA2 := Lib.hid (HLA1.out.below hb2)
      have HOWN2 := Lib.hid (own_below HOWN1.out hb2)
      have HB2 := Lib.hid (HB1.out.trans (hb2.mono HB1.out.size))
      have HTK := Lib.hid (show ((numE evs).take k).length = k by rw [List.length_take, numE_len, HLEN.out]; omega)
      clear hb2
      have HNE := Lib.hid (show some wr.heap.size ≠ (Value.slice Aa k ca).ownBlock from fun e => by
        have := (HOWN.out.lt _ e.symm).2
        omega)
      go_wp2_with (at_builtin; (refine wpList_append_E rfl _ _ rfl w.heap.size _ ((numE evs).take k) k rfl HTK.out HOWN2.out W1.heap.size 1 (numV k y) rfl HX2.out (by omega) HB2.out.size (W1.heap.size + 1) (by simp) ?_); intro g7 cap7 w7 hown7 hgrow7 hat7 hlt7; (obtain ⟨z0, z1, z2, z3⟩ := (show w7.cell? ⟨wr.heap.size, 0, none⟩ = some (.int .u32 (k : Nat)) ∧ w7.cell? ⟨wr.heap.size, 1, none⟩ = some (.int .u32 ((k : Int) + 1)) ∧ w7.cell? ⟨wr.heap.size, 2, none⟩ = some (.slice y.A y.n y.c) ∧ w7.cell? ⟨wr.heap.size, 3, none⟩ = some (.slice y.A' y.n' y.c') from ev_facts (HY2.out.grown hgrow7 HNE.out))))
      obtain ⟨q1, q2, q3, q4, q5, q6⟩ := add_grown HSZ1.out HL2.out HLA2.out HLA.out.row HOWN2.out HOWN.out HY2.out HAP.out HB2.out (cap7 := cap7) hgrow7 hat7
      have HL7 := Lib.hid q1
      have HLA7 := Lib.hid q2
      have HX7 := Lib.hid q3
      have HAP7 := Lib.hid q4
      have HB7 := Lib.hid q5
      have HOWN7 := Lib.hid (show w7.ownsRow w.heap.size enT 4 (.slice (some ⟨g7, 0, none⟩) (k + 1) cap7) (k + 1) (ecells ((numE evs).take (k + 1))) by rw [List.take_add_one, numE_at HY.out]; exact hown7)
      have hm := List.mem_of_getElem? HY.out
      have hxv := (HF.out.1.keep HB7.out) y hm
      obtain ⟨s1, s2⟩ := few_small (HF.out.2 y hm).1
      rw [List.length_append, hxv.1.1.1, hxv.2.1.1] at s1
      have had := Add_any HL7.out (by omega) (by omega) HLA7.out L1 HN1.out (by decide) (numV k y) hxv.1.1 hxv.2.1 ⟨by show (0 : Int) ≤ (k : Nat); omega, by show ((k : Nat) : Int) < 4294967296; omega⟩ ⟨by show (0 : Int) ≤ (k : Int) + 1; omega, by show (k : Int) + 1 < 4294967296; omega⟩ s1 s2 hvl hen
      unfold AddLeft at had
      rw [HVS.out, ← HIT.out] at had
      have HAD := Lib.hid had
      clear q1 q2 q3 q4 q5 q6 hown7 hgrow7 hat7 hlt7 hxv s1 s2 had x0 x1 x2 x3 hvl hen hm
      refine Calls.mono HAD.out ?_
      rintro e w8 ⟨rfl, hL8, ⟨v8, vs8, hla8, hvs8, hmv8⟩, hK8⟩
      have HL8 := Lib.hid hL8
      have HLA8 := Lib.hid hla8
      have HVS8 := Lib.hid hvs8
      have HB8 := Lib.hid (HB7.out.trans (hK8.below HL7.out.base))
      have HOWN8 := Lib.hid (hK8.own HOWN7.out (by decide) (by
        intro j hj
        rintro (e | e)
        · have h1 := own_typ HOWN7.out hj
          rw [e, whole_typ HLA7.out.cells] at h1
          exact absurd h1 (by decide)
        · exact HAP7.out j hj e))
      have HAP8 := Lib.hid (show ∀ j, (Value.slice (some ⟨g7, 0, none⟩) (k + 1) cap7).ownBlock = some j → v8.ownBlock ≠ some j from fun j hj e => by
        rcases hmv8 j e with h | h
        · exact HAP7.out j hj h
        · have := (HOWN7.out.lt j hj).2; omega)
      clear hL8 hla8 hvs8 hmv8 hK8 z0 z1 z2 z3
      by_cases hc8 : (iterA (eS 1073741824 N) (esOf evs) (k + 1)).c = 0
      · have HNX := Lib.hid (show AddSt 1073741824 N evs w d g (k + 1) (.slice (some ⟨g7, 0, none⟩) (k + 1) cap7) w8 from ⟨v8, vs8, HL8.out.mono (by omega) (by omega), HLA8.out, HVS8.out, HOWN8.out, HAP8.out, fun j hj => (by
          rcases Nat.lt_or_ge j (k + 1) with h | h
          · exact HC.out j (by omega)
          · obtain rfl : j = k + 1 := (by omega)
            exact hc8), HB8.out⟩)
        rw [hc8]
        clear hc8
        go_wp2_with fail
        go_roundw
        case rel => exact ⟨k + 1, by omega, by go_num, by go_num, HNX.out⟩
        case measure => simp [intOf]; omega
      · obtain ⟨c8, hc8'⟩ : ∃ c8, c8 = (iterA (eS 1073741824 N) (esOf evs) (k + 1)).c := ⟨_, rfl⟩
        rw [← hc8'] at hc8 ⊢
        have g8 : (c8 != 0) = true := by rw [bne_iff_ne]; exact hc8
        have HRES := Lib.hid (show AddedOf N evs w (.returned (.tuple #[dptr d, .slice (some ⟨g7, 0, none⟩) (k + 1) cap7, .int .i64 (k : Nat)])) w8 from ⟨d, k + 1, k, _, _, rfl, HL8.out.mono (by omega) (by omega), HOWN8.out, HC.out, .inr ⟨rfl, by rw [HLEN.out]; exact hkn, by rw [← hc8']; exact hc8⟩, HB8.out⟩)
        clear hc8 hc8'
        go_wp2_with fail
        go_ret3
        exact HRES.out
    · obtain rfl : k = n := by omega
      have g1 : ¬ (k : Int) < (k : Int) := by omega
      have HRES := Lib.hid (show AddedOf N evs w (.returned (.tuple #[dptr d, .slice Aa k ca, .int .i64 (k : Nat)])) wr from ⟨d, k, k, _, _, rfl, HL.out.mono (by omega) (by omega), HOWN.out, HC.out, .inl ⟨rfl, HLEN.out.symm⟩, HB.out⟩)
      go_wp2_with fail
      go_ret3
      exact HRES.out
end Go.Proofs.YtggognnjnfphgaaGreatDoor
namespace Go.Proofs.YtggognnjnfphgaaGreatDoor
open Go.RowKit Go.Maps Go.Sort

theorem SeesVs.mono {B B' : Nat} {w : World} {vs : List Ev} (h : SeesVs B w vs) (hB : B ≤ B') : SeesVs B' w vs :=
  fun v hv => ⟨⟨(h v hv).1.1, fun hn b off sp e => ((h v hv).1.2 hn b off sp e).imp (fun h => by omega) id⟩, ⟨(h v hv).2.1, fun hn b off sp e => ((h v hv).2.2 hn b off sp e).imp (fun h => by omega) id⟩⟩
theorem recsE_le (s : ByteArray) : ((recsE s).getD []).length ≤ s.size := by
  unfold recsE
  split
  · cases h : recsP (piecesR s 4).1 with
    | none => exact Nat.zero_le _
    | some l =>
      have h1 := recsP_len _ l h
      have h2 := piecesR_len s 4
      show l.length ≤ s.size
      omega
  · exact Nat.zero_le _
theorem ofE_le {s : ByteArray} {e : Ent} (h : ofE s = some e) : e.xs.length ≤ s.size ∧ e.ys.length ≤ s.size := by
  unfold ofE at h
  split at h
  · cases h
  · have h1 := recsE_le (s.extract 12 s.size)
    rw [ByteArray.size_extract] at h1
    cases hr : recsE (s.extract 12 s.size) with
    | none => rw [hr] at h; cases h
    | some l =>
      rw [hr] at h h1
      have h2 : l.length ≤ min s.size s.size - 12 := h1
      simp only at h
      split at h
      · cases h
      · injection h with h
        subst h
        show (l.take _).length ≤ s.size ∧ (l.drop _).length ≤ s.size
        rw [List.length_take, List.length_drop]
        omega
theorem hadF_mem : ∀ (fs : List (List UInt8)) (p : Option Int) (e : Ent), e ∈ (hadF p fs).1 → ∃ x ∈ fs, ofE (mk x) = some e := by
  intro fs
  induction fs with
  | nil => intro p e h; cases h
  | cons x r ih =>
    intro p e h
    rw [hadF] at h
    cases ho : ofE (mk x) with
    | none => rw [ho] at h; cases h
    | some e0 =>
      rw [ho] at h
      simp only at h
      split at h
      · rcases List.mem_cons.1 h with rfl | h
        · exact ⟨x, by simp, ho⟩
        · obtain ⟨y, hy, hy2⟩ := ih _ _ h
          exact ⟨y, by simp [hy], hy2⟩
      · cases h
/-- entries that were read have no more records than bytes -/
theorem had_bulk {b : List UInt8} {B : Nat} {w : World} {vs : List Ev} (h : vs.map Ev.ent = (hadL b).1) (hs : SeesVs B w vs) : Bulky b.length vs := by
  intro v hv
  have hm : v.ent ∈ (hadL b).1 := by rw [← h]; exact List.mem_map_of_mem hv
  obtain ⟨x, hx, ho⟩ := hadF_mem _ _ _ hm
  obtain ⟨k, hk⟩ := List.getElem?_of_mem hx
  have h1 := (frames_le (l := b) hk).1
  obtain ⟨h2, h3⟩ := ofE_le ho
  rw [mk_size] at h2 h3
  have e1 : v.ent.xs.length = v.n := by show (v.xs.map Rrd.toRec).length = v.n; rw [List.length_map]; exact (hs v hv).1.1.1
  have e2 : v.ent.ys.length = v.n' := by show (v.ys.map Rrd.toRec).length = v.n'; rw [List.length_map]; exact (hs v hv).2.1.1
  omega
theorem bulk_same {B B' M : Nat} {w w' : World} {vs us : List Ev} (h : us.map Ev.ent = vs.map Ev.ent) (hs : SeesVs B w vs) (hu : SeesVs B' w' us) (hb : Bulky M vs) : Bulky M us := by
  intro u hu'
  have hm : u.ent ∈ vs.map Ev.ent := by rw [← h]; exact List.mem_map_of_mem hu'
  obtain ⟨v, hv, e⟩ := List.mem_map.1 hm
  obtain ⟨_, _, e3, e4⟩ := ent_inj e
  have h1 := hb v hv
  rw [← (hu u hu').1.1.1, ← (hu u hu').2.1.1, ← e3, ← e4, (hs v hv).1.1.1, (hs v hv).2.1.1]
  exact h1
theorem frame_one : ∀ W : World, Calls Tryz.prog 8 #[.int .u64 ((1 : Nat) : Int)] W fun e w' => e = .returned (.string (mk L1)) ∧ Below W.heap.size W w' := fun W => by
  have := Name_small 1 (by decide) W
  rw [name_one] at this
  exact this
/-- a journal of one file is opened: no error -/
theorem open_one {B d k M m : Nat} {w : World} {S : St} {p : Bys} (h : Live B w d k M S) (hk : k ≤ 30000) (hM : M ≤ 300000000) (ho : One 1073741824 (m + 5) S p) (hp : p.length ≤ 800000) :
    Calls Tryz.prog 13 #[dptr d, .int .u64 1] w fun e w' => ∃ g v vs S', e = .returned (.tuple #[.pointer (some ⟨g, 0, none⟩), .int .i64 0]) ∧ Live B w' d (k + 6) (M + 800000) S' ∧ Kept B w w' ∧ One 1073741824 m S' (p.take (hadL p).2) ∧ ((hadL p).2 = p.length → S' = S) ∧ ((∃ i, S.names = [(L1, i)]) → ∃ i, S'.names = [(L1, i)]) ∧
      LogAt B w' g d 1 v vs vs.length (hadL p).2 false ∧ vs.map Ev.ent = (hadL p).1 ∧ w.heap.size ≤ g ∧ ∀ j, v.ownBlock = some j → w.heap.size ≤ j := by
  obtain ⟨r1, r2⟩ := ho.read
  obtain ⟨a1, a2, a3, a4⟩ := ho.open (by omega)
  refine (Open_any h hk hM 1 L1 frame_one (by decide) (by rw [r1]; exact hp)).mono ?_
  rintro e w' ⟨q, rfl, hL, hK, hx⟩
  obtain ⟨g, v, vs, rfl, hla, hvs, h1, h2⟩ := hx a1
  rw [r1] at hla hvs
  rw [a1]
  exact ⟨g, v, vs, _, rfl, hL, hK, a2, a3, a4, hla, hvs, h1, h2⟩
theorem links_short {es : List Ent} {k : Nat} {p : Bys} (h : (hadL p).1 = es.take k) (hk : k ≤ es.length) : (hadL p).1.length = k := by rw [h, List.length_take]; omega
set_option maxHeartbeats 8000000 in
set_option maxRecDepth 20000 in
theorem LogKeeps_walk (A : Option Addr) (n c b : Nat) (evs : List Ev) (ch : ByteArray) (w : World) (h : SeesE w A n evs) (hs : SeesVs w.heap.size w evs) (hb : Bulky 100000000 evs) (hbb : b ≤ 255) :
    Calls Tryz.prog 4 #[.slice A n c, .int .u8 (b : Nat), .string ch] w fun e w' => e = .returned (.bool true) ∧ Below w.heap.size w w' := by
  have HE := Lib.hid h
  have HS := Lib.hid hs
  have HBK := Lib.hid hb
  have HLEN := Lib.hid h.1
  clear h hs hb
  go_enter Tryz.func4, Tryz.ntmps4
  go_wp2_with fail
  refine (awake_any _).mono ?_
  rintro e w1 ⟨rfl, hB⟩
  have HB1 := Lib.hid hB
  have HFE := Lib.hid (FewL_any A n c evs w1 (HE.out.keep hB) (HS.out.keep hB) HBK.out)
  clear hB
  cases hfew : fewL evs with
  | false =>
    have HFF := Lib.hid hfew
    clear hfew
    go_wp2_with fail
    refine Calls.mono HFE.out ?_
    rw [HFF.out]
    rintro e w2 ⟨rfl, hB⟩
    have HB2 := Lib.hid (HB1.out.trans (hB.mono HB1.out.size))
    clear hB
    go_wp2_with fail
    refine (awake_any _).mono ?_
    rintro e w3 ⟨rfl, hB⟩
    have HB3 := Lib.hid (HB2.out.trans (hB.mono HB2.out.size))
    clear hB
    go_wp2_with fail
    go_ret
    exact ⟨rfl, HB3.out⟩
  | true =>
    obtain ⟨hn10, hfv⟩ := fewL_is hfew
    rw [HLEN.out] at hn10
    have HFF := Lib.hid hfew
    have HFV := Lib.hid hfv
    clear hfew hfv
    go_wp2_with fail
    refine Calls.mono HFE.out ?_
    rw [HFF.out]
    rintro e w2 ⟨rfl, hB⟩
    have HB2 := Lib.hid (HB1.out.trans (hB.mono HB1.out.size))
    clear hB
    have HFO := Lib.hid (formed_any A n c evs w2 (HE.out.keep HB2.out) (HS.out.keep HB2.out) HFV.out (by omega))
    cases hok : evs.all okV with
    | false =>
      have HOK := Lib.hid hok
      clear hok
      go_wp2_with fail
      refine Calls.mono HFO.out ?_
      rw [HOK.out]
      rintro e w3 ⟨rfl, hB⟩
      have HB3 := Lib.hid (HB2.out.trans (hB.mono HB2.out.size))
      clear hB
      go_wp2_with fail
      refine (awake_any _).mono ?_
      rintro e w4 ⟨rfl, hB⟩
      have HB4 := Lib.hid (HB3.out.trans (hB.mono HB3.out.size))
      clear hB
      go_wp2_with fail
      go_ret
      exact ⟨rfl, HB4.out⟩
    | true =>
      have HOK := Lib.hid hok
      have HOV := Lib.hid (List.all_eq_true.1 hok)
      clear hok
      go_wp2_with fail
      refine Calls.mono HFO.out ?_
      rw [HOK.out]
      rintro e w3 ⟨rfl, hB⟩
      have HB3 := Lib.hid (HB2.out.trans (hB.mono HB2.out.size))
      clear hB
      have hfine : Fine w3.heap.size w3 evs := ⟨(HS.out.keep HB3.out).mono HB3.out.size, fun v hv => ⟨HFV.out v hv, HOV.out v hv⟩⟩
      obtain ⟨N, hNN⟩ : ∃ N, N = b % 40 + 1 := ⟨_, rfl⟩
      have e5 : 0 ≤ (b : Int) % 40 := by omega
      have e6 : (b : Int) % 40 ≤ 39 := by omega
      have hNI : (N : Int) = (b : Int) % 40 + 1 := by omega
      have hadd := added_any A n c N evs w3 (HE.out.keep HB3.out) hfine hn10 (by omega) (by omega)
      rw [hNI] at hadd
      have HADD := Lib.hid hadd
      have hN1 : 1 ≤ N := by omega
      have HLI := Lib.hid (es_links hfine (by rw [HLEN.out]; exact hn10))
      have HSZ := Lib.hid (es_size hfine (by rw [HLEN.out]; exact hn10))
      clear hfine hadd hNI hNN
      go_wp2_with fail
      refine Calls.mono HADD.out ?_
      rintro e w4 ⟨d, m, dn, Aa, ca, rfl, hL, hown, hc, hm, hB⟩
      have HB4 := Lib.hid (HB3.out.trans (hB.mono HB3.out.size))
      obtain ⟨p, k, k1, k2, k3, k4, k5, k6⟩ := keeps HLI.out hN1 (by have := HSZ.out; omega) hc (by rw [esOf_len]; exact hm) 5 ch.data.toList
      have hpl : p.length ≤ 681080 := Nat.le_trans k2 HSZ.out
      have hkl : k ≤ (esOf evs).length := by rw [esOf_len]; omega
      have hkk := links_short k6 hkl
      have hmn : m ≤ 10 := by have := HLEN.out; omega
      obtain ⟨Au, cu, eo, hca, hca2⟩ := own_shape hown
      injection eo with eo1 _ eo3
      subst eo1
      subst eo3
      have HL4 := Lib.hid hL
      have HOWN4 := Lib.hid hown
      have HONE := Lib.hid k1
      have HK6 := Lib.hid k6
      have HKK := Lib.hid hkk
      clear hL hown hc hm hB k1 k2 k6 hkk
      go_wp2_with fail
      refine (live_Restart HL4.out (by omega) (by omega) ch).mono ?_
      rintro e w5 ⟨rfl, hL5, hK5⟩
      have HL5 := Lib.hid hL5
      have HB5 := Lib.hid (HB4.out.trans ((hK5.below HL4.out.base).mono HB3.out.size))
      have HOWN5 := Lib.hid (hK5.own HOWN4.out (by decide))
      clear hL5 hK5
      go_wp2_with fail
      refine (open_one HL5.out (by omega) (by omega) HONE.out (by omega)).mono ?_
      rintro e w6 ⟨g, v, vs, S6, rfl, hL6, hK6, _, _, _, hla, hvs, _, _⟩
      have HLA := Lib.hid hla
      have HVS := Lib.hid hvs
      have HB6 := Lib.hid (HB5.out.trans ((hK6.below HL5.out.base).mono HB3.out.size))
      have HOWN6 := Lib.hid (hK6.own HOWN5.out (by decide))
      have hvl : vs.length = k := by have := congrArg List.length hvs; rw [List.length_map, HKK.out] at this; exact this
      have hbulk := had_bulk hvs hla.sees
      have HBU := Lib.hid hbulk
      have hs6 : w5.heap.size ≤ w6.heap.size := hK6.size
      have hs5 := HL5.out.base
      clear hL6 hK6 hla hvs hbulk
      have HEN := Lib.hid (Entries_any HLA.out (by omega) (fun y hy => by have := HBU.out y hy; omega))
      rw [hvl] at HEN
      have HVL := Lib.hid hvl
      clear hvl
      go_wp2_with fail
      refine Calls.mono HEN.out ?_
      rintro e w7 ⟨A7, c7, us, rfl, hown7, hus, hsu, hB7⟩
      have HB7 := Lib.hid (HB6.out.trans (hB7.mono HB6.out.size))
      have HOWN7 := Lib.hid (own_below HOWN6.out hB7)
      have g1 : (dn : Int) ≤ (k : Int) := by omega
      have g2 : (k : Int) ≤ (dn : Int) + 1 := by omega
      have g3 : (k : Int) ≤ (m : Int) := by omega
      have g4 : (k : Int) ≤ (ca : Int) := by omega
      have g5 : (dn : Int) ≤ 10 := by omega
      have g6 : (0 : Int) ≤ (k : Int) := by omega
      have hes : us.map Ev.ent = (((numE evs).take m).take k).map Ev.ent := by
        rw [hus, HVS.out, HK6.out, List.take_take, Nat.min_eq_left k5]
        unfold esOf
        rw [List.map_take]
      have hsv7 : SeesVs w7.heap.size w7 (((numE evs).take m).take k) := fun x hx => ((numE_sees (HS.out.keep HB7.out)).mono HB7.out.size) x (List.mem_of_mem_take (List.mem_of_mem_take hx))
      have HSM := Lib.hid (SameL_any A7 Aa k c7 ca us (((numE evs).take m).take k) w7 (SeesE.own hown7) (hsu.mono (by have := hB7.size; omega)) ((SeesE.own HOWN7.out).take k5) hsv7 hes (bulk_same (hus.trans rfl) HLA.out.sees hsu (fun y hy => by have := HBU.out y hy; omega)) (by omega))
      clear hown7 hus hsu hB7 hes hsv7
      go_wp2_with fail
      refine Calls.mono HSM.out ?_
      rintro e w8 ⟨rfl, hB8⟩
      have HB8 := Lib.hid (HB7.out.trans (hB8.mono HB7.out.size))
      clear hB8
      go_wp2_with fail
      go_ret
      exact ⟨rfl, HB8.out⟩
end Go.Proofs.YtggognnjnfphgaaGreatDoor
