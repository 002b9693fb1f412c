/- ZoB: texts ZonB, ZonC of our own, joined. No statement of the seat is proved here. -/
import Derived.Test.YtaijcoiepfjecaaGreatZoA
import Derived.Test.YtaijcoiepfjecaaGreatNaF
import Derived.Test.YtaijcoiepfjecaaGreatRrJ
namespace Go.Proofs.YtaijcoiepfjecaaGreat
open Go.RowKit Go.Op
set_option linter.unusedVariables false

/-! ### Typed -/
def typK (t : Int) (xs : List Rrd) (k : Nat) : Bool := match xs[k]? with | some x => decide (x.t = t) | none => false
theorem pickL_typ (t : Int) : ∀ xs : List Rrd, pickL (typK t xs) xs xs.length = typX t xs
  | [] => rfl
  | x :: xs => by
    have ih := pickL_typ t xs
    have e : (fun i => typK t (x :: xs) (i + 1)) = typK t xs := by funext i; rfl
    rw [List.length_cons, pickL_cons, e, ih]
    have e0 : typK t (x :: xs) 0 = decide (x.t = t) := rfl
    unfold typX
    rw [List.filter_cons, e0]
    cases decide (x.t = t) <;> simp
set_option maxHeartbeats 8000000 in
set_option maxRecDepth 20000 in
theorem TypedK_any (b d n c : Nat) (A : Option Addr) (t : Int) (xs : List Rrd) (w : World) (hx : SeesR w w.heap.size A n xs) (hb : w.cell? ⟨b, 0, none⟩ = some (.slice A n c)) (hd : w.cell? ⟨d, 0, none⟩ = some (.int .i64 t)) (hn : n ≤ 1000000) (k : Nat) (hk : k < n) :
    Calls Tryz.prog 75 #[.int .i64 (k : Nat), .pointer (some ⟨b, 0, none⟩), .pointer (some ⟨d, 0, none⟩)] w fun e w' => e = .returned (.bool (typK t xs k)) ∧ Below w.heap.size w w' := by
  have hbl : ∀ q : Later w, q.val.cell? ⟨b, 0, none⟩ = some (.slice A n c) := fun q => (q.below.cell (World.block_lt_of_cell? w _ hb)).trans hb
  have hdl : ∀ q : Later w, q.val.cell? ⟨d, 0, none⟩ = some (.int .i64 t) := fun q => (q.below.cell (World.block_lt_of_cell? w _ hd)).trans hd
  have g2 : (k : Int) < (n : Int) := by omega
  have g4 : (0 : Int) ≤ (k : Int) := by omega
  obtain ⟨g, off, x, rfl, hlt, hxk, ht⟩ := hx.at hk
  obtain ⟨d0, d1, d2, d3, d4⟩ := ht.later hlt
  have he : typK t xs k = (x.t == t) := by unfold typK; rw [hxk]; rfl
  rw [he]
  clear hx hb hd hxk ht he
  go_enter Tryz.func75, Tryz.ntmps75
  go_wp2_with fail
  refine region_later (by kernel_rfl) ?_
  repeat (go_big_quiet_step (fail))
  refine wpQuiet_nil ?_
  rintro _ ⟨q2, rfl⟩
  go_wp2_with fail
  go_ret
  exact ⟨rfl, q2.below⟩
set_option maxHeartbeats 8000000 in
set_option maxRecDepth 20000 in
theorem Typed_any (A : Option Addr) (n c : Nat) (xs : List Rrd) (t : Int) (w : World) (hx : SeesR w w.heap.size A n xs) (hn : n ≤ 1000000) :
    Calls Tryz.prog 36 #[.slice A n c, .int .i64 t] w fun e w' => ∃ v, e = .returned v ∧ w'.ownsRow w.heap.size 26 5 v (typX t xs).length (rcells (typX t xs)) ∧ Below w.heap.size w w' := by
  have hP := pickL_typ t xs
  rw [hx.1] at hP
  have HP := Lib.hid hP
  obtain ⟨b, hb⟩ : ∃ b, b = w.heap.size := ⟨_, rfl⟩
  obtain ⟨W1, hW1⟩ : ∃ W1, W1 = w.alloc (.cells #[.slice A n c] 22) := ⟨_, rfl⟩
  obtain ⟨d, hd⟩ : ∃ d, d = b + 1 := ⟨_, rfl⟩
  have hds : W1.heap.size = d := by rw [hW1, hd, hb]; simp
  obtain ⟨W, hW⟩ : ∃ W, W = W1.alloc (.cells #[.int .i64 t] 3) := ⟨_, rfl⟩
  have hB1 : Below w.heap.size w W1 := by rw [hW1]; exact (Below.refl _ _).alloc (Nat.le_refl _) _
  have hB2 : Below W1.heap.size W1 W := by rw [hW]; exact (Below.refl _ _).alloc (Nat.le_refl _) _
  have HB := Lib.hid (hB1.trans (hB2.mono hB1.size))
  have hc1 : W1.cell? ⟨b, 0, none⟩ = some (.slice A n c) := by rw [hW1, hb]; exact (Whole.new w _ _).cell1
  have HC1 := Lib.hid (show W.cell? ⟨b, 0, none⟩ = some (.slice A n c) from (hB2.cell (World.block_lt_of_cell? W1 _ hc1)).trans hc1)
  have HC2 := Lib.hid (show W.cell? ⟨d, 0, none⟩ = some (.int .i64 t) by rw [hW, ← hds]; exact (Whole.new W1 _ _).cell1)
  have HX := Lib.hid ((hx.keep HB.out).more HB.out.size)
  have HW1 := Lib.hid hW1
  have HW := Lib.hid hW
  have HBB := Lib.hid hb
  have HDD := Lib.hid hd
  clear hx hP hb hd hds hW hW1 hB1 hB2 hc1
  go_enter Tryz.func36, Tryz.ntmps36
  go_wp2_with fail
  rw [← HW1.out, ← HBB.out, ← HDD.out, ← HW.out]
  refine (pick2_any 75 _ _ (enters_of Tryz.func75 (by kernel_rfl) rfl) (typK t xs) A n c xs _ HX.out hn (fun k wr hk hB => TypedK_any b d n c A t xs wr ((HX.out.keep hB).more hB.size) ((hB.cell (World.block_lt_of_cell? W _ HC1.out)).trans HC1.out) ((hB.cell (World.block_lt_of_cell? W _ HC2.out)).trans HC2.out) hn k hk)).mono ?_
  rw [HP.out]
  rintro e w1 ⟨v, rfl, ho, hB⟩
  have HO := Lib.hid (own_less ho HB.out.size)
  have HB1 := Lib.hid (HB.out.trans (hB.mono HB.out.size))
  clear ho hB
  go_wp2_with fail
  go_ret
  exact ⟨v, rfl, HO.out, HB1.out⟩

/-! ### a condition on all records -/
def IxOut (b : Bool) (e : Ending) : Prop := ∃ r : Int, e = .returned (.int .i64 r) ∧ (0 ≤ r ↔ b = true)
set_option maxHeartbeats 8000000 in
set_option maxRecDepth 20000 in
theorem IndexF_any (fid : Nat) (p : Value) (hent : ∀ (args : Array Value) (w : World), (callFunc fid args).run Tryz.prog w = .ok (.enter fid args) w) (A : Option Addr) (n c : Nat) (xs : List Rrd) (g : Rrd → Bool) (w : World) (hx : SeesR w w.heap.size A n xs) (hn : n ≤ 1000000)
    (hf : ∀ (x : Rrd) (wr : World), x ∈ xs → Below w.heap.size w wr → Calls Tryz.prog fid #[.agg #[.string x.s, .int .i64 x.t, .int .i64 x.c, .int .i64 x.l, .string x.d], p] wr fun e w' => e = .returned (.bool (g x)) ∧ Below wr.heap.size wr w') :
    Calls Tryz.prog 96 #[.slice A n c, .func (.func fid) #[] #[p]] w fun e w' => IxOut (xs.any g) e ∧ Below w.heap.size w w' := by
  have HX := Lib.hid hx
  have HN := Lib.hid hx.1
  have HF := Lib.hid hf
  have HENT := Lib.hid hent
  clear hx hf hent
  go_enter Tryz.func96, Tryz.ntmps96
  go_wp2_with fail
  go_loopw [8] (fun i wr => ∃ k : Nat, k ≤ n ∧ i = .int .i64 (k : Nat) ∧ Upto (fun x => !g x) xs k ∧ Below w.heap.size w wr) (fun i _ => n - (intOf i).toNat)
  case atStart => exact ⟨0, Nat.zero_le _, rfl, Upto.zero _ _, Below.refl _ _⟩
  case round =>
    obtain ⟨k, hk, rfl, hup, hB⟩ := hrel
    have HU := Lib.hid hup
    have HB := Lib.hid hB
    clear hup hB
    by_cases hkn : k < n
    · have g2 : (k : Int) < (n : Int) := by omega
      have g0 : (0 : Int) ≤ (k : Int) := by omega
      obtain ⟨b, off, x, rfl, hb, hxk, ht⟩ := (HX.out.keep HB.out).at hkn
      obtain ⟨x0, x1, x2, x3, x4⟩ := ht
      have HXK := Lib.hid hxk
      have HMEM := Lib.hid (List.mem_of_getElem? hxk)
      clear hxk
      go_wp2_with fail
      rw [HENT.out, Oper.upon_enter]
      refine (HF.out x wr HMEM.out HB.out).mono ?_
      obtain ⟨z, hz⟩ : ∃ z, z = g x := ⟨_, rfl⟩
      have HZ := Lib.hid hz
      rw [← hz]
      rintro e w1 ⟨rfl, hB1⟩
      have HB1 := Lib.hid (HB.out.trans (hB1.mono HB.out.size))
      clear hB1 x0 x1 x2 x3 x4 hz
      cases z with
      | false =>
        have HU2 := Lib.hid (HU.out.succ HXK.out (by rw [← HZ.out]; rfl))
        go_wp2_with fail
        go_roundw
        case rel => exact ⟨k + 1, by omega, by go_num, HU2.out, HB1.out⟩
        case measure => simp [intOf]; omega
      | true =>
        go_wp2_with fail
        go_ret
        exact ⟨⟨_, rfl, ⟨fun _ => List.any_eq_true.2 ⟨x, HMEM.out, HZ.out.symm⟩, fun _ => by omega⟩⟩, HB1.out⟩
    · obtain rfl : k = n := by omega
      have g2 : ¬ ((k : Int) < (k : Int)) := by omega
      have HR := Lib.hid (show xs.any g = false by
        have := HU.out
        rw [← HN.out] at this
        have := this.all
        rw [List.all_eq_true] at this
        rw [List.any_eq_false]
        intro x hx
        have := this x hx
        simpa using this)
      go_wp2_with fail
      go_ret
      exact ⟨⟨_, rfl, ⟨fun h => absurd h (by decide), fun h => by rw [HR.out] at h; cases h⟩⟩, HB.out⟩
set_option maxHeartbeats 8000000 in
set_option maxRecDepth 20000 in
theorem ContF_any (fid : Nat) (p : Value) (hent : ∀ (args : Array Value) (w : World), (callFunc fid args).run Tryz.prog w = .ok (.enter fid args) w) (A : Option Addr) (n c : Nat) (xs : List Rrd) (g : Rrd → Bool) (w : World) (hx : SeesR w w.heap.size A n xs) (hn : n ≤ 1000000)
    (hf : ∀ (x : Rrd) (wr : World), x ∈ xs → Below w.heap.size w wr → Calls Tryz.prog fid #[.agg #[.string x.s, .int .i64 x.t, .int .i64 x.c, .int .i64 x.l, .string x.d], p] wr fun e w' => e = .returned (.bool (g x)) ∧ Below wr.heap.size wr w') :
    Calls Tryz.prog 60 #[.slice A n c, .func (.func fid) #[] #[p]] w fun e w' => e = .returned (.bool (xs.any g)) ∧ Below w.heap.size w w' := by
  have HX := Lib.hid hx
  have HF := Lib.hid hf
  have HENT := Lib.hid hent
  obtain ⟨z, hz⟩ : ∃ z, z = xs.any g := ⟨_, rfl⟩
  rw [← hz]
  have HZ := Lib.hid hz
  clear hx hf hent hz
  go_enter Tryz.func60, Tryz.ntmps60
  go_wp2_with fail
  refine (IndexF_any fid p HENT.out A n c xs g _ HX.out hn HF.out).mono ?_
  rw [← HZ.out]
  rintro e w1 ⟨⟨r, rfl, hr⟩, hB⟩
  have HB := Lib.hid hB
  clear hB
  have hzd : decide (0 ≤ r) = z := by
    cases z with
    | false => exact decide_eq_false (fun h => by have := hr.1 h; cases this)
    | true => exact decide_eq_true (hr.2 rfl)
  have HZD := Lib.hid hzd
  clear hr hzd
  go_wp2_with fail
  go_ret
  exact ⟨by rw [← HZD.out]; rfl, HB.out⟩
set_option maxHeartbeats 8000000 in
set_option maxRecDepth 20000 in
theorem AllK0_any (fid : Nat) (hent : ∀ (args : Array Value) (w : World), (callFunc fid args).run Tryz.prog w = .ok (.enter fid args) w) (g : Nat) (x : Rrd) (z : Bool) (w : World) (hc : w.cell? ⟨g, 0, none⟩ = some (.func (.func fid) #[] #[]))
    (hf : ∀ wr : World, Below w.heap.size w wr → Calls Tryz.prog fid #[.agg #[.string x.s, .int .i64 x.t, .int .i64 x.c, .int .i64 x.l, .string x.d]] wr fun e w' => e = .returned (.bool z) ∧ Below wr.heap.size wr w') :
    Calls Tryz.prog 61 #[.agg #[.string x.s, .int .i64 x.t, .int .i64 x.c, .int .i64 x.l, .string x.d], .pointer (some ⟨g, 0, none⟩)] w fun e w' => e = .returned (.bool (!z)) ∧ Below w.heap.size w w' := by
  have hB0 : Below w.heap.size w (w.alloc (.cells #[.string x.s, .int .i64 x.t, .int .i64 x.c, .int .i64 x.l, .string x.d] 26)) := (Below.refl _ _).alloc (Nat.le_refl _) _
  have hc2 : (w.alloc (.cells #[.string x.s, .int .i64 x.t, .int .i64 x.c, .int .i64 x.l, .string x.d] 26)).cell? ⟨g, 0, none⟩ = some (.func (.func fid) #[] #[]) := (hB0.cell (World.block_lt_of_cell? w _ hc)).trans hc
  have HB0 := Lib.hid hB0
  have HW := Lib.hid (Whole.new w 26 #[.string x.s, .int .i64 x.t, .int .i64 x.c, .int .i64 x.l, .string x.d])
  obtain ⟨p0, p1, p2, p3, p4⟩ := box_five w x
  have HF := Lib.hid hf
  have HENT := Lib.hid hent
  clear hf hent hB0 hc
  go_enter Tryz.func61, Tryz.ntmps61
  go_wp2_with fail
  rw [HENT.out, Oper.upon_enter]
  refine (HF.out _ HB0.out).mono ?_
  rintro e w1 ⟨rfl, hB1⟩
  have HB1 := Lib.hid (HB0.out.trans (hB1.mono HB0.out.size))
  clear hB1 p0 p1 p2 p3 p4 hc2
  go_wp2_with fail
  go_ret
  exact ⟨rfl, HB1.out⟩
set_option maxHeartbeats 8000000 in
set_option maxRecDepth 20000 in
theorem all0_any (fid : Nat) (hent : ∀ (args : Array Value) (w : World), (callFunc fid args).run Tryz.prog w = .ok (.enter fid args) w) (A : Option Addr) (n c : Nat) (xs : List Rrd) (g : Rrd → Bool) (w : World) (hx : SeesR w w.heap.size A n xs) (hn : n ≤ 1000000)
    (hf : ∀ (x : Rrd) (wr : World), x ∈ xs → Below w.heap.size w wr → Calls Tryz.prog fid #[.agg #[.string x.s, .int .i64 x.t, .int .i64 x.c, .int .i64 x.l, .string x.d]] wr fun e w' => e = .returned (.bool (g x)) ∧ Below wr.heap.size wr w') :
    Calls Tryz.prog 32 #[.slice A n c, .func (.func fid) #[] #[]] w fun e w' => e = .returned (.bool (xs.all g)) ∧ Below w.heap.size w w' := by
  obtain ⟨b, hb⟩ : ∃ b, b = w.heap.size := ⟨_, rfl⟩
  obtain ⟨W, hW⟩ : ∃ W, W = w.alloc (.cells #[.func (.func fid) #[] #[]] 51) := ⟨_, rfl⟩
  have HB := Lib.hid (show Below w.heap.size w W by rw [hW]; exact (Below.refl _ _).alloc (Nat.le_refl _) _)
  have HC := Lib.hid (show W.cell? ⟨b, 0, none⟩ = some (.func (.func fid) #[] #[]) by rw [hW, hb]; exact (Whole.new w _ _).cell1)
  have HX := Lib.hid ((hx.keep HB.out).more HB.out.size)
  have HF := Lib.hid hf
  have HENT := Lib.hid hent
  have HW := Lib.hid hW
  have HBB := Lib.hid hb
  obtain ⟨z, hz⟩ : ∃ z, z = xs.any fun x => !g x := ⟨_, rfl⟩
  rw [List.all_eq_not_any_not, ← hz]
  have HZ := Lib.hid hz
  clear hx hf hent hW hb hz
  go_enter Tryz.func32, Tryz.ntmps32
  go_wp2_with fail
  rw [← HW.out, ← HBB.out]
  refine (ContF_any 61 _ (enters_of Tryz.func61 (by kernel_rfl) rfl) A n c xs (fun x => !g x) _ HX.out hn (fun x wr hm hB => AllK0_any fid HENT.out b x (g x) wr ((hB.cell (World.block_lt_of_cell? W _ HC.out)).trans HC.out) (fun wr2 hB2 => HF.out x wr2 hm (HB.out.trans ((hB.trans (hB2.mono hB.size)).mono HB.out.size))))).mono ?_
  rw [← HZ.out]
  rintro e w1 ⟨rfl, hB1⟩
  have HB1 := Lib.hid (HB.out.trans (hB1.mono HB.out.size))
  clear hB1
  go_wp2_with fail
  go_ret
  exact ⟨rfl, HB1.out⟩
set_option maxHeartbeats 8000000 in
set_option maxRecDepth 20000 in
theorem AllK1_any (fid : Nat) (p : Value) (hent : ∀ (args : Array Value) (w : World), (callFunc fid args).run Tryz.prog w = .ok (.enter fid args) w) (g : Nat) (x : Rrd) (z : Bool) (w : World) (hc : w.cell? ⟨g, 0, none⟩ = some (.func (.func fid) #[] #[p]))
    (hf : ∀ wr : World, Below w.heap.size w wr → Calls Tryz.prog fid #[.agg #[.string x.s, .int .i64 x.t, .int .i64 x.c, .int .i64 x.l, .string x.d], p] wr fun e w' => e = .returned (.bool z) ∧ Below wr.heap.size wr w') :
    Calls Tryz.prog 61 #[.agg #[.string x.s, .int .i64 x.t, .int .i64 x.c, .int .i64 x.l, .string x.d], .pointer (some ⟨g, 0, none⟩)] w fun e w' => e = .returned (.bool (!z)) ∧ Below w.heap.size w w' := by
  have hB0 : Below w.heap.size w (w.alloc (.cells #[.string x.s, .int .i64 x.t, .int .i64 x.c, .int .i64 x.l, .string x.d] 26)) := (Below.refl _ _).alloc (Nat.le_refl _) _
  have hc2 : (w.alloc (.cells #[.string x.s, .int .i64 x.t, .int .i64 x.c, .int .i64 x.l, .string x.d] 26)).cell? ⟨g, 0, none⟩ = some (.func (.func fid) #[] #[p]) := (hB0.cell (World.block_lt_of_cell? w _ hc)).trans hc
  have HB0 := Lib.hid hB0
  have HW := Lib.hid (Whole.new w 26 #[.string x.s, .int .i64 x.t, .int .i64 x.c, .int .i64 x.l, .string x.d])
  obtain ⟨p0, p1, p2, p3, p4⟩ := box_five w x
  have HF := Lib.hid hf
  have HENT := Lib.hid hent
  clear hf hent hB0 hc
  go_enter Tryz.func61, Tryz.ntmps61
  go_wp2_with fail
  rw [HENT.out, Oper.upon_enter]
  refine (HF.out _ HB0.out).mono ?_
  rintro e w1 ⟨rfl, hB1⟩
  have HB1 := Lib.hid (HB0.out.trans (hB1.mono HB0.out.size))
  clear hB1 p0 p1 p2 p3 p4 hc2
  go_wp2_with fail
  go_ret
  exact ⟨rfl, HB1.out⟩
set_option maxHeartbeats 8000000 in
set_option maxRecDepth 20000 in
theorem all1_any (fid : Nat) (p : Value) (hent : ∀ (args : Array Value) (w : World), (callFunc fid args).run Tryz.prog w = .ok (.enter fid args) w) (A : Option Addr) (n c : Nat) (xs : List Rrd) (g : Rrd → Bool) (w : World) (hx : SeesR w w.heap.size A n xs) (hn : n ≤ 1000000)
    (hf : ∀ (x : Rrd) (wr : World), x ∈ xs → Below w.heap.size w wr → Calls Tryz.prog fid #[.agg #[.string x.s, .int .i64 x.t, .int .i64 x.c, .int .i64 x.l, .string x.d], p] wr fun e w' => e = .returned (.bool (g x)) ∧ Below wr.heap.size wr w') :
    Calls Tryz.prog 32 #[.slice A n c, .func (.func fid) #[] #[p]] w fun e w' => e = .returned (.bool (xs.all g)) ∧ Below w.heap.size w w' := by
  obtain ⟨b, hb⟩ : ∃ b, b = w.heap.size := ⟨_, rfl⟩
  obtain ⟨W, hW⟩ : ∃ W, W = w.alloc (.cells #[.func (.func fid) #[] #[p]] 51) := ⟨_, rfl⟩
  have HB := Lib.hid (show Below w.heap.size w W by rw [hW]; exact (Below.refl _ _).alloc (Nat.le_refl _) _)
  have HC := Lib.hid (show W.cell? ⟨b, 0, none⟩ = some (.func (.func fid) #[] #[p]) by rw [hW, hb]; exact (Whole.new w _ _).cell1)
  have HX := Lib.hid ((hx.keep HB.out).more HB.out.size)
  have HF := Lib.hid hf
  have HENT := Lib.hid hent
  have HW := Lib.hid hW
  have HBB := Lib.hid hb
  obtain ⟨z, hz⟩ : ∃ z, z = xs.any fun x => !g x := ⟨_, rfl⟩
  rw [List.all_eq_not_any_not, ← hz]
  have HZ := Lib.hid hz
  clear hx hf hent hW hb hz
  go_enter Tryz.func32, Tryz.ntmps32
  go_wp2_with fail
  rw [← HW.out, ← HBB.out]
  refine (ContF_any 61 _ (enters_of Tryz.func61 (by kernel_rfl) rfl) A n c xs (fun x => !g x) _ HX.out hn (fun x wr hm hB => AllK1_any fid p HENT.out b x (g x) wr ((hB.cell (World.block_lt_of_cell? W _ HC.out)).trans HC.out) (fun wr2 hB2 => HF.out x wr2 hm (HB.out.trans ((hB.trans (hB2.mono hB.size)).mono HB.out.size))))).mono ?_
  rw [← HZ.out]
  rintro e w1 ⟨rfl, hB1⟩
  have HB1 := Lib.hid (HB.out.trans (hB1.mono HB.out.size))
  clear hB1
  go_wp2_with fail
  go_ret
  exact ⟨rfl, HB1.out⟩

/-! ### data types -/
set_option maxHeartbeats 4000000 in
theorem DataType_any (t : Int) (w : World) : Calls Tryz.prog 72 #[.int .i64 t] w fun e w' => e = .returned (.bool (dataT t)) ∧ w = w' := by
  by_cases h1 : 1 ≤ t
  · by_cases h2 : t ≤ 65535
    · by_cases h3 : t = 41
      · have e0 : dataT t = false := by unfold dataT; simp [h3]
        rw [e0]
        subst h3
        go_enter Tryz.func72, Tryz.ntmps72
        go_wp2_with fail
        go_ret
        exact ⟨rfl, rfl⟩
      · have g3 : (t == 41) = false := by rw [beq_eq_false_iff_ne]; exact h3
        have g3n : (t != 41) = true := by simp [h3]
        by_cases h4 : 128 ≤ t
        · by_cases h5 : t ≤ 255
          · have e0 : dataT t = false := by unfold dataT; simp [h4, h5]
            rw [e0]
            clear e0
            go_enter Tryz.func72, Tryz.ntmps72
            go_wp2_with fail
            go_ret
            exact ⟨rfl, rfl⟩
          · have e0 : dataT t = true := by unfold dataT; simp [h1, h2, h3, h5]
            rw [e0]
            clear e0
            go_enter Tryz.func72, Tryz.ntmps72
            go_wp2_with fail
            go_ret
            exact ⟨rfl, rfl⟩
        · have e0 : dataT t = true := by unfold dataT; simp [h1, h2, h3, h4]
          rw [e0]
          clear e0
          go_enter Tryz.func72, Tryz.ntmps72
          go_wp2_with fail
          go_ret
          exact ⟨rfl, rfl⟩
    · have e0 : dataT t = false := by unfold dataT; simp [h2]
      rw [e0]
      clear e0
      go_enter Tryz.func72, Tryz.ntmps72
      go_wp2_with fail
      go_ret
      exact ⟨rfl, rfl⟩
  · have e0 : dataT t = false := by unfold dataT; simp [h1]
    rw [e0]
    clear e0
    go_enter Tryz.func72, Tryz.ntmps72
    go_wp2_with fail
    go_ret
    exact ⟨rfl, rfl⟩
set_option maxHeartbeats 4000000 in
theorem RefDataType_any (t : Int) (w : World) : Calls Tryz.prog 50 #[.int .i64 t] w fun e w' => e = .returned (.bool (dataT t)) ∧ w = w' := by
  by_cases h1 : t ≥ 1
  · by_cases h2 : t ≤ 65535
    · by_cases h3 : t = 41
      · have e0 : dataT t = false := by unfold dataT; simp [h3]
        rw [e0]
        subst h3
        go_enter Tryz.func50, Tryz.ntmps50
        go_wp2_with fail
        go_ret
        exact ⟨rfl, rfl⟩
      · have g3 : (t == 41) = false := by rw [beq_eq_false_iff_ne]; exact h3
        have g3n : (t != 41) = true := by simp [h3]
        have h1' : 1 ≤ t := h1
        by_cases h4 : t < 128
        · have e0 : dataT t = true := by
            have : ¬ 128 ≤ t := by omega
            unfold dataT; simp [h1', h2, h3, this]
          rw [e0]
          clear e0 h1'
          go_enter Tryz.func50, Tryz.ntmps50
          go_wp2_with fail
          go_ret
          exact ⟨rfl, rfl⟩
        · by_cases h5 : t > 255
          · have e0 : dataT t = true := by
              have : ¬ t ≤ 255 := by omega
              unfold dataT; simp [h1', h2, h3, this]
            rw [e0]
            clear e0 h1'
            go_enter Tryz.func50, Tryz.ntmps50
            go_wp2_with fail
            go_ret
            exact ⟨rfl, rfl⟩
          · have e0 : dataT t = false := by
              have a : 128 ≤ t := by omega
              have b : t ≤ 255 := by omega
              unfold dataT; simp [a, b]
            rw [e0]
            clear e0 h1'
            go_enter Tryz.func50, Tryz.ntmps50
            go_wp2_with fail
            go_ret
            exact ⟨rfl, rfl⟩
    · have e0 : dataT t = false := by unfold dataT; simp [h2]
      rw [e0]
      clear e0
      go_enter Tryz.func50, Tryz.ntmps50
      go_wp2_with fail
      go_ret
      exact ⟨rfl, rfl⟩
  · have e0 : dataT t = false := by
      have : ¬ 1 ≤ t := h1
      unfold dataT; simp [this]
    rw [e0]
    clear e0
    go_enter Tryz.func50, Tryz.ntmps50
    go_wp2_with fail
    go_ret
    exact ⟨rfl, rfl⟩

/-! ### what a zone's records are -/
set_option maxHeartbeats 8000000 in
set_option maxRecDepth 20000 in
theorem Good_any (g : Nat) (N : ByteArray) (nn : List UInt8) (x : Rrd) (w : World) (hN : N = mk nn) (hl : nn.length ≤ 1000000) (hx : OkX x) (hc : w.cell? ⟨g, 0, none⟩ = some (.string N)) :
    Calls Tryz.prog 71 #[.agg #[.string x.s, .int .i64 x.t, .int .i64 x.c, .int .i64 x.l, .string x.d], .pointer (some ⟨g, 0, none⟩)] w fun e w' => e = .returned (.bool (goodR nn x)) ∧ Below w.heap.size w w' := by
  have hB0 : Below w.heap.size w (w.alloc (.cells #[.string x.s, .int .i64 x.t, .int .i64 x.c, .int .i64 x.l, .string x.d] 26)) := (Below.refl _ _).alloc (Nat.le_refl _) _
  have hc2 : (w.alloc (.cells #[.string x.s, .int .i64 x.t, .int .i64 x.c, .int .i64 x.l, .string x.d] 26)).cell? ⟨g, 0, none⟩ = some (.string N) := (hB0.cell (World.block_lt_of_cell? w _ hc)).trans hc
  have HB0 := Lib.hid hB0
  obtain ⟨p0, p1, p2, p3, p4⟩ := box_five w x
  have HN := Lib.hid hN
  have hxl : (nmX x).length ≤ 1073741824 := by have := hx.name; unfold nmX; omega
  obtain ⟨z, hz⟩ : ∃ z, z = dataT x.t := ⟨_, rfl⟩
  have HZ := Lib.hid hz
  obtain ⟨u, hu⟩ : ∃ u, u = underN (nmX x) nn := ⟨_, rfl⟩
  have HU := Lib.hid hu
  have hg : goodR nn x = (decide (x.c = 1) && (z && u)) := by rw [hz, hu]; rfl
  rw [hg]
  clear hN hx hB0 hc hz hu hg
  by_cases h1 : x.c = 1
  · have g1 : (x.c == 1) = true := by rw [beq_iff_eq]; exact h1
    rw [decide_eq_true h1]
    clear h1
    go_enter Tryz.func71, Tryz.ntmps71
    go_wp2_with fail
    refine (DataType_any x.t _).mono ?_
    rw [← HZ.out]
    rintro e w1 ⟨rfl, rfl⟩
    cases z with
    | false =>
      go_wp2_with fail
      go_ret
      exact ⟨rfl, HB0.out⟩
    | true =>
      go_wp2_with fail
      refine (Under_any x.s N (nmX x) nn _ (rrd_name x) HN.out hxl (by omega)).mono ?_
      rw [← HU.out]
      rintro e w2 ⟨rfl, hB2⟩
      have HB2 := Lib.hid (HB0.out.trans (hB2.mono HB0.out.size))
      clear hB2 p0 p1 p2 p3 p4 hc2
      cases u with
      | false =>
        go_wp2_with fail
        go_ret
        exact ⟨rfl, HB2.out⟩
      | true =>
        go_wp2_with fail
        go_ret
        exact ⟨rfl, HB2.out⟩
  · have g1 : (x.c == 1) = false := by rw [beq_eq_false_iff_ne]; exact h1
    rw [decide_eq_false h1]
    clear h1
    go_enter Tryz.func71, Tryz.ntmps71
    go_wp2_with fail
    go_ret
    exact ⟨rfl, HB0.out⟩
def aloneK (xs : List Rrd) (k : Nat) : Prop := ∀ i x y, i + 1 < k → xs[i]? = some x → xs[i + 1]? = some y → pairX x y = false
theorem alone_at : ∀ xs : List Rrd, aloneX xs = true ↔ aloneK xs xs.length
  | [] => ⟨fun _ i x y h => absurd h (by simp), fun _ => rfl⟩
  | [x] => ⟨fun _ i x y h => absurd h (by simp), fun _ => rfl⟩
  | x :: y :: l => by
    have ih := alone_at (y :: l)
    rw [aloneX, Bool.and_eq_true, ih, Bool.not_eq_true']
    constructor
    · rintro ⟨h1, h2⟩ i a b hi ha hb
      cases i with
      | zero => simp at ha hb; rw [← ha, ← hb]; exact h1
      | succ i => exact h2 i a b (by simpa using hi) (by simpa using ha) (by simpa using hb)
    · intro h
      refine ⟨h 0 x y (by simp) rfl rfl, fun i a b hi ha hb => h (i + 1) a b (by simpa using hi) (by simpa using ha) (by simpa using hb)⟩
theorem aloneK_step {xs : List Rrd} {k : Nat} {x y : Rrd} (h : aloneK xs (k + 1)) (hx : xs[k]? = some x) (hy : xs[k + 1]? = some y) (hp : pairX x y = false) : aloneK xs (k + 1 + 1) := by
  intro i a b hi ha hb
  by_cases e : i = k
  · subst e
    rw [hx] at ha; rw [hy] at hb
    injection ha with ha; injection hb with hb
    rw [← ha, ← hb]; exact hp
  · exact h i a b (by omega) ha hb
theorem alone_not {xs : List Rrd} {k : Nat} {x y : Rrd} (hx : xs[k]? = some x) (hy : xs[k + 1]? = some y) (hp : pairX x y = true) : aloneX xs = false := by
  cases e : aloneX xs with
  | false => rfl
  | true =>
    have := (alone_at xs).1 e k x y (List.getElem?_eq_some_iff.1 hy).1 hx hy
    rw [hp] at this; cases this
theorem two_recs (w : World) (x y : Rrd) : Five ((w.alloc (.cells #[.string x.s, .int .i64 x.t, .int .i64 x.c, .int .i64 x.l, .string x.d] 26)).alloc (.cells #[.string y.s, .int .i64 y.t, .int .i64 y.c, .int .i64 y.l, .string y.d] 26)).drew w.heap.size 0 x ∧ Five ((w.alloc (.cells #[.string x.s, .int .i64 x.t, .int .i64 x.c, .int .i64 x.l, .string x.d] 26)).alloc (.cells #[.string y.s, .int .i64 y.t, .int .i64 y.c, .int .i64 y.l, .string y.d] 26)).drew (w.heap.size + 1) 0 y ∧ Below w.heap.size w ((w.alloc (.cells #[.string x.s, .int .i64 x.t, .int .i64 x.c, .int .i64 x.l, .string x.d] 26)).alloc (.cells #[.string y.s, .int .i64 y.t, .int .i64 y.c, .int .i64 y.l, .string y.d] 26)).drew := by
  have hB : Below (w.alloc (.cells #[.string x.s, .int .i64 x.t, .int .i64 x.c, .int .i64 x.l, .string x.d] 26)).heap.size (w.alloc (.cells #[.string x.s, .int .i64 x.t, .int .i64 x.c, .int .i64 x.l, .string x.d] 26)) ((w.alloc (.cells #[.string x.s, .int .i64 x.t, .int .i64 x.c, .int .i64 x.l, .string x.d] 26)).alloc (.cells #[.string y.s, .int .i64 y.t, .int .i64 y.c, .int .i64 y.l, .string y.d] 26)).drew := ((Below.refl _ _).alloc (Nat.le_refl _) _).drew
  refine ⟨(box_five w x).keep hB (by simp), ?_, (((Below.refl _ _).alloc (Nat.le_refl _) _).alloc (by simp) _).drew⟩
  have h := box_five (w.alloc (.cells #[.string x.s, .int .i64 x.t, .int .i64 x.c, .int .i64 x.l, .string x.d] 26)) y
  rw [show (w.alloc (.cells #[.string x.s, .int .i64 x.t, .int .i64 x.c, .int .i64 x.l, .string x.d] 26)).heap.size = w.heap.size + 1 by simp] at h
  exact h
set_option maxHeartbeats 8000000 in
set_option maxRecDepth 20000 in
theorem aliases_any (A : Option Addr) (n c : Nat) (xs : List Rrd) (w : World) (hx : SeesR w w.heap.size A n xs) (hok : OkL xs) (hn : n ≤ 1000000) :
    Calls Tryz.prog 74 #[.slice A n c] w fun e w' => e = .returned (.bool (aloneX xs)) ∧ Below w.heap.size w w' := by
  have HX := Lib.hid hx
  have HN := Lib.hid hx.1
  have HOK := Lib.hid hok
  clear hx hok
  go_enter Tryz.func74, Tryz.ntmps74
  go_wp2_with fail
  go_loopw [3] (fun i wr => ∃ j : Nat, 1 ≤ j ∧ j ≤ n + 1 ∧ i = .int .i64 (j : Nat) ∧ aloneK xs j ∧ Below w.heap.size w wr) (fun i _ => n - (intOf i).toNat)
  case atStart => exact ⟨1, Nat.le_refl _, by omega, rfl, fun i x y h => absurd h (by omega), Below.refl _ _⟩
  case round =>
    obtain ⟨j, hj1, hjn, rfl, hal, hB⟩ := hrel
    have HA := Lib.hid hal
    have HB := Lib.hid hB
    clear hal hB
    by_cases hjlt : j < n
    · obtain ⟨k, rfl⟩ : ∃ k, j = k + 1 := ⟨j - 1, by omega⟩
      obtain ⟨q, hq⟩ : ∃ q, q = k + 1 := ⟨_, rfl⟩
      rw [← hq] at hjlt
      have g2 : (q : Int) < (n : Int) := by omega
      have g3 : (k : Int) < (n : Int) := by omega
      have g4 : (0 : Int) ≤ (k : Int) := by omega
      have g5 : (0 : Int) ≤ (q : Int) := by omega
      have z1 : (q : Int) - 1 = (k : Int) := by omega
      obtain ⟨b, off, x, rfl, hb, hxk, hfx⟩ := (HX.out.keep HB.out).at (show k < n by omega)
      obtain ⟨b', off', y, hA', hb', hyk, hfy⟩ := (HX.out.keep HB.out).at hjlt
      obtain ⟨rfl, rfl⟩ := (by simpa using hA' : b = b' ∧ off = off')
      obtain ⟨x0, x1, x2, x3, x4⟩ := hfx
      obtain ⟨y0, y1, y2, y3, y4⟩ := hfy
      have HXK := Lib.hid hxk
      have HYK := Lib.hid (show xs[k + 1]? = some y by rw [← hq]; exact hyk)
      have hblt : b < wr.heap.size := Nat.lt_of_lt_of_le hb HB.out.size
      have hxl : (nmX x).length ≤ 1073741824 := by have := (HOK.out.at hxk).name; unfold nmX; omega
      have hyl : (nmX y).length ≤ 1073741824 := by have := (HOK.out.at hyk).name; unfold nmX; omega
      have HSTEP := Lib.hid (show pairX x y = false → aloneK xs (q + 1) from fun h => by have := HA.out; rw [hq]; exact aloneK_step this HXK.out HYK.out h)
      have HNOT := Lib.hid (show pairX x y = true → aloneX xs = false from fun h => alone_not HXK.out HYK.out h)
      rw [← hq] at HA ⊢
      have HQ := Lib.hid hq
      have HT1 := Lib.hid (two_recs wr x y)
      have HT2 := Lib.hid (two_recs wr y x)
      clear hxk hyk hA' hq
      by_cases hx5 : x.t = 5
      · have gx : (x.t == 5) = true := by rw [beq_iff_eq]; exact hx5
        have HPT := Lib.hid (show pairX x y = alikeN (nmX x) (nmX y) by unfold pairX; rw [decide_eq_true hx5]; rfl)
        clear hx5
        go_wp2_with fail
        go_region
        all_goals (
          obtain ⟨⟨p0, p1, p2, p3, p4⟩, ⟨q0, q1, q2, q3, q4⟩, hb1⟩ := HT1.out
          obtain ⟨⟨r0, r1, r2, r3, r4⟩, ⟨s0, s1, s2, s3, s4⟩, hb2⟩ := HT2.out
          clear x0 x1 x2 x3 x4 y0 y1 y2 y3 y4
          go_wp2_with fail
          refine (Alike_any x.s y.s (nmX x) (nmX y) _ (rrd_name x) (rrd_name y) hxl hyl).mono ?_
          rw [← HPT.out]
          obtain ⟨z, hz⟩ : ∃ z, z = pairX x y := ⟨_, rfl⟩
          rw [← hz]
          have HZ := Lib.hid hz
          rintro e w1 ⟨rfl, hB1⟩
          have HB1 := Lib.hid (HB.out.trans ((show Below wr.heap.size wr w1 by first | exact hb1.trans (hB1.mono hb1.size) | exact hb2.trans (hB1.mono hb2.size)).mono HB.out.size))
          clear hB1 hz p0 p1 p2 p3 p4 q0 q1 q2 q3 q4 r0 r1 r2 r3 r4 s0 s1 s2 s3 s4 hb1 hb2
          cases z with
          | true =>
            have HR := Lib.hid (HNOT.out HZ.out.symm)
            go_wp2_with fail
            go_ret
            exact ⟨by rw [HR.out]; rfl, HB1.out⟩
          | false =>
            have HS := Lib.hid (HSTEP.out HZ.out.symm)
            go_wp2_with fail
            go_roundw
            case rel => exact ⟨q + 1, by omega, by omega, by go_num, HS.out, HB1.out⟩
            case measure => simp [intOf]; omega)
      · have gx : (x.t == 5) = false := by rw [beq_eq_false_iff_ne]; exact hx5
        by_cases hy5 : y.t = 5
        · have gy : (y.t == 5) = true := by rw [beq_iff_eq]; exact hy5
          have HPT := Lib.hid (show pairX x y = alikeN (nmX x) (nmX y) by unfold pairX; rw [decide_eq_true hy5, Bool.or_true]; rfl)
          clear hx5 hy5
          go_wp2_with fail
          go_region
          all_goals (
            obtain ⟨⟨p0, p1, p2, p3, p4⟩, ⟨q0, q1, q2, q3, q4⟩, hb1⟩ := HT1.out
            obtain ⟨⟨r0, r1, r2, r3, r4⟩, ⟨s0, s1, s2, s3, s4⟩, hb2⟩ := HT2.out
            clear x0 x1 x2 x3 x4 y0 y1 y2 y3 y4
            go_wp2_with fail
            refine (Alike_any x.s y.s (nmX x) (nmX y) _ (rrd_name x) (rrd_name y) hxl hyl).mono ?_
            rw [← HPT.out]
            obtain ⟨z, hz⟩ : ∃ z, z = pairX x y := ⟨_, rfl⟩
            rw [← hz]
            have HZ := Lib.hid hz
            rintro e w1 ⟨rfl, hB1⟩
            have HB1 := Lib.hid (HB.out.trans ((show Below wr.heap.size wr w1 by first | exact hb1.trans (hB1.mono hb1.size) | exact hb2.trans (hB1.mono hb2.size)).mono HB.out.size))
            clear hB1 hz p0 p1 p2 p3 p4 q0 q1 q2 q3 q4 r0 r1 r2 r3 r4 s0 s1 s2 s3 s4 hb1 hb2
            cases z with
            | true =>
              have HR := Lib.hid (HNOT.out HZ.out.symm)
              go_wp2_with fail
              go_ret
              exact ⟨by rw [HR.out]; rfl, HB1.out⟩
            | false =>
              have HS := Lib.hid (HSTEP.out HZ.out.symm)
              go_wp2_with fail
              go_roundw
              case rel => exact ⟨q + 1, by omega, by omega, by go_num, HS.out, HB1.out⟩
              case measure => simp [intOf]; omega)
        · have gy : (y.t == 5) = false := by rw [beq_eq_false_iff_ne]; exact hy5
          have HS := Lib.hid (HSTEP.out (by unfold pairX; rw [decide_eq_false hx5, decide_eq_false hy5]; rfl))
          clear hx5 hy5
          go_wp2_with fail
          go_region
          all_goals (
            obtain ⟨⟨p0, p1, p2, p3, p4⟩, ⟨q0, q1, q2, q3, q4⟩, hb1⟩ := HT1.out
            obtain ⟨⟨r0, r1, r2, r3, r4⟩, ⟨s0, s1, s2, s3, s4⟩, hb2⟩ := HT2.out
            have HB1 := Lib.hid (HB.out.trans (hb1.mono HB.out.size))
            have HB2 := Lib.hid (HB.out.trans (hb2.mono HB.out.size))
            clear x0 x1 x2 x3 x4 y0 y1 y2 y3 y4 hb1 hb2
            go_wp2_with fail
            go_roundw
            case rel => exact ⟨q + 1, by omega, by omega, by go_num, HS.out, (by first | exact HB1.out | exact HB2.out)⟩
            case measure => simp [intOf]; omega)
    · have g2 : ¬ (j : Int) < (n : Int) := by omega
      have HR := Lib.hid (show aloneX xs = true from (alone_at xs).2 (fun i x y h => HA.out i x y (by have := HN.out; omega)))
      go_wp2_with fail
      go_ret
      exact ⟨by rw [HR.out]; rfl, HB.out⟩
end Go.Proofs.YtaijcoiepfjecaaGreat
namespace Go.Proofs.YtaijcoiepfjecaaGreat
open Go.RowKit Go.Op
set_option linter.unusedVariables false

set_option maxHeartbeats 8000000 in
set_option maxRecDepth 20000 in
theorem isZone_any (A : Option Addr) (n c : Nat) (N : ByteArray) (nn : List UInt8) (D : List Rrd) (w : World) (hN : N = mk nn) (hl : nn.length ≤ 1000000)
    (hx : SeesR w w.heap.size A n D) (hcap : InCap A n c) (hok : OkL D) (hk : KS D) (hn : n ≤ 1000000) :
    Calls Tryz.prog 35 #[.string N, .slice A n c] w fun e w' => e = .returned (.bool (isZ nn D)) ∧ Below w.heap.size w w' := by
  obtain ⟨g, hg⟩ : ∃ g, g = w.heap.size := ⟨_, rfl⟩
  obtain ⟨W, hW⟩ : ∃ W, W = w.alloc (.cells #[.string N] 9) := ⟨_, rfl⟩
  have hB0 : Below w.heap.size w W := by rw [hW]; exact (Below.refl _ _).alloc (Nat.le_refl _) _
  have hc0 : W.cell? ⟨g, 0, none⟩ = some (.string N) := by rw [hW, hg]; exact (Whole.new w _ _).cell1
  have HB0 := Lib.hid hB0
  have HC0 := Lib.hid hc0
  have HX := Lib.hid ((hx.keep hB0).more hB0.size)
  have HW := Lib.hid hW
  have HG := Lib.hid hg
  have HN := Lib.hid hN
  have HCAP := Lib.hid hcap
  have HOK := Lib.hid hok
  have HK := Lib.hid hk
  obtain ⟨q1, h1⟩ : ∃ q1, q1 = D.all (goodR nn) := ⟨_, rfl⟩
  obtain ⟨T, hT⟩ : ∃ T, T = atX nn D := ⟨_, rfl⟩
  obtain ⟨X2, h2⟩ : ∃ X2, X2 = typX 6 D := ⟨_, rfl⟩
  obtain ⟨X3, h3⟩ : ∃ X3, X3 = typX 6 T := ⟨_, rfl⟩
  obtain ⟨X4, h4⟩ : ∃ X4, X4 = typX 2 T := ⟨_, rfl⟩
  obtain ⟨q5, h5⟩ : ∃ q5, q5 = aloneX D := ⟨_, rfl⟩
  have hz : isZ nn D = (q1 && (decide (X2.length = 1) && (decide (X3.length = 1) && (decide (0 < X4.length) && q5)))) := by rw [h1, h2, h3, h4, h5, hT]; rfl
  obtain ⟨r, hr⟩ : ∃ r, r = isZ nn D := ⟨_, rfl⟩
  rw [← hr]
  have HR := Lib.hid (hr.trans hz)
  have HT := Lib.hid hT
  have H1 := Lib.hid h1
  have H2 := Lib.hid h2
  have H3 := Lib.hid h3
  have H4 := Lib.hid h4
  have H5 := Lib.hid h5
  have HLT := Lib.hid (show T.length ≤ 1000000 by rw [hT]; have := atX_len nn D; rw [hx.1] at this; omega)
  clear hB0 hx hW hg hN hcap hok hk h1 h2 h3 h4 h5 hT hz hr
  go_enter Tryz.func35, Tryz.ntmps35
  go_wp2_with fail
  rw [← HW.out, ← HG.out]
  have c0 := HC0.out
  go_wp2_with fail
  refine (At_any A n c N nn D _ HN.out hl HX.out HCAP.out HOK.out HK.out hn).mono ?_
  rw [← HT.out]
  rintro e w1 ⟨v1, rfl, ho1, hB1⟩
  obtain ⟨A1, c1, rfl, hs1, _⟩ := own_sees ho1
  have HX1 := Lib.hid ((HX.out.keep hB1).more hB1.size)
  have HC1 := Lib.hid ((hB1.cell (World.block_lt_of_cell? W _ HC0.out)).trans HC0.out)
  have HB1 := Lib.hid (HB0.out.trans (hB1.mono HB0.out.size))
  have HS1 := Lib.hid hs1
  clear hB1 hs1 ho1 c0
  go_wp2_with fail
  refine (all1_any 71 (.pointer (some ⟨g, 0, none⟩)) (enters_of Tryz.func71 (by kernel_rfl) rfl) A n c D (goodR nn) _ HX1.out hn (fun x wr hm hB => Good_any g N nn x wr HN.out hl (HOK.out x hm) ((hB.cell (World.block_lt_of_cell? w1 _ HC1.out)).trans HC1.out))).mono ?_
  rw [← H1.out]
  rintro e w2 ⟨rfl, hB2⟩
  have HX2 := Lib.hid ((HX1.out.keep hB2).more hB2.size)
  have HS2 := Lib.hid ((HS1.out.keep hB2).more hB2.size)
  have HB2 := Lib.hid (HB1.out.trans (hB2.mono HB1.out.size))
  clear hB2
  cases q1 with
  | false =>
    go_wp2_with fail
    go_ret
    exact ⟨by rw [HR.out]; rfl, HB2.out⟩
  | true =>
    go_wp2_with fail
    refine (Typed_any A n c D 6 _ HX2.out hn).mono ?_
    rw [← H2.out]
    rintro e w3 ⟨v3, rfl, ho3, hB3⟩
    obtain ⟨A3, c3, rfl, _, _⟩ := own_sees ho3
    have HX3 := Lib.hid ((HX2.out.keep hB3).more hB3.size)
    have HS3 := Lib.hid ((HS2.out.keep hB3).more hB3.size)
    have HB3 := Lib.hid (HB2.out.trans (hB3.mono HB2.out.size))
    clear hB3 ho3
    obtain ⟨l2, hl2⟩ : ∃ l2, l2 = X2.length := ⟨_, rfl⟩
    rw [← hl2]
    have HL2 := Lib.hid hl2
    clear hl2
    by_cases e2 : l2 = 1
    · have g2 : ((l2 : Int) == 1) = true := by rw [beq_iff_eq]; omega
      have HE2 := Lib.hid e2
      clear e2
      go_wp2_with fail
      refine (Typed_any A1 T.length c1 T 6 _ HS3.out HLT.out).mono ?_
      rw [← H3.out]
      rintro e w4 ⟨v4, rfl, ho4, hB4⟩
      obtain ⟨A4, c4, rfl, _, _⟩ := own_sees ho4
      have HX4 := Lib.hid ((HX3.out.keep hB4).more hB4.size)
      have HS4 := Lib.hid ((HS3.out.keep hB4).more hB4.size)
      have HB4 := Lib.hid (HB3.out.trans (hB4.mono HB3.out.size))
      clear hB4 ho4
      obtain ⟨l3, hl3⟩ : ∃ l3, l3 = X3.length := ⟨_, rfl⟩
      rw [← hl3]
      have HL3 := Lib.hid hl3
      clear hl3
      by_cases e3 : l3 = 1
      · have g3 : ((l3 : Int) == 1) = true := by rw [beq_iff_eq]; omega
        have HE3 := Lib.hid e3
        clear e3
        go_wp2_with fail
        refine (Typed_any A1 T.length c1 T 2 _ HS4.out HLT.out).mono ?_
        rw [← H4.out]
        rintro e w5 ⟨v5, rfl, ho5, hB5⟩
        obtain ⟨A5, c5, rfl, _, _⟩ := own_sees ho5
        have HX5 := Lib.hid ((HX4.out.keep hB5).more hB5.size)
        have HB5 := Lib.hid (HB4.out.trans (hB5.mono HB4.out.size))
        clear hB5 ho5
        obtain ⟨l4, hl4⟩ : ∃ l4, l4 = X4.length := ⟨_, rfl⟩
        rw [← hl4]
        have HL4 := Lib.hid hl4
        clear hl4
        by_cases e4 : 0 < l4
        · have g4 : (l4 : Int) > 0 := by omega
          have HE4 := Lib.hid e4
          clear e4
          go_wp2_with fail
          refine (aliases_any A n c D _ HX5.out HOK.out hn).mono ?_
          rw [← H5.out]
          rintro e w6 ⟨rfl, hB6⟩
          have HB6 := Lib.hid (HB5.out.trans (hB6.mono HB5.out.size))
          clear hB6
          go_wp2_with fail
          go_ret
          exact ⟨by rw [HR.out, ← HL2.out, ← HL3.out, ← HL4.out, decide_eq_true HE2.out, decide_eq_true HE3.out, decide_eq_true HE4.out]; rfl, HB6.out⟩
        · have g4 : ¬ (l4 : Int) > 0 := by omega
          have HE4 := Lib.hid e4
          clear e4
          go_wp2_with fail
          go_ret
          exact ⟨by rw [HR.out, ← HL2.out, ← HL3.out, ← HL4.out, decide_eq_true HE2.out, decide_eq_true HE3.out, decide_eq_false HE4.out]; rfl, HB5.out⟩
      · have g3 : ((l3 : Int) == 1) = false := by rw [beq_eq_false_iff_ne]; omega
        have HE3 := Lib.hid e3
        clear e3
        go_wp2_with fail
        go_ret
        exact ⟨by rw [HR.out, ← HL2.out, ← HL3.out, decide_eq_true HE2.out, decide_eq_false HE3.out]; rfl, HB4.out⟩
    · have g2 : ((l2 : Int) == 1) = false := by rw [beq_eq_false_iff_ne]; omega
      have HE2 := Lib.hid e2
      clear e2
      go_wp2_with fail
      go_ret
      exact ⟨by rw [HR.out, ← HL2.out, decide_eq_false HE2.out]; rfl, HB3.out⟩

/-! ### zones as values -/
abbrev zoT : TypeId := 28
def zeroZ : Array Value := #[.string ⟨#[]⟩, .slice none 0 0, .string ⟨#[]⟩, .int .i64 0, .int .i64 0, .int .i64 0, .string ⟨#[]⟩]
theorem zo_size : (Tryz.prog.info? zoT).map (·.size) = some 7 := by kernel_rfl
theorem retZ2 {fn : Func} {R : Ending → World → Prop} {a : Act} {w : World} {p u r : Nat} {a0 a1 a2 a3 a4 a5 a6 x : Value} (hf : fn.results = #[.cell p zoT, .tmp u]) (hd : a.defers = []) (hp : a.tmps.getD p undef = .pointer (some ⟨r, 0, none⟩)) (hx : a.tmps.getD u undef = x)
    (h : Whole w r zoT #[a0, a1, a2, a3, a4, a5, a6]) (hR : R (.returned (.tuple #[.agg #[a0, a1, a2, a3, a4, a5, a6], x])) w) : bodyPost Tryz.prog fn R .ret a w := by
  refine bodyPost_ret ?_ hd hR
  rw [results_cell_tmp hf, hp, hx]
  simp [asAddr, run_loadVar_row w r zoT _ _ (0, 0) _ h Tryz.underlying28 rfl zo_size, Result.andThen]
theorem retZ {fn : Func} {R : Ending → World → Prop} {a : Act} {w : World} {p r : Nat} {a0 a1 a2 a3 a4 a5 a6 : Value} (hf : fn.results = #[.cell p zoT]) (hd : a.defers = []) (hp : a.tmps.getD p undef = .pointer (some ⟨r, 0, none⟩))
    (h : Whole w r zoT #[a0, a1, a2, a3, a4, a5, a6]) (hR : R (.returned (.agg #[a0, a1, a2, a3, a4, a5, a6])) w) : bodyPost Tryz.prog fn R .ret a w :=
  bodyPost_ret (results_cell_row hf _ _ r _ _ (0, 0) _ hp h Tryz.underlying28 rfl zo_size) hd hR
theorem sevZ_put {w : World} {r t : Nat} {x0 x1 x2 x3 x4 x5 x6 : Value} (h : Whole w r t #[x0, x1, x2, x3, x4, x5, x6]) (a0 a1 a2 a3 a4 a5 a6 : Value) :
    Whole (((((((w.setCell ⟨r, 0, none⟩ a0).setCell ⟨r, 1, none⟩ a1).setCell ⟨r, 2, none⟩ a2).setCell ⟨r, 3, none⟩ a3).setCell ⟨r, 4, none⟩ a4).setCell ⟨r, 5, none⟩ a5).setCell ⟨r, 6, none⟩ a6) r t #[a0, a1, a2, a3, a4, a5, a6] := by
  have := ((((((h.put 0 a0).put 1 a1).put 2 a2).put 3 a3).put 4 a4).put 5 a5).put 6 a6
  simpa using this
theorem sevZ_own {w : World} {r base n : Nat} {v : Value} {xs : List Value} {cs : Array Value} (ho : w.ownsRow base 26 5 v n xs) (h : Whole w r zoT cs) (a0 a1 a2 a3 a4 a5 a6 : Value) :
    (((((((w.setCell ⟨r, 0, none⟩ a0).setCell ⟨r, 1, none⟩ a1).setCell ⟨r, 2, none⟩ a2).setCell ⟨r, 3, none⟩ a3).setCell ⟨r, 4, none⟩ a4).setCell ⟨r, 5, none⟩ a5).setCell ⟨r, 6, none⟩ a6).ownsRow base 26 5 v n xs := by
  have hne := own_apart ho h (by decide)
  exact ((((((ho.kept (gset _ ⟨r, 0, none⟩ a0) (.inr hne)).kept (gset _ ⟨r, 1, none⟩ a1) (.inr hne)).kept (gset _ ⟨r, 2, none⟩ a2) (.inr hne)).kept (gset _ ⟨r, 3, none⟩ a3) (.inr hne)).kept (gset _ ⟨r, 4, none⟩ a4) (.inr hne)).kept (gset _ ⟨r, 5, none⟩ a5) (.inr hne)).kept (gset _ ⟨r, 6, none⟩ a6) (.inr hne)
theorem sevZ_below {B : Nat} {a w : World} {r : Nat} (h : Below B a w) (hr : B ≤ r) (a0 a1 a2 a3 a4 a5 a6 : Value) :
    Below B a (((((((w.setCell ⟨r, 0, none⟩ a0).setCell ⟨r, 1, none⟩ a1).setCell ⟨r, 2, none⟩ a2).setCell ⟨r, 3, none⟩ a3).setCell ⟨r, 4, none⟩ a4).setCell ⟨r, 5, none⟩ a5).setCell ⟨r, 6, none⟩ a6) :=
  ((((((h.setCell hr a0).setCell hr a1).setCell hr a2).setCell hr a3).setCell hr a4).setCell hr a5).setCell hr a6
theorem zo_facts {w : World} {r t : Nat} {a0 a1 a2 a3 a4 a5 a6 : Value} (h : Whole w r t #[a0, a1, a2, a3, a4, a5, a6]) :
    w.cell? ⟨r, 0, none⟩ = some a0 ∧ w.cell? ⟨r, 1, none⟩ = some a1 ∧ w.cell? ⟨r, 2, none⟩ = some a2 ∧ w.cell? ⟨r, 3, none⟩ = some a3 ∧ w.cell? ⟨r, 4, none⟩ = some a4 ∧ w.cell? ⟨r, 5, none⟩ = some a5 ∧ w.cell? ⟨r, 6, none⟩ = some a6 :=
  ⟨(h.cell 0).trans rfl, (h.cell 1).trans rfl, (h.cell 2).trans rfl, (h.cell 3).trans rfl, (h.cell 4).trans rfl, (h.cell 5).trans rfl, (h.cell 6).trans rfl⟩
theorem zo_frozen {w : World} {r t : Nat} {cs : Array Value} (h : Whole w r t cs) : w.frozen? ⟨r, 0, none⟩ = false ∧ w.frozen? ⟨r, 1, none⟩ = false ∧ w.frozen? ⟨r, 2, none⟩ = false ∧ w.frozen? ⟨r, 3, none⟩ = false ∧ w.frozen? ⟨r, 4, none⟩ = false ∧ w.frozen? ⟨r, 5, none⟩ = false ∧ w.frozen? ⟨r, 6, none⟩ = false :=
  ⟨h.frozen 0, h.frozen 1, h.frozen 2, h.frozen 3, h.frozen 4, h.frozen 5, h.frozen 6⟩
/-- records of a size that is looked at -/
def LowL (xs : List Rrd) : Prop := ∀ x ∈ xs, x.s.size ≤ 600 ∧ x.d.size ≤ 2000
theorem LowL.ok {xs : List Rrd} (h : LowL xs) (k : xs.all (fun x => okR x.toRec) = true) : OkL xs := fun x hx => ⟨List.all_eq_true.1 k x hx, (h x hx).2⟩
theorem OkL.low {xs : List Rrd} (h : OkL xs) : LowL xs := fun x hx => ⟨by have := (h x hx).name; rw [name_len] at this; omega, (h x hx).2⟩
theorem OkL.all {xs : List Rrd} (h : OkL xs) : xs.all (fun x => okR x.toRec) = true := List.all_eq_true.2 fun x hx => (h x hx).1
set_option maxHeartbeats 2000000 in
theorem Right_far (S : ByteArray) (w : World) (hs : ¬ S.size ≤ 255) :
    Calls Tryz.prog 31 #[.string S] w fun e w' => e = .returned (.bool false) ∧ Below w.heap.size w w' := by
  have hlen : (255 : Int) < (S.size : Int) := by omega
  refine (callsIn_wide (n := 3)).1 ?_
  refine callsIn_of_wp_marks Tryz.func31 rfl trivial ?_ rfl
  simp only [Tryz.ntmps31, List.size_toArray, List.length_cons, List.length_nil, Nat.reduceAdd, Nat.reduceSub, Array.replicate_succ, Array.replicate_zero, List.push_toArray, List.append_toArray, List.nil_append, List.cons_append]
  have bO := (Boxed.new w 4 (.bool false)).cell
  gi_wp2
  exact ⟨.bool false, by simp [results, Tryz.f31, go_sem], rfl, (Below.refl _ w).alloc (Nat.le_refl _) _⟩
set_option maxHeartbeats 8000000 in
set_option maxRecDepth 20000 in
theorem New_name (A : Option Addr) (n c : Nat) (N : ByteArray) (w : World) (hR : ∀ w, Calls Tryz.prog 31 #[.string N] w fun e w' => e = .returned (.bool false) ∧ Below w.heap.size w w') :
    Calls Tryz.prog 16 #[.string N, .slice A n c] w fun e w' => e = .returned (.tuple #[.agg zeroZ, .int .i64 2]) ∧ Below w.heap.size w w' := by
  have hw0 := Whole.new w zoT zeroZ
  unfold zeroZ at hw0
  have hB0 : Below w.heap.size w (w.alloc (.cells zeroZ zoT)) := (Below.refl _ _).alloc (Nat.le_refl _) _
  have HB0 := Lib.hid hB0
  have HW0 := Lib.hid hw0
  have HR := Lib.hid hR
  clear hw0 hB0 hR
  go_enter Tryz.func16, Tryz.ntmps16
  go_wp2_with fail
  refine (HR.out _).mono ?_
  rintro e w1 ⟨rfl, hB⟩
  have HW1 := Lib.hid (HW0.out.below hB HW0.out.lt)
  have HB1 := Lib.hid (HB0.out.trans (hB.mono HB0.out.size))
  clear hB
  obtain ⟨c0, c1, c2, c3, c4, c5, c6⟩ := zo_facts HW1.out
  obtain ⟨f0, f1, f2, f3, f4, f5, f6⟩ := zo_frozen HW1.out
  go_wp2_with fail
  exact retZ2 rfl rfl rfl rfl (sevZ_put HW1.out _ _ _ _ _ _ _) ⟨rfl, sevZ_below HB1.out (Nat.le_refl _) _ _ _ _ _ _ _⟩
theorem right_no {N : ByteArray} {nn : List UInt8} (hN : N = mk nn) (hr : (nameL nn).isSome = false) (w : World) : Calls Tryz.prog 31 #[.string N] w fun e w' => e = .returned (.bool false) ∧ Below w.heap.size w w' := by
  by_cases h : N.size ≤ 255
  · rw [← hr]; exact Right_any N nn w hN (by rw [hN, mk_size] at h; omega)
  · exact Right_far N w h
theorem right_len {nn : List UInt8} (hr : (nameL nn).isSome = true) : nn.length ≤ 1000000 := by
  cases h : nameL nn with
  | none => rw [h] at hr; cases hr
  | some L => have := (nameL_is h).2.2; omega
set_option maxHeartbeats 8000000 in
set_option maxRecDepth 20000 in
theorem New_right (A : Option Addr) (n c : Nat) (N : ByteArray) (nn : List UInt8) (xs : List Rrd) (w : World) (hN : N = mk nn) (hl : nn.length ≤ 1000000) (hx : SeesR w w.heap.size A n xs) (hn : n ≤ 60) (hlow : LowL xs) (hr : (nameL nn).isSome = true) (hb : xs.all (fun x => okR x.toRec) = false) :
    Calls Tryz.prog 16 #[.string N, .slice A n c] w fun e w' => e = .returned (.tuple #[.agg zeroZ, .int .i64 2]) ∧ Below w.heap.size w w' := by
  have hw0 := Whole.new w zoT zeroZ
  unfold zeroZ at hw0
  have hB0 : Below w.heap.size w (w.alloc (.cells zeroZ zoT)) := (Below.refl _ _).alloc (Nat.le_refl _) _
  have HX0 := Lib.hid ((hx.keep hB0).more hB0.size)
  have HB0 := Lib.hid hB0
  have HW0 := Lib.hid hw0
  have HN := Lib.hid hN
  have HLOW := Lib.hid hlow
  have HR := Lib.hid hr
  have HBAD := Lib.hid hb
  clear hw0 hB0 hx hN hlow hr hb
  go_enter Tryz.func16, Tryz.ntmps16
  go_wp2_with fail
  refine (Right_any N nn _ HN.out (by omega)).mono ?_
  rw [HR.out]
  rintro e w1 ⟨rfl, hB⟩
  have HX1 := Lib.hid ((HX0.out.keep hB).more hB.size)
  have HW1 := Lib.hid (HW0.out.below hB HW0.out.lt)
  have HB1 := Lib.hid (HB0.out.trans (hB.mono HB0.out.size))
  clear hB
  go_wp2_with fail
  refine (all0_any 33 (enters_of Tryz.func33 (by kernel_rfl) rfl) A n c xs (fun x => okR x.toRec) _ HX1.out (by omega) (fun x wr hm _ => by
      obtain ⟨l1, l2⟩ := HLOW.out x hm
      exact RRight_any x.s x.d x.toRec wr (rrd_name x) (rrd_data x) (by rw [name_len]; omega) (by rw [data_len]; omega))).mono ?_
  rw [HBAD.out]
  rintro e w2 ⟨rfl, hB⟩
  have HX2 := Lib.hid ((HX1.out.keep hB).more hB.size)
  have HW2 := Lib.hid (HW1.out.below hB HW1.out.lt)
  have HB2 := Lib.hid (HB1.out.trans (hB.mono HB1.out.size))
  clear hB
  obtain ⟨c0, c1, c2, c3, c4, c5, c6⟩ := zo_facts HW2.out
  obtain ⟨f0, f1, f2, f3, f4, f5, f6⟩ := zo_frozen HW2.out
  go_wp2_with fail
  exact retZ2 rfl rfl rfl rfl (sevZ_put HW2.out _ _ _ _ _ _ _) ⟨rfl, sevZ_below HB2.out (Nat.le_refl _) _ _ _ _ _ _ _⟩
set_option maxHeartbeats 8000000 in
set_option maxRecDepth 20000 in
theorem New_apex (A : Option Addr) (n c : Nat) (N : ByteArray) (nn : List UInt8) (xs : List Rrd) (w : World) (hN : N = mk nn) (hl : nn.length ≤ 1000000) (hx : SeesR w w.heap.size A n xs) (hn : n ≤ 60) (hlow : LowL xs) (hr : (nameL nn).isSome = true) (hok : OkL xs) (hz : isZ nn (ofC xs) = false) :
    Calls Tryz.prog 16 #[.string N, .slice A n c] w fun e w' => e = .returned (.tuple #[.agg zeroZ, .int .i64 9]) ∧ Below w.heap.size w w' := by
  have hw0 := Whole.new w zoT zeroZ
  unfold zeroZ at hw0
  have hB0 : Below w.heap.size w (w.alloc (.cells zeroZ zoT)) := (Below.refl _ _).alloc (Nat.le_refl _) _
  have HX0 := Lib.hid ((hx.keep hB0).more hB0.size)
  have HB0 := Lib.hid hB0
  have HW0 := Lib.hid hw0
  have HN := Lib.hid hN
  have HLOW := Lib.hid hlow
  obtain ⟨D, hD⟩ : ∃ D, D = ofC xs := ⟨_, rfl⟩
  have hset : SetL cX D := by rw [hD]; exact ofC_set xs
  have HD := Lib.hid hD
  have HOK := Lib.hid hok
  have HOKD := Lib.hid (show OkL D by rw [hD]; exact hok.ofC)
  have HKD := Lib.hid hset.keys
  have HDL := Lib.hid (show D.length ≤ 60 by rw [hD]; have := ofC_len xs; rw [hx.1] at this; omega)
  have HR := Lib.hid hr
  have HZ := Lib.hid (show isZ nn D = false by rw [hD]; exact hz)
  clear hw0 hB0 hx hN hlow hr hok hz hD hset
  go_enter Tryz.func16, Tryz.ntmps16
  go_wp2_with fail
  refine (Right_any N nn _ HN.out (by omega)).mono ?_
  rw [HR.out]
  rintro e w1 ⟨rfl, hB⟩
  have HX1 := Lib.hid ((HX0.out.keep hB).more hB.size)
  have HW1 := Lib.hid (HW0.out.below hB HW0.out.lt)
  have HB1 := Lib.hid (HB0.out.trans (hB.mono HB0.out.size))
  clear hB
  go_wp2_with fail
  refine (all0_any 33 (enters_of Tryz.func33 (by kernel_rfl) rfl) A n c xs (fun x => okR x.toRec) _ HX1.out (by omega) (fun x wr hm _ => by
      obtain ⟨l1, l2⟩ := HLOW.out x hm
      exact RRight_any x.s x.d x.toRec wr (rrd_name x) (rrd_data x) (by rw [name_len]; omega) (by rw [data_len]; omega))).mono ?_
  rw [HOK.out.all]
  rintro e w2 ⟨rfl, hB⟩
  have HX2 := Lib.hid ((HX1.out.keep hB).more hB.size)
  have HW2 := Lib.hid (HW1.out.below hB HW1.out.lt)
  have HB2 := Lib.hid (HB1.out.trans (hB.mono HB1.out.size))
  clear hB
  go_wp2_with fail
  refine (Of_any A n c xs _ HX2.out HOK.out hn).mono ?_
  rw [← HD.out]
  rintro e w3 ⟨v3, rfl, ho3, hB⟩
  obtain ⟨A3, c3', rfl, hs3, hcap3⟩ := own_sees ho3
  have HS3 := Lib.hid hs3
  have HCAP3 := Lib.hid hcap3
  have HO3 := Lib.hid ho3
  have g1 : ¬ ((D.length : Int) > 65536) := by have := HDL.out; omega
  have HX3 := Lib.hid ((HX2.out.keep hB).more hB.size)
  have HW3 := Lib.hid (HW2.out.below hB HW2.out.lt)
  have HB3 := Lib.hid (HB2.out.trans (hB.mono HB2.out.size))
  clear hB
  clear hs3 ho3 hcap3
  obtain ⟨m, hm⟩ : ∃ m, m = D.length := ⟨_, rfl⟩
  rw [← hm] at HS3 HO3 HCAP3 HDL g1
  try rw [← hm]
  have HM := Lib.hid hm
  clear hm
  go_wp2_with fail
  refine (isZone_any A3 m c3' N nn D _ HN.out hl HS3.out HCAP3.out HOKD.out HKD.out (by have := HDL.out; omega)).mono ?_
  rw [HZ.out]
  rintro e w4 ⟨rfl, hB⟩
  have HS4 := Lib.hid ((HS3.out.keep hB).more hB.size)
  have HO4 := Lib.hid (own_keep HO3.out hB)
  have HX4 := Lib.hid ((HX3.out.keep hB).more hB.size)
  have HW4 := Lib.hid (HW3.out.below hB HW3.out.lt)
  have HB4 := Lib.hid (HB3.out.trans (hB.mono HB3.out.size))
  clear hB
  obtain ⟨c0, c1, c2, c3, c4, c5, c6⟩ := zo_facts HW4.out
  obtain ⟨f0, f1, f2, f3, f4, f5, f6⟩ := zo_frozen HW4.out
  go_wp2_with fail
  exact retZ2 rfl rfl rfl rfl (sevZ_put HW4.out _ _ _ _ _ _ _) ⟨rfl, sevZ_below HB4.out (Nat.le_refl _) _ _ _ _ _ _ _⟩
/-- the zone of an apex and a set that stands in memory -/
def ZoneAt (w : World) (B : Nat) (N : ByteArray) (D : List Rrd) (v : Value) : Prop :=
  ∃ A c s, v = .agg #[.string N, .slice A D.length c, .string s.s, .int .i64 s.t, .int .i64 s.c, .int .i64 s.l, .string s.d] ∧ SeesR w B A D.length D ∧ InCap A D.length c ∧ typX 6 D = [s]
theorem isZ_soa {nn : List UInt8} {D : List Rrd} (h : isZ nn D = true) : ∃ s, typX 6 D = [s] := by
  unfold isZ at h
  rw [Bool.and_eq_true, Bool.and_eq_true, decide_eq_true_eq] at h
  exact List.length_eq_one_iff.1 h.2.1
set_option maxHeartbeats 8000000 in
set_option maxRecDepth 20000 in
theorem New_yes (A : Option Addr) (n c : Nat) (N : ByteArray) (nn : List UInt8) (xs : List Rrd) (w : World) (hN : N = mk nn) (hl : nn.length ≤ 1000000) (hx : SeesR w w.heap.size A n xs) (hn : n ≤ 60) (hlow : LowL xs) (hr : (nameL nn).isSome = true) (hok : OkL xs) (hz : isZ nn (ofC xs) = true) :
    Calls Tryz.prog 16 #[.string N, .slice A n c] w fun e w' => (∃ v, e = .returned (.tuple #[v, .int .i64 0]) ∧ ZoneAt w' w'.heap.size N (ofC xs) v) ∧ Below w.heap.size w w' := by
  have hw0 := Whole.new w zoT zeroZ
  unfold zeroZ at hw0
  have hB0 : Below w.heap.size w (w.alloc (.cells zeroZ zoT)) := (Below.refl _ _).alloc (Nat.le_refl _) _
  have HX0 := Lib.hid ((hx.keep hB0).more hB0.size)
  have HB0 := Lib.hid hB0
  have HW0 := Lib.hid hw0
  have HN := Lib.hid hN
  have HLOW := Lib.hid hlow
  obtain ⟨D, hD⟩ : ∃ D, D = ofC xs := ⟨_, rfl⟩
  have hset : SetL cX D := by rw [hD]; exact ofC_set xs
  have HD := Lib.hid hD
  have HOK := Lib.hid hok
  have HOKD := Lib.hid (show OkL D by rw [hD]; exact hok.ofC)
  have HKD := Lib.hid hset.keys
  have HDL := Lib.hid (show D.length ≤ 60 by rw [hD]; have := ofC_len xs; rw [hx.1] at this; omega)
  have HR := Lib.hid hr
  have HZ := Lib.hid (show isZ nn D = true by rw [hD]; exact hz)
  obtain ⟨s, hsoa⟩ := isZ_soa HZ.out
  have HSOA := Lib.hid hsoa
  rw [← hD]
  clear hw0 hB0 hx hN hlow hr hok hz hD hset hsoa
  go_enter Tryz.func16, Tryz.ntmps16
  go_wp2_with fail
  refine (Right_any N nn _ HN.out (by omega)).mono ?_
  rw [HR.out]
  rintro e w1 ⟨rfl, hB⟩
  have HX1 := Lib.hid ((HX0.out.keep hB).more hB.size)
  have HW1 := Lib.hid (HW0.out.below hB HW0.out.lt)
  have HB1 := Lib.hid (HB0.out.trans (hB.mono HB0.out.size))
  clear hB
  go_wp2_with fail
  refine (all0_any 33 (enters_of Tryz.func33 (by kernel_rfl) rfl) A n c xs (fun x => okR x.toRec) _ HX1.out (by omega) (fun x wr hm _ => by
      obtain ⟨l1, l2⟩ := HLOW.out x hm
      exact RRight_any x.s x.d x.toRec wr (rrd_name x) (rrd_data x) (by rw [name_len]; omega) (by rw [data_len]; omega))).mono ?_
  rw [HOK.out.all]
  rintro e w2 ⟨rfl, hB⟩
  have HX2 := Lib.hid ((HX1.out.keep hB).more hB.size)
  have HW2 := Lib.hid (HW1.out.below hB HW1.out.lt)
  have HB2 := Lib.hid (HB1.out.trans (hB.mono HB1.out.size))
  clear hB
  go_wp2_with fail
  refine (Of_any A n c xs _ HX2.out HOK.out hn).mono ?_
  rw [← HD.out]
  rintro e w3 ⟨v3, rfl, ho3, hB⟩
  obtain ⟨A3, c3', rfl, hs3, hcap3⟩ := own_sees ho3
  have HS3 := Lib.hid hs3
  have HCAP3 := Lib.hid hcap3
  have HO3 := Lib.hid ho3
  have g1 : ¬ ((D.length : Int) > 65536) := by have := HDL.out; omega
  have HX3 := Lib.hid ((HX2.out.keep hB).more hB.size)
  have HW3 := Lib.hid (HW2.out.below hB HW2.out.lt)
  have HB3 := Lib.hid (HB2.out.trans (hB.mono HB2.out.size))
  clear hB
  clear hs3 ho3 hcap3
  obtain ⟨m, hm⟩ : ∃ m, m = D.length := ⟨_, rfl⟩
  rw [← hm] at HS3 HO3 HCAP3 HDL g1
  try rw [← hm]
  have HM := Lib.hid hm
  clear hm
  go_wp2_with fail
  refine (isZone_any A3 m c3' N nn D _ HN.out hl HS3.out HCAP3.out HOKD.out HKD.out (by have := HDL.out; omega)).mono ?_
  rw [HZ.out]
  rintro e w4 ⟨rfl, hB⟩
  have HS4 := Lib.hid ((HS3.out.keep hB).more hB.size)
  have HO4 := Lib.hid (own_keep HO3.out hB)
  have HX4 := Lib.hid ((HX3.out.keep hB).more hB.size)
  have HW4 := Lib.hid (HW3.out.below hB HW3.out.lt)
  have HB4 := Lib.hid (HB3.out.trans (hB.mono HB3.out.size))
  clear hB
  go_wp2_with fail
  refine (Typed_any A3 m c3' D 6 _ HS4.out (by have := HDL.out; omega)).mono ?_
  rw [HSOA.out]
  rintro e w5 ⟨v5, rfl, ho5, hB⟩
  have HOW := Lib.hid (own_keep HO4.out hB)
  obtain ⟨A5, c5', rfl, hs5, _⟩ := own_sees ho5
  obtain ⟨b5, off5, x5, rfl, hb5, hx5, hf5⟩ := hs5.at (show 0 < 1 by omega)
  obtain rfl : s = x5 := by simpa using hx5
  obtain ⟨y0, y1, y2, y3, y4⟩ := hf5
  rw [Nat.zero_mul, Nat.add_zero] at y0 y1 y2 y3 y4
  have HS5 := Lib.hid ((HS4.out.keep hB).more hB.size)
  have HX5 := Lib.hid ((HX4.out.keep hB).more hB.size)
  have HW5 := Lib.hid (HW4.out.below hB HW4.out.lt)
  have HB5 := Lib.hid (HB4.out.trans (hB.mono HB4.out.size))
  clear hB
  clear ho5 hs5 hx5
  simp only [List.length_cons, List.length_nil]
  obtain ⟨c0, c1, c2, c3, c4, c5, c6⟩ := zo_facts HW5.out
  obtain ⟨f0, f1, f2, f3, f4, f5, f6⟩ := zo_frozen HW5.out
  go_wp2_with fail
  refine retZ2 rfl rfl rfl rfl (sevZ_put HW5.out _ _ _ _ _ _ _) ⟨?_, sevZ_below HB5.out (Nat.le_refl _) _ _ _ _ _ _ _⟩
  obtain ⟨A6, c6', e6, hs6, hcap6⟩ := own_sees (sevZ_own HOW.out HW5.out (.string N) (.slice A3 m c3') (.string s.s) (.int .i64 s.t) (.int .i64 s.c) (.int .i64 s.l) (.string s.d))
  obtain ⟨rfl, rfl⟩ : A3 = A6 ∧ c3' = c6' := by simpa using e6
  have hm2 : D.length = m := HM.out.symm
  refine ⟨_, rfl, A3, c3', s, ?_, ?_, ?_, HSOA.out⟩
  · rw [hm2]
  · rw [hm2]; exact hs6
  · rw [hm2]; exact hcap6

/-! ### New, whatever it is given -/
def codeZ (nn : List UInt8) (xs : List Rrd) : Int := if (nameL nn).isSome = true then if xs.all (fun x => okR x.toRec) = true then if isZ nn (ofC xs) = true then 0 else 9 else 2 else 2
def NewOut (w' : World) (N : ByteArray) (nn : List UInt8) (xs : List Rrd) (e : Ending) : Prop :=
  (codeZ nn xs = 2 ∧ e = .returned (.tuple #[.agg zeroZ, .int .i64 2])) ∨ (codeZ nn xs = 9 ∧ e = .returned (.tuple #[.agg zeroZ, .int .i64 9])) ∨
  (codeZ nn xs = 0 ∧ ∃ v, e = .returned (.tuple #[v, .int .i64 0]) ∧ ZoneAt w' w'.heap.size N (ofC xs) v)
theorem codeZ_zero {nn : List UInt8} {xs : List Rrd} (h : codeZ nn xs = 0) : (nameL nn).isSome = true ∧ xs.all (fun x => okR x.toRec) = true ∧ isZ nn (ofC xs) = true := by
  unfold codeZ at h
  split at h
  · rename_i h1
    split at h
    · rename_i h2
      split at h
      · rename_i h3; exact ⟨h1, h2, h3⟩
      · cases h
    · cases h
  · cases h
theorem ZNew_any (A : Option Addr) (n c : Nat) (N : ByteArray) (nn : List UInt8) (xs : List Rrd) (w : World) (hN : N = mk nn) (hx : SeesR w w.heap.size A n xs) (hn : n ≤ 60) (hlow : LowL xs) :
    Calls Tryz.prog 16 #[.string N, .slice A n c] w fun e w' => NewOut w' N nn xs e ∧ Below w.heap.size w w' := by
  cases hr : (nameL nn).isSome with
  | false =>
    refine (New_name A n c N w (right_no hN hr)).mono ?_
    rintro e w' ⟨rfl, hB⟩
    exact ⟨.inl ⟨by unfold codeZ; rw [hr]; rfl, rfl⟩, hB⟩
  | true =>
    have hl := right_len hr
    cases ho : xs.all (fun x => okR x.toRec) with
    | false =>
      refine (New_right A n c N nn xs w hN hl hx hn hlow hr ho).mono ?_
      rintro e w' ⟨rfl, hB⟩
      exact ⟨.inl ⟨by unfold codeZ; rw [hr, ho]; rfl, rfl⟩, hB⟩
    | true =>
      have hok := hlow.ok ho
      cases hz : isZ nn (ofC xs) with
      | false =>
        refine (New_apex A n c N nn xs w hN hl hx hn hlow hr hok hz).mono ?_
        rintro e w' ⟨rfl, hB⟩
        exact ⟨.inr (.inl ⟨by unfold codeZ; rw [hr, ho, hz]; rfl, rfl⟩), hB⟩
      | true =>
        refine (New_yes A n c N nn xs w hN hl hx hn hlow hr hok hz).mono ?_
        rintro e w' ⟨⟨v, rfl, hv⟩, hB⟩
        exact ⟨.inr (.inr ⟨by unfold codeZ; rw [hr, ho, hz]; rfl, v, rfl, hv⟩), hB⟩
end Go.Proofs.YtaijcoiepfjecaaGreat
