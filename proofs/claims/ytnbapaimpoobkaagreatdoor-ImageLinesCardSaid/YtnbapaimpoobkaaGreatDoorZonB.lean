/- Parts of the proofs of the statements of image. No statement of the seat is proved here. -/
import Derived.Test.YtnbapaimpoobkaaGreatDoorZonA
import Derived.Test.YtnbapaimpoobkaaGreatDoorNaF
namespace Go.Proofs.YtnbapaimpoobkaaGreatDoor
open Go.RowKit Go.Op
set_option linter.unusedVariables false

/-! ### Typed -/
def typK (t : Int) (xs : List Rrd) (k : Nat) : Bool := match xs[k]? with | some x => decide (x.t = t) | none => false
theorem pickL_typ (t : Int) : ∀ xs : List Rrd, pickL (typK t xs) xs xs.length = typX t xs
  | [] => rfl
  | x :: xs => by
    have ih := pickL_typ t xs
    have e : (fun i => typK t (x :: xs) (i + 1)) = typK t xs := by funext i; rfl
    rw [List.length_cons, pickL_cons, e, ih]
    have e0 : typK t (x :: xs) 0 = decide (x.t = t) := rfl
    unfold typX
    rw [List.filter_cons, e0]
    cases decide (x.t = t) <;> simp
set_option maxHeartbeats 8000000 in
set_option maxRecDepth 20000 in
theorem TypedK_any (b d n c : Nat) (A : Option Addr) (t : Int) (xs : List Rrd) (w : World) (hx : SeesR w w.heap.size A n xs) (hb : w.cell? ⟨b, 0, none⟩ = some (.slice A n c)) (hd : w.cell? ⟨d, 0, none⟩ = some (.int .i64 t)) (hn : n ≤ 1000000) (k : Nat) (hk : k < n) :
    Calls Tryz.prog 74 #[.int .i64 (k : Nat), .pointer (some ⟨b, 0, none⟩), .pointer (some ⟨d, 0, none⟩)] w fun e w' => e = .returned (.bool (typK t xs k)) ∧ Below w.heap.size w w' := by
  have hbl : ∀ q : Later w, q.val.cell? ⟨b, 0, none⟩ = some (.slice A n c) := fun q => (q.below.cell (World.block_lt_of_cell? w _ hb)).trans hb
  have hdl : ∀ q : Later w, q.val.cell? ⟨d, 0, none⟩ = some (.int .i64 t) := fun q => (q.below.cell (World.block_lt_of_cell? w _ hd)).trans hd
  have g2 : (k : Int) < (n : Int) := by omega
  have g4 : (0 : Int) ≤ (k : Int) := by omega
  obtain ⟨g, off, x, rfl, hlt, hxk, ht⟩ := hx.at hk
  obtain ⟨d0, d1, d2, d3, d4⟩ := ht.later hlt
  have he : typK t xs k = (x.t == t) := by unfold typK; rw [hxk]; rfl
  rw [he]
  clear hx hb hd hxk ht he
  go_enter Tryz.func74, Tryz.ntmps74
  go_wp2_with fail
  refine region_later (by kernel_rfl) ?_
  repeat (go_big_quiet_step (fail))
  refine wpQuiet_nil ?_
  rintro _ ⟨q2, rfl⟩
  go_wp2_with fail
  go_ret
  exact ⟨rfl, q2.below⟩
set_option maxHeartbeats 8000000 in
set_option maxRecDepth 20000 in
theorem Typed_any (A : Option Addr) (n c : Nat) (xs : List Rrd) (t : Int) (w : World) (hx : SeesR w w.heap.size A n xs) (hn : n ≤ 1000000) :
    Calls Tryz.prog 30 #[.slice A n c, .int .i64 t] w fun e w' => ∃ v, e = .returned v ∧ w'.ownsRow w.heap.size 27 5 v (typX t xs).length (rcells (typX t xs)) ∧ Below w.heap.size w w' := by
  have hP := pickL_typ t xs
  rw [hx.1] at hP
  have HP := Lib.hid hP
  obtain ⟨b, hb⟩ : ∃ b, b = w.heap.size := ⟨_, rfl⟩
  obtain ⟨W1, hW1⟩ : ∃ W1, W1 = w.alloc (.cells #[.slice A n c] 22) := ⟨_, rfl⟩
  obtain ⟨d, hd⟩ : ∃ d, d = b + 1 := ⟨_, rfl⟩
  have hds : W1.heap.size = d := by rw [hW1, hd, hb]; simp
  obtain ⟨W, hW⟩ : ∃ W, W = W1.alloc (.cells #[.int .i64 t] 3) := ⟨_, rfl⟩
  have hB1 : Below w.heap.size w W1 := by rw [hW1]; exact (Below.refl _ _).alloc (Nat.le_refl _) _
  have hB2 : Below W1.heap.size W1 W := by rw [hW]; exact (Below.refl _ _).alloc (Nat.le_refl _) _
  have HB := Lib.hid (hB1.trans (hB2.mono hB1.size))
  have hc1 : W1.cell? ⟨b, 0, none⟩ = some (.slice A n c) := by rw [hW1, hb]; exact (Whole.new w _ _).cell1
  have HC1 := Lib.hid (show W.cell? ⟨b, 0, none⟩ = some (.slice A n c) from (hB2.cell (World.block_lt_of_cell? W1 _ hc1)).trans hc1)
  have HC2 := Lib.hid (show W.cell? ⟨d, 0, none⟩ = some (.int .i64 t) by rw [hW, ← hds]; exact (Whole.new W1 _ _).cell1)
  have HX := Lib.hid ((hx.keep HB.out).more HB.out.size)
  have HW1 := Lib.hid hW1
  have HW := Lib.hid hW
  have HBB := Lib.hid hb
  have HDD := Lib.hid hd
  clear hx hP hb hd hds hW hW1 hB1 hB2 hc1
  go_enter Tryz.func30, Tryz.ntmps30
  go_wp2_with fail
  rw [← HW1.out, ← HBB.out, ← HDD.out, ← HW.out]
  refine (pick2_any 74 _ _ (enters_of Tryz.func74 (by kernel_rfl) rfl) (typK t xs) A n c xs _ HX.out hn (fun k wr hk hB => TypedK_any b d n c A t xs wr ((HX.out.keep hB).more hB.size) ((hB.cell (World.block_lt_of_cell? W _ HC1.out)).trans HC1.out) ((hB.cell (World.block_lt_of_cell? W _ HC2.out)).trans HC2.out) hn k hk)).mono ?_
  rw [HP.out]
  rintro e w1 ⟨v, rfl, ho, hB⟩
  have HO := Lib.hid (own_less ho HB.out.size)
  have HB1 := Lib.hid (HB.out.trans (hB.mono HB.out.size))
  clear ho hB
  go_wp2_with fail
  go_ret
  exact ⟨v, rfl, HO.out, HB1.out⟩

/-! ### a condition on all records -/
def IxOut (b : Bool) (e : Ending) : Prop := ∃ r : Int, e = .returned (.int .i64 r) ∧ (0 ≤ r ↔ b = true)
set_option maxHeartbeats 8000000 in
set_option maxRecDepth 20000 in
theorem IndexF_any (fid : Nat) (p : Value) (hent : ∀ (args : Array Value) (w : World), (callFunc fid args).run Tryz.prog w = .ok (.enter fid args) w) (A : Option Addr) (n c : Nat) (xs : List Rrd) (g : Rrd → Bool) (w : World) (hx : SeesR w w.heap.size A n xs) (hn : n ≤ 1000000)
    (hf : ∀ (x : Rrd) (wr : World), x ∈ xs → Below w.heap.size w wr → Calls Tryz.prog fid #[.agg #[.string x.s, .int .i64 x.t, .int .i64 x.c, .int .i64 x.l, .string x.d], p] wr fun e w' => e = .returned (.bool (g x)) ∧ Below wr.heap.size wr w') :
    Calls Tryz.prog 116 #[.slice A n c, .func (.func fid) #[] #[p]] w fun e w' => IxOut (xs.any g) e ∧ Below w.heap.size w w' := by
  have HX := Lib.hid hx
  have HN := Lib.hid hx.1
  have HF := Lib.hid hf
  have HENT := Lib.hid hent
  clear hx hf hent
  go_enter Tryz.func116, Tryz.ntmps116
  go_wp2_with fail
  go_loopw [8] (fun i wr => ∃ k : Nat, k ≤ n ∧ i = .int .i64 (k : Nat) ∧ Upto (fun x => !g x) xs k ∧ Below w.heap.size w wr) (fun i _ => n - (intOf i).toNat)
  case atStart => exact ⟨0, Nat.zero_le _, rfl, Upto.zero _ _, Below.refl _ _⟩
  case round =>
    obtain ⟨k, hk, rfl, hup, hB⟩ := hrel
    have HU := Lib.hid hup
    have HB := Lib.hid hB
    clear hup hB
    by_cases hkn : k < n
    · have g2 : (k : Int) < (n : Int) := by omega
      have g0 : (0 : Int) ≤ (k : Int) := by omega
      obtain ⟨b, off, x, rfl, hb, hxk, ht⟩ := (HX.out.keep HB.out).at hkn
      obtain ⟨x0, x1, x2, x3, x4⟩ := ht
      have HXK := Lib.hid hxk
      have HMEM := Lib.hid (List.mem_of_getElem? hxk)
      clear hxk
      go_wp2_with fail
      rw [HENT.out, Oper.upon_enter]
      refine (HF.out x wr HMEM.out HB.out).mono ?_
      obtain ⟨z, hz⟩ : ∃ z, z = g x := ⟨_, rfl⟩
      have HZ := Lib.hid hz
      rw [← hz]
      rintro e w1 ⟨rfl, hB1⟩
      have HB1 := Lib.hid (HB.out.trans (hB1.mono HB.out.size))
      clear hB1 x0 x1 x2 x3 x4 hz
      cases z with
      | false =>
        have HU2 := Lib.hid (HU.out.succ HXK.out (by rw [← HZ.out]; rfl))
        go_wp2_with fail
        go_roundw
        case rel => exact ⟨k + 1, by omega, by go_num, HU2.out, HB1.out⟩
        case measure => simp [intOf]; omega
      | true =>
        go_wp2_with fail
        go_ret
        exact ⟨⟨_, rfl, ⟨fun _ => List.any_eq_true.2 ⟨x, HMEM.out, HZ.out.symm⟩, fun _ => by omega⟩⟩, HB1.out⟩
    · obtain rfl : k = n := by omega
      have g2 : ¬ ((k : Int) < (k : Int)) := by omega
      have HR := Lib.hid (show xs.any g = false by
        have := HU.out
        rw [← HN.out] at this
        have := this.all
        rw [List.all_eq_true] at this
        rw [List.any_eq_false]
        intro x hx
        have := this x hx
        simpa using this)
      go_wp2_with fail
      go_ret
      exact ⟨⟨_, rfl, ⟨fun h => absurd h (by decide), fun h => by rw [HR.out] at h; cases h⟩⟩, HB.out⟩
set_option maxHeartbeats 8000000 in
set_option maxRecDepth 20000 in
theorem ContF_any (fid : Nat) (p : Value) (hent : ∀ (args : Array Value) (w : World), (callFunc fid args).run Tryz.prog w = .ok (.enter fid args) w) (A : Option Addr) (n c : Nat) (xs : List Rrd) (g : Rrd → Bool) (w : World) (hx : SeesR w w.heap.size A n xs) (hn : n ≤ 1000000)
    (hf : ∀ (x : Rrd) (wr : World), x ∈ xs → Below w.heap.size w wr → Calls Tryz.prog fid #[.agg #[.string x.s, .int .i64 x.t, .int .i64 x.c, .int .i64 x.l, .string x.d], p] wr fun e w' => e = .returned (.bool (g x)) ∧ Below wr.heap.size wr w') :
    Calls Tryz.prog 58 #[.slice A n c, .func (.func fid) #[] #[p]] w fun e w' => e = .returned (.bool (xs.any g)) ∧ Below w.heap.size w w' := by
  have HX := Lib.hid hx
  have HF := Lib.hid hf
  have HENT := Lib.hid hent
  obtain ⟨z, hz⟩ : ∃ z, z = xs.any g := ⟨_, rfl⟩
  rw [← hz]
  have HZ := Lib.hid hz
  clear hx hf hent hz
  go_enter Tryz.func58, Tryz.ntmps58
  go_wp2_with fail
  refine (IndexF_any fid p HENT.out A n c xs g _ HX.out hn HF.out).mono ?_
  rw [← HZ.out]
  rintro e w1 ⟨⟨r, rfl, hr⟩, hB⟩
  have HB := Lib.hid hB
  clear hB
  have hzd : decide (0 ≤ r) = z := by
    cases z with
    | false => exact decide_eq_false (fun h => by have := hr.1 h; cases this)
    | true => exact decide_eq_true (hr.2 rfl)
  have HZD := Lib.hid hzd
  clear hr hzd
  go_wp2_with fail
  go_ret
  exact ⟨by rw [← HZD.out]; rfl, HB.out⟩
set_option maxHeartbeats 8000000 in
set_option maxRecDepth 20000 in
theorem AllK0_any (fid : Nat) (hent : ∀ (args : Array Value) (w : World), (callFunc fid args).run Tryz.prog w = .ok (.enter fid args) w) (g : Nat) (x : Rrd) (z : Bool) (w : World) (hc : w.cell? ⟨g, 0, none⟩ = some (.func (.func fid) #[] #[]))
    (hf : ∀ wr : World, Below w.heap.size w wr → Calls Tryz.prog fid #[.agg #[.string x.s, .int .i64 x.t, .int .i64 x.c, .int .i64 x.l, .string x.d]] wr fun e w' => e = .returned (.bool z) ∧ Below wr.heap.size wr w') :
    Calls Tryz.prog 59 #[.agg #[.string x.s, .int .i64 x.t, .int .i64 x.c, .int .i64 x.l, .string x.d], .pointer (some ⟨g, 0, none⟩)] w fun e w' => e = .returned (.bool (!z)) ∧ Below w.heap.size w w' := by
  have hB0 : Below w.heap.size w (w.alloc (.cells #[.string x.s, .int .i64 x.t, .int .i64 x.c, .int .i64 x.l, .string x.d] 27)) := (Below.refl _ _).alloc (Nat.le_refl _) _
  have hc2 : (w.alloc (.cells #[.string x.s, .int .i64 x.t, .int .i64 x.c, .int .i64 x.l, .string x.d] 27)).cell? ⟨g, 0, none⟩ = some (.func (.func fid) #[] #[]) := (hB0.cell (World.block_lt_of_cell? w _ hc)).trans hc
  have HB0 := Lib.hid hB0
  have HW := Lib.hid (Whole.new w 27 #[.string x.s, .int .i64 x.t, .int .i64 x.c, .int .i64 x.l, .string x.d])
  obtain ⟨p0, p1, p2, p3, p4⟩ := box_five w x
  have HF := Lib.hid hf
  have HENT := Lib.hid hent
  clear hf hent hB0 hc
  go_enter Tryz.func59, Tryz.ntmps59
  go_wp2_with fail
  rw [HENT.out, Oper.upon_enter]
  refine (HF.out _ HB0.out).mono ?_
  rintro e w1 ⟨rfl, hB1⟩
  have HB1 := Lib.hid (HB0.out.trans (hB1.mono HB0.out.size))
  clear hB1 p0 p1 p2 p3 p4 hc2
  go_wp2_with fail
  go_ret
  exact ⟨rfl, HB1.out⟩
set_option maxHeartbeats 8000000 in
set_option maxRecDepth 20000 in
theorem all0_any (fid : Nat) (hent : ∀ (args : Array Value) (w : World), (callFunc fid args).run Tryz.prog w = .ok (.enter fid args) w) (A : Option Addr) (n c : Nat) (xs : List Rrd) (g : Rrd → Bool) (w : World) (hx : SeesR w w.heap.size A n xs) (hn : n ≤ 1000000)
    (hf : ∀ (x : Rrd) (wr : World), x ∈ xs → Below w.heap.size w wr → Calls Tryz.prog fid #[.agg #[.string x.s, .int .i64 x.t, .int .i64 x.c, .int .i64 x.l, .string x.d]] wr fun e w' => e = .returned (.bool (g x)) ∧ Below wr.heap.size wr w') :
    Calls Tryz.prog 26 #[.slice A n c, .func (.func fid) #[] #[]] w fun e w' => e = .returned (.bool (xs.all g)) ∧ Below w.heap.size w w' := by
  obtain ⟨b, hb⟩ : ∃ b, b = w.heap.size := ⟨_, rfl⟩
  obtain ⟨W, hW⟩ : ∃ W, W = w.alloc (.cells #[.func (.func fid) #[] #[]] 57) := ⟨_, rfl⟩
  have HB := Lib.hid (show Below w.heap.size w W by rw [hW]; exact (Below.refl _ _).alloc (Nat.le_refl _) _)
  have HC := Lib.hid (show W.cell? ⟨b, 0, none⟩ = some (.func (.func fid) #[] #[]) by rw [hW, hb]; exact (Whole.new w _ _).cell1)
  have HX := Lib.hid ((hx.keep HB.out).more HB.out.size)
  have HF := Lib.hid hf
  have HENT := Lib.hid hent
  have HW := Lib.hid hW
  have HBB := Lib.hid hb
  obtain ⟨z, hz⟩ : ∃ z, z = xs.any fun x => !g x := ⟨_, rfl⟩
  rw [List.all_eq_not_any_not, ← hz]
  have HZ := Lib.hid hz
  clear hx hf hent hW hb hz
  go_enter Tryz.func26, Tryz.ntmps26
  go_wp2_with fail
  rw [← HW.out, ← HBB.out]
  refine (ContF_any 59 _ (enters_of Tryz.func59 (by kernel_rfl) rfl) A n c xs (fun x => !g x) _ HX.out hn (fun x wr hm hB => AllK0_any fid HENT.out b x (g x) wr ((hB.cell (World.block_lt_of_cell? W _ HC.out)).trans HC.out) (fun wr2 hB2 => HF.out x wr2 hm (HB.out.trans ((hB.trans (hB2.mono hB.size)).mono HB.out.size))))).mono ?_
  rw [← HZ.out]
  rintro e w1 ⟨rfl, hB1⟩
  have HB1 := Lib.hid (HB.out.trans (hB1.mono HB.out.size))
  clear hB1
  go_wp2_with fail
  go_ret
  exact ⟨rfl, HB1.out⟩
set_option maxHeartbeats 8000000 in
set_option maxRecDepth 20000 in
theorem AllK1_any (fid : Nat) (p : Value) (hent : ∀ (args : Array Value) (w : World), (callFunc fid args).run Tryz.prog w = .ok (.enter fid args) w) (g : Nat) (x : Rrd) (z : Bool) (w : World) (hc : w.cell? ⟨g, 0, none⟩ = some (.func (.func fid) #[] #[p]))
    (hf : ∀ wr : World, Below w.heap.size w wr → Calls Tryz.prog fid #[.agg #[.string x.s, .int .i64 x.t, .int .i64 x.c, .int .i64 x.l, .string x.d], p] wr fun e w' => e = .returned (.bool z) ∧ Below wr.heap.size wr w') :
    Calls Tryz.prog 59 #[.agg #[.string x.s, .int .i64 x.t, .int .i64 x.c, .int .i64 x.l, .string x.d], .pointer (some ⟨g, 0, none⟩)] w fun e w' => e = .returned (.bool (!z)) ∧ Below w.heap.size w w' := by
  have hB0 : Below w.heap.size w (w.alloc (.cells #[.string x.s, .int .i64 x.t, .int .i64 x.c, .int .i64 x.l, .string x.d] 27)) := (Below.refl _ _).alloc (Nat.le_refl _) _
  have hc2 : (w.alloc (.cells #[.string x.s, .int .i64 x.t, .int .i64 x.c, .int .i64 x.l, .string x.d] 27)).cell? ⟨g, 0, none⟩ = some (.func (.func fid) #[] #[p]) := (hB0.cell (World.block_lt_of_cell? w _ hc)).trans hc
  have HB0 := Lib.hid hB0
  have HW := Lib.hid (Whole.new w 27 #[.string x.s, .int .i64 x.t, .int .i64 x.c, .int .i64 x.l, .string x.d])
  obtain ⟨p0, p1, p2, p3, p4⟩ := box_five w x
  have HF := Lib.hid hf
  have HENT := Lib.hid hent
  clear hf hent hB0 hc
  go_enter Tryz.func59, Tryz.ntmps59
  go_wp2_with fail
  rw [HENT.out, Oper.upon_enter]
  refine (HF.out _ HB0.out).mono ?_
  rintro e w1 ⟨rfl, hB1⟩
  have HB1 := Lib.hid (HB0.out.trans (hB1.mono HB0.out.size))
  clear hB1 p0 p1 p2 p3 p4 hc2
  go_wp2_with fail
  go_ret
  exact ⟨rfl, HB1.out⟩
set_option maxHeartbeats 8000000 in
set_option maxRecDepth 20000 in
theorem all1_any (fid : Nat) (p : Value) (hent : ∀ (args : Array Value) (w : World), (callFunc fid args).run Tryz.prog w = .ok (.enter fid args) w) (A : Option Addr) (n c : Nat) (xs : List Rrd) (g : Rrd → Bool) (w : World) (hx : SeesR w w.heap.size A n xs) (hn : n ≤ 1000000)
    (hf : ∀ (x : Rrd) (wr : World), x ∈ xs → Below w.heap.size w wr → Calls Tryz.prog fid #[.agg #[.string x.s, .int .i64 x.t, .int .i64 x.c, .int .i64 x.l, .string x.d], p] wr fun e w' => e = .returned (.bool (g x)) ∧ Below wr.heap.size wr w') :
    Calls Tryz.prog 26 #[.slice A n c, .func (.func fid) #[] #[p]] w fun e w' => e = .returned (.bool (xs.all g)) ∧ Below w.heap.size w w' := by
  obtain ⟨b, hb⟩ : ∃ b, b = w.heap.size := ⟨_, rfl⟩
  obtain ⟨W, hW⟩ : ∃ W, W = w.alloc (.cells #[.func (.func fid) #[] #[p]] 57) := ⟨_, rfl⟩
  have HB := Lib.hid (show Below w.heap.size w W by rw [hW]; exact (Below.refl _ _).alloc (Nat.le_refl _) _)
  have HC := Lib.hid (show W.cell? ⟨b, 0, none⟩ = some (.func (.func fid) #[] #[p]) by rw [hW, hb]; exact (Whole.new w _ _).cell1)
  have HX := Lib.hid ((hx.keep HB.out).more HB.out.size)
  have HF := Lib.hid hf
  have HENT := Lib.hid hent
  have HW := Lib.hid hW
  have HBB := Lib.hid hb
  obtain ⟨z, hz⟩ : ∃ z, z = xs.any fun x => !g x := ⟨_, rfl⟩
  rw [List.all_eq_not_any_not, ← hz]
  have HZ := Lib.hid hz
  clear hx hf hent hW hb hz
  go_enter Tryz.func26, Tryz.ntmps26
  go_wp2_with fail
  rw [← HW.out, ← HBB.out]
  refine (ContF_any 59 _ (enters_of Tryz.func59 (by kernel_rfl) rfl) A n c xs (fun x => !g x) _ HX.out hn (fun x wr hm hB => AllK1_any fid p HENT.out b x (g x) wr ((hB.cell (World.block_lt_of_cell? W _ HC.out)).trans HC.out) (fun wr2 hB2 => HF.out x wr2 hm (HB.out.trans ((hB.trans (hB2.mono hB.size)).mono HB.out.size))))).mono ?_
  rw [← HZ.out]
  rintro e w1 ⟨rfl, hB1⟩
  have HB1 := Lib.hid (HB.out.trans (hB1.mono HB.out.size))
  clear hB1
  go_wp2_with fail
  go_ret
  exact ⟨rfl, HB1.out⟩

/-! ### data types -/
set_option maxHeartbeats 4000000 in
theorem DataType_any (t : Int) (w : World) : Calls Tryz.prog 71 #[.int .i64 t] w fun e w' => e = .returned (.bool (dataT t)) ∧ w = w' := by
  by_cases h1 : 1 ≤ t
  · by_cases h2 : t ≤ 65535
    · by_cases h3 : t = 41
      · have e0 : dataT t = false := by unfold dataT; simp [h3]
        rw [e0]
        subst h3
        go_enter Tryz.func71, Tryz.ntmps71
        go_wp2_with fail
        go_ret
        exact ⟨rfl, rfl⟩
      · have g3 : (t == 41) = false := by rw [beq_eq_false_iff_ne]; exact h3
        have g3n : (t != 41) = true := by simp [h3]
        by_cases h4 : 128 ≤ t
        · by_cases h5 : t ≤ 255
          · have e0 : dataT t = false := by unfold dataT; simp [h4, h5]
            rw [e0]
            clear e0
            go_enter Tryz.func71, Tryz.ntmps71
            go_wp2_with fail
            go_ret
            exact ⟨rfl, rfl⟩
          · have e0 : dataT t = true := by unfold dataT; simp [h1, h2, h3, h5]
            rw [e0]
            clear e0
            go_enter Tryz.func71, Tryz.ntmps71
            go_wp2_with fail
            go_ret
            exact ⟨rfl, rfl⟩
        · have e0 : dataT t = true := by unfold dataT; simp [h1, h2, h3, h4]
          rw [e0]
          clear e0
          go_enter Tryz.func71, Tryz.ntmps71
          go_wp2_with fail
          go_ret
          exact ⟨rfl, rfl⟩
    · have e0 : dataT t = false := by unfold dataT; simp [h2]
      rw [e0]
      clear e0
      go_enter Tryz.func71, Tryz.ntmps71
      go_wp2_with fail
      go_ret
      exact ⟨rfl, rfl⟩
  · have e0 : dataT t = false := by unfold dataT; simp [h1]
    rw [e0]
    clear e0
    go_enter Tryz.func71, Tryz.ntmps71
    go_wp2_with fail
    go_ret
    exact ⟨rfl, rfl⟩
set_option maxHeartbeats 4000000 in
theorem RefDataType_any (t : Int) (w : World) : Calls Tryz.prog 79 #[.int .i64 t] w fun e w' => e = .returned (.bool (dataT t)) ∧ w = w' := by
  by_cases h1 : t ≥ 1
  · by_cases h2 : t ≤ 65535
    · by_cases h3 : t = 41
      · have e0 : dataT t = false := by unfold dataT; simp [h3]
        rw [e0]
        subst h3
        go_enter Tryz.func79, Tryz.ntmps79
        go_wp2_with fail
        go_ret
        exact ⟨rfl, rfl⟩
      · have g3 : (t == 41) = false := by rw [beq_eq_false_iff_ne]; exact h3
        have g3n : (t != 41) = true := by simp [h3]
        have h1' : 1 ≤ t := h1
        by_cases h4 : t < 128
        · have e0 : dataT t = true := by
            have : ¬ 128 ≤ t := by omega
            unfold dataT; simp [h1', h2, h3, this]
          rw [e0]
          clear e0 h1'
          go_enter Tryz.func79, Tryz.ntmps79
          go_wp2_with fail
          go_ret
          exact ⟨rfl, rfl⟩
        · by_cases h5 : t > 255
          · have e0 : dataT t = true := by
              have : ¬ t ≤ 255 := by omega
              unfold dataT; simp [h1', h2, h3, this]
            rw [e0]
            clear e0 h1'
            go_enter Tryz.func79, Tryz.ntmps79
            go_wp2_with fail
            go_ret
            exact ⟨rfl, rfl⟩
          · have e0 : dataT t = false := by
              have a : 128 ≤ t := by omega
              have b : t ≤ 255 := by omega
              unfold dataT; simp [a, b]
            rw [e0]
            clear e0 h1'
            go_enter Tryz.func79, Tryz.ntmps79
            go_wp2_with fail
            go_ret
            exact ⟨rfl, rfl⟩
    · have e0 : dataT t = false := by unfold dataT; simp [h2]
      rw [e0]
      clear e0
      go_enter Tryz.func79, Tryz.ntmps79
      go_wp2_with fail
      go_ret
      exact ⟨rfl, rfl⟩
  · have e0 : dataT t = false := by
      have : ¬ 1 ≤ t := h1
      unfold dataT; simp [this]
    rw [e0]
    clear e0
    go_enter Tryz.func79, Tryz.ntmps79
    go_wp2_with fail
    go_ret
    exact ⟨rfl, rfl⟩

/-! ### what a zone's records are -/
set_option maxHeartbeats 8000000 in
set_option maxRecDepth 20000 in
theorem Good_any (g : Nat) (N : ByteArray) (nn : List UInt8) (x : Rrd) (w : World) (hN : N = mk nn) (hl : nn.length ≤ 1000000) (hx : OkX x) (hc : w.cell? ⟨g, 0, none⟩ = some (.string N)) :
    Calls Tryz.prog 70 #[.agg #[.string x.s, .int .i64 x.t, .int .i64 x.c, .int .i64 x.l, .string x.d], .pointer (some ⟨g, 0, none⟩)] w fun e w' => e = .returned (.bool (goodR nn x)) ∧ Below w.heap.size w w' := by
  have hB0 : Below w.heap.size w (w.alloc (.cells #[.string x.s, .int .i64 x.t, .int .i64 x.c, .int .i64 x.l, .string x.d] 27)) := (Below.refl _ _).alloc (Nat.le_refl _) _
  have hc2 : (w.alloc (.cells #[.string x.s, .int .i64 x.t, .int .i64 x.c, .int .i64 x.l, .string x.d] 27)).cell? ⟨g, 0, none⟩ = some (.string N) := (hB0.cell (World.block_lt_of_cell? w _ hc)).trans hc
  have HB0 := Lib.hid hB0
  obtain ⟨p0, p1, p2, p3, p4⟩ := box_five w x
  have HN := Lib.hid hN
  have hxl : (nmX x).length ≤ 1073741824 := by have := hx.name; unfold nmX; omega
  obtain ⟨z, hz⟩ : ∃ z, z = dataT x.t := ⟨_, rfl⟩
  have HZ := Lib.hid hz
  obtain ⟨u, hu⟩ : ∃ u, u = underN (nmX x) nn := ⟨_, rfl⟩
  have HU := Lib.hid hu
  have hg : goodR nn x = (decide (x.c = 1) && (z && u)) := by rw [hz, hu]; rfl
  rw [hg]
  clear hN hx hB0 hc hz hu hg
  by_cases h1 : x.c = 1
  · have g1 : (x.c == 1) = true := by rw [beq_iff_eq]; exact h1
    rw [decide_eq_true h1]
    clear h1
    go_enter Tryz.func70, Tryz.ntmps70
    go_wp2_with fail
    refine (DataType_any x.t _).mono ?_
    rw [← HZ.out]
    rintro e w1 ⟨rfl, rfl⟩
    cases z with
    | false =>
      go_wp2_with fail
      go_ret
      exact ⟨rfl, HB0.out⟩
    | true =>
      go_wp2_with fail
      refine (Under_any x.s N (nmX x) nn _ (rrd_name x) HN.out hxl (by omega)).mono ?_
      rw [← HU.out]
      rintro e w2 ⟨rfl, hB2⟩
      have HB2 := Lib.hid (HB0.out.trans (hB2.mono HB0.out.size))
      clear hB2 p0 p1 p2 p3 p4 hc2
      cases u with
      | false =>
        go_wp2_with fail
        go_ret
        exact ⟨rfl, HB2.out⟩
      | true =>
        go_wp2_with fail
        go_ret
        exact ⟨rfl, HB2.out⟩
  · have g1 : (x.c == 1) = false := by rw [beq_eq_false_iff_ne]; exact h1
    rw [decide_eq_false h1]
    clear h1
    go_enter Tryz.func70, Tryz.ntmps70
    go_wp2_with fail
    go_ret
    exact ⟨rfl, HB0.out⟩
def aloneK (xs : List Rrd) (k : Nat) : Prop := ∀ i x y, i + 1 < k → xs[i]? = some x → xs[i + 1]? = some y → pairX x y = false
theorem alone_at : ∀ xs : List Rrd, aloneX xs = true ↔ aloneK xs xs.length
  | [] => ⟨fun _ i x y h => absurd h (by simp), fun _ => rfl⟩
  | [x] => ⟨fun _ i x y h => absurd h (by simp), fun _ => rfl⟩
  | x :: y :: l => by
    have ih := alone_at (y :: l)
    rw [aloneX, Bool.and_eq_true, ih, Bool.not_eq_true']
    constructor
    · rintro ⟨h1, h2⟩ i a b hi ha hb
      cases i with
      | zero => simp at ha hb; rw [← ha, ← hb]; exact h1
      | succ i => exact h2 i a b (by simpa using hi) (by simpa using ha) (by simpa using hb)
    · intro h
      refine ⟨h 0 x y (by simp) rfl rfl, fun i a b hi ha hb => h (i + 1) a b (by simpa using hi) (by simpa using ha) (by simpa using hb)⟩
theorem aloneK_step {xs : List Rrd} {k : Nat} {x y : Rrd} (h : aloneK xs (k + 1)) (hx : xs[k]? = some x) (hy : xs[k + 1]? = some y) (hp : pairX x y = false) : aloneK xs (k + 1 + 1) := by
  intro i a b hi ha hb
  by_cases e : i = k
  · subst e
    rw [hx] at ha; rw [hy] at hb
    injection ha with ha; injection hb with hb
    rw [← ha, ← hb]; exact hp
  · exact h i a b (by omega) ha hb
theorem alone_not {xs : List Rrd} {k : Nat} {x y : Rrd} (hx : xs[k]? = some x) (hy : xs[k + 1]? = some y) (hp : pairX x y = true) : aloneX xs = false := by
  cases e : aloneX xs with
  | false => rfl
  | true =>
    have := (alone_at xs).1 e k x y (List.getElem?_eq_some_iff.1 hy).1 hx hy
    rw [hp] at this; cases this
theorem two_recs (w : World) (x y : Rrd) : Five ((w.alloc (.cells #[.string x.s, .int .i64 x.t, .int .i64 x.c, .int .i64 x.l, .string x.d] 27)).alloc (.cells #[.string y.s, .int .i64 y.t, .int .i64 y.c, .int .i64 y.l, .string y.d] 27)).drew w.heap.size 0 x ∧ Five ((w.alloc (.cells #[.string x.s, .int .i64 x.t, .int .i64 x.c, .int .i64 x.l, .string x.d] 27)).alloc (.cells #[.string y.s, .int .i64 y.t, .int .i64 y.c, .int .i64 y.l, .string y.d] 27)).drew (w.heap.size + 1) 0 y ∧ Below w.heap.size w ((w.alloc (.cells #[.string x.s, .int .i64 x.t, .int .i64 x.c, .int .i64 x.l, .string x.d] 27)).alloc (.cells #[.string y.s, .int .i64 y.t, .int .i64 y.c, .int .i64 y.l, .string y.d] 27)).drew := by
  have hB : Below (w.alloc (.cells #[.string x.s, .int .i64 x.t, .int .i64 x.c, .int .i64 x.l, .string x.d] 27)).heap.size (w.alloc (.cells #[.string x.s, .int .i64 x.t, .int .i64 x.c, .int .i64 x.l, .string x.d] 27)) ((w.alloc (.cells #[.string x.s, .int .i64 x.t, .int .i64 x.c, .int .i64 x.l, .string x.d] 27)).alloc (.cells #[.string y.s, .int .i64 y.t, .int .i64 y.c, .int .i64 y.l, .string y.d] 27)).drew := ((Below.refl _ _).alloc (Nat.le_refl _) _).drew
  refine ⟨(box_five w x).keep hB (by simp), ?_, (((Below.refl _ _).alloc (Nat.le_refl _) _).alloc (by simp) _).drew⟩
  have h := box_five (w.alloc (.cells #[.string x.s, .int .i64 x.t, .int .i64 x.c, .int .i64 x.l, .string x.d] 27)) y
  rw [show (w.alloc (.cells #[.string x.s, .int .i64 x.t, .int .i64 x.c, .int .i64 x.l, .string x.d] 27)).heap.size = w.heap.size + 1 by simp] at h
  exact h
set_option maxHeartbeats 8000000 in
set_option maxRecDepth 20000 in
theorem aliases_any (A : Option Addr) (n c : Nat) (xs : List Rrd) (w : World) (hx : SeesR w w.heap.size A n xs) (hok : OkL xs) (hn : n ≤ 1000000) :
    Calls Tryz.prog 73 #[.slice A n c] w fun e w' => e = .returned (.bool (aloneX xs)) ∧ Below w.heap.size w w' := by
  have HX := Lib.hid hx
  have HN := Lib.hid hx.1
  have HOK := Lib.hid hok
  clear hx hok
  go_enter Tryz.func73, Tryz.ntmps73
  go_wp2_with fail
  go_loopw [3] (fun i wr => ∃ j : Nat, 1 ≤ j ∧ j ≤ n + 1 ∧ i = .int .i64 (j : Nat) ∧ aloneK xs j ∧ Below w.heap.size w wr) (fun i _ => n - (intOf i).toNat)
  case atStart => exact ⟨1, Nat.le_refl _, by omega, rfl, fun i x y h => absurd h (by omega), Below.refl _ _⟩
  case round =>
    obtain ⟨j, hj1, hjn, rfl, hal, hB⟩ := hrel
    have HA := Lib.hid hal
    have HB := Lib.hid hB
    clear hal hB
    by_cases hjlt : j < n
    · obtain ⟨k, rfl⟩ : ∃ k, j = k + 1 := ⟨j - 1, by omega⟩
      obtain ⟨q, hq⟩ : ∃ q, q = k + 1 := ⟨_, rfl⟩
      rw [← hq] at hjlt
      have g2 : (q : Int) < (n : Int) := by omega
      have g3 : (k : Int) < (n : Int) := by omega
      have g4 : (0 : Int) ≤ (k : Int) := by omega
      have g5 : (0 : Int) ≤ (q : Int) := by omega
      have z1 : (q : Int) - 1 = (k : Int) := by omega
      obtain ⟨b, off, x, rfl, hb, hxk, hfx⟩ := (HX.out.keep HB.out).at (show k < n by omega)
      obtain ⟨b', off', y, hA', hb', hyk, hfy⟩ := (HX.out.keep HB.out).at hjlt
      obtain ⟨rfl, rfl⟩ := (by simpa using hA' : b = b' ∧ off = off')
      obtain ⟨x0, x1, x2, x3, x4⟩ := hfx
      obtain ⟨y0, y1, y2, y3, y4⟩ := hfy
      have HXK := Lib.hid hxk
      have HYK := Lib.hid (show xs[k + 1]? = some y by rw [← hq]; exact hyk)
      have hblt : b < wr.heap.size := Nat.lt_of_lt_of_le hb HB.out.size
      have hxl : (nmX x).length ≤ 1073741824 := by have := (HOK.out.at hxk).name; unfold nmX; omega
      have hyl : (nmX y).length ≤ 1073741824 := by have := (HOK.out.at hyk).name; unfold nmX; omega
      have HSTEP := Lib.hid (show pairX x y = false → aloneK xs (q + 1) from fun h => by have := HA.out; rw [hq]; exact aloneK_step this HXK.out HYK.out h)
      have HNOT := Lib.hid (show pairX x y = true → aloneX xs = false from fun h => alone_not HXK.out HYK.out h)
      rw [← hq] at HA ⊢
      have HQ := Lib.hid hq
      have HT1 := Lib.hid (two_recs wr x y)
      have HT2 := Lib.hid (two_recs wr y x)
      clear hxk hyk hA' hq
      by_cases hx5 : x.t = 5
      · have gx : (x.t == 5) = true := by rw [beq_iff_eq]; exact hx5
        have HPT := Lib.hid (show pairX x y = alikeN (nmX x) (nmX y) by unfold pairX; rw [decide_eq_true hx5]; rfl)
        clear hx5
        go_wp2_with fail
        go_region
        all_goals (
          obtain ⟨⟨p0, p1, p2, p3, p4⟩, ⟨q0, q1, q2, q3, q4⟩, hb1⟩ := HT1.out
          obtain ⟨⟨r0, r1, r2, r3, r4⟩, ⟨s0, s1, s2, s3, s4⟩, hb2⟩ := HT2.out
          clear x0 x1 x2 x3 x4 y0 y1 y2 y3 y4
          go_wp2_with fail
          refine (Alike_any x.s y.s (nmX x) (nmX y) _ (rrd_name x) (rrd_name y) hxl hyl).mono ?_
          rw [← HPT.out]
          obtain ⟨z, hz⟩ : ∃ z, z = pairX x y := ⟨_, rfl⟩
          rw [← hz]
          have HZ := Lib.hid hz
          rintro e w1 ⟨rfl, hB1⟩
          have HB1 := Lib.hid (HB.out.trans ((show Below wr.heap.size wr w1 by first | exact hb1.trans (hB1.mono hb1.size) | exact hb2.trans (hB1.mono hb2.size)).mono HB.out.size))
          clear hB1 hz p0 p1 p2 p3 p4 q0 q1 q2 q3 q4 r0 r1 r2 r3 r4 s0 s1 s2 s3 s4 hb1 hb2
          cases z with
          | true =>
            have HR := Lib.hid (HNOT.out HZ.out.symm)
            go_wp2_with fail
            go_ret
            exact ⟨by rw [HR.out]; rfl, HB1.out⟩
          | false =>
            have HS := Lib.hid (HSTEP.out HZ.out.symm)
            go_wp2_with fail
            go_roundw
            case rel => exact ⟨q + 1, by omega, by omega, by go_num, HS.out, HB1.out⟩
            case measure => simp [intOf]; omega)
      · have gx : (x.t == 5) = false := by rw [beq_eq_false_iff_ne]; exact hx5
        by_cases hy5 : y.t = 5
        · have gy : (y.t == 5) = true := by rw [beq_iff_eq]; exact hy5
          have HPT := Lib.hid (show pairX x y = alikeN (nmX x) (nmX y) by unfold pairX; rw [decide_eq_true hy5, Bool.or_true]; rfl)
          clear hx5 hy5
          go_wp2_with fail
          go_region
          all_goals (
            obtain ⟨⟨p0, p1, p2, p3, p4⟩, ⟨q0, q1, q2, q3, q4⟩, hb1⟩ := HT1.out
            obtain ⟨⟨r0, r1, r2, r3, r4⟩, ⟨s0, s1, s2, s3, s4⟩, hb2⟩ := HT2.out
            clear x0 x1 x2 x3 x4 y0 y1 y2 y3 y4
            go_wp2_with fail
            refine (Alike_any x.s y.s (nmX x) (nmX y) _ (rrd_name x) (rrd_name y) hxl hyl).mono ?_
            rw [← HPT.out]
            obtain ⟨z, hz⟩ : ∃ z, z = pairX x y := ⟨_, rfl⟩
            rw [← hz]
            have HZ := Lib.hid hz
            rintro e w1 ⟨rfl, hB1⟩
            have HB1 := Lib.hid (HB.out.trans ((show Below wr.heap.size wr w1 by first | exact hb1.trans (hB1.mono hb1.size) | exact hb2.trans (hB1.mono hb2.size)).mono HB.out.size))
            clear hB1 hz p0 p1 p2 p3 p4 q0 q1 q2 q3 q4 r0 r1 r2 r3 r4 s0 s1 s2 s3 s4 hb1 hb2
            cases z with
            | true =>
              have HR := Lib.hid (HNOT.out HZ.out.symm)
              go_wp2_with fail
              go_ret
              exact ⟨by rw [HR.out]; rfl, HB1.out⟩
            | false =>
              have HS := Lib.hid (HSTEP.out HZ.out.symm)
              go_wp2_with fail
              go_roundw
              case rel => exact ⟨q + 1, by omega, by omega, by go_num, HS.out, HB1.out⟩
              case measure => simp [intOf]; omega)
        · have gy : (y.t == 5) = false := by rw [beq_eq_false_iff_ne]; exact hy5
          have HS := Lib.hid (HSTEP.out (by unfold pairX; rw [decide_eq_false hx5, decide_eq_false hy5]; rfl))
          clear hx5 hy5
          go_wp2_with fail
          go_region
          all_goals (
            obtain ⟨⟨p0, p1, p2, p3, p4⟩, ⟨q0, q1, q2, q3, q4⟩, hb1⟩ := HT1.out
            obtain ⟨⟨r0, r1, r2, r3, r4⟩, ⟨s0, s1, s2, s3, s4⟩, hb2⟩ := HT2.out
            have HB1 := Lib.hid (HB.out.trans (hb1.mono HB.out.size))
            have HB2 := Lib.hid (HB.out.trans (hb2.mono HB.out.size))
            clear x0 x1 x2 x3 x4 y0 y1 y2 y3 y4 hb1 hb2
            go_wp2_with fail
            go_roundw
            case rel => exact ⟨q + 1, by omega, by omega, by go_num, HS.out, (by first | exact HB1.out | exact HB2.out)⟩
            case measure => simp [intOf]; omega)
    · have g2 : ¬ (j : Int) < (n : Int) := by omega
      have HR := Lib.hid (show aloneX xs = true from (alone_at xs).2 (fun i x y h => HA.out i x y (by have := HN.out; omega)))
      go_wp2_with fail
      go_ret
      exact ⟨by rw [HR.out]; rfl, HB.out⟩
end Go.Proofs.YtnbapaimpoobkaaGreatDoor
