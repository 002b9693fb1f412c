/- LkF: texts LokF, LokG, LokH, LokI, LokL of our own, joined. No statement of the seat is proved here. -/
import Derived.Test.YtkgihfoknpimfaaGreatLkA
import Derived.Test.YtkgihfoknpimfaaGreatLkC
import Derived.Deep.RegionHeld3
namespace Go.Proofs.YtkgihfoknpimfaaGreat
open Go.RowKit Go.Op
set_option linter.unusedVariables false

abbrev scT : TypeId := 68
abbrev anT : TypeId := 39
theorem sc_facts {w : World} {r t : Nat} {x0 x1 x2 x3 x4 x5 x6 x7 x8 x9 x10 x11 x12 : Value} (h : Whole w r t #[x0, x1, x2, x3, x4, x5, x6, x7, x8, x9, x10, x11, x12]) :
    w.cell? ⟨r, 0, none⟩ = some x0 ∧ w.cell? ⟨r, 1, none⟩ = some x1 ∧ w.cell? ⟨r, 2, none⟩ = some x2 ∧ w.cell? ⟨r, 3, none⟩ = some x3 ∧ w.cell? ⟨r, 4, none⟩ = some x4 ∧ w.cell? ⟨r, 5, none⟩ = some x5 ∧ w.cell? ⟨r, 6, none⟩ = some x6 ∧ w.cell? ⟨r, 7, none⟩ = some x7 ∧ w.cell? ⟨r, 8, none⟩ = some x8 ∧ w.cell? ⟨r, 9, none⟩ = some x9 ∧ w.cell? ⟨r, 10, none⟩ = some x10 ∧ w.cell? ⟨r, 11, none⟩ = some x11 ∧ w.cell? ⟨r, 12, none⟩ = some x12 :=
  ⟨(h.cell 0).trans rfl, (h.cell 1).trans rfl, (h.cell 2).trans rfl, (h.cell 3).trans rfl, (h.cell 4).trans rfl, (h.cell 5).trans rfl, (h.cell 6).trans rfl, (h.cell 7).trans rfl, (h.cell 8).trans rfl, (h.cell 9).trans rfl, (h.cell 10).trans rfl, (h.cell 11).trans rfl, (h.cell 12).trans rfl⟩
theorem sc_soft {w : World} {r t : Nat} {cs : Array Value} (h : Whole w r t cs) :
    w.frozen? ⟨r, 0, none⟩ = false ∧ w.frozen? ⟨r, 1, none⟩ = false ∧ w.frozen? ⟨r, 2, none⟩ = false ∧ w.frozen? ⟨r, 3, none⟩ = false ∧ w.frozen? ⟨r, 4, none⟩ = false ∧ w.frozen? ⟨r, 12, none⟩ = false :=
  ⟨h.frozen 0, h.frozen 1, h.frozen 2, h.frozen 3, h.frozen 4, h.frozen 12⟩
theorem sc_put0 {w : World} {r t : Nat} {x0 x1 x2 x3 x4 x5 x6 x7 x8 x9 x10 x11 x12 : Value} (h : Whole w r t #[x0, x1, x2, x3, x4, x5, x6, x7, x8, x9, x10, x11, x12]) (u : Value) : Whole (w.setCell ⟨r, 0, none⟩ u) r t #[u, x1, x2, x3, x4, x5, x6, x7, x8, x9, x10, x11, x12] := by
  have := h.put 0 u
  simpa using this
theorem sc_put1 {w : World} {r t : Nat} {x0 x1 x2 x3 x4 x5 x6 x7 x8 x9 x10 x11 x12 : Value} (h : Whole w r t #[x0, x1, x2, x3, x4, x5, x6, x7, x8, x9, x10, x11, x12]) (u : Value) : Whole (w.setCell ⟨r, 1, none⟩ u) r t #[x0, u, x2, x3, x4, x5, x6, x7, x8, x9, x10, x11, x12] := by
  have := h.put 1 u
  simpa using this
theorem sc_put2 {w : World} {r t : Nat} {x0 x1 x2 x3 x4 x5 x6 x7 x8 x9 x10 x11 x12 : Value} (h : Whole w r t #[x0, x1, x2, x3, x4, x5, x6, x7, x8, x9, x10, x11, x12]) (u : Value) : Whole (w.setCell ⟨r, 2, none⟩ u) r t #[x0, x1, u, x3, x4, x5, x6, x7, x8, x9, x10, x11, x12] := by
  have := h.put 2 u
  simpa using this
theorem sc_put3 {w : World} {r t : Nat} {x0 x1 x2 x3 x4 x5 x6 x7 x8 x9 x10 x11 x12 : Value} (h : Whole w r t #[x0, x1, x2, x3, x4, x5, x6, x7, x8, x9, x10, x11, x12]) (u : Value) : Whole (w.setCell ⟨r, 3, none⟩ u) r t #[x0, x1, x2, u, x4, x5, x6, x7, x8, x9, x10, x11, x12] := by
  have := h.put 3 u
  simpa using this
theorem sc_put4 {w : World} {r t : Nat} {x0 x1 x2 x3 x4 x5 x6 x7 x8 x9 x10 x11 x12 : Value} (h : Whole w r t #[x0, x1, x2, x3, x4, x5, x6, x7, x8, x9, x10, x11, x12]) (u : Value) : Whole (w.setCell ⟨r, 4, none⟩ u) r t #[x0, x1, x2, x3, u, x5, x6, x7, x8, x9, x10, x11, x12] := by
  have := h.put 4 u
  simpa using this
theorem sc_put12 {w : World} {r t : Nat} {x0 x1 x2 x3 x4 x5 x6 x7 x8 x9 x10 x11 x12 : Value} (h : Whole w r t #[x0, x1, x2, x3, x4, x5, x6, x7, x8, x9, x10, x11, x12]) (u : Value) : Whole (w.setCell ⟨r, 12, none⟩ u) r t #[x0, x1, x2, x3, x4, x5, x6, x7, x8, x9, x10, x11, u] := by
  have := h.put 12 u
  simpa using this
theorem grown_new {a b c : World} {g : Option Nat} {row : Option Nat} (h : a.grownBy b g) (k : b.grownBy c row) (hr : ∀ j, row = some j → a.heap.size ≤ j) : a.grownBy c g :=
  ⟨k.os.trans h.os, k.tape.trans h.tape, k.output.trans h.output, Nat.le_trans h.size k.size, fun i hi hne => (k.block i (Nat.lt_of_lt_of_le hi h.size) (fun e => by have := hr i e.symm; omega)).trans (h.block i hi hne)⟩
theorem grownB {a b c : World} {g : Option Nat} (h : a.grownBy b g) (k : Below b.heap.size b c) : a.grownBy c g :=
  ⟨k.os.trans h.os, k.tape.trans h.tape, k.output.trans h.output, Nat.le_trans h.size k.size, fun i hi hne => (k.block i (Nat.lt_of_lt_of_le hi h.size)).trans (h.block i hi hne)⟩
theorem grown_put {a b : World} {g : Nat} (h : a.grownBy b (some g)) (i : Nat) (u : Value) : a.grownBy (b.setCell ⟨g, i, none⟩ u) (some g) := grown_trans h (gset b ⟨g, i, none⟩ u)
theorem below_grown {a b : World} (h : Below a.heap.size a b) (g : Option Nat) : a.grownBy b g := ⟨h.os, h.tape, h.output, h.size, fun k hk _ => h.block k hk⟩
theorem grown_base {a b : World} {g B : Nat} (h : a.grownBy b (some g)) (hB : B ≤ a.heap.size) (hg : B ≤ g) : Below B a b := (Below.refl B a).grown h hB (fun k e => by injection e with e; omega)
/-- one step of a drawn region: records appended to a row of one's own, nil or not -/
theorem step_append_any {w : World} {ops : Array Oper} {o : Oper} {a : Act} {K : Act → World → Prop} {Q : Exit → Act → World → Prop} {E : Prop} (hgd : o.guard = none) (s x : Operand)
    (ho : o.op = .call { callee := .builtin .append, args := #[s, x], argTypes := #[22, 22] }) (base : Nat) (v : Value) (n : Nat) (xs : List Rrd) (hs : a.eval s = v) (hown : w.ownsRow base 26 5 v n (rcells xs))
    (B : Nat) (A : Option Addr) (m c : Nat) (ys : List Rrd) (hx : a.eval x = .slice A m c) (hr : SeesR w B A m ys) (h63 : n + m ≤ 1073741824) (hbase : base ≤ w.heap.size)
    (h : ∀ v' w', w'.ownsRow base 26 5 v' (n + m) (rcells (xs ++ ys)) → w.grownBy w' v.ownBlock → K (a.put o.dst v') w') : if Region.wanted o (yielded ops a.tmps) = true then Oper.wp Tryz.prog o a w K Q else E := by
  rw [if_pos (by simp [Region.wanted, hgd])]
  exact wp_append_R s x ho base v n xs hs hown B A m c ys hx hr h63 hbase h

/-! ### a condition on strings -/
set_option maxHeartbeats 8000000 in
set_option maxRecDepth 20000 in
theorem IndexS_any (fid : Nat) (p : Value) (hent : ∀ (args : Array Value) (w : World), (callFunc fid args).run Tryz.prog w = .ok (.enter fid args) w) (A : Option Addr) (n c : Nat) (L : List (List UInt8)) (g : List UInt8 → Bool) (w : World) (hx : Sees w w.heap.size A n (textL L)) (hn : n ≤ 1000000)
    (hf : ∀ (x : List UInt8) (X : ByteArray) (wr : World), x ∈ L → X = mk x → Below w.heap.size w wr → Calls Tryz.prog fid #[.string X, p] wr fun e w' => e = .returned (.bool (g x)) ∧ Below wr.heap.size wr w') :
    Calls Tryz.prog 145 #[.slice A n c, .func (.func fid) #[] #[p]] w fun e w' => IxOut (L.any g) e ∧ Below w.heap.size w w' := by
  have HX := Lib.hid hx
  have HN := Lib.hid (textL_len hx)
  have HF := Lib.hid hf
  have HENT := Lib.hid hent
  clear hx hf hent
  go_enter Tryz.func145, Tryz.ntmps145
  go_wp2_with fail
  go_loopw [8] (fun i wr => ∃ k : Nat, k ≤ n ∧ i = .int .i64 (k : Nat) ∧ (∀ x ∈ L.take k, g x = false) ∧ Below w.heap.size w wr) (fun i _ => n - (intOf i).toNat)
  case atStart => exact ⟨0, Nat.zero_le _, rfl, by simp, Below.refl _ _⟩
  case round =>
    obtain ⟨k, hk, rfl, hup, hB⟩ := hrel
    have HU := Lib.hid hup
    have HB := Lib.hid hB
    clear hup hB
    by_cases hkn : k < n
    · have g2 : (k : Int) < (n : Int) := by omega
      have g0 : (0 : Int) ≤ (k : Int) := by omega
      have hkl : k < L.length := by have := HN.out; omega
      obtain ⟨b, off, rfl, _, hc⟩ := textL_at (HX.out.below HB.out) hkn hkl
      obtain ⟨X, hX⟩ : ∃ X, X = mk L[k] := ⟨_, rfl⟩
      rw [← hX] at hc
      have HXX := Lib.hid hX
      clear hX
      go_wp2_with fail
      rw [HENT.out, Oper.upon_enter]
      refine (HF.out L[k] X wr (List.getElem_mem hkl) HXX.out HB.out).mono ?_
      obtain ⟨z, hz⟩ : ∃ z, z = g L[k] := ⟨_, rfl⟩
      have HZ := Lib.hid hz
      rw [← hz]
      rintro e w1 ⟨rfl, hB1⟩
      have HB1 := Lib.hid (HB.out.trans (hB1.mono HB.out.size))
      clear hB1 hz
      cases z with
      | false =>
        have HU2 := Lib.hid (show ∀ x ∈ L.take (k + 1), g x = false by
          intro x hx
          rw [List.take_succ_eq_append_getElem hkl, List.mem_append, List.mem_singleton] at hx
          rcases hx with hx | rfl
          · exact HU.out x hx
          · exact HZ.out.symm)
        go_wp2_with fail
        go_roundw
        case rel => exact ⟨k + 1, by omega, by go_num, HU2.out, HB1.out⟩
        case measure => simp [intOf]; omega
      | true =>
        go_wp2_with fail
        go_ret
        exact ⟨⟨_, rfl, ⟨fun _ => List.any_eq_true.2 ⟨L[k], List.getElem_mem hkl, HZ.out.symm⟩, fun _ => by omega⟩⟩, HB1.out⟩
    · obtain rfl : k = n := by omega
      have g2 : ¬ ((k : Int) < (k : Int)) := by omega
      have HR := Lib.hid (show L.any g = false by
        have := HU.out
        rw [List.take_of_length_le (by have := HN.out; omega)] at this
        rw [List.any_eq_false]
        intro x hx
        simp [this x hx])
      go_wp2_with fail
      go_ret
      exact ⟨⟨_, rfl, ⟨fun h => absurd h (by decide), fun h => by rw [HR.out] at h; cases h⟩⟩, HB.out⟩
set_option maxHeartbeats 8000000 in
set_option maxRecDepth 20000 in
theorem ContS_any (fid : Nat) (p : Value) (hent : ∀ (args : Array Value) (w : World), (callFunc fid args).run Tryz.prog w = .ok (.enter fid args) w) (A : Option Addr) (n c : Nat) (L : List (List UInt8)) (g : List UInt8 → Bool) (w : World) (hx : Sees w w.heap.size A n (textL L)) (hn : n ≤ 1000000)
    (hf : ∀ (x : List UInt8) (X : ByteArray) (wr : World), x ∈ L → X = mk x → Below w.heap.size w wr → Calls Tryz.prog fid #[.string X, p] wr fun e w' => e = .returned (.bool (g x)) ∧ Below wr.heap.size wr w') :
    Calls Tryz.prog 115 #[.slice A n c, .func (.func fid) #[] #[p]] w fun e w' => e = .returned (.bool (L.any g)) ∧ Below w.heap.size w w' := by
  have HX := Lib.hid hx
  have HF := Lib.hid hf
  have HENT := Lib.hid hent
  obtain ⟨z, hz⟩ : ∃ z, z = L.any g := ⟨_, rfl⟩
  rw [← hz]
  have HZ := Lib.hid hz
  clear hx hf hent hz
  go_enter Tryz.func115, Tryz.ntmps115
  go_wp2_with fail
  refine (IndexS_any fid p HENT.out A n c L g _ HX.out hn HF.out).mono ?_
  rw [← HZ.out]
  rintro e w1 ⟨⟨r, rfl, hr⟩, hB⟩
  have HB := Lib.hid hB
  clear hB
  have hzd : decide (0 ≤ r) = z := by
    cases z with
    | false => exact decide_eq_false (fun h => by have := hr.1 h; cases this)
    | true => exact decide_eq_true (hr.2 rfl)
  have HZD := Lib.hid hzd
  clear hr hzd
  go_wp2_with fail
  go_ret
  exact ⟨by rw [← HZD.out]; rfl, HB.out⟩
set_option maxHeartbeats 8000000 in
set_option maxRecDepth 20000 in
theorem FollowK_any (d : Nat) (M T : ByteArray) (m to : List UInt8) (w : World) (hM : M = mk m) (hT : T = mk to) (hm : m.length ≤ 1000000) (ht : to.length ≤ 1000000) (hd : w.cell? ⟨d, 0, none⟩ = some (.string T)) :
    Calls Tryz.prog 116 #[.string M, .pointer (some ⟨d, 0, none⟩)] w fun e w' => e = .returned (.bool (alikeN m to)) ∧ Below w.heap.size w w' := by
  have HM := Lib.hid hM
  have HT := Lib.hid hT
  clear hM hT
  go_enter Tryz.func116, Tryz.ntmps116
  go_wp2_with fail
  refine (Alike_any M T m to _ HM.out HT.out (by omega) (by omega)).mono ?_
  rintro e w1 ⟨rfl, hB⟩
  go_wp2_with fail
  go_ret
  exact ⟨rfl, hB⟩
set_option maxHeartbeats 8000000 in
set_option maxRecDepth 20000 in
theorem follows_any (N : ByteArray) (nn : List UInt8) (D : List Rrd) (gz : GoodZ nn D) (hN : N = mk nn) (w : World) (b : Nat) (rc : Int) (aa : Bool) (vx vy vz vq : Value) (A : Option Addr) (c : Nat) (s : Rrd) (Aq : Option Addr) (nq cq : Nat) (hvq : vq = .slice Aq nq cq) (hw : Whole w b scT #[.int .i64 rc, .bool aa, vx, vy, vz, .string N, .slice A D.length c, .string s.s, .int .i64 s.t, .int .i64 s.c, .int .i64 s.l, .string s.d, vq]) (hz : ZoneAt w w.heap.size N D (.agg #[.string N, .slice A D.length c, .string s.s, .int .i64 s.t, .int .i64 s.c, .int .i64 s.l, .string s.d])) (asks : List (List UInt8)) (hq : Sees w w.heap.size Aq nq (textL asks)) (hs : ∀ m ∈ asks, m.length ≤ 1000000) (hn : nq ≤ 1000) (T : ByteArray) (to : List UInt8) (hT : T = mk to) (hl : to.length ≤ 1000000) :
    Calls Tryz.prog 88 #[.pointer (some ⟨b, 0, none⟩), .string T] w fun e w' => e = .returned (.bool (followZ nn asks to)) ∧ Below w.heap.size w w' := by
  subst hvq
  have HNL := Lib.hid (right_len gz.nm)
  have HQL := Lib.hid (textL_len hq)
  have hw0 := Whole.new w 9 #[.string T]
  have hB0 : Below w.heap.size w (w.alloc (.cells #[.string T] 9)) := (Below.refl _ _).alloc (Nat.le_refl _) _
  have HT := Lib.hid hT
  have HN := Lib.hid hN
  have HAS := Lib.hid hs
  have HW0 := Lib.hid (hw.below hB0 hw.lt)
  have HD0 := Lib.hid hw0
  have HZ0 := Lib.hid (hz.later hB0)
  have HQ0 := Lib.hid (hq.below hB0)
  have HB0 := Lib.hid hB0
  clear hw0 hB0 hT hN hs hw hz hq
  clear gz
  obtain ⟨h0, h1, h2, h3, h4, h5, h6, h7, h8, h9, h10, h11, h12⟩ := sc_facts HW0.out
  go_enter Tryz.func88, Tryz.ntmps88
  go_wp2_with fail
  refine (ContS_any 116 _ (enters_of Tryz.func116 (by kernel_rfl) rfl) Aq nq cq asks (fun m => alikeN m to) _ (by have := HQ0.out; rw [World.size_alloc]; exact this.more (by omega)) (by omega) (fun x X wr hx hX hB => FollowK_any w.heap.size X T x to wr hX HT.out (HAS.out x hx) hl ((HD0.out.below hB (by simp)).cell1))).mono ?_
  obtain ⟨z, hz⟩ : ∃ z, z = asks.any fun m => alikeN m to := ⟨_, rfl⟩
  obtain ⟨u, hu⟩ : ∃ u, u = underN to nn := ⟨_, rfl⟩
  have HFOL := Lib.hid (show followZ nn asks to = (u && (!z && decide (nq < 8))) by unfold followZ; rw [hu, hz, HQL.out])
  have HU := Lib.hid hu
  rw [← hz]
  clear hz hu
  rintro e w2 ⟨rfl, hB⟩
  have HW2 := Lib.hid (HW0.out.below hB HW0.out.lt)
  have HD2 := Lib.hid (HD0.out.below hB HD0.out.lt)
  have HZ2 := Lib.hid (HZ0.out.later hB)
  have HB2 := Lib.hid (HB0.out.trans (hB.mono HB0.out.size))
  clear hB h0 h1 h2 h3 h4 h5 h6 h7 h8 h9 h10 h11 h12
  have d0 : ∀ q : Later w2, q.val.cell? ⟨w.heap.size, 0, none⟩ = some (.string T) := fun q => ((HD2.out.later q).cell 0).trans rfl
  have h5 : ∀ q : Later w2, q.val.cell? ⟨b, 5, none⟩ = some (.string N) := fun q => ((HW2.out.later q).cell 5).trans rfl
  have h6 : ∀ q : Later w2, q.val.cell? ⟨b, 6, none⟩ = some (.slice A D.length c) := fun q => ((HW2.out.later q).cell 6).trans rfl
  have h7 : ∀ q : Later w2, q.val.cell? ⟨b, 7, none⟩ = some (.string s.s) := fun q => ((HW2.out.later q).cell 7).trans rfl
  have h8 : ∀ q : Later w2, q.val.cell? ⟨b, 8, none⟩ = some (.int .i64 s.t) := fun q => ((HW2.out.later q).cell 8).trans rfl
  have h9 : ∀ q : Later w2, q.val.cell? ⟨b, 9, none⟩ = some (.int .i64 s.c) := fun q => ((HW2.out.later q).cell 9).trans rfl
  have h10 : ∀ q : Later w2, q.val.cell? ⟨b, 10, none⟩ = some (.int .i64 s.l) := fun q => ((HW2.out.later q).cell 10).trans rfl
  have h11 : ∀ q : Later w2, q.val.cell? ⟨b, 11, none⟩ = some (.string s.d) := fun q => ((HW2.out.later q).cell 11).trans rfl
  have h12 : ∀ q : Later w2, q.val.cell? ⟨b, 12, none⟩ = some (.slice Aq nq cq) := fun q => ((HW2.out.later q).cell 12).trans rfl
  have HSA := Lib.hid (show ∀ q' : Later w2, Calls Tryz.prog 42 #[.agg #[.string N, .slice A D.length c, .string s.s, .int .i64 s.t, .int .i64 s.c, .int .i64 s.l, .string s.d]] q'.val fun e w'' => e = .returned (.string N) ∧ ∃ q2 : Later w2, w'' = q2.val from
    fun q' => later_call (Apex_any N D _ _ (HZ2.out.later q'.below)))
  have HSU := Lib.hid (show ∀ q' : Later w2, Calls Tryz.prog 41 #[.string T, .string N] q'.val fun e w'' => e = .returned (.bool u) ∧ ∃ q2 : Later w2, w'' = q2.val from
    fun q' => later_call (by rw [HU.out]; exact Under_any T N to nn _ HT.out HN.out (by omega) (by have := HNL.out; omega)))
  cases u with
  | false =>
    go_wp2_with fail
    refine region_later (by kernel_rfl) ?_
    repeat (go_big_quiet_step ((first | (go_at_call 42; with_reducible exact HSA.out _) | (go_at_call 41; with_reducible exact HSU.out _))))
    refine wpQuiet_nil ?_
    rintro _ ⟨q2, rfl⟩
    go_wp2_with fail
    go_ret
    exact ⟨by rw [HFOL.out]; rfl, HB2.out.trans (q2.below.mono HB2.out.size)⟩
  | true =>
    cases z with
    | true =>
      go_wp2_with fail
      refine region_later (by kernel_rfl) ?_
      repeat (go_big_quiet_step ((first | (go_at_call 42; with_reducible exact HSA.out _) | (go_at_call 41; with_reducible exact HSU.out _))))
      refine wpQuiet_nil ?_
      rintro _ ⟨q2, rfl⟩
      go_wp2_with fail
      go_ret
      exact ⟨by rw [HFOL.out]; rfl, HB2.out.trans (q2.below.mono HB2.out.size)⟩
    | false =>
      obtain ⟨y, hy⟩ : ∃ y, y = decide (nq < 8) := ⟨_, rfl⟩
      have gy : decide ((nq : Int) < 8) = y := by rw [hy]; exact decide_eq_decide.2 (by omega)
      rw [← hy] at HFOL
      clear hy
      go_wp2_with fail
      refine region_later (by kernel_rfl) ?_
      repeat (go_big_quiet_step ((first | (go_at_call 42; with_reducible exact HSA.out _) | (go_at_call 41; with_reducible exact HSU.out _))))
      refine wpQuiet_nil ?_
      rintro _ ⟨q2, rfl⟩
      have GY := Lib.hid gy
      clear gy
      go_wp2_with fail
      go_ret
      exact ⟨by rw [HFOL.out, ← GY.out]; rfl, HB2.out.trans (q2.below.mono HB2.out.size)⟩
theorem sees_far {w : World} {g b i : Nat} {u : Value} {n : Nat} {xs : List Rrd} {B : Nat} (h : SeesR w B (some ⟨g, 0, none⟩) n xs) (hne : g ≠ b) (hB : B ≤ w.heap.size := by simp) : SeesR (w.setCell ⟨b, i, none⟩ u) (w.setCell ⟨b, i, none⟩ u).heap.size (some ⟨g, 0, none⟩) n xs := by
  refine ⟨h.1, fun hn => ?_⟩
  obtain ⟨b', off, e, hlt, hc⟩ := h.2 hn
  injection e with e
  obtain ⟨rfl, rfl⟩ : g = b' ∧ 0 = off := by simpa using e
  have hk : ∀ o, (w.setCell ⟨b, i, none⟩ u).cell? ⟨g, o, none⟩ = w.cell? ⟨g, o, none⟩ := fun o => World.cell?_of_block (Below.heap_setCell _ _ _ _ hne)
  refine ⟨g, 0, rfl, by have := (gset w ⟨b, i, none⟩ u).size; omega, fun j x hx => ?_⟩
  obtain ⟨a0, a1, a2, a3, a4⟩ := hc j x hx
  exact ⟨(hk _).trans a0, (hk _).trans a1, (hk _).trans a2, (hk _).trans a3, (hk _).trans a4⟩
set_option maxHeartbeats 8000000 in
set_option maxRecDepth 20000 in
theorem deny_any (N : ByteArray) (nn : List UInt8) (D : List Rrd) (gz : GoodZ nn D) (hN : N = mk nn) (w : World) (b : Nat) (rc : Int) (aa : Bool) (vx vy vz vq : Value) (A : Option Addr) (c : Nat) (s : Rrd) (hw : Whole w b scT #[.int .i64 rc, .bool aa, vx, vy, vz, .string N, .slice A D.length c, .string s.s, .int .i64 s.t, .int .i64 s.c, .int .i64 s.l, .string s.d, vq]) (hz : ZoneAt w w.heap.size N D (.agg #[.string N, .slice A D.length c, .string s.s, .int .i64 s.t, .int .i64 s.c, .int .i64 s.l, .string s.d])) :
    Calls Tryz.prog 87 #[.pointer (some ⟨b, 0, none⟩)] w fun e w' => e = .returned (.tuple #[]) ∧ (∃ g, Whole w' b scT #[.int .i64 rc, .bool aa, vx, .slice (some ⟨g, 0, none⟩) 1 1, vz, .string N, .slice A D.length c, .string s.s, .int .i64 s.t, .int .i64 s.c, .int .i64 s.l, .string s.d, vq] ∧ SeesR w' w'.heap.size (some ⟨g, 0, none⟩) 1 [noZ D]) ∧ w.grownBy w' (some b) := by
  have HW0 := Lib.hid hw
  have HZ0 := Lib.hid hz
  have GZ := Lib.hid gz
  obtain ⟨r, hr⟩ : ∃ r, r = noZ D := ⟨_, rfl⟩
  rw [← hr]
  have HR := Lib.hid hr
  clear hw hz hr hN
  clear gz
  obtain ⟨h0, h1, h2, h3, h4, h5, h6, h7, h8, h9, h10, h11, h12⟩ := sc_facts HW0.out
  go_enter Tryz.func87, Tryz.ntmps87
  go_wp2_with fail
  refine (No_any N nn D _ _ HZ0.out GZ.out).mono ?_
  rw [← HR.out]
  unfold rrAgg
  rintro e w1 ⟨rfl, hB⟩
  have hw2 : Whole (w1.alloc (.cells #[.string r.s, .int .i64 r.t, .int .i64 r.c, .int .i64 r.l, .string r.d] 26)) b scT #[.int .i64 rc, .bool aa, vx, vy, vz, .string N, .slice A D.length c, .string s.s, .int .i64 s.t, .int .i64 s.c, .int .i64 s.l, .string s.d, vq] := (HW0.out.below hB HW0.out.lt).alloc _
  have HW2 := Lib.hid hw2
  have HG2 := Lib.hid (show w.grownBy (w1.alloc (.cells #[.string r.s, .int .i64 r.t, .int .i64 r.c, .int .i64 r.l, .string r.d] 26)) (some b) from grownB (below_grown hB _) ((Below.refl _ _).alloc (Nat.le_refl _) _))
  have HS2 := Lib.hid (SeesR.one w1 r)
  have HNE := Lib.hid (show w1.heap.size ≠ b by have := HW0.out.lt; have := hB.size; omega)
  clear hB h0 h1 h2 h3 h4 h5 h6 h7 h8 h9 h10 h11 h12
  obtain ⟨h0, h1, h2, h3, h4, h5, h6, h7, h8, h9, h10, h11, h12⟩ := sc_facts HW2.out
  obtain ⟨f0, f1, f2, f3, f4, f12⟩ := sc_soft HW2.out
  go_wp2_with fail
  go_end0
  refine ⟨rfl, ⟨w1.heap.size, sc_put3 HW2.out _, ?_⟩, grown_put HG2.out 3 _⟩
  exact sees_far HS2.out HNE.out
end Go.Proofs.YtkgihfoknpimfaaGreat
namespace Go.Proofs.YtkgihfoknpimfaaGreat
open Go.RowKit Go.Op
set_option linter.unusedVariables false

theorem setZ_len (D : List Rrd) (t : Int) (n : List UInt8) : (setZ D t n).length ≤ D.length := Nat.le_trans (typX_len _ _) (atX_len _ _)
def adsZ (D : List Rrd) (c : List UInt8) : List Rrd := (setZ D 2 c).flatMap (hostZ D c)
theorem host_len (D : List Rrd) (c : List UInt8) (r : Rrd) : (hostZ D c r).length ≤ 2 * D.length := by
  unfold hostZ
  split
  · rw [List.length_append]; have := setZ_len D 1 r.toRec.d; have := setZ_len D 28 r.toRec.d; omega
  · simp
theorem hosts_len (D : List Rrd) (c : List UInt8) : ∀ l : List Rrd, (l.flatMap (hostZ D c)).length ≤ l.length * (2 * D.length)
  | [] => by simp
  | x :: l => by
    rw [List.flatMap_cons, List.length_append, List.length_cons, Nat.add_mul, Nat.one_mul]
    have := host_len D c x
    have := hosts_len D c l
    omega
theorem hosts_step {D : List Rrd} {c : List UInt8} {l : List Rrd} {k : Nat} {x : Rrd} (h : l[k]? = some x) : (l.take (k + 1)).flatMap (hostZ D c) = (l.take k).flatMap (hostZ D c) ++ hostZ D c x := by
  rw [List.take_add_one, h]; simp
theorem own_sees' {w : World} {base : Nat} {A : Option Addr} {n c : Nat} {xs : List Rrd} (h : w.ownsRow base 26 5 (.slice A n c) n (rcells xs)) : SeesR w w.heap.size A n xs := by
  obtain ⟨A', c', e, hs⟩ := SeesR.own h
  injection e with e _ _
  subst e
  exact hs
theorem own_old {w : World} {base : Nat} {e : TypeId} {k : Nat} {u v : Value} {n : Nat} {xs : List Value} (h : ∀ j, v.ownBlock = some j → j < base) (h' : w.ownsRow base e k u n xs) : u.ownBlock = none ∨ u.ownBlock ≠ v.ownBlock := by
  cases hu : u.ownBlock with
  | none => exact .inl rfl
  | some i =>
    right
    intro e
    have h1 := h i e.symm
    have h2 := (h'.lt i hu).1
    omega
theorem ZoneAt.up {w w' : World} {B : Nat} {N : ByteArray} {D : List Rrd} {v : Value} (h : ZoneAt w B N D v) (hb : Below B w w') (hB : B ≤ w'.heap.size) : ZoneAt w' w'.heap.size N D v := (h.keep hb).more hB
set_option maxHeartbeats 32000000 in
set_option maxRecDepth 20000 in
theorem refer_any (N : ByteArray) (nn : List UInt8) (D : List Rrd) (gz : GoodZ nn D) (hN : N = mk nn) (w : World) (b : Nat) (rc : Int) (aa : Bool) (vx vy vz vq : Value) (A : Option Addr) (c : Nat) (s : Rrd) (B : Nat) (hB : B ≤ w.heap.size) (hb : B ≤ b) (Ax : Option Addr) (nx cx : Nat) (hvx : vx = .slice Ax nx cx) (hvz : vz = .slice none 0 0) (hw : Whole w b scT #[.int .i64 rc, .bool aa, vx, vy, vz, .string N, .slice A D.length c, .string s.s, .int .i64 s.t, .int .i64 s.c, .int .i64 s.l, .string s.d, vq]) (hz : ZoneAt w B N D (.agg #[.string N, .slice A D.length c, .string s.s, .int .i64 s.t, .int .i64 s.c, .int .i64 s.l, .string s.d])) (C : ByteArray) (cut : List UInt8) (hC : C = mk cut) (hl : cut.length ≤ 255) :
    Calls Tryz.prog 86 #[.pointer (some ⟨b, 0, none⟩), .string C] w fun e w' => e = .returned (.tuple #[]) ∧ (∃ vn vd, Whole w' b scT #[.int .i64 rc, .bool (decide (0 < nx)), vx, vn, vd, .string N, .slice A D.length c, .string s.s, .int .i64 s.t, .int .i64 s.c, .int .i64 s.l, .string s.d, vq] ∧
      (∃ base, w'.ownsRow base 26 5 vn (setZ D 2 cut).length (rcells (setZ D 2 cut))) ∧ (∃ base, w'.ownsRow base 26 5 vd (adsZ D cut).length (rcells (adsZ D cut)))) ∧ w.grownBy w' (some b) := by
  subst hvx
  subst hvz
  have HW0 := Lib.hid hw
  have HZB := Lib.hid hz
  have GZ := Lib.hid gz
  have HC := Lib.hid hC
  have HBB := Lib.hid hB
  have HBb := Lib.hid hb
  obtain ⟨ns, hns⟩ : ∃ ns, ns = setZ D 2 cut := ⟨_, rfl⟩
  obtain ⟨m, hm⟩ : ∃ m, m = ns.length := ⟨_, rfl⟩
  obtain ⟨ads, hads⟩ : ∃ ads, ads = adsZ D cut := ⟨_, rfl⟩
  have HADS := Lib.hid (show ads = ns.flatMap (hostZ D cut) by rw [hads, hns]; rfl)
  rw [← hns, ← hm, ← hads]
  clear hads
  have hm1000 : m ≤ 1000 := by rw [hm, hns]; have := setZ_len D 2 cut; have := GZ.out.len; omega
  have HNS := Lib.hid hns
  have HM := Lib.hid hm
  clear hw hz hN hC hB hb hns hm
  clear gz
  obtain ⟨h0, h1, h2, h3, h4, h5, h6, h7, h8, h9, h10, h11, h12⟩ := sc_facts HW0.out
  obtain ⟨f0, f1, f2, f3, f4, f12⟩ := sc_soft HW0.out
  go_enter Tryz.func86, Tryz.ntmps86
  go_wp2_with fail
  have hw1 := sc_put1 HW0.out (.bool (decide (0 < nx)))
  have hg1 := grown_put (grow_refl w (some b)) 1 (.bool (decide (0 < nx)))
  generalize (w.setCell ⟨b, 1, none⟩ (.bool (decide (0 < nx)))) = w1 at hw1 hg1 ⊢
  have HW1 := Lib.hid hw1
  have HG1 := Lib.hid hg1
  have hz1 := HZB.out.up (grown_base hg1 HBB.out HBb.out) (Nat.le_trans HBB.out hg1.size)
  refine (ZSet_any N D _ _ hz1 C cut 2 HC.out (by omega) GZ.out.ok GZ.out.ks (by have := GZ.out.len; omega)).mono ?_
  rw [show typX 2 (atX cut D) = ns from HNS.out.symm, ← HM.out]
  rintro e w2 ⟨u, rfl, ho, hB⟩
  obtain ⟨An, cn, rfl, _⟩ := SeesR.own ho
  have HW2 := Lib.hid (HW1.out.below hB HW1.out.lt)
  have HG2 := Lib.hid (grownB HG1.out hB)
  have HO2 := Lib.hid ho
  clear hw1 hg1 hz1 ho hB h0 h1 h2 h3 h4 h5 h6 h7 h8 h9 h10 h11 h12 f0 f1 f2 f3 f4 f12
  obtain ⟨h0, h1, h2, h3, h4, h5, h6, h7, h8, h9, h10, h11, h12⟩ := sc_facts HW2.out
  obtain ⟨f0, f1, f2, f3, f4, f12⟩ := sc_soft HW2.out
  go_wp2_with fail
  have hw3 := sc_put3 HW2.out (.slice An m cn)
  have hg3 := grown_put HG2.out 3 (.slice An m cn)
  have ho3 := HO2.out.kept (gset w2 ⟨b, 3, none⟩ (.slice An m cn)) (.inr (own_apart HO2.out HW2.out (by decide)))
  generalize (w2.setCell ⟨b, 3, none⟩ (.slice An m cn)) = w3 at hw3 hg3 ho3 ⊢
  have HW3 := Lib.hid hw3
  have HG3 := Lib.hid hg3
  have HO3 := Lib.hid ho3
  clear hw3 hg3 ho3 h0 h1 h2 h3 h4 h5 h6 h7 h8 h9 h10 h11 h12 f0 f1 f2 f3 f4 f12
  obtain ⟨h0, h1, h2, h3, h4, h5, h6, h7, h8, h9, h10, h11, h12⟩ := sc_facts HW3.out
  go_wp2_with fail
  clear h0 h1 h2 h3 h4 h5 h6 h7 h8 h9 h10 h11 h12
  go_loopw [34] (fun i wr => ∃ k : Nat, k ≤ m ∧ i = .int .i64 (k : Nat) ∧ (∃ vd ad, ad = (ns.take k).flatMap (hostZ D cut) ∧ Whole wr b scT #[.int .i64 rc, .bool (decide (0 < nx)), .slice Ax nx cx, .slice An m cn, vd, .string N, .slice A D.length c, .string s.s, .int .i64 s.t, .int .i64 s.c, .int .i64 s.l, .string s.d, vq] ∧ wr.ownsRow w3.heap.size 26 5 vd ad.length (rcells ad)) ∧ w3.grownBy wr (some b)) (fun i _ => m - (intOf i).toNat)
  case atStart => exact ⟨0, Nat.zero_le _, rfl, ⟨_, [], by simp, HW3.out, own_nil _ _ _ _⟩, grow_refl _ _⟩
  case round =>
    obtain ⟨k, hk, rfl, ⟨vd, ad, had, hwr, hod⟩, hgr⟩ := hrel
    have HAD := Lib.hid had
    have HWR := Lib.hid hwr
    have HOD := Lib.hid hod
    have HGR := Lib.hid hgr
    have HG := Lib.hid (grown_trans HG3.out hgr)
    have HON := Lib.hid (HO3.out.kept hgr (.inr (own_apart HO3.out HW3.out (by decide))))
    have HZR := Lib.hid (HZB.out.up (grown_base HG.out HBB.out HBb.out) (Nat.le_trans HBB.out HG.out.size))
    clear had hwr hod hgr
    by_cases hkm : k < m
    · have g2 : (k : Int) < (m : Int) := by omega
      have g0 : (0 : Int) ≤ (k : Int) := by omega
      obtain ⟨A', c', e1, hsn⟩ := SeesR.own HON.out
      injection e1 with e1 _ e2
      subst e1; subst e2
      obtain ⟨bn, off, x, rfl, hbn, hxk, ht⟩ := hsn.at hkm
      obtain ⟨x0, x1, x2, x3, x4⟩ := ht
      have hxm : x ∈ D := by
        have h := List.mem_of_getElem? hxk
        rw [HNS.out] at h
        exact (atX_mem.1 (typX_mem.1 h).1).1
      have HXD := Lib.hid (rrd_data x)
      have HXL := Lib.hid (show x.toRec.d.length ≤ 2000 from (GZ.out.ok x hxm).data)
      have HST := Lib.hid (hosts_step (D := D) (c := cut) hxk)
      have hw4 : Whole (wr.alloc (.cells #[.string x.s, .int .i64 x.t, .int .i64 x.c, .int .i64 x.l, .string x.d] 26)) b scT _ := HWR.out.alloc _
      have hw5 := Whole.new wr 26 #[.string x.s, .int .i64 x.t, .int .i64 x.c, .int .i64 x.l, .string x.d]
      have HW4 := Lib.hid hw4
      have HW5 := Lib.hid hw5
      have HB4 := Lib.hid (show Below wr.heap.size wr (wr.alloc (.cells #[.string x.s, .int .i64 x.t, .int .i64 x.c, .int .i64 x.l, .string x.d] 26)) from (Below.refl _ _).alloc (Nat.le_refl _) _)
      clear hsn hxk hxm hw4 hw5
      cases hu : underN x.toRec.d cut with
      | false =>
        have HH := Lib.hid (show hostZ D cut x = [] by unfold hostZ; rw [hu]; rfl)
        go_wp2_with fail
        refine (Under_any x.d C x.toRec.d cut _ HXD.out HC.out (by have := HXL.out; omega) (by omega)).mono ?_
        rw [hu]
        clear hu
        rintro e w6 ⟨rfl, hB⟩
        have hB6 := HB4.out.trans (hB.mono HB4.out.size)
        have HW6 := Lib.hid (HW4.out.below hB HW4.out.lt)
        have HO6 := Lib.hid (own_keep HOD.out hB6)
        have HG6 := Lib.hid (grownB HGR.out hB6)
        clear hB hB6
        go_wp2_with fail
        go_roundw
        case rel => exact ⟨k + 1, by omega, by go_num, ⟨vd, ad, by rw [HST.out, HH.out, List.append_nil]; exact HAD.out, HW6.out, HO6.out⟩, HG6.out⟩
        case measure => simp [intOf]; omega
      | true =>
        have HH := Lib.hid (show hostZ D cut x = setZ D 1 x.toRec.d ++ setZ D 28 x.toRec.d by unfold hostZ; rw [hu]; rfl)
        obtain ⟨hs, hhs⟩ : ∃ hs, hs = atX x.toRec.d D := ⟨_, rfl⟩
        obtain ⟨nh, hnh⟩ : ∃ nh, nh = hs.length := ⟨_, rfl⟩
        have hnh1000 : nh ≤ 1000 := by rw [hnh, hhs]; have := atX_len x.toRec.d D; have := GZ.out.len; omega
        have HHS := Lib.hid hhs
        have HNH := Lib.hid hnh
        clear hhs hnh
        go_wp2_with fail
        refine (Under_any x.d C x.toRec.d cut _ HXD.out HC.out (by have := HXL.out; omega) (by omega)).mono ?_
        rw [hu]
        clear hu
        rintro e w6 ⟨rfl, hB⟩
        have hB6 := HB4.out.trans (hB.mono HB4.out.size)
        have HW6 := Lib.hid (HW4.out.below hB HW4.out.lt)
        have HX6 := Lib.hid (HW5.out.below hB HW5.out.lt)
        have HO6 := Lib.hid (own_keep HOD.out hB6)
        have HG6 := Lib.hid (grownB HGR.out hB6)
        have HZ6 := Lib.hid (HZR.out.later hB6)
        clear hB hB6 x0 x1 x2 x3 x4
        have q4 : ∀ w', Below w6.heap.size w6 w' → w'.cell? ⟨wr.heap.size, 4, none⟩ = some (.string x.d) := fun w' h => ((HX6.out.below h HX6.out.lt).cell 4).trans rfl
        have q5 : ∀ w', Below w6.heap.size w6 w' → w'.cell? ⟨b, 5, none⟩ = some (.string N) := fun w' h => ((HW6.out.below h HW6.out.lt).cell 5).trans rfl
        have q6 : ∀ w', Below w6.heap.size w6 w' → w'.cell? ⟨b, 6, none⟩ = some (.slice A D.length c) := fun w' h => ((HW6.out.below h HW6.out.lt).cell 6).trans rfl
        have q7 : ∀ w', Below w6.heap.size w6 w' → w'.cell? ⟨b, 7, none⟩ = some (.string s.s) := fun w' h => ((HW6.out.below h HW6.out.lt).cell 7).trans rfl
        have q8 : ∀ w', Below w6.heap.size w6 w' → w'.cell? ⟨b, 8, none⟩ = some (.int .i64 s.t) := fun w' h => ((HW6.out.below h HW6.out.lt).cell 8).trans rfl
        have q9 : ∀ w', Below w6.heap.size w6 w' → w'.cell? ⟨b, 9, none⟩ = some (.int .i64 s.c) := fun w' h => ((HW6.out.below h HW6.out.lt).cell 9).trans rfl
        have q10 : ∀ w', Below w6.heap.size w6 w' → w'.cell? ⟨b, 10, none⟩ = some (.int .i64 s.l) := fun w' h => ((HW6.out.below h HW6.out.lt).cell 10).trans rfl
        have q11 : ∀ w', Below w6.heap.size w6 w' → w'.cell? ⟨b, 11, none⟩ = some (.string s.d) := fun w' h => ((HW6.out.below h HW6.out.lt).cell 11).trans rfl
        have hT0 : Below w6.heap.size w6 w6.drew := (Below.refl _ _).drew
        go_wp2_with fail
        go_region_held3 (fun w' => Below w6.heap.size w6 w') (go_keep) (first
          | (go_at_call 55; (refine (ZAt_any N D _ _ (HZ6.out.later hT0) x.d x.toRec.d HXD.out (by have := HXL.out; omega) GZ.out.ok GZ.out.ks (by have := GZ.out.len; omega)).mono ?_; rw [← HHS.out, ← HNH.out]; rintro e w7 ⟨u7, rfl, ho7, hB7⟩; obtain ⟨A7, c7, rfl, hs7⟩ := SeesR.own ho7; have hT7 := hT0.trans hB7)))
        have hz6 : w6.drew.heap.size = w6.heap.size := rfl
        have HOH7 := Lib.hid (own_less ho7 (Nat.le_refl w6.heap.size))
        have HW7 := Lib.hid (HW6.out.below hT7 HW6.out.lt)
        have HO7 := Lib.hid (own_keep HO6.out hT7)
        have HG7 := Lib.hid (grownB HG6.out hT7)
        have HLT := Lib.hid (fun j (h : vd.ownBlock = some j) => (HO6.out.lt j h).2)
        obtain ⟨na, hna⟩ : ∃ na, na = ad.length := ⟨_, rfl⟩
        rw [← hna] at HO7
        have hna2 : na ≤ 2000000 := by
          have h1 := hosts_len D cut (ns.take k)
          rw [← HAD.out, ← hna] at h1
          have h2 : (ns.take k).length ≤ 1000 := by rw [List.length_take]; omega
          have h3 := GZ.out.len
          have h4 := Nat.mul_le_mul h2 (show 2 * D.length ≤ 2000 by omega)
          omega
        have HNA := Lib.hid hna
        clear hT7 hs7 ho7 hB7 q4 q5 q6 q7 q8 q9 q10 q11 hT0 hna hz6
        obtain ⟨t7, ht7⟩ : ∃ t, t = typX 1 hs := ⟨_, rfl⟩
        obtain ⟨n7, hn7⟩ : ∃ n, n = t7.length := ⟨_, rfl⟩
        have hn71000 : n7 ≤ 1000 := by rw [hn7, ht7]; have := typX_len 1 hs; have := HNH.out; omega
        have HT7 := Lib.hid ht7
        have HN7 := Lib.hid hn7
        have HS7 := Lib.hid (own_sees' HOH7.out)
        clear ht7 hn7
        have h4 : w7.cell? ⟨b, 4, none⟩ = some vd := (HW7.out.cell 4).trans rfl
        have f4 : w7.frozen? ⟨b, 4, none⟩ = false := HW7.out.frozen 4
        go_wp2_with fail
        go_region_law (first
          | (refine step_append_any (by rfl) (.tmp 54) (.tmp 56) (by rfl) w3.heap.size vd na ad (by rfl) (own_keep HO7.out hBa7) wa7.heap.size Aa7 n7 ca7 t7 (by rfl) hsa7 (by omega) (by have := hBa7.size; have := HG7.out.size; omega) ?_; intro vb7 wb7 hob7 hgb7; obtain ⟨Ab7, cb7, rfl, hsb7⟩ := SeesR.own hob7; have hwb7 := hwa7.grown hgb7 (Ne.symm (own_apart (own_keep HO7.out hBa7) hwa7 (by decide))); have h4 : wb7.cell? ⟨b, 4, none⟩ = some vd := (by simpa using hwb7.cell 4); have f4 : wb7.frozen? ⟨b, 4, none⟩ = false := hwb7.frozen 4)
          | (go_simp; go_at_call 37; refine (Typed_any A7 nh c7 hs 1 _ ((HS7.out.keep (Below.refl _ _).drew).more (Nat.le_refl _)) (by omega)).mono ?_; rw [← HT7.out, ← HN7.out]; rintro e wa7 ⟨ua7, rfl, hoa7, hba7⟩; obtain ⟨Aa7, ca7, rfl, hsa7⟩ := SeesR.own hoa7; have hBa7 := ((Below.refl w7.heap.size w7).drew).trans hba7; have hwa7 := HW7.out.below hBa7 HW7.out.lt; have h4 : wa7.cell? ⟨b, 4, none⟩ = some vd := (by simpa using hwa7.cell 4); have f4 : wa7.frozen? ⟨b, 4, none⟩ = false := hwa7.frozen 4))
        all_goals (
          have hoa := own_keep HO7.out hBa7
          have hoh := own_keep HOH7.out hBa7
          have hwc := sc_put4 hwb7 (.slice Ab7 (na + n7) cb7)
          have hoc := hob7.kept (gset wb7 ⟨b, 4, none⟩ (.slice Ab7 (na + n7) cb7)) (.inr (own_apart hob7 hwb7 (by decide)))
          have hgc := grown_put (grown_new (grownB HG7.out hBa7) hgb7 (fun j hj => (hoa.lt j hj).1)) 4 (.slice Ab7 (na + n7) cb7)
          have hohb := hoh.kept hgb7 (own_old HLT.out hoh)
          have hohc := hohb.kept (gset wb7 ⟨b, 4, none⟩ (.slice Ab7 (na + n7) cb7)) (.inr (own_apart hohb hwb7 (by decide)))
          clear hoa hoh hohb hwb7 hob7 hgb7 hBa7 hwa7 hsa7 hoa7 hba7 hsb7 h4 f4
          generalize (wb7.setCell ⟨b, 4, none⟩ (.slice Ab7 (na + n7) cb7)) = w8 at hwc hoc hgc hohc ⊢
          have HW8 := Lib.hid hwc
          have HO8 := Lib.hid hoc
          have HG8 := Lib.hid hgc
          have HOH8 := Lib.hid hohc
          clear hwc hoc hgc hohc
          obtain ⟨t8, ht8⟩ : ∃ t, t = typX 28 hs := ⟨_, rfl⟩
          obtain ⟨n8, hn8⟩ : ∃ n, n = t8.length := ⟨_, rfl⟩
          have hn81000 : n8 ≤ 1000 := by rw [hn8, ht8]; have := typX_len 28 hs; have := HNH.out; omega
          have HT8 := Lib.hid ht8
          have HN8 := Lib.hid hn8
          have HS8 := Lib.hid (own_sees' HOH8.out)
          clear ht8 hn8
          have h4 : w8.cell? ⟨b, 4, none⟩ = some (.slice Ab7 (na + n7) cb7) := (HW8.out.cell 4).trans rfl
          have f4 : w8.frozen? ⟨b, 4, none⟩ = false := HW8.out.frozen 4
          go_wp2_with fail
          go_region_law (first
            | (refine step_append_any (by rfl) (.tmp 66) (.tmp 68) (by rfl) w3.heap.size (.slice Ab7 (na + n7) cb7) (na + n7) (ad ++ t7) (by rfl) (own_keep HO8.out hBa8) wa8.heap.size Aa8 n8 ca8 t8 (by rfl) hsa8 (by omega) (by have := hBa8.size; have := HG8.out.size; omega) ?_; intro vb8 wb8 hob8 hgb8; obtain ⟨Ab8, cb8, rfl, hsb8⟩ := SeesR.own hob8; have hwb8 := hwa8.grown hgb8 (Ne.symm (own_apart (own_keep HO8.out hBa8) hwa8 (by decide))); have h4 : wb8.cell? ⟨b, 4, none⟩ = some (.slice Ab7 (na + n7) cb7) := (by simpa using hwb8.cell 4); have f4 : wb8.frozen? ⟨b, 4, none⟩ = false := hwb8.frozen 4)
            | (go_simp; go_at_call 37; refine (Typed_any A7 nh c7 hs 28 _ ((HS8.out.keep (Below.refl _ _).drew).more (Nat.le_refl _)) (by omega)).mono ?_; rw [← HT8.out, ← HN8.out]; rintro e wa8 ⟨ua8, rfl, hoa8, hba8⟩; obtain ⟨Aa8, ca8, rfl, hsa8⟩ := SeesR.own hoa8; have hBa8 := ((Below.refl w8.heap.size w8).drew).trans hba8; have hwa8 := HW8.out.below hBa8 HW8.out.lt; have h4 : wa8.cell? ⟨b, 4, none⟩ = some (.slice Ab7 (na + n7) cb7) := (by simpa using hwa8.cell 4); have f4 : wa8.frozen? ⟨b, 4, none⟩ = false := hwa8.frozen 4))
          all_goals (
            have hoa := own_keep HO8.out hBa8
            have hwc := sc_put4 hwb8 (.slice Ab8 (na + n7 + n8) cb8)
            have hoc := hob8.kept (gset wb8 ⟨b, 4, none⟩ (.slice Ab8 (na + n7 + n8) cb8)) (.inr (own_apart hob8 hwb8 (by decide)))
            have hgc := grown_put (grown_new (grownB HG8.out hBa8) hgb8 (fun j hj => (hoa.lt j hj).1)) 4 (.slice Ab8 (na + n7 + n8) cb8)
            clear hoa hwb8 hob8 hgb8 hBa8 hwa8 hsa8 hoa8 hba8 hsb8 h4 f4
            generalize (wb8.setCell ⟨b, 4, none⟩ (.slice Ab8 (na + n7 + n8) cb8)) = w9 at hwc hoc hgc ⊢
            have HW9 := Lib.hid hwc
            have HG9 := Lib.hid hgc
            have HEQ := Lib.hid (show ad ++ t7 ++ t8 = (ns.take (k + 1)).flatMap (hostZ D cut) by
              rw [HST.out, ← HAD.out, HH.out, HT7.out, HT8.out, HHS.out, List.append_assoc]; rfl)
            have HO9 := Lib.hid (show w9.ownsRow w3.heap.size 26 5 (.slice Ab8 (na + n7 + n8) cb8) (ad ++ t7 ++ t8).length (rcells (ad ++ t7 ++ t8)) by
              rw [List.length_append, List.length_append, ← HN7.out, ← HN8.out, ← HNA.out]; exact hoc)
            clear hwc hoc hgc
            go_wp2_with fail
            go_roundw
            case rel => exact ⟨k + 1, by omega, by go_num, ⟨_, _, HEQ.out, HW9.out, HO9.out⟩, HG9.out⟩
            case measure => simp [intOf]; omega))
    · obtain rfl : k = m := by omega
      have g2 : ¬ ((k : Int) < (k : Int)) := by omega
      have hall : ns.take k = ns := List.take_of_length_le (by rw [HM.out]; exact Nat.le_refl _)
      rw [hall] at HAD
      have HADL := Lib.hid (congrArg List.length HAD.out)
      go_wp2_with fail
      go_end0
      refine ⟨rfl, ⟨_, vd, HWR.out, ⟨w1.heap.size, HON.out⟩, ⟨w3.heap.size, ?_⟩⟩, HG.out⟩
      rw [HADS.out, ← HAD.out]
      exact HOD.out
end Go.Proofs.YtkgihfoknpimfaaGreat
namespace Go.Proofs.YtkgihfoknpimfaaGreat
open Go.RowKit Go.Op
set_option linter.unusedVariables false

def RecsAt (w : World) (v : Value) (l : List Rrd) : Prop := ∃ A c, v = .slice A l.length c ∧ SeesR w w.heap.size A l.length l
theorem RecsAt.nil (w : World) : RecsAt w (.slice none 0 0) [] := ⟨none, 0, rfl, rfl, fun h => absurd h (by simp)⟩
theorem RecsAt.own {w : World} {base : Nat} {v : Value} {l : List Rrd} (h : w.ownsRow base 26 5 v l.length (rcells l)) : RecsAt w v l := SeesR.own h
def SrchAt (w : World) (b : Nat) (N : ByteArray) (D : List Rrd) (A : Option Addr) (c : Nat) (s : Rrd) (a : Ans) (vx vy vz vq : Value) : Prop :=
  Whole w b scT #[.int .i64 a.rc, .bool a.aa, vx, vy, vz, .string N, .slice A D.length c, .string s.s, .int .i64 s.t, .int .i64 s.c, .int .i64 s.l, .string s.d, vq] ∧ RecsAt w vx a.an ∧ RecsAt w vy a.ns ∧ RecsAt w vz a.ad
def VisitOut (w : World) (B b : Nat) (N : ByteArray) (D : List Rrd) (A : Option Addr) (c : Nat) (s : Rrd) (more : Bool) (a : Ans) (asked : List (List UInt8)) : Prop :=
  ∃ vx vy vz vq, SrchAt w b N D A c s a vx vy vz vq ∧ (more = true → vy = .slice none 0 0 ∧ vz = .slice none 0 0 ∧ w.ownsRow B 26 5 vx a.an.length (rcells a.an) ∧ w.ownsRow B 9 1 vq asked.length (textL asked))
theorem own_types {w : World} {b1 b2 k1 k2 n m : Nat} {e f : TypeId} {v u : Value} {xs ys : List Value} (h : w.ownsRow b1 e k1 v n xs) (h' : w.ownsRow b2 f k2 u m ys) (hne : e ≠ f) : v.ownBlock = none ∨ v.ownBlock ≠ u.ownBlock := by
  rcases h.2 with ⟨rfl, _⟩ | ⟨g, cap, cur, rfl, _, hg, _⟩
  · exact .inl rfl
  · right
    exact Ne.symm (own_apart (cs := cur) h' hg (Ne.symm hne))
theorem step_cut {D : List Rrd} {nn n cut : List UInt8} (t : Int) (a : Ans) (asked : List (List UInt8)) (h : cutZ D nn n = some cut) : stepZ D nn t a asked n = (referZ D cut a, [], false) := by
  unfold stepZ; rw [h]
theorem step_no {D : List Rrd} {nn n : List UInt8} (t : Int) (a : Ans) (asked : List (List UInt8)) (h : cutZ D nn n = none) (hf : (fndZ D nn n).2 = false) : stepZ D nn t a asked n = ({ a with rc := 3, aa := true, ns := [noZ D] }, [], false) := by
  unfold stepZ; rw [h]
  show (if (fndZ D nn n).2 = true then _ else _) = _
  rw [if_neg (by rw [hf]; simp)]
theorem step_any {D : List Rrd} {nn n : List UInt8} {t : Int} (a : Ans) (asked : List (List UInt8)) (h : cutZ D nn n = none) (hf : (fndZ D nn n).2 = true) (ht : t = 255) : stepZ D nn t a asked n = ({ a with aa := true, an := a.an ++ (fndZ D nn n).1 }, [], false) := by
  unfold stepZ; rw [h]
  show (if (fndZ D nn n).2 = true then _ else _) = _
  rw [if_pos hf, if_pos ht]
theorem step_alias {D : List Rrd} {nn n : List UInt8} {t : Int} (a : Ans) (asked : List (List UInt8)) (h : cutZ D nn n = none) (hf : (fndZ D nn n).2 = true) (ht : t ≠ 255) (h5 : t ≠ 5) (hl : 0 < (typX 5 (fndZ D nn n).1).length) :
    stepZ D nn t a asked n = ({ a with aa := true, an := a.an ++ typX 5 (fndZ D nn n).1 }, aliasZ (typX 5 (fndZ D nn n).1), followZ nn (asked ++ [n]) (aliasZ (typX 5 (fndZ D nn n).1))) := by
  unfold stepZ; rw [h]
  show (if (fndZ D nn n).2 = true then _ else _) = _
  rw [if_pos hf, if_neg ht, if_pos ⟨h5, hl⟩]
theorem step_typed {D : List Rrd} {nn n : List UInt8} {t : Int} (a : Ans) (asked : List (List UInt8)) (h : cutZ D nn n = none) (hf : (fndZ D nn n).2 = true) (ht : t ≠ 255) (h5 : ¬ (t ≠ 5 ∧ 0 < (typX 5 (fndZ D nn n).1).length)) :
    stepZ D nn t a asked n = ({ a with aa := true, an := a.an ++ typX t (fndZ D nn n).1, ns := if (typX t (fndZ D nn n).1).length = 0 then [noZ D] else a.ns }, [], false) := by
  unfold stepZ; rw [h]
  show (if (fndZ D nn n).2 = true then _ else _) = _
  rw [if_pos hf, if_neg ht, if_neg h5]
theorem own_textS {w : World} {base : Nat} {A : Option Addr} {n c : Nat} {xs : List Value} (h : w.ownsRow base 9 1 (.slice A n c) n xs) : Sees w w.heap.size A n xs := by
  obtain ⟨A', c', e, hs⟩ := Sees.own h
  injection e with e _ _
  subst e
  exact hs
theorem own_first {w : World} {base : Nat} {v : Value} {n : Nat} {l : List Rrd} (h : w.ownsRow base 26 5 v n (rcells l)) (hn : 0 < n) : ∃ g c x, v = .slice (some ⟨g, 0, none⟩) n c ∧ l[0]? = some x := by
  have hl : l.length = n := by have := h.1; rw [rcells_len] at this; omega
  rcases h.2 with ⟨_, h0⟩ | ⟨g, cap, cur, rfl, _⟩
  · omega
  · exact ⟨g, cap, l[0], rfl, List.getElem?_eq_getElem _⟩
theorem cut_small {D : List Rrd} {nn n cut : List UInt8} (h : cutZ D nn n = some cut) : cut.length ≤ 255 := by
  unfold cutZ at h
  split at h
  · rename_i hu
    obtain ⟨j, _, _, rfl, _⟩ := cutF_up h
    exact (dep_of hu).up_small j
  · cases h
theorem alias_small {l : List Rrd} (h : ∀ x ∈ l, x.toRec.d.length ≤ 2000) : (aliasZ l).length ≤ 2000 := by
  cases l with
  | nil => simp [aliasZ]
  | cons x l => exact h x (List.mem_cons_self ..)
theorem fnd_len (D : List Rrd) (nn n : List UInt8) : (fndZ D nn n).1.length ≤ D.length := by
  unfold fndZ
  split
  · split
    · exact atX_len _ _
    · show ((atX _ _).map _).length ≤ _
      rw [List.length_map]; exact atX_len _ _
  · simp
theorem fnd_data {D : List Rrd} {nn n : List UInt8} (ok : OkL D) : ∀ x ∈ (fndZ D nn n).1, x.toRec.d.length ≤ 2000 := by
  intro x hx
  unfold fndZ at hx
  split at hx
  · split at hx
    · exact (ok x (atX_mem.1 hx).1).data
    · obtain ⟨y, hy, rfl⟩ := List.mem_map.1 hx
      exact (ok y (atX_mem.1 hy).1).data
  · simp at hx
set_option maxHeartbeats 32000000 in
set_option maxRecDepth 20000 in
theorem visit_any (N : ByteArray) (nn : List UInt8) (D : List Rrd) (gz : GoodZ nn D) (hN : N = mk nn) (w : World) (B b : Nat) (a : Ans) (vx vq : Value) (A : Option Addr) (c : Nat) (s : Rrd) (asked : List (List UInt8)) (hB : B ≤ w.heap.size) (hb : B ≤ b) (hns : a.ns = []) (had : a.ad = []) (hw : Whole w b scT #[.int .i64 a.rc, .bool a.aa, vx, .slice none 0 0, .slice none 0 0, .string N, .slice A D.length c, .string s.s, .int .i64 s.t, .int .i64 s.c, .int .i64 s.l, .string s.d, vq])
    (hx : w.ownsRow B 26 5 vx a.an.length (rcells a.an)) (hq : w.ownsRow B 9 1 vq asked.length (textL asked)) (hz : ZoneAt w B N D (.agg #[.string N, .slice A D.length c, .string s.s, .int .i64 s.t, .int .i64 s.c, .int .i64 s.l, .string s.d])) (h8 : asked.length ≤ 8) (han : a.an.length ≤ 1000 * asked.length) (hsm : ∀ m ∈ asked, m.length ≤ 255)
    (P : ByteArray) (n : List UInt8) (t : Int) (hP : P = mk n) (hl : n.length ≤ 255) :
    Calls Tryz.prog 43 #[.pointer (some ⟨b, 0, none⟩), .string P, .int .i64 t] w fun e w' => e = .returned (.tuple #[.string (mk (stepZ D nn t a asked n).2.1), .bool (stepZ D nn t a asked n).2.2]) ∧
      VisitOut w' B b N D A c s (stepZ D nn t a asked n).2.2 (stepZ D nn t a asked n).1 (asked ++ [n]) ∧ Below B w w' := by
  obtain ⟨nx, hnx⟩ : ∃ nx, nx = a.an.length := ⟨_, rfl⟩
  obtain ⟨nq, hnq⟩ : ∃ nq, nq = asked.length := ⟨_, rfl⟩
  rw [← hnx] at hx han
  rw [← hnq] at hq han h8
  have hnx8 : nx ≤ 8000 := by omega
  have HNX := Lib.hid hnx
  have HNQ := Lib.hid hnq
  have HW0 := Lib.hid hw
  have HX0 := Lib.hid hx
  have HQ0 := Lib.hid hq
  have HZB := Lib.hid hz
  have HBB := Lib.hid hB
  have HBb := Lib.hid hb
  have GZ := Lib.hid gz
  have HN := Lib.hid hN
  have HP := Lib.hid hP
  have HNS := Lib.hid hns
  have HAD := Lib.hid had
  have HSM := Lib.hid (show ∀ m ∈ asked ++ [n], m.length ≤ 1000000 by
    intro m hm
    rcases List.mem_append.1 hm with h | h
    · have := hsm m h; omega
    · obtain rfl := List.mem_singleton.1 h; omega)
  obtain ⟨a0, ha0⟩ : ∃ r : Int, r = a.rc := ⟨_, rfl⟩
  obtain ⟨a1, ha1⟩ : ∃ r : Bool, r = a.aa := ⟨_, rfl⟩
  rw [← ha0, ← ha1] at HW0
  have HA0 := Lib.hid ha0
  have HA1 := Lib.hid ha1
  obtain ⟨Ax, cx, rfl, _⟩ := SeesR.own hx
  obtain ⟨Aq, cq, rfl, _⟩ := Sees.own hq
  obtain ⟨i0, hi0, hz0, hz1, hz2⟩ := info_parts text_info
  have H63 : Hid (nq + 1 ≤ maxLen) := Lib.hid (by unfold maxLen; omega)
  have H47 : Hid ((nq + 1) * 16 ≤ 140737488355328) := Lib.hid (by omega)
  clear hw hx hq hz hB hb gz hN hP hns had hsm hnx hnq ha0 ha1
  obtain ⟨h0, h1, h2, h3, h4, h5, h6, h7, h8, h9, h10, h11, h12⟩ := sc_facts HW0.out
  obtain ⟨f0, f1, f2, f3, f4, f12⟩ := sc_soft HW0.out
  go_enter Tryz.func43, Tryz.ntmps43
  go_wp2_with (at_builtin; refine wpList_append_own _ rfl _ _ 66 rfl B 9 i0 (.string ⟨#[]⟩) 1 16 Tryz.underlying66 hi0 hz0 hz1 hz2 rfl (by decide) _ _ _ rfl (HQ0.out.alloc _) ⟨w.heap.size, 0, none⟩ 1 1 [.string P] rfl rfl (news1 _ _ _) (one1 _ rfl) H63.out H47.out (by have := HBB.out; simp; omega) ?_; intro v1 w1' ho hg _; (obtain ⟨A1, k1, rfl, _⟩ := Sees.own ho); (have hw' := (HW0.out.alloc (.cells #[.string P] 9)).grown hg (Ne.symm (own_apart HQ0.out HW0.out (by decide)))); (have hx' := (HX0.out.alloc (.cells #[.string P] 9)).kept hg (own_types HX0.out HQ0.out (by decide))); (have hb' := ((Below.refl B w).alloc HBB.out (.cells #[.string P] 9)).grown hg (by have := HBB.out; simp; omega) (fun j hj => (HQ0.out.lt j hj).1)); (have HW1' := Lib.hid hw'); (have HX1' := Lib.hid hx'); (have HQ1' := Lib.hid (show w1'.ownsRow B 9 1 (.slice A1 (nq + 1) k1) (nq + 1) (textL (asked ++ [n])) by rw [textL_snoc1, ← HP.out]; exact ho)); (have HB1' := Lib.hid hb'); clear ho hg hw' hx' hb' h0 h1 h2 h3 h4 h5 h6 h7 h8 h9 h10 h11 h12 f0 f1 f2 f3 f4 f12; (obtain ⟨h0, h1, h2, h3, h4, h5, h6, h7, h8, h9, h10, h11, h12⟩ := sc_facts HW1'.out); (obtain ⟨f0, f1, f2, f3, f4, f12⟩ := sc_soft HW1'.out))
  have hwc := sc_put12 HW1'.out (.slice A1 (nq + 1) k1)
  have hxc := HX1'.out.kept (gset w1' ⟨b, 12, none⟩ (.slice A1 (nq + 1) k1)) (.inr (own_apart HX1'.out HW1'.out (by decide)))
  have hqc := HQ1'.out.kept (gset w1' ⟨b, 12, none⟩ (.slice A1 (nq + 1) k1)) (.inr (own_apart HQ1'.out HW1'.out (by decide)))
  have hbc := HB1'.out.setCell (p := ⟨b, 12, none⟩) HBb.out (.slice A1 (nq + 1) k1)
  clear h0 h1 h2 h3 h4 h5 h6 h7 h8 h9 h10 h11 h12 f0 f1 f2 f3 f4 f12
  generalize (w1'.setCell ⟨b, 12, none⟩ (.slice A1 (nq + 1) k1)) = w1 at hwc hxc hqc hbc ⊢
  have HW1 := Lib.hid hwc
  have HX1 := Lib.hid hxc
  have HQ1 := Lib.hid hqc
  have HB1 := Lib.hid hbc
  have HZ1 := Lib.hid (HZB.out.up HB1.out (Nat.le_trans HBB.out HB1.out.size))
  clear hwc hxc hqc hbc
  refine (LCut_any N nn D _ _ HZ1.out GZ.out P n HN.out HP.out (by omega)).mono ?_
  cases hc : cutZ D nn n with
  | some cut =>
    have HST := Lib.hid (step_cut t a asked hc)
    have hcl := cut_small hc
    obtain ⟨C, hC⟩ : ∃ C, C = mk ((some cut : Option (List UInt8)).getD []) := ⟨_, rfl⟩
    rw [← hC]
    have HCC := Lib.hid (show C = mk cut from hC)
    clear hC hc
    rintro e w2 ⟨rfl, hB⟩
    have HW2 := Lib.hid (HW1.out.below hB HW1.out.lt)
    have HX2 := Lib.hid (own_keep HX1.out hB)
    have HQ2 := Lib.hid (own_keep HQ1.out hB)
    have HB2 := Lib.hid (HB1.out.trans (hB.mono (Nat.le_trans HBB.out HB1.out.size)))
    have HZ2 := Lib.hid (HZB.out.up HB2.out (Nat.le_trans HBB.out HB2.out.size))
    clear hB
    go_wp2_with fail
    refine (refer_any N nn D GZ.out HN.out w2 b a0 a1 _ _ _ _ A c s B (Nat.le_trans HBB.out HB2.out.size) HBb.out Ax nx cx rfl rfl HW2.out (HZB.out.keep HB2.out) C cut HCC.out hcl).mono ?_
    rintro e w3 ⟨rfl, ⟨vn, vd, hw3, ⟨bn, hon⟩, ⟨bd, hod⟩⟩, hg⟩
    have HW3 := Lib.hid hw3
    have HON := Lib.hid hon
    have HOD := Lib.hid hod
    have HX3 := Lib.hid (HX2.out.kept hg (.inr (own_apart HX2.out HW2.out (by decide))))
    have HB3 := Lib.hid (HB2.out.grown hg (Nat.le_trans HBB.out HB2.out.size) (fun k e => by injection e with e; have := HBb.out; omega))
    clear hw3 hon hod hg
    go_wp2_with fail
    go_ret2
    refine ⟨by rw [HST.out]; rfl, ?_, HB3.out⟩
    rw [HST.out]
    refine ⟨_, vn, vd, .slice A1 (nq + 1) k1, ⟨?_, RecsAt.own (base := B) (by show World.ownsRow _ _ _ _ _ a.an.length _; rw [← HNX.out]; exact HX3.out), RecsAt.own HON.out, RecsAt.own HOD.out⟩, fun h => by cases h⟩
    show Whole w3 b scT #[.int .i64 a.rc, .bool (decide (0 < a.an.length)), _, _, _, _, _, _, _, _, _, _, _]
    rw [← HA0.out, ← HNX.out]
    exact HW3.out
  | none =>
    rintro e w2 ⟨rfl, hB⟩
    have HW2 := Lib.hid (HW1.out.below hB HW1.out.lt)
    have HX2 := Lib.hid (own_keep HX1.out hB)
    have HQ2 := Lib.hid (own_keep HQ1.out hB)
    have HB2 := Lib.hid (HB1.out.trans (hB.mono (Nat.le_trans HBB.out HB1.out.size)))
    have HZ2 := Lib.hid (HZB.out.up HB2.out (Nat.le_trans HBB.out HB2.out.size))
    clear hB
    obtain ⟨h0, h1, h2, h3, h4, h5, h6, h7, h8, h9, h10, h11, h12⟩ := sc_facts HW2.out
    obtain ⟨f0, f1, f2, f3, f4, f12⟩ := sc_soft HW2.out
    go_wp2_with fail
    have hwc := sc_put1 HW2.out (.bool true)
    have hxc := HX2.out.kept (gset w2 ⟨b, 1, none⟩ (.bool true)) (.inr (own_apart HX2.out HW2.out (by decide)))
    have hqc := HQ2.out.kept (gset w2 ⟨b, 1, none⟩ (.bool true)) (.inr (own_apart HQ2.out HW2.out (by decide)))
    have hbc := HB2.out.setCell (p := ⟨b, 1, none⟩) HBb.out (.bool true)
    clear h0 h1 h2 h3 h4 h5 h6 h7 h8 h9 h10 h11 h12 f0 f1 f2 f3 f4 f12
    generalize (w2.setCell ⟨b, 1, none⟩ (.bool true)) = w3 at hwc hxc hqc hbc ⊢
    have HW3 := Lib.hid hwc
    have HX3 := Lib.hid hxc
    have HQ3 := Lib.hid hqc
    have HB3 := Lib.hid hbc
    have HZ3 := Lib.hid (HZB.out.up HB3.out (Nat.le_trans HBB.out HB3.out.size))
    clear hwc hxc hqc hbc
    refine (LFind_any N nn D _ _ HZ3.out GZ.out P n HN.out HP.out (by omega)).mono ?_
    have hfl := fnd_len D nn n
    have hfd := fnd_data (nn := nn) (n := n) GZ.out.ok
    obtain ⟨l, hL⟩ : ∃ l, l = (fndZ D nn n).1 := ⟨_, rfl⟩
    obtain ⟨nf, hnf⟩ : ∃ nf, nf = l.length := ⟨_, rfl⟩
    rw [← hL] at hfl hfd
    rw [← hnf] at hfl
    have hnf1000 : nf ≤ 1000 := by have := GZ.out.len; omega
    have HFD := Lib.hid hfd
    cases hf : (fndZ D nn n).2 with
    | false =>
      have HST := Lib.hid (step_no t a asked hc hf)
      rw [← hL]
      rintro e w4 ⟨⟨Af, kf, rfl, hsf⟩, hB⟩
      clear hsf hL hfl hfd hc hf
      have HW4 := Lib.hid (HW3.out.below hB HW3.out.lt)
      have HX4 := Lib.hid (own_keep HX3.out hB)
      have HQ4 := Lib.hid (own_keep HQ3.out hB)
      have HB4 := Lib.hid (HB3.out.trans (hB.mono (Nat.le_trans HBB.out HB3.out.size)))
      have HZ4 := Lib.hid (HZB.out.up HB4.out (Nat.le_trans HBB.out HB4.out.size))
      clear hB
      obtain ⟨h0, h1, h2, h3, h4, h5, h6, h7, h8, h9, h10, h11, h12⟩ := sc_facts HW4.out
      obtain ⟨f0, f1, f2, f3, f4, f12⟩ := sc_soft HW4.out
      clear hnf
      go_wp2_with fail
      have hwc := sc_put0 HW4.out (.int .i64 3)
      have hxc := HX4.out.kept (gset w4 ⟨b, 0, none⟩ (.int .i64 3)) (.inr (own_apart HX4.out HW4.out (by decide)))
      have hqc := HQ4.out.kept (gset w4 ⟨b, 0, none⟩ (.int .i64 3)) (.inr (own_apart HQ4.out HW4.out (by decide)))
      have hbc := HB4.out.setCell (p := ⟨b, 0, none⟩) HBb.out (.int .i64 3)
      clear h0 h1 h2 h3 h4 h5 h6 h7 h8 h9 h10 h11 h12 f0 f1 f2 f3 f4 f12
      generalize (w4.setCell ⟨b, 0, none⟩ (.int .i64 3)) = w5 at hwc hxc hqc hbc ⊢
      have HW5 := Lib.hid hwc
      have HX5 := Lib.hid hxc
      have HQ5 := Lib.hid hqc
      have HB5 := Lib.hid hbc
      have HZ5 := Lib.hid (HZB.out.up HB5.out (Nat.le_trans HBB.out HB5.out.size))
      clear hwc hxc hqc hbc
      refine (deny_any N nn D GZ.out HN.out w5 b 3 true _ _ _ _ A c s HW5.out HZ5.out).mono ?_
      rintro e w6 ⟨rfl, ⟨g, hw6, hs6⟩, hg⟩
      have HW6 := Lib.hid hw6
      have HS6 := Lib.hid hs6
      have HX6 := Lib.hid (HX5.out.kept hg (.inr (own_apart HX5.out HW5.out (by decide))))
      have HB6 := Lib.hid (HB5.out.grown hg (Nat.le_trans HBB.out HB5.out.size) (fun k e => by injection e with e; have := HBb.out; omega))
      clear hw6 hs6 hg
      go_wp2_with fail
      go_ret2
      refine ⟨by rw [HST.out]; rfl, ?_, HB6.out⟩
      rw [HST.out]
      exact ⟨_, _, _, _, ⟨HW6.out, RecsAt.own (base := B) (by show World.ownsRow _ _ _ _ _ a.an.length _; rw [← HNX.out]; exact HX6.out), ⟨_, _, rfl, HS6.out⟩, by show RecsAt _ _ a.ad; rw [HAD.out]; exact RecsAt.nil _⟩, fun h => by cases h⟩
    | true =>
      rw [← hL]
      rintro e w4 ⟨⟨Af, kf, rfl, hsf⟩, hB⟩
      rw [← hnf] at hsf ⊢
      have HSF := Lib.hid hsf
      have HW4 := Lib.hid (HW3.out.below hB HW3.out.lt)
      have HX4 := Lib.hid (own_keep HX3.out hB)
      have HQ4 := Lib.hid (own_keep HQ3.out hB)
      have HB4 := Lib.hid (HB3.out.trans (hB.mono (Nat.le_trans HBB.out HB3.out.size)))
      have HZ4 := Lib.hid (HZB.out.up HB4.out (Nat.le_trans HBB.out HB4.out.size))
      clear hB
      have HL := Lib.hid hL
      have HNF := Lib.hid hnf
      by_cases ht : t = 255
      · have gt : (t == 255) = true := by rw [beq_iff_eq]; exact ht
        have HST := Lib.hid (show stepZ D nn t a asked n = ({ a with aa := true, an := a.an ++ l }, [], false) by rw [hL]; exact step_any a asked hc hf ht)
        clear ht hsf hL hnf hfl hfd hc hf
        obtain ⟨h0, h1, h2, h3, h4, h5, h6, h7, h8, h9, h10, h11, h12⟩ := sc_facts HW4.out
        obtain ⟨f0, f1, f2, f3, f4, f12⟩ := sc_soft HW4.out
        have HLE := Lib.hid (show nx + nf ≤ 1073741824 by omega)
        have HBS := Lib.hid (show B ≤ w4.heap.size from Nat.le_trans HBB.out HB4.out.size)
        go_wp2_with (at_builtin; (refine wpList_append_R rfl _ _ rfl B _ nx a.an rfl HX4.out w4.heap.size Af nf kf l rfl HSF.out HLE.out HBS.out ?_); intro v5 w5' ho hg; (obtain ⟨A5, k5, rfl, _⟩ := SeesR.own ho); (have hw' := HW4.out.grown hg (Ne.symm (own_apart HX4.out HW4.out (by decide)))); (have hq' := HQ4.out.kept hg (own_types HQ4.out HX4.out (by decide))); (have hb' := HB4.out.grown hg (Nat.le_trans HBB.out HB4.out.size) (fun j hj => (HX4.out.lt j hj).1)); (have HW5' := Lib.hid hw'); (have HX5' := Lib.hid ho); (have HQ5' := Lib.hid hq'); (have HB5' := Lib.hid hb'); clear ho hg hw' hq' hb' h0 h1 h2 h3 h4 h5 h6 h7 h8 h9 h10 h11 h12 f0 f1 f2 f3 f4 f12; (obtain ⟨h0, h1, h2, h3, h4, h5, h6, h7, h8, h9, h10, h11, h12⟩ := sc_facts HW5'.out); (obtain ⟨f0, f1, f2, f3, f4, f12⟩ := sc_soft HW5'.out))
        go_ret2
        refine ⟨by rw [HST.out]; rfl, ?_, HB5'.out.setCell (p := ⟨b, 2, none⟩) HBb.out _⟩
        rw [HST.out]
        have hxo := HX5'.out.kept (gset w5' ⟨b, 2, none⟩ (.slice A5 (nx + nf) k5)) (.inr (own_apart HX5'.out HW5'.out (by decide)))
        refine ⟨_, _, _, .slice A1 (nq + 1) k1, ⟨?_, RecsAt.own (base := B) (v := .slice A5 (nx + nf) k5) ?_, by show RecsAt _ _ a.ns; rw [HNS.out]; exact RecsAt.nil _, by show RecsAt _ _ a.ad; rw [HAD.out]; exact RecsAt.nil _⟩, fun h => by cases h⟩
        · show Whole _ b scT #[.int .i64 a.rc, _, _, _, _, _, _, _, _, _, _, _, _]
          rw [← HA0.out]
          exact sc_put2 HW5'.out _
        · show World.ownsRow _ _ _ _ _ (a.an ++ l).length (rcells (a.an ++ l))
          rw [List.length_append, ← HNX.out, ← HNF.out]
          exact hxo
      · have gt : (t == 255) = false := by rw [beq_eq_false_iff_ne]; exact ht
        obtain ⟨l5, hl5⟩ : ∃ l5, l5 = typX 5 l := ⟨_, rfl⟩
        obtain ⟨n5, hn5⟩ : ∃ n5, n5 = l5.length := ⟨_, rfl⟩
        have hn51000 : n5 ≤ 1000 := by rw [hn5, hl5]; have := typX_len 5 l; omega
        have HL5 := Lib.hid hl5
        have HN5 := Lib.hid hn5
        have HC := Lib.hid hc
        have HF := Lib.hid hf
        have HTT := Lib.hid ht
        clear hsf hL hnf hfl hfd hc hf ht hl5 hn5
        go_wp2_with fail
        refine (Typed_any Af nf kf l 5 _ HSF.out (by omega)).mono ?_
        rw [← HL5.out, ← HN5.out]
        rintro e w5 ⟨u5, rfl, ho5, hB⟩
        have HSF5 := Lib.hid ((HSF.out.keep hB).more hB.size)
        have HO5 := Lib.hid ho5
        have HLO := Lib.hid (fun j (h : (Value.slice Ax nx cx).ownBlock = some j) => (HX4.out.lt j h).2)
        have HW5 := Lib.hid (HW4.out.below hB HW4.out.lt)
        have HX5 := Lib.hid (own_keep HX4.out hB)
        have HQ5 := Lib.hid (own_keep HQ4.out hB)
        have HB5 := Lib.hid (HB4.out.trans (hB.mono (Nat.le_trans HBB.out HB4.out.size)))
        have HZ5 := Lib.hid (HZB.out.up HB5.out (Nat.le_trans HBB.out HB5.out.size))
        clear hB
        by_cases h5 : t = 5
        · have g5a : (t == 5) = true := by rw [beq_iff_eq]; exact h5
          have g5b : (t != 5) = false := by simp [h5]
          have HST := Lib.hid (show stepZ D nn t a asked n = ({ a with aa := true, an := a.an ++ typX t l, ns := if (typX t l).length = 0 then [noZ D] else a.ns }, [], false) by rw [HL.out]; exact step_typed a asked HC.out HF.out HTT.out (fun h => h.1 h5))
          obtain ⟨A5a, k5a, rfl, _⟩ := SeesR.own ho5
          clear h5 ho5
          obtain ⟨lt, hlt⟩ : ∃ lt, lt = typX t l := ⟨_, rfl⟩
          obtain ⟨nt, hnt⟩ : ∃ nt, nt = lt.length := ⟨_, rfl⟩
          have hnt1000 : nt ≤ 1000 := by rw [hnt, hlt]; have := typX_len t l; have := HNF.out; omega
          have HLT := Lib.hid hlt
          have HNT := Lib.hid hnt
          clear hlt hnt
          go_wp2_with fail
          refine (Typed_any Af nf kf l t _ HSF5.out (by omega)).mono ?_
          rw [← HLT.out, ← HNT.out]
          rintro e w6 ⟨u6, rfl, ho6, hB⟩
          obtain ⟨A6a, k6a, rfl, hs6⟩ := SeesR.own ho6
          have HS6 := Lib.hid hs6
          clear ho6 hs6
          have HW6 := Lib.hid (HW5.out.below hB HW5.out.lt)
          have HX6 := Lib.hid (own_keep HX5.out hB)
          have HQ6 := Lib.hid (own_keep HQ5.out hB)
          have HB6 := Lib.hid (HB5.out.trans (hB.mono (Nat.le_trans HBB.out HB5.out.size)))
          have HZ6 := Lib.hid (HZB.out.up HB6.out (Nat.le_trans HBB.out HB6.out.size))
          clear hB
          by_cases hz : nt = 0
          · have gz1 : ((nt : Int) == 0) = true := by rw [beq_iff_eq]; omega
            have HSTZ := Lib.hid (show stepZ D nn t a asked n = ({ a with aa := true, an := a.an ++ lt, ns := [noZ D] }, [], false) by rw [HST.out, ← HLT.out, ← HNT.out, if_pos hz])
            clear hz
            obtain ⟨h0, h1, h2, h3, h4, h5, h6, h7, h8, h9, h10, h11, h12⟩ := sc_facts HW6.out
            obtain ⟨f0, f1, f2, f3, f4, f12⟩ := sc_soft HW6.out
            have HLE := Lib.hid (show nx + nt ≤ 1073741824 by omega)
            have HBS := Lib.hid (show B ≤ w6.heap.size from Nat.le_trans HBB.out HB6.out.size)
            go_wp2_with (at_builtin; (refine wpList_append_R rfl _ _ rfl B _ nx a.an rfl HX6.out w6.heap.size A6a nt k6a lt rfl HS6.out HLE.out HBS.out ?_); intro v7 w7' ho hg; (obtain ⟨A7, k7, rfl, _⟩ := SeesR.own ho); (have hw' := HW6.out.grown hg (Ne.symm (own_apart HX6.out HW6.out (by decide)))); (have hq' := HQ6.out.kept hg (own_types HQ6.out HX6.out (by decide))); (have hb' := HB6.out.grown hg (Nat.le_trans HBB.out HB6.out.size) (fun j hj => (HX6.out.lt j hj).1)); (have HW7' := Lib.hid hw'); (have HX7' := Lib.hid ho); (have HQ7' := Lib.hid hq'); (have HB7' := Lib.hid hb'); clear ho hg hw' hq' hb' h0 h1 h2 h3 h4 h5 h6 h7 h8 h9 h10 h11 h12 f0 f1 f2 f3 f4 f12; (obtain ⟨h0, h1, h2, h3, h4, h5, h6, h7, h8, h9, h10, h11, h12⟩ := sc_facts HW7'.out); (obtain ⟨f0, f1, f2, f3, f4, f12⟩ := sc_soft HW7'.out))
            have hwc := sc_put2 HW7'.out (.slice A7 (nx + nt) k7)
            have hxc := HX7'.out.kept (gset w7' ⟨b, 2, none⟩ (.slice A7 (nx + nt) k7)) (.inr (own_apart HX7'.out HW7'.out (by decide)))
            have hqc := HQ7'.out.kept (gset w7' ⟨b, 2, none⟩ (.slice A7 (nx + nt) k7)) (.inr (own_apart HQ7'.out HW7'.out (by decide)))
            have hbc := HB7'.out.setCell (p := ⟨b, 2, none⟩) HBb.out (.slice A7 (nx + nt) k7)
            clear h0 h1 h2 h3 h4 h5 h6 h7 h8 h9 h10 h11 h12 f0 f1 f2 f3 f4 f12
            generalize (w7'.setCell ⟨b, 2, none⟩ (.slice A7 (nx + nt) k7)) = w8 at hwc hxc hqc hbc ⊢
            have HW8 := Lib.hid hwc
            have HX8 := Lib.hid hxc
            have HQ8 := Lib.hid hqc
            have HB8 := Lib.hid hbc
            have HZ8 := Lib.hid (HZB.out.up HB8.out (Nat.le_trans HBB.out HB8.out.size))
            clear hwc hxc hqc hbc
            refine (deny_any N nn D GZ.out HN.out w8 b a0 true _ _ _ _ A c s HW8.out HZ8.out).mono ?_
            rintro e w9 ⟨rfl, ⟨g, hw9, hs9⟩, hg⟩
            have HW9 := Lib.hid hw9
            have HS9 := Lib.hid hs9
            have HX9 := Lib.hid (HX8.out.kept hg (.inr (own_apart HX8.out HW8.out (by decide))))
            have HB9 := Lib.hid (HB8.out.grown hg (Nat.le_trans HBB.out HB8.out.size) (fun k e => by injection e with e; have := HBb.out; omega))
            clear hw9 hs9 hg
            go_wp2_with fail
            go_ret2
            refine ⟨by rw [HSTZ.out]; rfl, ?_, HB9.out⟩
            rw [HSTZ.out]
            refine ⟨_, .slice (some ⟨g, 0, none⟩) 1 1, _, .slice A1 (nq + 1) k1, ⟨?_, RecsAt.own (base := B) (v := .slice A7 (nx + nt) k7) ?_, ⟨some ⟨g, 0, none⟩, 1, rfl, HS9.out⟩, by show RecsAt _ _ a.ad; rw [HAD.out]; exact RecsAt.nil _⟩, fun h => by cases h⟩
            · show Whole _ b scT #[.int .i64 a.rc, _, _, _, _, _, _, _, _, _, _, _, _]
              rw [← HA0.out]
              exact HW9.out
            · show World.ownsRow _ _ _ _ _ (a.an ++ lt).length (rcells (a.an ++ lt))
              rw [List.length_append, ← HNX.out, ← HNT.out]
              exact HX9.out
          · have gz1 : ((nt : Int) == 0) = false := by rw [beq_eq_false_iff_ne]; omega
            have HSTZ := Lib.hid (show stepZ D nn t a asked n = ({ a with aa := true, an := a.an ++ lt, ns := a.ns }, [], false) by rw [HST.out, ← HLT.out, ← HNT.out, if_neg hz])
            clear hz
            obtain ⟨h0, h1, h2, h3, h4, h5, h6, h7, h8, h9, h10, h11, h12⟩ := sc_facts HW6.out
            obtain ⟨f0, f1, f2, f3, f4, f12⟩ := sc_soft HW6.out
            have HLE := Lib.hid (show nx + nt ≤ 1073741824 by omega)
            have HBS := Lib.hid (show B ≤ w6.heap.size from Nat.le_trans HBB.out HB6.out.size)
            go_wp2_with (at_builtin; (refine wpList_append_R rfl _ _ rfl B _ nx a.an rfl HX6.out w6.heap.size A6a nt k6a lt rfl HS6.out HLE.out HBS.out ?_); intro v7 w7' ho hg; (obtain ⟨A7, k7, rfl, _⟩ := SeesR.own ho); (have hw' := HW6.out.grown hg (Ne.symm (own_apart HX6.out HW6.out (by decide)))); (have hq' := HQ6.out.kept hg (own_types HQ6.out HX6.out (by decide))); (have hb' := HB6.out.grown hg (Nat.le_trans HBB.out HB6.out.size) (fun j hj => (HX6.out.lt j hj).1)); (have HW7' := Lib.hid hw'); (have HX7' := Lib.hid ho); (have HQ7' := Lib.hid hq'); (have HB7' := Lib.hid hb'); clear ho hg hw' hq' hb' h0 h1 h2 h3 h4 h5 h6 h7 h8 h9 h10 h11 h12 f0 f1 f2 f3 f4 f12; (obtain ⟨h0, h1, h2, h3, h4, h5, h6, h7, h8, h9, h10, h11, h12⟩ := sc_facts HW7'.out); (obtain ⟨f0, f1, f2, f3, f4, f12⟩ := sc_soft HW7'.out))
            go_ret2
            refine ⟨by rw [HSTZ.out]; rfl, ?_, HB7'.out.setCell (p := ⟨b, 2, none⟩) HBb.out _⟩
            rw [HSTZ.out]
            have hxo := HX7'.out.kept (gset w7' ⟨b, 2, none⟩ (.slice A7 (nx + nt) k7)) (.inr (own_apart HX7'.out HW7'.out (by decide)))
            refine ⟨_, _, _, .slice A1 (nq + 1) k1, ⟨?_, RecsAt.own (base := B) (v := .slice A7 (nx + nt) k7) ?_, by show RecsAt _ _ a.ns; rw [HNS.out]; exact RecsAt.nil _, by show RecsAt _ _ a.ad; rw [HAD.out]; exact RecsAt.nil _⟩, fun h => by cases h⟩
            · show Whole _ b scT #[.int .i64 a.rc, _, _, _, _, _, _, _, _, _, _, _, _]
              rw [← HA0.out]
              exact sc_put2 HW7'.out _
            · show World.ownsRow _ _ _ _ _ (a.an ++ lt).length (rcells (a.an ++ lt))
              rw [List.length_append, ← HNX.out, ← HNT.out]
              exact hxo
        · have g5a : (t == 5) = false := by rw [beq_eq_false_iff_ne]; exact h5
          have g5b : (t != 5) = true := by simp [h5]
          by_cases hn0 : n5 = 0
          · have HST := Lib.hid (show stepZ D nn t a asked n = ({ a with aa := true, an := a.an ++ typX t l, ns := if (typX t l).length = 0 then [noZ D] else a.ns }, [], false) by rw [HL.out]; exact step_typed a asked HC.out HF.out HTT.out (fun h => by have h2 := h.2; rw [← HL.out, ← HL5.out, ← HN5.out] at h2; omega))
            obtain ⟨A5a, k5a, rfl, _⟩ := SeesR.own ho5
            have gn0 : ¬ (0 : Int) < (n5 : Int) := by omega
            clear h5 ho5 hn0
            obtain ⟨lt, hlt⟩ : ∃ lt, lt = typX t l := ⟨_, rfl⟩
            obtain ⟨nt, hnt⟩ : ∃ nt, nt = lt.length := ⟨_, rfl⟩
            have hnt1000 : nt ≤ 1000 := by rw [hnt, hlt]; have := typX_len t l; have := HNF.out; omega
            have HLT := Lib.hid hlt
            have HNT := Lib.hid hnt
            clear hlt hnt
            go_wp2_with fail
            refine (Typed_any Af nf kf l t _ HSF5.out (by omega)).mono ?_
            rw [← HLT.out, ← HNT.out]
            rintro e w6 ⟨u6, rfl, ho6, hB⟩
            obtain ⟨A6a, k6a, rfl, hs6⟩ := SeesR.own ho6
            have HS6 := Lib.hid hs6
            clear ho6 hs6
            have HW6 := Lib.hid (HW5.out.below hB HW5.out.lt)
            have HX6 := Lib.hid (own_keep HX5.out hB)
            have HQ6 := Lib.hid (own_keep HQ5.out hB)
            have HB6 := Lib.hid (HB5.out.trans (hB.mono (Nat.le_trans HBB.out HB5.out.size)))
            have HZ6 := Lib.hid (HZB.out.up HB6.out (Nat.le_trans HBB.out HB6.out.size))
            clear hB
            by_cases hz : nt = 0
            · have gz1 : ((nt : Int) == 0) = true := by rw [beq_iff_eq]; omega
              have HSTZ := Lib.hid (show stepZ D nn t a asked n = ({ a with aa := true, an := a.an ++ lt, ns := [noZ D] }, [], false) by rw [HST.out, ← HLT.out, ← HNT.out, if_pos hz])
              clear hz
              obtain ⟨h0, h1, h2, h3, h4, h5, h6, h7, h8, h9, h10, h11, h12⟩ := sc_facts HW6.out
              obtain ⟨f0, f1, f2, f3, f4, f12⟩ := sc_soft HW6.out
              have HLE := Lib.hid (show nx + nt ≤ 1073741824 by omega)
              have HBS := Lib.hid (show B ≤ w6.heap.size from Nat.le_trans HBB.out HB6.out.size)
              go_wp2_with (at_builtin; (refine wpList_append_R rfl _ _ rfl B _ nx a.an rfl HX6.out w6.heap.size A6a nt k6a lt rfl HS6.out HLE.out HBS.out ?_); intro v7 w7' ho hg; (obtain ⟨A7, k7, rfl, _⟩ := SeesR.own ho); (have hw' := HW6.out.grown hg (Ne.symm (own_apart HX6.out HW6.out (by decide)))); (have hq' := HQ6.out.kept hg (own_types HQ6.out HX6.out (by decide))); (have hb' := HB6.out.grown hg (Nat.le_trans HBB.out HB6.out.size) (fun j hj => (HX6.out.lt j hj).1)); (have HW7' := Lib.hid hw'); (have HX7' := Lib.hid ho); (have HQ7' := Lib.hid hq'); (have HB7' := Lib.hid hb'); clear ho hg hw' hq' hb' h0 h1 h2 h3 h4 h5 h6 h7 h8 h9 h10 h11 h12 f0 f1 f2 f3 f4 f12; (obtain ⟨h0, h1, h2, h3, h4, h5, h6, h7, h8, h9, h10, h11, h12⟩ := sc_facts HW7'.out); (obtain ⟨f0, f1, f2, f3, f4, f12⟩ := sc_soft HW7'.out))
              have hwc := sc_put2 HW7'.out (.slice A7 (nx + nt) k7)
              have hxc := HX7'.out.kept (gset w7' ⟨b, 2, none⟩ (.slice A7 (nx + nt) k7)) (.inr (own_apart HX7'.out HW7'.out (by decide)))
              have hqc := HQ7'.out.kept (gset w7' ⟨b, 2, none⟩ (.slice A7 (nx + nt) k7)) (.inr (own_apart HQ7'.out HW7'.out (by decide)))
              have hbc := HB7'.out.setCell (p := ⟨b, 2, none⟩) HBb.out (.slice A7 (nx + nt) k7)
              clear h0 h1 h2 h3 h4 h5 h6 h7 h8 h9 h10 h11 h12 f0 f1 f2 f3 f4 f12
              generalize (w7'.setCell ⟨b, 2, none⟩ (.slice A7 (nx + nt) k7)) = w8 at hwc hxc hqc hbc ⊢
              have HW8 := Lib.hid hwc
              have HX8 := Lib.hid hxc
              have HQ8 := Lib.hid hqc
              have HB8 := Lib.hid hbc
              have HZ8 := Lib.hid (HZB.out.up HB8.out (Nat.le_trans HBB.out HB8.out.size))
              clear hwc hxc hqc hbc
              refine (deny_any N nn D GZ.out HN.out w8 b a0 true _ _ _ _ A c s HW8.out HZ8.out).mono ?_
              rintro e w9 ⟨rfl, ⟨g, hw9, hs9⟩, hg⟩
              have HW9 := Lib.hid hw9
              have HS9 := Lib.hid hs9
              have HX9 := Lib.hid (HX8.out.kept hg (.inr (own_apart HX8.out HW8.out (by decide))))
              have HB9 := Lib.hid (HB8.out.grown hg (Nat.le_trans HBB.out HB8.out.size) (fun k e => by injection e with e; have := HBb.out; omega))
              clear hw9 hs9 hg
              go_wp2_with fail
              go_ret2
              refine ⟨by rw [HSTZ.out]; rfl, ?_, HB9.out⟩
              rw [HSTZ.out]
              refine ⟨_, .slice (some ⟨g, 0, none⟩) 1 1, _, .slice A1 (nq + 1) k1, ⟨?_, RecsAt.own (base := B) (v := .slice A7 (nx + nt) k7) ?_, ⟨some ⟨g, 0, none⟩, 1, rfl, HS9.out⟩, by show RecsAt _ _ a.ad; rw [HAD.out]; exact RecsAt.nil _⟩, fun h => by cases h⟩
              · show Whole _ b scT #[.int .i64 a.rc, _, _, _, _, _, _, _, _, _, _, _, _]
                rw [← HA0.out]
                exact HW9.out
              · show World.ownsRow _ _ _ _ _ (a.an ++ lt).length (rcells (a.an ++ lt))
                rw [List.length_append, ← HNX.out, ← HNT.out]
                exact HX9.out
            · have gz1 : ((nt : Int) == 0) = false := by rw [beq_eq_false_iff_ne]; omega
              have HSTZ := Lib.hid (show stepZ D nn t a asked n = ({ a with aa := true, an := a.an ++ lt, ns := a.ns }, [], false) by rw [HST.out, ← HLT.out, ← HNT.out, if_neg hz])
              clear hz
              obtain ⟨h0, h1, h2, h3, h4, h5, h6, h7, h8, h9, h10, h11, h12⟩ := sc_facts HW6.out
              obtain ⟨f0, f1, f2, f3, f4, f12⟩ := sc_soft HW6.out
              have HLE := Lib.hid (show nx + nt ≤ 1073741824 by omega)
              have HBS := Lib.hid (show B ≤ w6.heap.size from Nat.le_trans HBB.out HB6.out.size)
              go_wp2_with (at_builtin; (refine wpList_append_R rfl _ _ rfl B _ nx a.an rfl HX6.out w6.heap.size A6a nt k6a lt rfl HS6.out HLE.out HBS.out ?_); intro v7 w7' ho hg; (obtain ⟨A7, k7, rfl, _⟩ := SeesR.own ho); (have hw' := HW6.out.grown hg (Ne.symm (own_apart HX6.out HW6.out (by decide)))); (have hq' := HQ6.out.kept hg (own_types HQ6.out HX6.out (by decide))); (have hb' := HB6.out.grown hg (Nat.le_trans HBB.out HB6.out.size) (fun j hj => (HX6.out.lt j hj).1)); (have HW7' := Lib.hid hw'); (have HX7' := Lib.hid ho); (have HQ7' := Lib.hid hq'); (have HB7' := Lib.hid hb'); clear ho hg hw' hq' hb' h0 h1 h2 h3 h4 h5 h6 h7 h8 h9 h10 h11 h12 f0 f1 f2 f3 f4 f12; (obtain ⟨h0, h1, h2, h3, h4, h5, h6, h7, h8, h9, h10, h11, h12⟩ := sc_facts HW7'.out); (obtain ⟨f0, f1, f2, f3, f4, f12⟩ := sc_soft HW7'.out))
              go_ret2
              refine ⟨by rw [HSTZ.out]; rfl, ?_, HB7'.out.setCell (p := ⟨b, 2, none⟩) HBb.out _⟩
              rw [HSTZ.out]
              have hxo := HX7'.out.kept (gset w7' ⟨b, 2, none⟩ (.slice A7 (nx + nt) k7)) (.inr (own_apart HX7'.out HW7'.out (by decide)))
              refine ⟨_, _, _, .slice A1 (nq + 1) k1, ⟨?_, RecsAt.own (base := B) (v := .slice A7 (nx + nt) k7) ?_, by show RecsAt _ _ a.ns; rw [HNS.out]; exact RecsAt.nil _, by show RecsAt _ _ a.ad; rw [HAD.out]; exact RecsAt.nil _⟩, fun h => by cases h⟩
              · show Whole _ b scT #[.int .i64 a.rc, _, _, _, _, _, _, _, _, _, _, _, _]
                rw [← HA0.out]
                exact sc_put2 HW7'.out _
              · show World.ownsRow _ _ _ _ _ (a.an ++ lt).length (rcells (a.an ++ lt))
                rw [List.length_append, ← HNX.out, ← HNT.out]
                exact hxo
          · have hn5p : (0 : Int) < (n5 : Int) := by omega
            have hn5q : 0 < n5 := by omega
            obtain ⟨g5, k5a, x, rfl, hx0⟩ := own_first ho5 hn5q
            have hal : aliasZ l5 = x.toRec.d := by
              cases hq : l5 with
              | nil => rw [hq] at hx0; cases hx0
              | cons y r => rw [hq] at hx0; injection hx0 with hx0; subst hx0; rfl
            have HST := Lib.hid (show stepZ D nn t a asked n = ({ a with aa := true, an := a.an ++ l5 }, x.toRec.d, followZ nn (asked ++ [n]) x.toRec.d) by
              rw [← hal, HL5.out, HL.out]; exact step_alias a asked HC.out HF.out HTT.out h5 (by rw [← HL.out, ← HL5.out, ← HN5.out]; exact hn5q))
            have HXL := Lib.hid (show x.toRec.d.length ≤ 2000 from HFD.out x (by rw [HL5.out] at hx0; exact (typX_mem.1 (List.mem_of_getElem? hx0)).1))
            have HXD := Lib.hid (rrd_data x)
            have HX0' := Lib.hid hx0
            have HG5 := Lib.hid (show g5 ≠ b from fun e => own_apart HO5.out HW5.out (by decide) (by rw [e]; rfl))
            have hge := HG5.out
            have HS5 := Lib.hid (own_sees' HO5.out)
            clear h5 ho5 hn0 hal hx0
            obtain ⟨h0, h1, h2, h3, h4, h5, h6, h7, h8, h9, h10, h11, h12⟩ := sc_facts HW5.out
            obtain ⟨f0, f1, f2, f3, f4, f12⟩ := sc_soft HW5.out
            have HLE := Lib.hid (show nx + n5 ≤ 1073741824 by omega)
            have HBS := Lib.hid (show B ≤ w5.heap.size from Nat.le_trans HBB.out HB5.out.size)
            go_wp2_with (at_builtin; (refine wpList_append_R rfl _ _ rfl B _ nx a.an rfl HX5.out w5.heap.size (some ⟨g5, 0, none⟩) n5 k5a l5 rfl HS5.out HLE.out HBS.out ?_); intro v6 w6' ho hg; (obtain ⟨A6, k6, rfl, _⟩ := SeesR.own ho); (have hw' := HW5.out.grown hg (Ne.symm (own_apart HX5.out HW5.out (by decide)))); (have hq' := HQ5.out.kept hg (own_types HQ5.out HX5.out (by decide))); (have hb' := HB5.out.grown hg (Nat.le_trans HBB.out HB5.out.size) (fun j hj => (HX5.out.lt j hj).1)); (have HW6' := Lib.hid hw'); (have HX6' := Lib.hid ho); (have HQ6' := Lib.hid hq'); (have HB6' := Lib.hid hb'); (have hoe := HO5.out.kept hg (own_old HLO.out HO5.out)); (obtain ⟨_, _, _, _, hd4⟩ := RowX.five (show RowX w4.heap.size g5 n5 k5a l5 w6' from hoe) HX0'.out); (have hd5 : w6'.cell? ⟨g5, 4, none⟩ = some (.string x.d) := (by simpa using hd4)); clear hoe hd4; clear ho hg hw' hq' hb' h0 h1 h2 h3 h4 h5 h6 h7 h8 h9 h10 h11 h12 f0 f1 f2 f3 f4 f12; (obtain ⟨h0, h1, h2, h3, h4, h5, h6, h7, h8, h9, h10, h11, h12⟩ := sc_facts HW6'.out); (obtain ⟨f0, f1, f2, f3, f4, f12⟩ := sc_soft HW6'.out))
            have hwc := sc_put2 HW6'.out (.slice A6 (nx + n5) k6)
            have hxc := HX6'.out.kept (gset w6' ⟨b, 2, none⟩ (.slice A6 (nx + n5) k6)) (.inr (own_apart HX6'.out HW6'.out (by decide)))
            have hqc := HQ6'.out.kept (gset w6' ⟨b, 2, none⟩ (.slice A6 (nx + n5) k6)) (.inr (own_apart HQ6'.out HW6'.out (by decide)))
            have hbc := HB6'.out.setCell (p := ⟨b, 2, none⟩) HBb.out (.slice A6 (nx + n5) k6)
            clear h0 h1 h2 h3 h4 h5 h6 h7 h8 h9 h10 h11 h12 f0 f1 f2 f3 f4 f12; clear hd5 hge
            generalize (w6'.setCell ⟨b, 2, none⟩ (.slice A6 (nx + n5) k6)) = w7 at hwc hxc hqc hbc ⊢
            have HW7 := Lib.hid hwc
            have HX7 := Lib.hid hxc
            have HQ7 := Lib.hid hqc
            have HB7 := Lib.hid hbc
            have HZ7 := Lib.hid (HZB.out.up HB7.out (Nat.le_trans HBB.out HB7.out.size))
            clear hwc hxc hqc hbc
            refine (follows_any N nn D GZ.out HN.out w7 b a0 true _ _ _ _ A c s A1 (nq + 1) k1 rfl HW7.out HZ7.out (asked ++ [n]) (own_textS HQ7.out) HSM.out (by omega) x.d x.toRec.d HXD.out (by have := HXL.out; omega)).mono ?_
            rintro e w8 ⟨rfl, hB⟩
            have HW8 := Lib.hid (HW7.out.below hB HW7.out.lt)
            have HX8 := Lib.hid (own_keep HX7.out hB)
            have HQ8 := Lib.hid (own_keep HQ7.out hB)
            have HB8 := Lib.hid (HB7.out.trans (hB.mono (Nat.le_trans HBB.out HB7.out.size)))
            have HZ8 := Lib.hid (HZB.out.up HB8.out (Nat.le_trans HBB.out HB8.out.size))
            clear hB
            go_wp2_with fail
            go_ret2
            refine ⟨by rw [HST.out, HXD.out]; rfl, ?_, HB8.out⟩
            rw [HST.out]
            have hxo : w8.ownsRow B 26 5 (.slice A6 (nx + n5) k6) (a.an ++ l5).length (rcells (a.an ++ l5)) := by
              rw [List.length_append, ← HNX.out, ← HN5.out]
              exact HX8.out
            refine ⟨.slice A6 (nx + n5) k6, .slice none 0 0, .slice none 0 0, .slice A1 (nq + 1) k1, ⟨?_, RecsAt.own hxo, by show RecsAt _ _ a.ns; rw [HNS.out]; exact RecsAt.nil _, by show RecsAt _ _ a.ad; rw [HAD.out]; exact RecsAt.nil _⟩, fun _ => ⟨rfl, rfl, hxo, ?_⟩⟩
            · show Whole _ b scT #[.int .i64 a.rc, _, _, _, _, _, _, _, _, _, _, _, _]
              rw [← HA0.out]
              exact HW8.out
            · rw [List.length_append, ← HNQ.out]
              exact HQ8.out
end Go.Proofs.YtkgihfoknpimfaaGreat
namespace Go.Proofs.YtkgihfoknpimfaaGreat
open Go.RowKit Go.Op
set_option linter.unusedVariables false

def AnsOut (w : World) (a : Ans) (e : Ending) : Prop := ∃ vx vy vz, e = .returned (.agg #[.int .i64 a.rc, .bool a.aa, vx, vy, vz]) ∧ RecsAt w vx a.an ∧ RecsAt w vy a.ns ∧ RecsAt w vz a.ad
theorem RecsAt.keep {w w' : World} {v : Value} {l : List Rrd} (h : RecsAt w v l) (hb : Below w.heap.size w w') : RecsAt w' v l := by
  obtain ⟨A, c, e, hs⟩ := h
  exact ⟨A, c, e, (hs.keep hb).more hb.size⟩
theorem own_slLen {w : World} {base : Nat} {e : TypeId} {k : Nat} {v : Value} {n : Nat} {xs : List Value} (h : w.ownsRow base e k v n xs) : slLen v = n := by
  rcases h.2 with ⟨rfl, h0⟩ | ⟨g, cap, cur, rfl, _⟩
  · exact h0.symm
  · rfl
theorem recs_far5 {w : World} {A : Option Addr} {n : Nat} {xs : List Rrd} {r t : Nat} {i : Int} {z : Bool} {p1 p2 p3 : Option Addr} {n1 n2 n3 c1 c2 c3 : Nat} (h : SeesR w w.heap.size A n xs)
    (hr : Whole w r t #[.int .i64 i, .bool z, .slice p1 n1 c1, .slice p2 n2 c2, .slice p3 n3 c3]) (u0 u1 u2 u3 u4 : Value) :
    SeesR (((((w.setCell ⟨r, 0, none⟩ u0).setCell ⟨r, 1, none⟩ u1).setCell ⟨r, 2, none⟩ u2).setCell ⟨r, 3, none⟩ u3).setCell ⟨r, 4, none⟩ u4) (((((w.setCell ⟨r, 0, none⟩ u0).setCell ⟨r, 1, none⟩ u1).setCell ⟨r, 2, none⟩ u2).setCell ⟨r, 3, none⟩ u3).setCell ⟨r, 4, none⟩ u4).heap.size A n xs := by
  refine ⟨h.1, fun hn => ?_⟩
  obtain ⟨b, off, e, hlt, hc⟩ := h.2 hn
  have hg := grown_put (grown_put (grown_put (grown_put (grown_put (grow_refl w (Option.some r)) 0 u0) 1 u1) 2 u2) 3 u3) 4 u4
  have hbr : b ≠ r := by
    rintro rfl
    obtain ⟨x, hx⟩ : ∃ x, xs[0]? = some x := ⟨xs[0]'(by rw [h.1]; exact hn), List.getElem?_eq_getElem _⟩
    have h0 := (hc 0 x hx).1
    rw [hr.cell] at h0
    simp only [Nat.zero_mul, Nat.add_zero] at h0
    match off, h0 with
    | 0, h0 => simp at h0
    | 1, h0 => simp at h0
    | 2, h0 => simp at h0
    | 3, h0 => simp at h0
    | 4, h0 => simp at h0
    | o + 5, h0 => simp at h0
  have hk : ∀ o, (((((w.setCell ⟨r, 0, none⟩ u0).setCell ⟨r, 1, none⟩ u1).setCell ⟨r, 2, none⟩ u2).setCell ⟨r, 3, none⟩ u3).setCell ⟨r, 4, none⟩ u4).cell? ⟨b, o, none⟩ = w.cell? ⟨b, o, none⟩ :=
    fun o => World.cell?_of_block (hg.block b hlt (fun e => hbr (by injection e)))
  refine ⟨b, off, e, Nat.lt_of_lt_of_le hlt hg.size, fun j x hx => ?_⟩
  obtain ⟨a0, a1, a2, a3, a4⟩ := hc j x hx
  exact ⟨(hk _).trans a0, (hk _).trans a1, (hk _).trans a2, (hk _).trans a3, (hk _).trans a4⟩
theorem an_cells {w : World} {r t : Nat} {a0 a1 a2 a3 a4 : Value} (h : Whole w r t #[a0, a1, a2, a3, a4]) : w.cell? ⟨r, 0, none⟩ = some a0 ∧ w.cell? ⟨r, 1, none⟩ = some a1 ∧ w.cell? ⟨r, 2, none⟩ = some a2 ∧ w.cell? ⟨r, 3, none⟩ = some a3 ∧ w.cell? ⟨r, 4, none⟩ = some a4 :=
  ⟨(h.cell 0).trans rfl, (h.cell 1).trans rfl, (h.cell 2).trans rfl, (h.cell 3).trans rfl, (h.cell 4).trans rfl⟩
theorem an_soft {w : World} {r t : Nat} {cs : Array Value} (h : Whole w r t cs) : w.frozen? ⟨r, 0, none⟩ = false ∧ w.frozen? ⟨r, 1, none⟩ = false ∧ w.frozen? ⟨r, 2, none⟩ = false ∧ w.frozen? ⟨r, 3, none⟩ = false ∧ w.frozen? ⟨r, 4, none⟩ = false :=
  ⟨h.frozen 0, h.frozen 1, h.frozen 2, h.frozen 3, h.frozen 4⟩
theorem an_size : (Tryz.prog.info? anT).map (·.size) = some 5 := by kernel_rfl
theorem retA5 {fn : Func} {R : Ending → World → Prop} {a : Act} {w : World} {p r : Nat} {a0 a1 a2 a3 a4 : Value} (hf : fn.results = #[.cell p anT]) (hd : a.defers = []) (hp : a.tmps.getD p undef = .pointer (some ⟨r, 0, none⟩))
    (h : Whole w r anT #[a0, a1, a2, a3, a4]) (hR : R (.returned (.agg #[a0, a1, a2, a3, a4])) w) : bodyPost Tryz.prog fn R .ret a w :=
  bodyPost_ret (results_cell_row hf _ _ r _ _ (0, 0) _ hp h Tryz.underlying39 rfl an_size) hd hR
def LoopAt (w : World) (B b : Nat) (N : ByteArray) (nn : List UInt8) (D : List Rrd) (t : Int) (A : Option Addr) (c : Nat) (s : Rrd) (R : Ans) (X : ByteArray) (mb : Bool) : Prop :=
  ∃ (a : Ans) (asked : List (List UInt8)) (vx vy vz vq : Value), SrchAt w b N D A c s a vx vy vz vq ∧ (mb = false → a = R) ∧
    (mb = true → ∃ f x, X = mk x ∧ x.length ≤ 255 ∧ f + 1 + asked.length = 8 ∧ a.ns = [] ∧ a.ad = [] ∧ vy = .slice none 0 0 ∧ vz = .slice none 0 0 ∧ w.ownsRow B 26 5 vx a.an.length (rcells a.an) ∧ w.ownsRow B 9 1 vq asked.length (textL asked) ∧
      a.an.length ≤ 1000 * asked.length ∧ (∀ m ∈ asked, m.length ≤ 255) ∧ askF D nn t (f + 1) a asked x = R)
def askM (b : Nat) (m : Value) (w : World) : Nat := match m with | .bool true => 9 - slLen ((w.cell? ⟨b, 12, none⟩).getD undef) | _ => 0
theorem step_len {D : List Rrd} (hD : D.length ≤ 1000) (nn : List UInt8) (t : Int) (a : Ans) (asked : List (List UInt8)) (n : List UInt8) : (stepZ D nn t a asked n).1.an.length ≤ a.an.length + 1000 := by
  have hf := fnd_len D nn n
  have h5 := typX_len 5 (fndZ D nn n).1
  have ht := typX_len t (fndZ D nn n).1
  unfold stepZ
  split
  · show a.an.length ≤ _; omega
  · split
    · split
      · show (a.an ++ _).length ≤ _; rw [List.length_append]; omega
      · split
        · show (a.an ++ _).length ≤ _; rw [List.length_append]; omega
        · show (a.an ++ _).length ≤ _; rw [List.length_append]; omega
    · show a.an.length ≤ _; omega
theorem step_more {D : List Rrd} {nn : List UInt8} {t : Int} {a : Ans} {asked : List (List UInt8)} {n : List UInt8} (h : (stepZ D nn t a asked n).2.2 = true) :
    (stepZ D nn t a asked n).1.ns = a.ns ∧ (stepZ D nn t a asked n).1.ad = a.ad ∧ underN (stepZ D nn t a asked n).2.1 nn = true ∧ asked.length + 1 < 8 := by
  unfold stepZ at h ⊢
  split
  · rename_i hc
    rw [hc] at h
    cases h
  · rename_i hc
    rw [hc] at h
    simp only at h
    split
    · rename_i hf
      rw [if_pos hf] at h
      split
      · rename_i ht
        rw [if_pos ht] at h
        cases h
      · rename_i ht
        rw [if_neg ht] at h
        split
        · rename_i h5
          rw [if_pos h5] at h
          have h' : followZ nn (asked ++ [n]) (aliasZ (typX 5 (fndZ D nn n).1)) = true := h
          unfold followZ at h'
          rw [Bool.and_eq_true, Bool.and_eq_true, decide_eq_true_eq, List.length_append] at h'
          exact ⟨rfl, rfl, h'.1, h'.2.2⟩
        · rename_i h5
          rw [if_neg h5] at h
          cases h
    · rename_i hf
      rw [if_neg hf] at h
      cases h
set_option maxHeartbeats 32000000 in
set_option maxRecDepth 20000 in
theorem LAsk_any (N : ByteArray) (nn : List UInt8) (D : List Rrd) (v : Value) (w : World) (hz : ZoneAt w w.heap.size N D v) (gz : GoodZ nn D) (hN : N = mk nn) (P : ByteArray) (n : List UInt8) (t : Int) (hP : P = mk n) (hl : n.length ≤ 1000000) :
    Calls Tryz.prog 13 #[v, .string P, .int .i64 t] w fun e w' => AnsOut w' (askZ D nn n t) e ∧ Below w.heap.size w w' := by
  have HZV := Lib.hid hz
  obtain ⟨A, c, s, rfl, hs, hcap, hsoa⟩ := hz
  have hw0 := Whole.new w zoT #[.string N, .slice A D.length c, .string s.s, .int .i64 s.t, .int .i64 s.c, .int .i64 s.l, .string s.d]
  have hB0 : Below w.heap.size w (w.alloc (.cells #[.string N, .slice A D.length c, .string s.s, .int .i64 s.t, .int .i64 s.c, .int .i64 s.l, .string s.d] zoT)) := (Below.refl _ _).alloc (Nat.le_refl _) _
  obtain ⟨c0, c1, c2, c3, c4, c5, c6⟩ := zo_facts hw0
  have HW0 := Lib.hid hw0
  have HZ0 := Lib.hid (HZV.out.later hB0)
  have HB0 := Lib.hid hB0
  have GZ := Lib.hid gz
  clear hw0 hB0 hs hcap hsoa
  clear gz
  have HP := Lib.hid hP
  have HN := Lib.hid hN
  have HNL := Lib.hid (right_len GZ.out.nm)
  clear hP hN
  obtain ⟨W1, hW1⟩ : ∃ W, W = w.alloc (.cells #[.string N, .slice A D.length c, .string s.s, .int .i64 s.t, .int .i64 s.c, .int .i64 s.l, .string s.d] zoT) := ⟨_, rfl⟩
  rw [← hW1] at HW0 HZ0 HB0
  have hs1 : W1.heap.size = w.heap.size + 1 := by rw [hW1, World.size_alloc]
  have hB1 : Below W1.heap.size W1 (W1.alloc (.cells #[.int .i64 0, .bool false, .slice none 0 0, .slice none 0 0, .slice none 0 0] anT)) := (Below.refl _ _).alloc (Nat.le_refl _) _
  have hwa := Whole.new W1 anT #[.int .i64 0, .bool false, .slice none 0 0, .slice none 0 0, .slice none 0 0]
  rw [hs1] at hwa
  obtain ⟨W2, hW2⟩ : ∃ W, W = W1.alloc (.cells #[.int .i64 0, .bool false, .slice none 0 0, .slice none 0 0, .slice none 0 0] anT) := ⟨_, rfl⟩
  rw [← hW2] at hB1 hwa
  have HWA2 := Lib.hid hwa
  have HW2 := Lib.hid (HW0.out.below hB1 HW0.out.lt)
  have HZ2 := Lib.hid (HZ0.out.later hB1)
  have HB2 := Lib.hid (HB0.out.trans (hB1.mono HB0.out.size))
  have HE1 := Lib.hid hW1
  have HE2 := Lib.hid hW2
  clear c0 c1 c2 c3 c4 c5 c6 hs1 hB1 hwa hW1 hW2
  obtain ⟨c0, c1, c2, c3, c4, c5, c6⟩ := zo_facts HW2.out
  go_enter Tryz.func13, Tryz.ntmps13
  go_wp2_with fail
  rw [← HE1.out, ← HE2.out]
  refine (Apex_any N D _ _ HZ2.out).mono ?_
  rintro e w3 ⟨rfl, hB⟩
  have hw3 := HW2.out.below hB HW2.out.lt
  obtain ⟨c0, c1, c2, c3, c4, c5, c6⟩ := zo_facts hw3
  have HW3 := Lib.hid hw3
  have HWA3 := Lib.hid (HWA2.out.below hB HWA2.out.lt)
  have HZ3 := Lib.hid (HZ2.out.later hB)
  have HB3 := Lib.hid (HB2.out.trans (hB.mono HB2.out.size))
  clear hB hw3
  go_wp2_with fail
  refine (Under_any P N n nn _ HP.out HN.out (by omega) (by have := HNL.out; omega)).mono ?_
  cases hu : underN n nn with
  | false =>
    have HU := Lib.hid (show askZ D nn n t = { ansO with rc := 5 } by unfold askZ; rw [if_neg (by rw [hu]; simp)])
    clear hu
    rintro e w4 ⟨rfl, hB⟩
    have hw4 := HW3.out.below hB HW3.out.lt
    obtain ⟨c0, c1, c2, c3, c4, c5, c6⟩ := zo_facts hw4
    have HW4 := Lib.hid hw4
    have HWA4 := Lib.hid (HWA3.out.below hB HWA3.out.lt)
    have HZ4 := Lib.hid (HZ3.out.later hB)
    have HB4 := Lib.hid (HB3.out.trans (hB.mono HB3.out.size))
    clear hB hw4
    obtain ⟨y0, y1, y2, y3, y4⟩ := an_cells HWA4.out
    obtain ⟨k0, k1, k2, k3, k4⟩ := an_soft HWA4.out
    go_wp2_with fail
    refine retA5 rfl rfl rfl (five_put HWA4.out _ _ _ _ _) ⟨?_, five_below HB4.out (by omega) _ _ _ _ _⟩
    rw [HU.out]
    exact ⟨_, _, _, rfl, RecsAt.nil _, RecsAt.nil _, RecsAt.nil _⟩
  | true =>
    have HU := Lib.hid (show askZ D nn n t = askF D nn t (7 + 1) ansO [] n by unfold askZ; rw [if_pos hu])
    have HL255 := Lib.hid (under_small hu)
    clear hu
    rintro e w4 ⟨rfl, hB⟩
    have hw4 := HW3.out.below hB HW3.out.lt
    obtain ⟨c0, c1, c2, c3, c4, c5, c6⟩ := zo_facts hw4
    have HW4 := Lib.hid hw4
    have HWA4 := Lib.hid (HWA3.out.below hB HWA3.out.lt)
    have HZ4 := Lib.hid (HZ3.out.later hB)
    have HB4 := Lib.hid (HB3.out.trans (hB.mono HB3.out.size))
    clear hB hw4
    go_wp2_with fail
    have hw5 := Whole.new w4 scT #[.int .i64 0, .bool false, .slice none 0 0, .slice none 0 0, .slice none 0 0, .string N, .slice A D.length c, .string s.s, .int .i64 s.t, .int .i64 s.c, .int .i64 s.l, .string s.d, .slice none 0 0]
    have hB5 : Below w4.heap.size w4 (w4.alloc (.cells #[.int .i64 0, .bool false, .slice none 0 0, .slice none 0 0, .slice none 0 0, .string N, .slice A D.length c, .string s.s, .int .i64 s.t, .int .i64 s.c, .int .i64 s.l, .string s.d, .slice none 0 0] scT)) := (Below.refl _ _).alloc (Nat.le_refl _) _
    generalize (w4.alloc (.cells #[.int .i64 0, .bool false, .slice none 0 0, .slice none 0 0, .slice none 0 0, .string N, .slice A D.length c, .string s.s, .int .i64 s.t, .int .i64 s.c, .int .i64 s.l, .string s.d, .slice none 0 0] scT)) = w5 at hw5 hB5 ⊢
    have hZ5 := HZ4.out.keep hB5
    have hA5 := HWA4.out.below hB5 HWA4.out.lt
    have hB05 := HB4.out.trans (hB5.mono HB4.out.size)
    have hlt := HWA4.out.lt
    have hwle := HB4.out.size
    have hbs := hB5.size
    generalize w4.heap.size = b at hw5 hZ5 hlt hwle hbs ⊢
    have HW5 := Lib.hid hw5
    have HZ5 := Lib.hid hZ5
    have HWA5 := Lib.hid hA5
    have HB5 := Lib.hid hB05
    have HLT := Lib.hid hlt
    have HWL := Lib.hid hwle
    have HBS := Lib.hid hbs
    obtain ⟨R, hR⟩ : ∃ R, R = askF D nn t (7 + 1) ansO [] n := ⟨_, rfl⟩
    have HR := Lib.hid hR
    have HU2 := Lib.hid (show askZ D nn n t = R by rw [HU.out, hR])
    clear hw5 hB5 hZ5 hA5 hB05 hlt hwle hbs hR c0 c1 c2 c3 c4 c5 c6
    go_loopw [1, 8] (fun i m wr => ∃ (X : ByteArray) (mb : Bool), i = .string X ∧ m = .bool mb ∧ LoopAt wr b b N nn D t A c s R X mb ∧ Below b w5 wr) (fun _ m wr => askM b m wr)
    case atStart =>
      refine ⟨P, true, rfl, rfl, ⟨ansO, [], _, _, _, _, ⟨HW5.out, RecsAt.nil _, RecsAt.nil _, RecsAt.nil _⟩, fun h => (by cases h), fun _ => ⟨7, n, HP.out, HL255.out, rfl, rfl, rfl, rfl, rfl, own_nil _ _ _ _, own_nil _ _ _ _, (by simp [ansO]), (by simp), HR.out.symm⟩⟩, Below.refl _ _⟩
    case round =>
      obtain ⟨X, mb, rfl, rfl, ⟨a, asked, vx, vy, vz, vq, ⟨hw, hx, hy, hz⟩, hno, hyes⟩, hB⟩ := hrel
      have HBR := Lib.hid hB
      have HWR := Lib.hid hw
      have HAR := Lib.hid (HWA5.out.below hB HLT.out)
      have HBW := Lib.hid (HB5.out.trans (hB.mono HWL.out))
      clear hw hB
      cases mb with
      | false =>
        have HAE := Lib.hid (hno rfl)
        obtain ⟨Ax, cx, rfl, hsx⟩ := hx
        obtain ⟨Ay, cy, rfl, hsy⟩ := hy
        obtain ⟨Az, cz, rfl, hsz⟩ := hz
        have HSX := Lib.hid (recs_far5 hsx HAR.out)
        have HSY := Lib.hid (recs_far5 hsy HAR.out)
        have HSZ := Lib.hid (recs_far5 hsz HAR.out)
        clear hno hyes hsx hsy hsz
        obtain ⟨h0, h1, h2, h3, h4, _, _, _, _, _, _, _, _⟩ := sc_facts HWR.out
        obtain ⟨y0, y1, y2, y3, y4⟩ := an_cells HAR.out
        obtain ⟨k0, k1, k2, k3, k4⟩ := an_soft HAR.out
        go_wp2_with fail
        refine retA5 rfl rfl rfl (five_put HAR.out _ _ _ _ _) ⟨?_, five_below HBW.out (by omega) _ _ _ _ _⟩
        rw [HU2.out, ← HAE.out]
        exact ⟨_, _, _, rfl, ⟨_, _, rfl, HSX.out _ _ _ _ _⟩, ⟨_, _, rfl, HSY.out _ _ _ _ _⟩, ⟨_, _, rfl, HSZ.out _ _ _ _ _⟩⟩
      | true =>
        obtain ⟨f, x, hX, hx255, hf8, hns, had, rfl, rfl, hox, hoq, han, hsm, hask⟩ := hyes rfl
        clear hno hyes hx hy hz
        have HX := Lib.hid hX
        have HNS := Lib.hid hns
        have HAD := Lib.hid had
        have HOX := Lib.hid hox
        have HOQ := Lib.hid hoq
        have HSM := Lib.hid hsm
        have HASK := Lib.hid hask
        have HAN := Lib.hid han
        have HF8 := Lib.hid hf8
        have HX255 := Lib.hid hx255
        obtain ⟨st, hst⟩ : ∃ st, st = stepZ D nn t a asked x := ⟨_, rfl⟩
        obtain ⟨M, hM⟩ : ∃ M, M = mk st.2.1 := ⟨_, rfl⟩
        obtain ⟨mo, hmo⟩ : ∃ mo, mo = st.2.2 := ⟨_, rfl⟩
        have HST := Lib.hid hst
        have HM := Lib.hid hM
        have HMO := Lib.hid hmo
        clear hX hns had hox hoq hsm hask han hf8 hx255 hst hM hmo
        go_wp2_with fail
        refine (visit_any N nn D GZ.out HN.out wr b b a vx vq A c s asked (Nat.le_trans HBS.out HBR.out.size) (Nat.le_refl _) HNS.out HAD.out HWR.out HOX.out HOQ.out (HZ5.out.keep HBR.out) (by have := HF8.out; omega) HAN.out HSM.out X x t HX.out HX255.out).mono ?_
        rw [← HST.out, ← HM.out, ← HMO.out]
        rintro e w7 ⟨rfl, hvo, hB7⟩
        have HVO := Lib.hid hvo
        have HB7 := Lib.hid (HBR.out.trans hB7)
        clear hvo hB7
        go_wp2_with fail
        go_roundw
        case rel =>
          obtain ⟨ux, uy, uz, uq, hs7, hgo⟩ := HVO.out
          have hstep : R = if st.2.2 = true then askF D nn t f st.1 (asked ++ [x]) st.2.1 else st.1 := by
            rw [← HASK.out, askF, HST.out]
          refine ⟨M, mo, rfl, rfl, ⟨st.1, asked ++ [x], ux, uy, uz, uq, hs7, fun h => ?_, fun h => ?_⟩, HB7.out⟩
          · rw [hstep, if_neg (by rw [← HMO.out, h]; simp)]
          · obtain ⟨e1, e2, e3, e4⟩ := hgo h
            have hm := step_more (D := D) (nn := nn) (t := t) (a := a) (asked := asked) (n := x) (by rw [← HST.out, ← HMO.out]; exact h)
            rw [← HST.out] at hm
            obtain ⟨m1, m2, m3, m4⟩ := hm
            have hsl := step_len GZ.out.len nn t a asked x
            rw [← HST.out] at hsl
            have hf := HF8.out
            refine ⟨f - 1, st.2.1, HM.out, under_small m3, by rw [List.length_append, List.length_singleton]; omega, by rw [m1]; exact HNS.out, by rw [m2]; exact HAD.out, e1, e2, e3, e4, ?_, ?_, ?_⟩
            · rw [List.length_append, List.length_singleton]; have := HAN.out; omega
            · intro m hm
              rcases List.mem_append.1 hm with h' | h'
              · exact HSM.out m h'
              · obtain rfl := List.mem_singleton.1 h'; exact HX255.out
            · rw [show f - 1 + 1 = f by omega, hstep, if_pos (by rw [← HMO.out]; exact h)]
        case measure =>
          obtain ⟨ux, uy, uz, uq, hs7, hgo⟩ := HVO.out
          have h1 : askM b (.bool true) wr = 9 - asked.length := by
            unfold askM
            rw [(HWR.out.cell 12)]
            show 9 - slLen vq = _
            rw [own_slLen HOQ.out]
          have h2 : askM b (.bool mo) w7 < 9 - asked.length := by
            have hf := HF8.out
            cases hq : mo with
            | false => show 0 < _; omega
            | true =>
              unfold askM
              rw [(hs7.1.cell 12)]
              show 9 - slLen uq < _
              rw [own_slLen (hgo hq).2.2.2, List.length_append, List.length_singleton]
              omega
          show askM b (.bool mo) w7 < askM b (.bool true) wr
          rw [h1]
          exact h2
end Go.Proofs.YtkgihfoknpimfaaGreat
namespace Go.Proofs.YtkgihfoknpimfaaGreat
open Go.RowKit Go.Op
set_option linter.unusedVariables false

theorem good_leL : GoodZ [1, 97, 0] leL := by
  refine ⟨ok_leL, ?_, ?_, by rw [name_a]; rfl, by decide⟩
  · have := (ofC_set leL).keys; rwa [ofC_leL] at this
  · have := isZ_leL; rwa [ofC_leL] at this
theorem ask_leL : (askZ leL [1, 97, 0] [1, 97, 0] 2).aa = true ∧ (askZ leL [1, 97, 0] [1, 97, 0] 2).an.length = 1 := by
  have hf : fndZ leL [1, 97, 0] [1, 97, 0] = (leL, true) := by rw [fnd_known le_under (apex_known good_leL le_alike), at_leL]
  have hs := step_typed (D := leL) (nn := [1, 97, 0]) (n := [1, 97, 0]) (t := 2) ansO [] (cutZ_apex le_alike) (by rw [hf]) (by decide) (by rw [hf]; decide)
  unfold askZ
  rw [if_pos le_under, askF, hs, hf]
  exact ⟨rfl, by decide⟩
set_option maxHeartbeats 8000000 in
set_option maxRecDepth 20000 in
theorem lawake_any (w : World) : Calls Tryz.prog 8 #[] w fun e w' => e = .returned (.bool true) ∧ Below w.heap.size w w' := by
  go_enter Tryz.func8, Tryz.ntmps8
  go_wp2_with fail
  refine (Least_any _).mono ?_
  rintro e w1 ⟨⟨A, c, rfl, hs⟩, hB⟩
  have HB1 := Lib.hid hB
  have HS1 := Lib.hid hs
  clear hB hs
  go_wp2_with fail
  refine (New_yes A 2 c ⟨#[1, 97, 0]⟩ [1, 97, 0] leL _ rfl (by decide) HS1.out (by decide) low_leL (by rw [name_a]; rfl) ok_leL isZ_leL).mono ?_
  rintro e w2 ⟨⟨v, rfl, hz⟩, hB⟩
  have HB2 := Lib.hid (HB1.out.trans (hB.mono HB1.out.size))
  rw [ofC_leL] at hz
  have HZ := Lib.hid hz
  obtain ⟨A2, c2', s2, rfl, hs2, hcap2, hsoa2⟩ := hz
  have hw0 := Whole.new w2 zoT #[.string ⟨#[1, 97, 0]⟩, .slice A2 leL.length c2', .string s2.s, .int .i64 s2.t, .int .i64 s2.c, .int .i64 s2.l, .string s2.d]
  have hB0 : Below w2.heap.size w2 (w2.alloc (.cells #[.string ⟨#[1, 97, 0]⟩, .slice A2 leL.length c2', .string s2.s, .int .i64 s2.t, .int .i64 s2.c, .int .i64 s2.l, .string s2.d] zoT)) := (Below.refl _ _).alloc (Nat.le_refl _) _
  obtain ⟨c0, c1, c2, c3, c4, c5, c6⟩ := zo_facts hw0
  have HZ3 := Lib.hid (HZ.out.later hB0)
  have HW3 := Lib.hid hw0
  have HB3 := Lib.hid (HB2.out.trans (hB0.mono HB2.out.size))
  clear hB hw0 hB0 hs2 hcap2 hsoa2
  go_wp2_with fail
  refine (All_any ⟨#[1, 97, 0]⟩ leL _ _ HZ3.out (by decide)).mono ?_
  rintro e w5 ⟨u, rfl, ho, hB⟩
  obtain ⟨A5, c5', rfl, _, _⟩ := own_sees ho
  have HZ5 := Lib.hid (HZ3.out.later hB)
  have hw := HW3.out.below hB HW3.out.lt
  have HB5 := Lib.hid (HB3.out.trans (hB.mono HB3.out.size))
  obtain ⟨c0, c1, c2, c3, c4, c5, c6⟩ := zo_facts hw
  clear hB hw ho
  rw [show leL.length = 2 from rfl] at *
  go_wp2_with fail
  refine (LAsk_any ⟨#[1, 97, 0]⟩ [1, 97, 0] leL _ _ HZ5.out good_leL rfl ⟨#[1, 97, 0]⟩ [1, 97, 0] 2 rfl (by decide)).mono ?_
  have h1 := ask_leL.1
  have h2 := ask_leL.2
  generalize askZ leL [1, 97, 0] [1, 97, 0] 2 = R at h1 h2 ⊢
  rintro e w6 ⟨⟨vx, vy, vz, rfl, ⟨Ax, cx, rfl, _⟩, ⟨Ay, cy, rfl, _⟩, ⟨Az, cz, rfl, _⟩⟩, hB⟩
  rw [h1, h2]
  have HB6 := Lib.hid (HB5.out.trans (hB.mono HB5.out.size))
  clear hB h1 h2 c0 c1 c2 c3 c4 c5 c6
  go_wp2_with fail
  go_ret
  exact ⟨rfl, HB6.out.alloc HB6.out.size _⟩
end Go.Proofs.YtkgihfoknpimfaaGreat
