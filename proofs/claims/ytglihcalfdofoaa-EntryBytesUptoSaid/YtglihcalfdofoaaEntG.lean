/- The reference's Formed, Bytes, Same. No statement of the seat is proved here. -/
import Derived.Test.YtglihcalfdofoaaEntF
namespace Go.Proofs.Ytglihcalfdofoaa
open Go.RowKit Go.Op

set_option maxHeartbeats 8000000 in
set_option maxRecDepth 20000 in
theorem Formed_any (f t : Int) (A A' : Option Addr) (n c n' c' : Nat) (xs ys : List Rrd) (w : World) (h1 : SeesR w w.heap.size A n xs) (h2 : SeesR w w.heap.size A' n' ys) (hn : n ≤ 1000) (hn' : n' ≤ 1000) (hsm : ∀ x ∈ xs ++ ys, x.s.size ≤ 600 ∧ x.d.size ≤ 2000) :
    Calls Try.prog 10 #[.agg (enA f t A n c A' n' c')] w fun e w' => e = .returned (.bool (okE (entOf f t xs ys))) ∧ Below w.heap.size w w' := by
  obtain ⟨W, hW⟩ : ∃ W, W = w.alloc (.cells (enA f t A n c A' n' c') enT) := ⟨_, rfl⟩
  obtain ⟨g, hg⟩ : ∃ g, g = w.heap.size := ⟨_, rfl⟩
  have HB0 := Lib.hid (show Below w.heap.size w W by rw [hW]; exact (Below.refl _ _).alloc (Nat.le_refl _) _)
  have HW0 := Lib.hid (show Whole W g enT (enA f t A n c A' n' c') by rw [hW, hg]; exact Whole.new w enT _)
  have HX := Lib.hid ((h1.keep HB0.out).more HB0.out.size)
  have HY := Lib.hid ((h2.keep HB0.out).more HB0.out.size)
  have HNX := Lib.hid h1.1
  have HNY := Lib.hid h2.1
  have HSM := Lib.hid hsm
  have HOK := Lib.hid (okE_is (f := f) (t := t) (xs := xs) (ys := ys))
  have HWW := Lib.hid hW
  have HG := Lib.hid hg
  have HMV := Lib.hid (show enA f t A n c A' n' c' = #[.int .u32 f, .int .u32 t, .slice A n c, .slice A' n' c'] from rfl)
  clear hW hg h1 h2 hsm
  rw [HMV.out]
  go_enter Try.func10, Try.ntmps10
  go_wp2_with fail
  rw [← HMV.out, ← HWW.out, ← HG.out]
  go_wp2_with fail
  go_loopw [3] (fun i wr => ∃ k : Nat, k ≤ n ∧ i = .int .i64 (k : Nat) ∧ Upto (fun x : Rrd => okR x.toRec) xs k ∧ Below W.heap.size W wr) (fun i _ => n - (intOf i).toNat)
  case atStart => exact ⟨0, Nat.zero_le _, rfl, Upto.zero _ _, Below.refl _ _⟩
  case round =>
    obtain ⟨k, hk, rfl, hup, hB⟩ := hrel
    have HU := Lib.hid hup
    have HB := Lib.hid hB
    obtain ⟨_, _, c2, c3⟩ := en_facts (HW0.out.below hB HW0.out.lt)
    clear hup hB
    by_cases hkn : k < n
    · have g2 : (k : Int) < (n : Int) := by omega
      have g0 : (0 : Int) ≤ (k : Int) := by omega
      obtain ⟨b, off, x, eA, hb, hxk, hx5⟩ := (HX.out.keep HB.out).at hkn
      rw [eA] at c2
      obtain ⟨x0, x1, x2, x3, x4⟩ := hx5
      have hx6 := (HSM.out x (by have := List.mem_of_getElem? hxk; simp [this])).2
      have hdl : x.toRec.d.length ≤ 2000 := by rw [rrd_data x, mk_size] at hx6; exact hx6
      have HRR := Lib.hid (fun (W : World) => (RefRRight_any x.s x.d x.toRec W (rrd_name x) (rrd_data x) (by omega) :
        Calls Try.prog 19 #[.agg #[.string x.s, .int .i64 x.t, .int .i64 x.c, .int .i64 x.l, .string x.d]] W fun e w' => e = .returned (.bool (okR x.toRec)) ∧ Below W.heap.size W w'))
      have HXK := Lib.hid hxk
      clear hxk hx6 hdl eA
      cases hok : okR x.toRec with
      | false =>
        have HN := Lib.hid (show okE (entOf f t xs ys) = false by rw [HOK.out]; exact not_all (xs := xs ++ ys) (k := k) (by rw [List.getElem?_append_left (by have := (List.getElem?_eq_some_iff.1 HXK.out).1; exact this)]; exact HXK.out) hok)
        have HO := Lib.hid hok
        clear hok
        go_wp2_with fail
        refine (HRR.out _).mono ?_
        rw [HO.out]
        rintro e w1 ⟨rfl, hB1⟩
        have HB1 := Lib.hid (HB0.out.trans ((HB.out.trans (hB1.mono HB.out.size)).mono HB0.out.size))
        clear hB1
        go_wp2_with fail
        go_ret
        exact ⟨by rw [HN.out]; rfl, HB1.out⟩
      | true =>
        have HU2 := Lib.hid (HU.out.succ HXK.out hok)
        have HO := Lib.hid hok
        clear hok
        go_wp2_with fail
        refine (HRR.out _).mono ?_
        rw [HO.out]
        rintro e w1 ⟨rfl, hB1⟩
        have HB1 := Lib.hid (HB.out.trans (hB1.mono HB.out.size))
        clear hB1
        go_wp2_with fail
        go_roundw
        case rel => exact ⟨k + 1, by omega, by go_num, HU2.out, HB1.out⟩
        case measure => simp [intOf]; omega
    · obtain rfl : k = n := by omega
      have hu := HU.out
      rw [← HNX.out] at hu
      have HXA := Lib.hid hu.all
      have HBX := Lib.hid HB.out
      clear hu
      go_wp2_with fail
      go_loopw [4] (fun i wr => ∃ k : Nat, k ≤ n' ∧ i = .int .i64 (k : Nat) ∧ Upto (fun x : Rrd => okR x.toRec) ys k ∧ Below W.heap.size W wr) (fun i _ => n' - (intOf i).toNat)
      case atStart => exact ⟨0, Nat.zero_le _, rfl, Upto.zero _ _, HBX.out⟩
      case round =>
        obtain ⟨k, hk, rfl, hup, hB⟩ := hrel
        have HU := Lib.hid hup
        have HB := Lib.hid hB
        obtain ⟨_, _, c2, c3⟩ := en_facts (HW0.out.below hB HW0.out.lt)
        clear hup hB
        by_cases hkn : k < n'
        · have g2 : (k : Int) < (n' : Int) := by omega
          have g0 : (0 : Int) ≤ (k : Int) := by omega
          obtain ⟨b, off, x, eA, hb, hxk, hx5⟩ := (HY.out.keep HB.out).at hkn
          rw [eA] at c3
          obtain ⟨x0, x1, x2, x3, x4⟩ := hx5
          have hx6 := (HSM.out x (by have := List.mem_of_getElem? hxk; simp [this])).2
          have hdl : x.toRec.d.length ≤ 2000 := by rw [rrd_data x, mk_size] at hx6; exact hx6
          have HRR := Lib.hid (fun (W : World) => (RefRRight_any x.s x.d x.toRec W (rrd_name x) (rrd_data x) (by omega) :
            Calls Try.prog 19 #[.agg #[.string x.s, .int .i64 x.t, .int .i64 x.c, .int .i64 x.l, .string x.d]] W fun e w' => e = .returned (.bool (okR x.toRec)) ∧ Below W.heap.size W w'))
          have HXK := Lib.hid hxk
          clear hxk hx6 hdl eA
          cases hok : okR x.toRec with
          | false =>
            have HN := Lib.hid (show okE (entOf f t xs ys) = false by rw [HOK.out]; exact not_all (xs := xs ++ ys) (k := xs.length + k) (by rw [List.getElem?_append_right (by omega), Nat.add_sub_cancel_left]; exact HXK.out) hok)
            have HO := Lib.hid hok
            clear hok
            go_wp2_with fail
            refine (HRR.out _).mono ?_
            rw [HO.out]
            rintro e w1 ⟨rfl, hB1⟩
            have HB1 := Lib.hid (HB0.out.trans ((HB.out.trans (hB1.mono HB.out.size)).mono HB0.out.size))
            clear hB1
            go_wp2_with fail
            go_ret
            exact ⟨by rw [HN.out]; rfl, HB1.out⟩
          | true =>
            have HU2 := Lib.hid (HU.out.succ HXK.out hok)
            have HO := Lib.hid hok
            clear hok
            go_wp2_with fail
            refine (HRR.out _).mono ?_
            rw [HO.out]
            rintro e w1 ⟨rfl, hB1⟩
            have HB1 := Lib.hid (HB.out.trans (hB1.mono HB.out.size))
            clear hB1
            go_wp2_with fail
            go_roundw
            case rel => exact ⟨k + 1, by omega, by go_num, HU2.out, HB1.out⟩
            case measure => simp [intOf]; omega
        · obtain rfl : k = n' := by omega
          have hu := HU.out
          rw [← HNY.out] at hu
          have HALL := Lib.hid (show okE (entOf f t xs ys) = true by rw [HOK.out, List.all_append, HXA.out, hu.all]; rfl)
          clear hu
          go_wp2_with fail
          go_ret
          exact ⟨by rw [HALL.out]; rfl, HB0.out.trans (HB.out.mono HB0.out.size)⟩

theorem four17_int (n : Int) (w : World) (hn : u32 n) : Calls Try.prog 25 #[.int .u64 n] w fun en w' => en = .returned (.string (mk (be n.toNat 4))) ∧ Below w.heap.size w w' := by
  obtain ⟨h0, h1⟩ := hn
  have := four17_any n.toNat w (by omega)
  rw [Int.toNat_of_nonneg h0] at this
  exact this
theorem rowE_le {l : List Rrd} (hok : ∀ x ∈ l, okR x.toRec = true) (hd : ∀ x ∈ l, x.s.size ≤ 600 ∧ x.d.size ≤ 2000) : (rowE ((l.map Rrd.toRec).map ownE)).length ≤ l.length * 2269 := by
  have := rowE_len 2265 ((l.map Rrd.toRec).map ownE) (fun y hy => by
    obtain ⟨r, hr, rfl⟩ := List.mem_map.1 hy
    obtain ⟨x, hx, rfl⟩ := List.mem_map.1 hr
    have h1 := own_len (hok x hx)
    have h2 := (hd x hx).2
    rw [rrd_data x, mk_size] at h2
    omega)
  simpa using this
set_option maxHeartbeats 8000000 in
set_option maxRecDepth 20000 in
theorem RBytes_any (f t : Int) (A A' : Option Addr) (n c n' c' : Nat) (xs ys : List Rrd) (w : World) (h1 : SeesR w w.heap.size A n xs) (h2 : SeesR w w.heap.size A' n' ys) (hf : u32 f) (ht : u32 t) (hn : n + n' ≤ 30) (hsm : ∀ x ∈ xs ++ ys, x.s.size ≤ 600 ∧ x.d.size ≤ 2000) (hok : okE (entOf f t xs ys) = true) :
    Calls Try.prog 11 #[.agg (enA f t A n c A' n' c')] w fun e w' => e = .returned (.string (mk (bytesE (entOf f t xs ys)))) ∧ Below w.heap.size w w' := by
  rw [okE_is, List.all_append, Bool.and_eq_true, List.all_eq_true, List.all_eq_true] at hok
  obtain ⟨ok1, ok2⟩ := hok
  have sm1 : ∀ x ∈ xs, x.s.size ≤ 600 ∧ x.d.size ≤ 2000 := fun x hx => hsm x (by simp [hx])
  have sm2 : ∀ x ∈ ys, x.s.size ≤ 600 ∧ x.d.size ≤ 2000 := fun x hx => hsm x (by simp [hx])
  have l1 := rowE_le ok1 sm1
  have l2 := rowE_le ok2 sm2
  rw [h1.1] at l1
  rw [h2.1] at l2
  obtain ⟨X1, hX1⟩ : ∃ X, X = mk (be f.toNat 4) := ⟨_, rfl⟩
  obtain ⟨X2, hX2⟩ : ∃ X, X = mk (be t.toNat 4) := ⟨_, rfl⟩
  obtain ⟨X3, hX3⟩ : ∃ X, X = mk (be n 4) := ⟨_, rfl⟩
  obtain ⟨X4, hX4⟩ : ∃ X, X = mk (rowE ((xs.map Rrd.toRec).map ownE)) := ⟨_, rfl⟩
  obtain ⟨X5, hX5⟩ : ∃ X, X = mk (rowE ((ys.map Rrd.toRec).map ownE)) := ⟨_, rfl⟩
  have z1 : X1.size = 4 := by rw [hX1, mk_size, be_length]
  have z2 : X2.size = 4 := by rw [hX2, mk_size, be_length]
  have z3 : X3.size = 4 := by rw [hX3, mk_size, be_length]
  have z4 : X4.size ≤ 68070 := by rw [hX4, mk_size]; omega
  have z5 : X5.size ≤ 68070 := by rw [hX5, mk_size]; omega
  have HE := Lib.hid (show X1 ++ X2 ++ X3 ++ X4 ++ X5 = mk (bytesE (entOf f t xs ys)) by
    rw [hX1, hX2, hX3, hX4, hX5, mk_append, mk_append, mk_append, mk_append]
    unfold bytesE entOf headE
    rw [List.map_append, rowE_append, List.length_map, h1.1]
    simp only [List.append_assoc])
  have HM1 := Lib.hid (show ∀ (V : World) (q : Later V), Calls Try.prog 25 #[.int .u64 f] q.val fun e w'' => e = .returned (.string X1) ∧ ∃ q' : Later V, w'' = q'.val from fun V q => later_call (by rw [hX1]; exact four17_int f q.val hf))
  have HM2 := Lib.hid (show ∀ (V : World) (q : Later V), Calls Try.prog 25 #[.int .u64 t] q.val fun e w'' => e = .returned (.string X2) ∧ ∃ q' : Later V, w'' = q'.val from fun V q => later_call (by rw [hX2]; exact four17_int t q.val ht))
  have HM3 := Lib.hid (show ∀ (V : World) (q : Later V), Calls Try.prog 25 #[.int .u64 (n : Int)] q.val fun e w'' => e = .returned (.string X3) ∧ ∃ q' : Later V, w'' = q'.val from fun V q => later_call (by rw [hX3]; exact four17_any n q.val (by omega)))
  obtain ⟨W, hW⟩ : ∃ W, W = w.alloc (.cells (enA f t A n c A' n' c') enT) := ⟨_, rfl⟩
  obtain ⟨g, hg⟩ : ∃ g, g = w.heap.size := ⟨_, rfl⟩
  have HB0 := Lib.hid (show Below w.heap.size w W by rw [hW]; exact (Below.refl _ _).alloc (Nat.le_refl _) _)
  have HW0 := Lib.hid (show Whole W g enT (enA f t A n c A' n' c') by rw [hW, hg]; exact Whole.new w enT _)
  have HX := Lib.hid ((h1.keep HB0.out).more HB0.out.size)
  have HY := Lib.hid ((h2.keep HB0.out).more HB0.out.size)
  have HM4 := Lib.hid (show ∀ (q : Later W), Calls Try.prog 26 #[.slice A n c] q.val fun e w'' => e = .returned (.string X4) ∧ ∃ q' : Later W, w'' = q'.val from fun q => later_call (by rw [hX4]; exact RefPieces17_any A n c xs q.val ((HX.out.keep q.below).more q.below.size) (by omega) ok1 sm1))
  have HM5 := Lib.hid (show ∀ (q : Later W), Calls Try.prog 26 #[.slice A' n' c'] q.val fun e w'' => e = .returned (.string X5) ∧ ∃ q' : Later W, w'' = q'.val from fun q => later_call (by rw [hX5]; exact RefPieces17_any A' n' c' ys q.val ((HY.out.keep q.below).more q.below.size) (by omega) ok2 sm2))
  obtain ⟨f0, f1⟩ := hf
  obtain ⟨t0, t1⟩ := ht
  have u1 : IntKind.u64.wrap f = f := by rw [IntKind.wrap_u64]; omega
  have u2 : IntKind.u64.wrap t = t := by rw [IntKind.wrap_u64]; omega
  have u3 : IntKind.u64.wrap (n : Int) = (n : Int) := by rw [IntKind.wrap_u64]; omega
  have HWW := Lib.hid hW
  have HG := Lib.hid hg
  have HMV := Lib.hid (show enA f t A n c A' n' c' = #[.int .u32 f, .int .u32 t, .slice A n c, .slice A' n' c'] from rfl)
  have d0 : ∀ q : Later W, q.val.cell? ⟨g, 0, none⟩ = some (.int .u32 f) := fun q => (en_facts (HW0.out.later q)).1
  have d1 : ∀ q : Later W, q.val.cell? ⟨g, 1, none⟩ = some (.int .u32 t) := fun q => (en_facts (HW0.out.later q)).2.1
  have d2 : ∀ q : Later W, q.val.cell? ⟨g, 2, none⟩ = some (.slice A n c) := fun q => (en_facts (HW0.out.later q)).2.2.1
  have d3 : ∀ q : Later W, q.val.cell? ⟨g, 3, none⟩ = some (.slice A' n' c') := fun q => (en_facts (HW0.out.later q)).2.2.2
  clear hW hg h1 h2 hsm ok1 ok2 sm1 sm2 l1 l2 hX1 hX2 hX3 hX4 hX5
  rw [HMV.out]
  go_enter Try.func11, Try.ntmps11
  go_wp2_with fail
  rw [← HMV.out, ← HWW.out, ← HG.out]
  refine region_later (by kernel_rfl) ?_
  repeat (go_big_quiet_step ((first
    | (go_at_call 25; with_reducible exact HM1.out _ _)
    | (go_at_call 25; with_reducible exact HM2.out _ _)
    | (go_at_call 25; with_reducible exact HM3.out _ _)
    | (go_at_call 26; with_reducible exact HM4.out _)
    | (go_at_call 26; with_reducible exact HM5.out _))))
  refine wpQuiet_nil ?_
  rintro _ ⟨q2, rfl⟩
  obtain ⟨V, hB⟩ := q2
  simp only []
  have HB1 := Lib.hid (HB0.out.trans (hB.mono HB0.out.size))
  clear hB d0 d1 d2 d3
  go_wp2_with fail
  go_ret
  exact ⟨by rw [← HE.out]; rfl, HB1.out⟩

set_option maxHeartbeats 4000000 in
set_option maxRecDepth 20000 in
theorem ESame_yes (f t : Int) (A A' B B' : Option Addr) (n c n' c' m k m' k' : Nat) (xs ys : List Rrd) (w : World) (h1 : SeesR w w.heap.size A n xs) (h2 : SeesR w w.heap.size A' n' ys) (h3 : SeesR w w.heap.size B m xs) (h4 : SeesR w w.heap.size B' m' ys) (hn : n ≤ 1073741824) (hn' : n' ≤ 1073741824) :
    Calls Try.prog 16 #[.agg (enA f t A n c A' n' c'), .agg (enA f t B m k B' m' k')] w fun e w' => e = .returned (.bool true) ∧ Below w.heap.size w w' := by
  obtain ⟨W, hW⟩ : ∃ W, W = (w.alloc (.cells (enA f t A n c A' n' c') enT)).alloc (.cells (enA f t B m k B' m' k') enT) := ⟨_, rfl⟩
  have hb1 : Below w.heap.size w W := by rw [hW]; exact ((Below.refl _ _).alloc (Nat.le_refl _) _).alloc (by simp) _
  have hw1 : Whole W w.heap.size enT (enA f t A n c A' n' c') := by rw [hW]; exact (Whole.new w enT _).alloc _
  have hw2 : Whole W (w.heap.size + 1) enT (enA f t B m k B' m' k') := by
    rw [hW]
    have := Whole.new (w.alloc (.cells (enA f t A n c A' n' c') enT)) enT (enA f t B m k B' m' k')
    rw [World.size_alloc] at this
    exact this
  have HB1 := Lib.hid hb1
  have HW1 := Lib.hid hw1
  have HW2 := Lib.hid hw2
  have H1 := Lib.hid ((h1.keep hb1).more hb1.size)
  have H2 := Lib.hid ((h2.keep hb1).more hb1.size)
  have H3 := Lib.hid ((h3.keep hb1).more hb1.size)
  have H4 := Lib.hid ((h4.keep hb1).more hb1.size)
  obtain ⟨c0, c1, c2, c3⟩ := en_facts hw1
  obtain ⟨d0, d1, d2, d3⟩ := en_facts hw2
  have HWW := Lib.hid hW
  clear hW hb1 hw1 hw2 h1 h2 h3 h4
  have HMV := Lib.hid (show enA f t A n c A' n' c' = #[.int .u32 f, .int .u32 t, .slice A n c, .slice A' n' c'] from rfl)
  have HMW := Lib.hid (show enA f t B m k B' m' k' = #[.int .u32 f, .int .u32 t, .slice B m k, .slice B' m' k'] from rfl)
  rw [HMV.out, HMW.out]
  go_enter Try.func16, Try.ntmps16
  go_wp2_with fail
  rw [← HMV.out, ← HMW.out, ← HWW.out]
  go_wp2_with fail
  refine (SameR_yes A B n c m k xs _ H1.out H3.out hn).mono ?_
  rintro e w1 ⟨rfl, hB⟩
  have HB2 := Lib.hid (HB1.out.trans (hB.mono HB1.out.size))
  have K2 := Lib.hid ((H2.out.keep hB).more hB.size)
  have K4 := Lib.hid ((H4.out.keep hB).more hB.size)
  obtain ⟨_, _, _, e3⟩ := en_facts (HW1.out.below hB HW1.out.lt)
  obtain ⟨_, _, _, f3⟩ := en_facts (HW2.out.below hB HW2.out.lt)
  clear hB c0 c1 c2 c3 d0 d1 d2 d3
  go_wp2_with fail
  refine (SameR_yes A' B' n' c' m' k' ys _ K2.out K4.out hn').mono ?_
  rintro e w2 ⟨rfl, hB⟩
  have HB3 := Lib.hid (HB2.out.trans (hB.mono HB2.out.size))
  clear hB
  go_wp2_with fail
  go_ret
  exact ⟨rfl, HB3.out⟩
end Go.Proofs.Ytglihcalfdofoaa
