/- Parts of the proofs of the statements of image. No statement of the seat is proved here. -/
import Derived.Test.YtnbapaimpoobkaaGreatDoorEntC
import Derived.Test.YtnbapaimpoobkaaGreatDoorImgK
import Derived.Test.YtnbapaimpoobkaaGreatDoorShm
import Derived.Test.YtnbapaimpoobkaaGreatDoorZonD
import Derived.Test.YtnbapaimpoobkaaGreatDoorOcD
import Derived.StillTailTactics
import Derived.Shelf.RegionOpenPlain
namespace Go.Proofs.YtnbapaimpoobkaaGreatDoor
open Go.RowKit Go.Op

/-- generation, apex and records of an image, as bytes -/
def ofI (s : ByteArray) : Option (Nat × ByteArray × List Rec) :=
  if s.size < 8 then none else
    if (cutR (s.extract 8 s.size) 2).2.2 = 0 then (recsE (cutR (s.extract 8 s.size) 2).2.1).map fun l => (numOf (s.extract 0 8), (cutR (s.extract 8 s.size) 2).1, l) else none
theorem splitI_no {s : ByteArray} (h : s.size < 8) : splitR s [8] = ([], empty, 2) := by
  refine splitR_none (by decide) ?_
  rw [splitF, if_pos (by omega)]
theorem splitI_yes {s : ByteArray} (h : 8 ≤ s.size) : splitR s [8] = ([(numOf (s.extract 0 8) : Int)], s.extract 8 s.size, 0) := by
  refine splitR_some (by decide) ?_
  have e8 : ((8 : Int)).toNat = 8 := rfl
  rw [splitF, if_neg (by omega), splitF, e8]
  rfl
/-- what Of leaves -/
def OfOut (S : ByteArray) (e : Ending) (w' : World) : Prop :=
  match ofI S with
  | none => e = .returned (.tuple #[.int .u64 0, .agg zeroZ, .int .i64 2])
  | some (g, N, l) => ∃ nn, N = mk nn ∧
      ((codeZ nn (l.map ofRec) = 2 ∧ e = .returned (.tuple #[.int .u64 0, .agg zeroZ, .int .i64 2])) ∨ (codeZ nn (l.map ofRec) = 9 ∧ e = .returned (.tuple #[.int .u64 0, .agg zeroZ, .int .i64 9])) ∨
      (codeZ nn (l.map ofRec) = 0 ∧ ∃ v, e = .returned (.tuple #[.int .u64 (g : Nat), v, .int .i64 0]) ∧ ZoneAt w' w'.heap.size N (ofC (l.map ofRec)) v))
theorem OfOut.none {S : ByteArray} {w' : World} (h : ofI S = none) : OfOut S (.returned (.tuple #[.int .u64 0, .agg zeroZ, .int .i64 2])) w' := by unfold OfOut; rw [h]
theorem ofI_short {S : ByteArray} (h : S.size < 8) : ofI S = none := by unfold ofI; rw [if_pos h]
theorem ofI_cut {S : ByteArray} (h : ¬ S.size < 8) (h2 : ¬ (cutR (S.extract 8 S.size) 2).2.2 = 0) : ofI S = none := by unfold ofI; rw [if_neg h, if_neg h2]
theorem ofI_recs {S : ByteArray} (h : ¬ S.size < 8) (h2 : (cutR (S.extract 8 S.size) 2).2.2 = 0) : ofI S = (recsE (cutR (S.extract 8 S.size) 2).2.1).map fun l => (numOf (S.extract 0 8), (cutR (S.extract 8 S.size) 2).1, l) := by unfold ofI; rw [if_neg h, if_pos h2]
theorem retI {fn : Func} {R : Ending → World → Prop} {a : Act} {w : World} {p q u r : Nat} {a0 a1 a2 a3 a4 a5 a6 x y : Value} (hf : fn.results = #[.tmp q, .cell p zoT, .tmp u]) (hd : a.defers = []) (hq : a.tmps.getD q undef = y) (hp : a.tmps.getD p undef = .pointer (some ⟨r, 0, none⟩)) (hx : a.tmps.getD u undef = x)
    (h : Whole w r zoT #[a0, a1, a2, a3, a4, a5, a6]) (hR : R (.returned (.tuple #[y, .agg #[a0, a1, a2, a3, a4, a5, a6], x])) w) : bodyPost Tryz.prog fn R .ret a w := by
  refine bodyPost_ret ?_ hd hR
  have hp' : a.tmps[p]?.getD undef = .pointer (some ⟨r, 0, none⟩) := by simpa using hp
  have hq' : a.tmps[q]?.getD undef = y := by simpa using hq
  have hx' : a.tmps[u]?.getD undef = x := by simpa using hx
  simp [results, hf, hp', hq', hx', asAddr, run_loadVar_row w r zoT _ _ (0, 0) _ h Tryz.underlying29 rfl zo_size, Result.andThen]
theorem oneE_low {M : List UInt8} {r : Rec} (hM : M.length ≤ 4000) (h : oneE M = some r) : r.n.length ≤ 255 ∧ r.d.length ≤ 30000 := by
  unfold oneE at h
  cases hr : recR M 0 with
  | none => rw [hr] at h; cases h
  | some p =>
    obtain ⟨r', x⟩ := p
    rw [hr] at h
    simp only at h
    split at h
    · injection h with h
      subst h
      unfold recR at hr
      cases hn : readR M [] 0 0 none with
      | none => rw [hn] at hr; cases hr
      | some q =>
        obtain ⟨n, y⟩ := q
        rw [hn] at hr
        simp only at hr
        split at hr
        · cases hr
        · split at hr
          · cases hr
          · split at hr
            · cases hr
            · split at hr
              · cases hr
              · rename_i d hd
                injection hr with hr
                injection hr with hr _
                subst hr
                refine ⟨?_, ?_⟩
                · obtain ⟨⟨L, hL⟩, _⟩ := read_name hn
                  exact (nameL_is hL).2.2
                · cases hok : okS M (y + 10 + num (seg M (y + 8) (y + 10))) (partsP (tyd (num (seg M y (y + 2))) (num (seg M (y + 2) (y + 4))) (num (seg M (y + 8) (y + 10))))) (y + 10) with
                  | false => rw [data_none hok] at hd; cases hd
                  | true =>
                    rw [data_some hok] at hd
                    injection hd with hd
                    have h1 := steps_len (M := M) (e := y + 10 + num (seg M (y + 8) (y + 10))) (kindsR (tyd (num (seg M y (y + 2))) (num (seg M (y + 2) (y + 4))) (num (seg M (y + 8) (y + 10))))) (y + 10)
                    rw [eqv_cat hok, hd] at h1
                    have h2 := kinds_few (tyd (num (seg M y (y + 2))) (num (seg M (y + 2) (y + 4))) (num (seg M (y + 8) (y + 10))))
                    have h3 := Nat.mul_le_mul h2 (show 255 + M.length ≤ 4255 by omega)
                    show d.length ≤ 30000
                    omega
    · cases h
theorem recsP_low : ∀ (ps : List ByteArray) (l : List Rec), (∀ p ∈ ps, p.size ≤ 4000) → recsP ps = some l → ∀ r ∈ l, r.n.length ≤ 255 ∧ r.d.length ≤ 30000 := by
  intro ps
  induction ps with
  | nil => intro l _ h r hr; simp [recsP] at h; subst h; cases hr
  | cons p ps ih =>
    intro l hp h
    rw [recsP] at h
    cases ho : oneE p.data.toList with
    | none => rw [ho] at h; cases h
    | some r =>
      rw [ho] at h
      cases hr : recsP ps with
      | none => rw [hr] at h; cases h
      | some l' =>
        rw [hr] at h
        simp at h
        subst h
        intro r2 hr2
        rcases List.mem_cons.1 hr2 with rfl | h2
        · exact oneE_low (by have := hp p (by simp); rw [Array.length_toList]; exact this) ho
        · exact ih l' (fun q hq => hp q (List.mem_cons_of_mem _ hq)) hr r2 h2
theorem recs_low {s : ByteArray} {l : List Rec} (hs : s.size ≤ 4000) (h : recsE s = some l) : LowL (l.map ofRec) ∧ l.length ≤ 4000 := by
  unfold recsE at h
  split at h
  · have h1 := recsP_low _ l (fun p hp => by have := piecesR_size s 4 p hp; omega) h
    have h2 := recsP_len _ l h
    have h3 := piecesR_len s 4
    refine ⟨fun x hx => ?_, by omega⟩
    obtain ⟨r, hr, rfl⟩ := List.mem_map.1 hx
    obtain ⟨k1, k2⟩ := h1 r hr
    have e1 : (ofRec r).s.size = r.n.length := mk_size _
    have e2 : (ofRec r).d.size = r.d.length := mk_size _
    omega
  · cases h
set_option maxHeartbeats 8000000 in
set_option maxRecDepth 20000 in
theorem IOf_low (S : ByteArray) (w : World) (hS : S.size ≤ 800000) (hlo : ∀ g N l, ofI S = some (g, N, l) → LowL (l.map ofRec) ∧ l.length ≤ 60000) : Calls Tryz.prog 17 #[.string S] w fun e w' => OfOut S e w' ∧ Below w.heap.size w w' := by
  have HLO := Lib.hid hlo
  clear hlo
  have hw0 := Whole.new w zoT zeroZ
  have hw1 := hw0.alloc (.cells #[.int .i64 8] 3)
  have hw2 := Whole.new (w.alloc (.cells zeroZ zoT)) 3 #[.int .i64 8]
  have HSE := Lib.hid (sees_one_i hw2)
  have HB0 := Lib.hid (show Below w.heap.size w (w.alloc (.cells zeroZ zoT)) from (Below.refl _ _).alloc (Nat.le_refl _) _)
  have HB1 := Lib.hid (HB0.out.alloc HB0.out.size (.cells #[.int .i64 8] 3))
  have HW1 := Lib.hid hw1
  have HZZ := Lib.hid (show zeroZ = #[.string ⟨#[]⟩, .slice none 0 0, .string ⟨#[]⟩, .int .i64 0, .int .i64 0, .int .i64 0, .string ⟨#[]⟩] from rfl)
  clear hw0 hw1 hw2
  go_enter Tryz.func17, Tryz.ntmps17
  have HSI := Lib.hid (show Sees ((w.alloc (.cells #[.string ⟨#[]⟩, .slice none 0 0, .string ⟨#[]⟩, .int .i64 0, .int .i64 0, .int .i64 0, .string ⟨#[]⟩] zoT)).alloc (.cells #[.int .i64 8] 3)) (w.heap.size + 1 + 1) (some ⟨w.heap.size + 1, 0, none⟩) 1 (ints .i64 [8]) by have := HSE.out; rw [HZZ.out, World.size_alloc] at this; exact this)
  have HBI := Lib.hid (show Below w.heap.size w ((w.alloc (.cells #[.string ⟨#[]⟩, .slice none 0 0, .string ⟨#[]⟩, .int .i64 0, .int .i64 0, .int .i64 0, .string ⟨#[]⟩] zoT)).alloc (.cells #[.int .i64 8] 3)) by have := HB1.out; rw [HZZ.out] at this; exact this)
  have HWI := Lib.hid (show Whole ((w.alloc (.cells #[.string ⟨#[]⟩, .slice none 0 0, .string ⟨#[]⟩, .int .i64 0, .int .i64 0, .int .i64 0, .string ⟨#[]⟩] zoT)).alloc (.cells #[.int .i64 8] 3)) w.heap.size zoT #[.string ⟨#[]⟩, .slice none 0 0, .string ⟨#[]⟩, .int .i64 0, .int .i64 0, .int .i64 0, .string ⟨#[]⟩] by have := HW1.out; rw [HZZ.out] at this; exact this)
  clear HSE HB0 HB1 HW1
  go_wp2_with fail
  refine (Split_any S _ 1 1 _ [8] _ HSI.out (by decide) (by rw [World.size_alloc, World.size_alloc]; omega) (by omega)).mono ?_
  rintro e w1 ⟨A1, c1, rfl, hs1, hB1⟩
  have HS1 := Lib.hid hs1
  have hW1 := HWI.out.below hB1 HWI.out.lt
  have HW1 := Lib.hid hW1
  have HB1 := Lib.hid (HBI.out.trans (hB1.mono HBI.out.size))
  clear hs1 hB1
  by_cases h8 : S.size < 8
  · have HF := Lib.hid (ofI_short h8)
    have HSP := Lib.hid (splitI_no h8)
    rw [HSP.out]
    have f0 := zo_frozen hW1
    obtain ⟨f0, f1, f2, f3, f4, f5, f6⟩ := f0
    have HP := Lib.hid (sevZ_put hW1 (.string ⟨#[]⟩) (.slice none 0 0) (.string ⟨#[]⟩) (.int .i64 0) (.int .i64 0) (.int .i64 0) (.string ⟨#[]⟩))
    have HBP := Lib.hid (sevZ_below HB1.out (Nat.le_refl _) (.string ⟨#[]⟩) (.slice none 0 0) (.string ⟨#[]⟩) (.int .i64 0) (.int .i64 0) (.int .i64 0) (.string ⟨#[]⟩))
    obtain ⟨c0, c1', c2, c3, c4, c5, c6⟩ := zo_facts hW1
    clear hW1
    go_wp2_with fail
    refine retI rfl rfl rfl rfl rfl HP.out ?_
    exact ⟨.none HF.out, HBP.out⟩
  · have HSP := Lib.hid (splitI_yes (by omega : 8 ≤ S.size))
    obtain ⟨gn, hgn⟩ : ∃ gn, gn = numOf (S.extract 0 8) := ⟨_, rfl⟩
    obtain ⟨R, hR⟩ : ∃ R, R = S.extract 8 S.size := ⟨_, rfl⟩
    have hRz : R.size ≤ 800000 := by rw [hR]; simp; omega
    have HFC := Lib.hid (fun h => ofI_cut (S := S) h8 h)
    have HFR := Lib.hid (fun h => ofI_recs (S := S) h8 h)
    rw [← hR] at HFC HFR HSP
    rw [← hgn] at HFR HSP
    rw [HSP.out] at HS1 ⊢
    have HGN := Lib.hid (show gn < 18446744073709551616 by rw [hgn]; have := num_lt (S.extract 0 8).data.toList; have h2 : (S.extract 0 8).data.toList.length ≤ 8 := by simp; omega
                                                           have h3 : 256 ^ (S.extract 0 8).data.toList.length ≤ 256 ^ 8 := Nat.pow_le_pow_right (by decide) h2
                                                           unfold numOf; omega)
    clear hgn hR hW1 h8
    go_wp2_with fail
    refine (Cut_any R 2 _ (by omega)).mono ?_
    have hcs := cutR_size R 2
    have hcc := cutR_code R 2 (by decide)
    obtain ⟨N, T, kk, hC⟩ : ∃ N T kk, cutR R 2 = (N, T, kk) := ⟨_, _, _, rfl⟩
    rw [hC] at hcs hcc HFC HFR ⊢
    simp only at hcs hcc HFC HFR ⊢
    rintro e w2 ⟨rfl, hB2⟩
    have hW2 := HW1.out.below hB2 HW1.out.lt
    have HW2 := Lib.hid hW2
    have HB2 := Lib.hid (HB1.out.trans (hB2.mono HB1.out.size))
    have HS2 := Lib.hid ((HS1.out.below hB2).more hB2.size)
    have HCC := Lib.hid hC
    clear hB2 hW2 hC HS1
    rcases hcc with hk | ⟨hk, _⟩
    · have HF := Lib.hid (HFC.out (by omega))
      subst hk
      have f0 := zo_frozen HW2.out
      obtain ⟨f0, f1, f2, f3, f4, f5, f6⟩ := f0
      have HP := Lib.hid (sevZ_put HW2.out (.string ⟨#[]⟩) (.slice none 0 0) (.string ⟨#[]⟩) (.int .i64 0) (.int .i64 0) (.int .i64 0) (.string ⟨#[]⟩))
      have HBP := Lib.hid (sevZ_below HB2.out (Nat.le_refl _) (.string ⟨#[]⟩) (.slice none 0 0) (.string ⟨#[]⟩) (.int .i64 0) (.int .i64 0) (.int .i64 0) (.string ⟨#[]⟩))
      obtain ⟨k0, k1, k2, k3, k4, k5, k6⟩ := zo_facts HW2.out
      go_wp2_with fail
      refine retI rfl rfl rfl rfl rfl HP.out ?_
      exact ⟨.none HF.out, HBP.out⟩
    · have HFR2 := Lib.hid (HFR.out hk)
      subst hk
      have hT4 : T.size ≤ 800000 := by omega
      clear HFC HFR hcs
      go_wp2_with fail
      refine (Records_any T _ (by omega)).mono ?_
      rintro e w3 ⟨A3, n3, c3, rfl, hs3, hcap3, hB3⟩
      have HW3 := Lib.hid (HW2.out.below hB3 HW2.out.lt)
      have HB3 := Lib.hid (HB2.out.trans (hB3.mono HB2.out.size))
      have HS3 := Lib.hid ((HS2.out.below hB3).more hB3.size)
      have HR3 := Lib.hid hs3
      clear hB3 hs3 hcap3 HS2
      cases hre : recsE T with
      | none =>
        have HF := Lib.hid (show ofI S = none by rw [HFR2.out, hre]; rfl)
        have HEE := Lib.hid (show errE none = .int .i64 2 from rfl)
        rw [HEE.out]
        clear hre
        have f0 := zo_frozen HW3.out
        obtain ⟨f0, f1, f2, f3, f4, f5, f6⟩ := f0
        have HP := Lib.hid (sevZ_put HW3.out (.string ⟨#[]⟩) (.slice none 0 0) (.string ⟨#[]⟩) (.int .i64 0) (.int .i64 0) (.int .i64 0) (.string ⟨#[]⟩))
        have HBP := Lib.hid (sevZ_below HB3.out (Nat.le_refl _) (.string ⟨#[]⟩) (.slice none 0 0) (.string ⟨#[]⟩) (.int .i64 0) (.int .i64 0) (.int .i64 0) (.string ⟨#[]⟩))
        obtain ⟨k0, k1, k2, k3, k4, k5, k6⟩ := zo_facts HW3.out
        go_wp2_with fail
        refine retI rfl rfl rfl rfl rfl HP.out ?_
        exact ⟨.none HF.out, HBP.out⟩
      | some l =>
        have HF := Lib.hid (show ofI S = some (gn, N, l) by rw [HFR2.out, hre]; rfl)
        have HEE := Lib.hid (show errE (some l) = .int .i64 0 from rfl)
        rw [HEE.out]
        have hR3 : SeesR w3 w3.heap.size A3 n3 (l.map ofRec) := by have := HR3.out; rw [hre] at this; exact this
        obtain ⟨hlow, hlen⟩ := HLO.out _ _ _ HF.out
        have hn3 : n3 ≤ 60000 := by rw [← hR3.1, List.length_map]; omega
        have HR4 := Lib.hid hR3
        have HLOW := Lib.hid hlow
        obtain ⟨nn, hN⟩ := mk_of N
        have HN := Lib.hid hN
        have hNz : N.size ≤ 281474976710656 := by
          have h2 := cutR_size R 2
          rw [HCC.out] at h2
          have := h2.1
          simp only at this
          omega
        clear hre hR3 hlow hlen hN HFR2 HR3
        go_wp2_with fail
        refine (sclone_any N _ hNz).mono ?_
        rintro e w4 ⟨rfl, hB4⟩
        have HW4 := Lib.hid (HW3.out.below hB4 HW3.out.lt)
        have HB4 := Lib.hid (HB3.out.trans (hB4.mono HB3.out.size))
        have HS4 := Lib.hid ((HS3.out.below hB4).more hB4.size)
        have HR5 := Lib.hid ((HR4.out.keep hB4).more hB4.size)
        clear hB4 HS3 HR4
        go_wp2_with fail
        refine (ZNew_any A3 n3 c3 N nn (l.map ofRec) _ HN.out HR5.out hn3 HLOW.out).mono ?_
        rintro e w5 ⟨hno, hB5⟩
        have HW5 := Lib.hid (HW4.out.below hB5 HW4.out.lt)
        have HB5 := Lib.hid (HB4.out.trans (hB5.mono HB4.out.size))
        have HS5 := Lib.hid ((HS4.out.below hB5).more hB5.size)
        clear hB5 HS4 HR5
        rcases hno with ⟨hcode, rfl⟩ | ⟨hcode, rfl⟩ | ⟨hcode, v, rfl, hzv⟩
        · have HX := Lib.hid (show ∀ w', OfOut S (.returned (.tuple #[.int .u64 0, .agg zeroZ, .int .i64 2])) w' from fun w' => by unfold OfOut; rw [HF.out]; exact ⟨nn, HN.out, .inl ⟨hcode, rfl⟩⟩)
          rw [HZZ.out] at HX
          clear hcode
          have HW6 := Lib.hid (HW5.out.alloc (.cells #[.string ⟨#[]⟩, .slice none 0 0, .string ⟨#[]⟩, .int .i64 0, .int .i64 0, .int .i64 0, .string ⟨#[]⟩] zoT))
          have HB6 := Lib.hid (HB5.out.alloc HB5.out.size (.cells #[.string ⟨#[]⟩, .slice none 0 0, .string ⟨#[]⟩, .int .i64 0, .int .i64 0, .int .i64 0, .string ⟨#[]⟩] zoT))
          obtain ⟨f0, f1, f2, f3, f4, f5, f6⟩ := zo_frozen HW6.out
          obtain ⟨k0, k1, k2, k3, k4, k5, k6⟩ := zo_facts HW6.out
          rw [HZZ.out]
          go_wp2_with fail
          refine retI rfl rfl rfl rfl rfl (sevZ_put HW6.out _ _ _ _ _ _ _) ?_
          exact ⟨HX.out _, sevZ_below HB6.out (Nat.le_refl _) _ _ _ _ _ _ _⟩
        · have HX := Lib.hid (show ∀ w', OfOut S (.returned (.tuple #[.int .u64 0, .agg zeroZ, .int .i64 9])) w' from fun w' => by unfold OfOut; rw [HF.out]; exact ⟨nn, HN.out, .inr (.inl ⟨hcode, rfl⟩)⟩)
          rw [HZZ.out] at HX
          clear hcode
          have HW6 := Lib.hid (HW5.out.alloc (.cells #[.string ⟨#[]⟩, .slice none 0 0, .string ⟨#[]⟩, .int .i64 0, .int .i64 0, .int .i64 0, .string ⟨#[]⟩] zoT))
          have HB6 := Lib.hid (HB5.out.alloc HB5.out.size (.cells #[.string ⟨#[]⟩, .slice none 0 0, .string ⟨#[]⟩, .int .i64 0, .int .i64 0, .int .i64 0, .string ⟨#[]⟩] zoT))
          obtain ⟨f0, f1, f2, f3, f4, f5, f6⟩ := zo_frozen HW6.out
          obtain ⟨k0, k1, k2, k3, k4, k5, k6⟩ := zo_facts HW6.out
          rw [HZZ.out]
          go_wp2_with fail
          refine retI rfl rfl rfl rfl rfl (sevZ_put HW6.out _ _ _ _ _ _ _) ?_
          exact ⟨HX.out _, sevZ_below HB6.out (Nat.le_refl _) _ _ _ _ _ _ _⟩
        · obtain ⟨D, hD⟩ : ∃ D, D = ofC (l.map ofRec) := ⟨_, rfl⟩
          have hokD : OkL D := by rw [hD]; exact (HLOW.out.ok (codeZ_zero hcode).2.1).ofC
          rw [← hD] at hzv
          have HX := Lib.hid (show ∀ w' v, ZoneAt w' w'.heap.size N D v → OfOut S (.returned (.tuple #[.int .u64 (gn : Nat), v, .int .i64 0])) w' from fun w' v h => by unfold OfOut; rw [HF.out]; exact ⟨nn, HN.out, .inr (.inr ⟨hcode, v, rfl, by rw [← hD]; exact h⟩)⟩)
          have HOKD := Lib.hid hokD
          have HZV := Lib.hid hzv
          obtain ⟨A, c, s, rfl, _, _, _⟩ := hzv
          obtain ⟨gg, goff, rfl, hgb, hgc⟩ := HS5.out.addr (by simp)
          have hg0 := hgc 0 _ rfl
          clear hcode hD hokD hgc
          obtain ⟨W, hW⟩ : ∃ W, W = w5.alloc (.cells #[.string N, .slice A D.length c, .string s.s, .int .i64 s.t, .int .i64 s.c, .int .i64 s.l, .string s.d] zoT) := ⟨_, rfl⟩
          obtain ⟨gz, hgz⟩ : ∃ g, g = w5.heap.size := ⟨_, rfl⟩
          have hb6 : Below w5.heap.size w5 W := by rw [hW]; exact (Below.refl _ _).alloc (Nat.le_refl _) _
          have hg1 : W.cell? ⟨gg, goff + 0, none⟩ = some (.int .u64 (gn : Nat)) := (hb6.cell hgb).trans hg0
          have HZ6 := Lib.hid (show Whole W gz zoT #[.string N, .slice A D.length c, .string s.s, .int .i64 s.t, .int .i64 s.c, .int .i64 s.l, .string s.d] by rw [hW, hgz]; exact Whole.new _ _ _)
          have HZV6 := Lib.hid (HZV.out.later hb6)
          have HW6 := Lib.hid (HW5.out.below hb6 HW5.out.lt)
          have HB6 := Lib.hid (HB5.out.trans (hb6.mono HB5.out.size))
          have HWW := Lib.hid hW
          have HGZ := Lib.hid hgz
          rw [Nat.add_zero] at hg1
          clear hW hgz hb6 hg0 hgb
          obtain ⟨z0, z1, z2, z3, z4, z5, z6⟩ := zo_facts HZ6.out
          go_wp2_with fail
          rw [← HWW.out, ← HGZ.out]
          refine wp_region_still_tail 5 (by kernel_rfl) (by kernel_rfl) ?_
          simp only [List.take_succ_cons, List.take_zero, List.drop_succ_cons, List.drop_zero]
          repeat still_step
          refine wpStill_nil ?_
          change wpList _ _ _ _ _ W.drew
          have HW7 := Lib.hid HW6.out.drew
          have HB7 := Lib.hid HB6.out.drew
          have HZV7 := Lib.hid (HZV6.out.later (show Below W.heap.size W W.drew from (Below.refl _ _).drew))
          generalize W.drew = w7 at HW7 HB7 HZV7 ⊢
          obtain ⟨f0, f1, f2, f3, f4, f5, f6⟩ := zo_frozen HW7.out
          obtain ⟨k0, k1, k2, k3, k4, k5, k6⟩ := zo_facts HW7.out
          clear z0 z1 z2 z3 z4 z5 z6 hg1
          go_wp2_with fail
          refine retI rfl rfl rfl rfl rfl (sevZ_put HW7.out _ _ _ _ _ _ _) ?_
          exact ⟨HX.out _ _ (zone_far HZV7.out (by unfold zeroZ; exact HW7.out) HOKD.out (sev_grown _ _ _ _ _ _ _ _ _)), sevZ_below HB7.out (Nat.le_refl _) _ _ _ _ _ _ _⟩
theorem ofI_low {S : ByteArray} (hS : S.size ≤ 4000) : ∀ g N l, ofI S = some (g, N, l) → LowL (l.map ofRec) ∧ l.length ≤ 60000 := by
  intro g N l h
  unfold ofI at h
  split at h
  · cases h
  · split at h
    · cases hr : recsE (cutR (S.extract 8 S.size) 2).2.1 with
      | none => rw [hr] at h; cases h
      | some l' =>
        rw [hr] at h
        simp at h
        obtain ⟨_, _, rfl⟩ := h
        have h1 := (cutR_size (S.extract 8 S.size) 2).2
        have h2 : (S.extract 8 S.size).size ≤ 4000 := by simp; omega
        have h3 := recs_low (by omega) hr
        exact ⟨h3.1, by omega⟩
    · cases h
theorem IOf_any (S : ByteArray) (w : World) (hS : S.size ≤ 4000) : Calls Tryz.prog 17 #[.string S] w fun e w' => OfOut S e w' ∧ Below w.heap.size w w' := IOf_low S w (by omega) (ofI_low hS)
end Go.Proofs.YtnbapaimpoobkaaGreatDoor
