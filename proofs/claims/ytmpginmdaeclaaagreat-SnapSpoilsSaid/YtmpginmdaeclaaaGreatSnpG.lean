/- Parts of the proofs of the statements of image. No statement of the seat is proved here. -/
import Derived.Test.YtmpginmdaeclaaaGreatSnpF
set_option maxHeartbeats 32000000
set_option maxRecDepth 20000
namespace Go.Proofs.YtmpginmdaeclaaaGreat
open Go.RowKit Go.Maps Go.Sort
set_option maxRecDepth 20000
structure OneN (q : Int) (S : St) (o : Option Bys) : Prop where
  quota : S.quota = q
  down : S.down = false
  left : S.left = 0
  has : match o with
    | none => S.names = []
    | some P => ∃ i, S.names = [(imgN, i)] /\ i < S.files.length /\ (fileAt S i).1 = P
theorem on_one (q : Int) (F : Bys) : OneN q (oneI q F) (some F) := ⟨rfl, rfl, rfl, 0, rfl, by simp [oneI], rfl⟩
theorem on_read {q : Int} {S : St} {P : Bys} (h : OneN q S (some P)) : readS S imgN = (P, 0) := by
  obtain ⟨i, e, _, f⟩ := h.has
  rw [read_is isN_img h.down (i := i) (by rw [e]; rfl), f]
theorem on_none {q : Int} {S : St} (h : OneN q S none) : readS S imgN = ([], 6) := by
  have e := h.has
  exact read_no isN_img h.down (by rw [e]; rfl)
theorem count_zero {S : St} (h : S.left = 0) : count S = S := by unfold count; rw [if_pos h]
theorem on_rm {q : Int} {S : St} {P : Bys} (h : OneN q S (some P)) : (removeS S imgN).2 = 0 /\ OneN q (removeS S imgN).1 none := by
  obtain ⟨i, e, _, f⟩ := h.has
  have er : removeS S imgN = (chg S ⟨imgN, [], none⟩, 0) := by
    unfold removeS; rw [isN_img, open_is h.down (i := i) (by rw [e]; rfl), if_pos rfl, count_zero (by exact h.left)]
  rw [er]
  refine ⟨rfl, h.quota, h.down, h.left, ?_⟩
  show delN S.names imgN = []
  rw [e]; rfl
theorem on_app {q : Int} {S : St} (h : OneN q S none) (P : Bys) (hq : (P.length : Int) <= q) : (appendS S imgN P).2 = 0 /\ OneN q (appendS S imgN P).1 (some P) := by
  have e := h.has
  have hu : used S = 0 := by unfold used; rw [e]; rfl
  have er : appendS S imgN P = (addB (chg (addF S) ⟨[], imgN, some S.files.length⟩) S.files.length P, 0) := by
    unfold appendS; rw [if_neg (by rw [h.down]; decide), if_pos isN_img, if_neg (by rw [hu, h.quota]; omega), show findN S.names imgN = none by rw [e]; rfl]
    simp only
    rw [count_zero (by exact h.left)]
  rw [er]
  refine ⟨rfl, h.quota, h.down, h.left, S.files.length, ?_, by simp [addB, chg, addF, setF], ?_⟩
  · show Chg.app ⟨[], imgN, some S.files.length⟩ S.names = _
    rw [e]; rfl
  · unfold addB
    rw [fileAt_put (by simp [chg, addF])]
    simp [fileAt, chg, addF, List.getD]
theorem Load_bad [Inhabited OwnP] {B d k M : Nat} {w : World} {S : St} (h : Live B w d k M S) (b : Bys) (hrd : readS S imgN = (b, 0)) (hb : b.length <= 100000000) (hbad : ¬ ((firstL b).2.2 = 0 /\ (firstL b).2.1 = b.length)) :
    Calls Tryz.prog 18 #[dptr d] w fun e w' => e = retN 7 /\ Below w.heap.size w w' := by
  refine (Load_any h b 0 hrd hb (fun _ h1 h2 => absurd ⟨h1, h2⟩ hbad)).mono ?_
  rintro e w' ⟨ho, hB⟩
  unfold LoadOut at ho
  rw [if_pos rfl, if_neg hbad] at ho
  exact ⟨ho, hB⟩
theorem Load_none [Inhabited OwnP] {B d k M : Nat} {w : World} {S : St} (h : Live B w d k M S) (hrd : readS S imgN = ([], 6)) :
    Calls Tryz.prog 18 #[dptr d] w fun e w' => e = retN 6 /\ Below w.heap.size w w' := by
  refine (Load_any h [] 6 hrd (by decide) (fun h1 => absurd h1 (by decide))).mono ?_
  rintro e w' ⟨ho, hB⟩
  unfold LoadOut at ho
  rw [if_neg (by decide)] at ho
  exact ⟨ho, hB⟩
theorem Load_more [Inhabited OwnP] {B d k M : Nat} {w : World} {S : St} (h : Live B w d k M S) {D : List Rrd} (hz : Zn nx D) (more : List UInt8) (hrd : readS S imgN = (frameL (imgB 1 nx D) ++ more, 0)) (hm : more.length <= 1000) :
    Calls Tryz.prog 18 #[dptr d] w fun e w' => (∃ (g : Nat) (z : Z7), e = .returned (.tuple #[.int .u64 (g : Nat), .agg #[.string z.s, .slice z.A z.n z.c, .string z.t, .int .i64 z.x, .int .i64 z.y, .int .i64 z.z, .string z.d], .int .i64 (if more = [] then 0 else 7)])) /\ Below w.heap.size w w' := by
  by_cases e0 : more = []
  · subst e0
    rw [List.append_nil] at hrd
    refine (Load_img h hz (g := 1) (by decide) hrd).mono ?_
    rintro e w' ⟨⟨v, rfl, A, c, s, rfl, _⟩, hB⟩; exact ⟨⟨1, ⟨mk nx, A, D.length, c, s.s, s.t, s.c, s.l, s.d⟩, rfl⟩, hB⟩
  · have hs := (hz.size 1).2
    refine (Load_bad h _ hrd (by rw [List.length_append, frameL_len]; omega) ?_).mono ?_
    · rw [first_frame _ _ (by omega)]
      rintro ⟨_, h2⟩; rw [List.length_append, frameL_len] at h2
      have h3 : 0 < more.length := List.length_pos_iff.2 e0
      simp only at h2
      omega
    · rintro e w' ⟨rfl, hB⟩
      rw [if_neg e0]
      exact ⟨⟨0, ⟨⟨#[]⟩, none, 0, 0, ⟨#[]⟩, 0, 0, 0, ⟨#[]⟩⟩, rfl⟩, hB⟩
theorem img_lit : (⟨#[105, 109, 97, 103, 101]⟩ : ByteArray).data.toList = imgN := rfl
theorem ZNew_x (A : Option Addr) (n c : Nat) (xs : List Rrd) (w : World) (hx : SeesR w w.heap.size A n xs) (hn : n <= 60) (hlow : LowL xs) :
    Calls Tryz.prog 8 #[.string ⟨#[2, 101, 120, 0]⟩, .slice A n c] w fun e w' => (∃ z : Z7, e = .returned (.tuple #[.agg #[.string z.s, .slice z.A z.n z.c, .string z.t, .int .i64 z.x, .int .i64 z.y, .int .i64 z.z, .string z.d], .int .i64 (codeZ nx xs)]) /\ (codeZ nx xs = 0 -> ZoneAt w' w'.heap.size (mk nx) (ofC xs) (.agg z.cells))) /\ Below w.heap.size w w' := by
  refine (ZNew_any A n c ⟨#[2, 101, 120, 0]⟩ nx xs w rfl hx (by omega) hlow).mono ?_
  rintro e w' ⟨h, hB⟩
  exact ⟨new_seven h, hB⟩
theorem SnapSpoils_walk (A : Option Addr) (n c : Nat) (xs : List Rrd) (more : ByteArray) (u : Nat) (w : World) (hx : SeesR w w.heap.size A n xs) (h63 : n <= 9223372036854775807) (hu : u < 65536) :
    Calls Tryz.prog 5 #[.slice A n c, .string more, .int .u16 (u : Nat)] w fun e w' => e = .returned (.bool true) /\ Below w.heap.size w w' := by
  have HX := Ha hx
  have HLX := Ha hx.1
  clear hx
  by_cases hgood : fewL xs = true /\ more.size <= 500
  case neg =>
    cases hf : fewL xs with
    | false =>
      have HF := Ha hf
      clear hf hgood; go_enter Tryz.func5, Tryz.ntmps5
      go_wp2_with fail
      refine (sawake_any _).mono ?_
      rintro e w1 ⟨rfl, hB⟩; have HX1 := Ha ((HX.out.keep hB).more hB.size)
      have HB1 := Ha hB
      clear hB; go_wp2_with fail
      refine (Few_any A n c xs _ HX1.out h63).mono ?_
      rw [HF.out]
      rintro e w2 ⟨rfl, hB⟩; have HB2 := thB HB1 hB
      clear hB; go_wp2_with fail
      refine (sawake_any _).mono ?_
      rintro e w3 ⟨rfl, hB⟩; have HB3 := thB HB2 hB
      clear hB; go_wp2_with fail
      go_ret
      exact ⟨rfl, HB3.out⟩
    | true =>
      have HF := Ha hf
      have hm : (500 : Int) < (more.size : Int) := by
        have : ¬ more.size <= 500 := fun h => hgood ⟨hf, h⟩
        omega
      clear hf hgood; go_enter Tryz.func5, Tryz.ntmps5
      go_wp2_with fail
      refine (sawake_any _).mono ?_
      rintro e w1 ⟨rfl, hB⟩; have HX1 := Ha ((HX.out.keep hB).more hB.size)
      have HB1 := Ha hB
      clear hB; go_wp2_with fail
      refine (Few_any A n c xs _ HX1.out h63).mono ?_
      rw [HF.out]
      rintro e w2 ⟨rfl, hB⟩; have HB2 := thB HB1 hB
      clear hB; go_wp2_with fail
      refine (sawake_any _).mono ?_
      rintro e w3 ⟨rfl, hB⟩; have HB3 := thB HB2 hB
      clear hB; go_wp2_with fail
      go_ret
      exact ⟨rfl, HB3.out⟩
  case pos =>
    obtain ⟨hf, hm⟩ := hgood
    have hmI : ¬ (500 : Int) < (more.size : Int) := by omega
    obtain ⟨h30, hlow⟩ := fewL_is hf
    have hn30 : n <= 30 := by have := HLX.out; omega
    have HLOW := Ha hlow
    have HF := Ha hf
    have HM := Ha hm
    clear hf hlow h30 hm; go_enter Tryz.func5, Tryz.ntmps5
    go_wp2_with fail
    refine (sawake_any _).mono ?_
    rintro e w1 ⟨rfl, hB⟩; have HX1 := Ha ((HX.out.keep hB).more hB.size)
    have HB1 := Ha hB
    clear hB; go_wp2_with fail
    refine (Few_any A n c xs _ HX1.out h63).mono ?_
    rw [HF.out]
    rintro e w2 ⟨rfl, hB⟩; have HX2 := Ha ((HX1.out.keep hB).more hB.size)
    have HB2 := thB HB1 hB
    clear hB; go_wp2_with fail
    refine (ZNew_x A n c xs _ HX2.out (by omega) HLOW.out).mono ?_
    rintro e w3 ⟨⟨z, rfl, hz⟩, hB⟩; have HB3 := thB HB2 hB
    have HZ := Ha hz
    clear hB hz; obtain ⟨W3, hW3⟩ : ∃ W3, W3 = w3.alloc (.cells #[.string z.s, .slice z.A z.n z.c, .string z.t, .int .i64 z.x, .int .i64 z.y, .int .i64 z.z, .string z.d] zoT) := ⟨_, rfl⟩
    obtain ⟨g3, hg3⟩ : ∃ g3, g3 = w3.heap.size := ⟨_, rfl⟩
    have hb3 : Below w3.heap.size w3 W3 := by rw [hW3]; exact (Below.refl _ _).alloc (Nat.le_refl _) _
    have HV3 := Ha (show Whole W3 g3 zoT #[.string z.s, .slice z.A z.n z.c, .string z.t, .int .i64 z.x, .int .i64 z.y, .int .i64 z.z, .string z.d] by rw [hW3, hg3]; exact Whole.new _ _ _)
    have HZ3 := Ha (fun h => (HZ.out h).later hb3)
    have HB4 := thB HB3 hb3
    have HW3 := Ha hW3
    have HG3 := Ha hg3
    clear hb3 hW3 hg3 HZ; go_wp2_with fail
    rw [<-HW3.out, <-HG3.out]
    refine (live_New 1048576 W3 (by decide)).mono ?_
    rintro e w4 ⟨d, rfl, hL4, hB⟩; have HL4 := Ha hL4
    have HB5 := thB HB4 hB
    have HZ4 := Ha (fun h => (HZ3.out h).keep hB)
    have hV4 := HV3.out.below hB HV3.out.lt
    have HV4 := Ha hV4
    clear hB hL4
    by_cases hc : codeZ nx xs = 0
    case neg =>
      have hcb : (codeZ nx xs != 0) = true := by rw [bne_iff_ne]; exact hc
      generalize codeZ nx xs = kz at hcb ⊢
      clear hc hV4; go_wp2_with fail
      go_ret
      exact ⟨rfl, HB5.out⟩
    case pos =>
      have hzn := zn_of HF.out hc
      have HZA := Ha (HZ4.out hc)
      rw [hc]
      clear hc HZ4 HZ3; obtain ⟨D, hD⟩ : ∃ D, D = ofC xs := ⟨_, rfl⟩
      rw [<-hD] at hzn HZA
      obtain ⟨F, hF⟩ : ∃ F, F = frameL (imgB 1 nx D) := ⟨_, rfl⟩
      have hFl : 18 <= F.length /\ F.length <= 68408 := by rw [hF, frameL_len]; have := hzn.size 1; omega
      have HSV := Ha (save_new 1048576 F (by omega))
      have HZN := Ha hzn
      have HFE := Ha hF
      obtain ⟨Fv, hFv⟩ : ∃ Fv, Fv = mk F := ⟨_, rfl⟩
      have hFs : Fv.size = F.length := by rw [hFv, mk_size]
      have HFV := Ha hFv
      have hF0 : ((Fv.size : Int) == 0) = false := by rw [beq_eq_false_iff_ne]; omega
      have hFnz : ¬ ((Fv.size : Int) = 0) := by omega
      obtain ⟨j, hj⟩ : ∃ j, j = u % Fv.size := ⟨_, rfl⟩
      have hjl : j < Fv.size := by rw [hj]; exact Nat.mod_lt _ (by omega)
      have htm : ((u : Nat) : Int).tmod (Fv.size : Nat) = (j : Nat) := by rw [Int.tmod_eq_emod_of_nonneg (by omega), hj]; rfl
      have htm2 : ((u : Nat) : Int) % (Fv.size : Nat) = (j : Nat) := by rw [hj]; rfl
      have hfb : ((j : Int) <= (Fv.size : Int)) := by omega
      have hb0 : (0 : Int) <= ((u : Nat) : Int) % (F.length : Nat) := Int.emod_nonneg _ (by omega)
      have hb1 : ((u : Nat) : Int) % (F.length : Nat) <= (F.length : Nat) := by have := Int.emod_lt_of_pos ((u : Nat) : Int) (show (0 : Int) < (F.length : Nat) by omega); omega
      have HFS := Ha hFs
      have HFL := Ha hFl
      clear hzn hF hFv hD hj; obtain ⟨c0, c1, c2, c3, c4, c5, c6⟩ := zo_facts hV4
      clear hV4; go_wp2_with fail
      refine (Save_zn HL4.out (by omega) (by omega) (g := 1) (nn := nx) (D := D) (HZA.out.more (Nat.le_refl _)) (by decide) HZN.out).mono ?_
      rw [<-HFE.out, HSV.out]
      rintro e w5 ⟨rfl, hL5, hK5⟩; have HL5 := Ha (show Live W3.heap.size w5 d 12 400000 (oneI 1048576 F) from hL5.mono (by omega) (by omega))
      have HB6 := Ha (HB5.out.trans ((hK5.below HL4.out.base).mono HB4.out.size))
      have HO5 := Ha (on_one 1048576 F)
      clear hL5 hK5 c0 c1 c2 c3 c4 c5 c6 HZA; go_wp2_with fail
      refine (live_Read HL5.out ⟨#[105, 109, 97, 103, 101]⟩).mono ?_
      rw [img_lit, on_read HO5.out, show (⟨(F, (0 : Int)).1.toArray⟩ : ByteArray) = Fv from HFV.out.symm]
      rintro e w6 ⟨rfl, hB⟩; have HL6 := Ha (HL5.out.same hB)
      have HB7 := thB HB6 hB
      clear hB; go_wp2_with fail
      have hr1 := live_Remove HL6.out (by omega) ⟨#[105, 109, 97, 103, 101]⟩
      rw [img_lit] at hr1
      refine hr1.mono ?_
      obtain ⟨_, o1⟩ := on_rm HO5.out
      rintro e w7 ⟨rfl, hL7, hK7⟩; have HL7 := Ha hL7
      have HO7 := Ha o1
      have HB8 := Ha (HB7.out.trans ((hK7.below HL6.out.base).mono HB4.out.size))
      clear hr1 o1 hL7 hK7; generalize (removeS (oneI 1048576 F) imgN).1 = S7 at HL7 HO7
      generalize (removeS (oneI 1048576 F) imgN).2 = e7
      go_wp2_with fail
      clear hjl htm htm2 hfb hb0 hb1; obtain ⟨P, hP⟩ : ∃ P, P = F.take (u % F.length) := ⟨_, rfl⟩
      have hjl : u % F.length < F.length := Nat.mod_lt _ (by omega)
      have hPl : P.length <= 70000 := by rw [hP, List.length_take]; omega
      have hPv : Fv.extract 0 (u % F.length) = mk P := by rw [HFV.out, mk_extract, List.drop_zero, hP]
      have hbad : ¬ ((firstL P).2.2 = 0 /\ (firstL P).2.1 = P.length) := by
        rw [hP]
        intro h
        refine first_short (imgB 1 nx D) (by have := (HZN.out.size 1).2; omega) (u % F.length) ?_ (by have h1 := h.1; rw [show List.take (u % F.length) F = List.take (u % F.length) (frameL (imgB 1 nx D)) from congrArg (List.take (u % F.length)) HFE.out] at h1; exact h1)
        have := hjl; rw [HFE.out, frameL_len] at this; rw [HFE.out, frameL_len]; exact this
      rw [hPv]
      obtain ⟨a8, o8⟩ := on_app HO7.out P (by omega)
      have hap := live_Append HL7.out (by omega) (by omega) ⟨#[105, 109, 97, 103, 101]⟩ (mk P) (by rw [mk_size]; omega) (by decide)
      rw [img_lit, mk_list, mk_size] at hap
      have HAP := Ha hap
      have HO8 := Ha o8
      have HBAD := Ha hbad
      have HPL := Ha hPl
      clear hP hjl hPv hbad a8 o8 hap; generalize mk P = PV at HAP
      refine Calls.mono HAP.out ?_
      rintro e w8 ⟨rfl, hL8, hK8⟩; have HL8 := Ha (hL8.mono (k' := 20) (M' := 500000) (by omega) (by omega))
      have HB9 := Ha (HB8.out.trans ((hK8.below HL7.out.base).mono HB4.out.size))
      clear hL8 hK8 HAP; generalize (appendS S7 imgN P).1 = S8 at HL8 HO8
      generalize (appendS S7 imgN P).2 = e8
      go_wp2_with fail
      refine (Load_bad HL8.out P (on_read HO8.out) (by omega) HBAD.out).mono ?_
      unfold retN; rintro e w9 ⟨rfl, hB⟩; have HL9 := Ha (HL8.out.same hB)
      have HB10 := thB HB9 hB
      clear hB; obtain ⟨W9, hW9⟩ : ∃ W, W = w9.alloc (.cells #[.string ⟨#[]⟩, .slice none 0 0, .string ⟨#[]⟩, .int .i64 0, .int .i64 0, .int .i64 0, .string ⟨#[]⟩] zoT) := ⟨_, rfl⟩
      have hb9 : Below w9.heap.size w9 W9 := by rw [hW9]; exact (Below.refl _ _).alloc (Nat.le_refl _) _
      have HL10 := Ha (HL9.out.same hb9)
      have HB11 := thB HB10 hb9
      have HW9 := Ha hW9
      clear hb9 hW9; go_wp2_with fail
      rw [<-HW9.out]
      have hr2 := live_Remove HL10.out (by omega) ⟨#[105, 109, 97, 103, 101]⟩
      rw [img_lit] at hr2
      refine hr2.mono ?_
      obtain ⟨_, o11⟩ := on_rm HO8.out
      rintro e w11 ⟨rfl, hL11, hK11⟩; have HL11 := Ha hL11
      have HO11 := Ha o11
      have HB12 := Ha (HB11.out.trans ((hK11.below HL10.out.base).mono HB4.out.size))
      clear hr2 o11 hL11 hK11; generalize (removeS S8 imgN).1 = S11 at HL11 HO11
      generalize (removeS S8 imgN).2 = e11
      go_wp2_with fail
      obtain ⟨ml, hml⟩ : ∃ ml, ml = more.data.toList := ⟨_, rfl⟩
      have hmz : ml.length <= 500 := by rw [hml, size_len]; exact HM.out
      have hQv : Fv ++ more = mk (F ++ ml) := by rw [hml, <-mk_append, mk_toList, HFV.out]
      have hQl : (F ++ ml).length <= 69000 := by rw [List.length_append]; omega
      rw [hQv]
      obtain ⟨_, o12⟩ := on_app HO11.out (F ++ ml) (by omega)
      have hap := live_Append HL11.out (by omega) (by omega) ⟨#[105, 109, 97, 103, 101]⟩ (mk (F ++ ml)) (by rw [mk_size]; omega) (by decide)
      rw [img_lit, mk_list, mk_size] at hap
      have HAP := Ha hap
      have HO12 := Ha o12
      have HML := Ha hml
      clear o12 hap hQv; generalize mk (F ++ ml) = QV at HAP
      refine Calls.mono HAP.out ?_
      rintro e w12 ⟨rfl, hL12, hK12⟩; have HL12 := Ha (hL12.mono (k' := 40) (M' := 900000) (by omega) (by omega))
      have HB13 := Ha (HB12.out.trans ((hK12.below HL11.out.base).mono HB4.out.size))
      clear hL12 hK12 HAP; generalize (appendS S11 imgN (F ++ ml)).1 = S12 at HL12 HO12
      generalize (appendS S11 imgN (F ++ ml)).2 = e12
      go_wp2_with fail
      refine (Load_more HL12.out HZN.out ml (by rw [<-HFE.out]; exact on_read HO12.out) (by omega)).mono ?_
      rintro e w13 ⟨⟨gg, zz, rfl⟩, hB⟩; have HL13 := Ha (HL12.out.same hB)
      have HB14 := thB HB13 hB
      clear hB; obtain ⟨W13, hW13⟩ : ∃ W, W = w13.alloc (.cells #[.string zz.s, .slice zz.A zz.n zz.c, .string zz.t, .int .i64 zz.x, .int .i64 zz.y, .int .i64 zz.z, .string zz.d] zoT) := ⟨_, rfl⟩
      have hb13 : Below w13.heap.size w13 W13 := by rw [hW13]; exact (Below.refl _ _).alloc (Nat.le_refl _) _
      have HL14 := Ha (HL13.out.same hb13)
      have HB15 := thB HB14 hb13
      have HW13 := Ha hW13
      clear hb13 hW13; obtain ⟨ci, hci⟩ : ∃ ci : Int, ci = if ml = [] then 0 else 7 := ⟨_, rfl⟩
      rw [<-hci]
      have HCI := Ha hci
      clear hci; go_wp2_with fail
      rw [<-HW13.out]
      have hr3 := live_Remove HL14.out (by omega) ⟨#[105, 109, 97, 103, 101]⟩
      rw [img_lit] at hr3
      refine hr3.mono ?_
      obtain ⟨_, o15⟩ := on_rm HO12.out
      rintro e w15 ⟨rfl, hL15, hK15⟩; have HL15 := Ha hL15
      have HO15 := Ha o15
      have HB16 := Ha (HB15.out.trans ((hK15.below HL14.out.base).mono HB4.out.size))
      clear hr3 o15 hL15 hK15; generalize (removeS S12 imgN).1 = S15 at HL15 HO15
      generalize (removeS S12 imgN).2 = e15
      go_wp2_with fail
      refine (Load_none HL15.out (on_none HO15.out)).mono ?_
      unfold retN; rintro e w16 ⟨rfl, hB⟩; have HB17 := thB HB16 hB
      have HBE := Ha (show Below w.heap.size w (w16.alloc (.cells #[.string ⟨#[]⟩, .slice none 0 0, .string ⟨#[]⟩, .int .i64 0, .int .i64 0, .int .i64 0, .string ⟨#[]⟩] zoT)) from HB17.out.alloc HB17.out.size _)
      clear hB
      by_cases hem : ml = []
      · have hci : ci = 0 := by rw [HCI.out, if_pos hem]
        have hmo : more = ⟨#[]⟩ := by rw [<-mk_toList more, <-HML.out, hem]; rfl
        subst hci; subst hmo; go_wp2_with fail
        go_ret
        exact ⟨rfl, HBE.out⟩
      · have hci : ci = 7 := by rw [HCI.out, if_neg hem]
        have hmo : (more.toList == (⟨#[]⟩ : ByteArray).toList) = false := by
          rw [beq_eq_false_iff_ne, ByteArray.toList_eq, ByteArray.toList_eq, <-HML.out]
          exact hem
        have hmo2 : more.toList.isEmpty = false := by rw [ByteArray.toList_eq, <-HML.out]; cases ml with | nil => exact absurd rfl hem | cons => rfl
        subst hci; go_wp2_with fail
        go_ret
        exact ⟨rfl, HBE.out⟩
end Go.Proofs.YtmpginmdaeclaaaGreat
