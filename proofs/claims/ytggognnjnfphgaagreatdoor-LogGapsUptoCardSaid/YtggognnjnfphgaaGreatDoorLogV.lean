/- LogGaps walked. No statement of the seat is proved here. -/
import Derived.Test.YtggognnjnfphgaaGreatDoorLoD
namespace Go.Proofs.YtggognnjnfphgaaGreatDoor
open Go.RowKit Go.Maps Go.Sort

/-- on a disk that doesn't break soon all are added -/
theorem added_long {N n : Nat} {evs : List Ev} {w w' : World} {e : Ending} (h : AddedOf N evs w e w') (hN : 1000000 ≤ N) (hl : Links none (esOf evs)) (hsz : (frL (esOf evs) (esOf evs).length).length ≤ 681080) (hlen : evs.length = n) (hn : n ≤ 10) :
    ∃ d Aa ca S, e = .returned (.tuple #[dptr d, .slice Aa n ca, .int .i64 (n : Nat)]) ∧ Live w.heap.size w' d 40 20000000 S ∧ One 1073741824 100 S (rowF ((esOf evs).map bytesE)) ∧ w'.ownsRow w.heap.size enT 4 (.slice Aa n ca) n (ecells (numE evs)) ∧ Below w.heap.size w w' := by
  obtain ⟨d, m, dn, Aa, ca, rfl, hL, hown, _, hm, hB⟩ := h
  have hit := iter_long hl hN (by rw [esOf_len]; omega) (show ((frL (esOf evs) (esOf evs).length).length : Int) ≤ 1073741824 by omega)
  have hlast : (esOf evs).length = n := by rw [esOf_len, hlen]
  rcases hm with ⟨rfl, rfl⟩ | ⟨h1, h2, h3⟩
  · subst hlen
    have h0 := hit evs.length (by omega)
    rw [h0] at hL
    have e1 : (numE evs).take evs.length = numE evs := List.take_of_length_le (by rw [numE_len]; exact Nat.le_refl _)
    rw [e1] at hown
    have e2 : frL (esOf evs) evs.length = rowF ((esOf evs).map bytesE) := by unfold frL; rw [List.take_of_length_le (by omega)]
    rw [e2] at hL
    exact ⟨d, Aa, ca, _, rfl, hL, one_st hN (by omega) (fun h => by have : evs = [] := List.eq_nil_of_length_eq_zero h; subst this; simp [esOf, numE, rowF]), hown, hB⟩
  · rw [hit m (by omega)] at h3
    exact absurd rfl h3
theorem bulky_of {B M : Nat} {w : World} {vs us : List Ev} (h : us.map Ev.ent = (vs).map Ev.ent) (hu : SeesVs B w us) (hb : ∀ v ∈ vs, v.ent.xs.length ≤ M ∧ v.ent.ys.length ≤ M) : Bulky M us := by
  intro u hu'
  have hm : u.ent ∈ vs.map Ev.ent := by rw [← h]; exact List.mem_map_of_mem hu'
  obtain ⟨v, hv, e⟩ := List.mem_map.1 hm
  have h1 := hb v hv
  have e1 : u.ent.xs.length = u.n := by show (u.xs.map Rrd.toRec).length = u.n; rw [List.length_map]; exact (hu u hu').1.1.1
  have e2 : u.ent.ys.length = u.n' := by show (u.ys.map Rrd.toRec).length = u.n'; rw [List.length_map]; exact (hu u hu').2.1.1
  rw [e] at h1
  omega
theorem bulky_same {B : Nat} {w : World} {evs us : List Ev} (h : us.map Ev.ent = esOf evs) (hu : SeesVs B w us) (hb : ∀ v ∈ numE evs, v.ent.xs.length ≤ 1073741824 ∧ v.ent.ys.length ≤ 1073741824) : ∀ y ∈ us, y.n ≤ 1073741824 ∧ y.n' ≤ 1073741824 :=
  bulky_of (vs := numE evs) h hu hb
/-- entries that are few are no bulk -/
theorem fine_bulk {B : Nat} {w : World} {evs : List Ev} (h : Fine B w evs) : ∀ v ∈ numE evs, v.ent.xs.length ≤ 1073741824 ∧ v.ent.ys.length ≤ 1073741824 := by
  intro x hx
  obtain ⟨k, v, hv, rfl⟩ := numE_mem hx
  obtain ⟨s1, _⟩ := few_small (h.2 v (List.mem_of_getElem? hv)).1
  rw [List.length_append] at s1
  have e1 : (numV k v).ent.xs.length = v.xs.length := by show (v.xs.map Rrd.toRec).length = _; rw [List.length_map]
  have e2 : (numV k v).ent.ys.length = v.ys.length := by show (v.ys.map Rrd.toRec).length = _; rw [List.length_map]
  omega
theorem lastT_num {evs : List Ev} (h : 0 < evs.length) : lastT (esOf evs) = some (evs.length : Nat) := by
  unfold lastT
  rw [List.getLast?_eq_getElem?, esOf_len, esOf_at (k := evs.length - 1) (v := evs[evs.length - 1]'(by omega)) (List.getElem?_eq_getElem _)]
  show some (((evs.length - 1 : Nat) : Int) + 1) = _
  congr 1
  omega
theorem lastT_nil : lastT (esOf []) = none := rfl
set_option maxHeartbeats 8000000 in
set_option maxRecDepth 20000 in
theorem LogGaps_walk (A : Option Addr) (n c : Nat) (evs : List Ev) (x : Ev) (w : World) (h : SeesE w A n evs) (hs : SeesVs w.heap.size w evs) (hb : Bulky 100000000 evs) (hsx : SeesVs w.heap.size w [x]) (hbx : Bulky 100000000 [x]) (hxf : u32 x.f) (hxt : u32 x.t) :
    Calls Tryz.prog 6 #[.slice A n c, .agg x.arr] w fun e w' => e = .returned (.bool true) ∧ Below w.heap.size w w' := by
  have hba : Below w.heap.size w (w.alloc (.cells #[.int .u32 x.f, .int .u32 x.t, .slice x.A x.n x.c, .slice x.A' x.n' x.c'] enT)) := (Below.refl _ _).alloc (Nat.le_refl _) _
  have HX0 := Lib.hid (show Whole (w.alloc (.cells #[.int .u32 x.f, .int .u32 x.t, .slice x.A x.n x.c, .slice x.A' x.n' x.c'] enT)) w.heap.size enT x.arr from Whole.new w enT x.arr)
  have HE := Lib.hid (h.keep hba)
  have HS := Lib.hid (hs.keep hba)
  have HSX := Lib.hid (hsx.keep hba)
  have HBA := Lib.hid hba
  have HBK := Lib.hid hb
  have HBX := Lib.hid (hbx x (by simp))
  have HLEN := Lib.hid h.1
  obtain ⟨G, hG⟩ : ∃ G, G = w.heap.size := ⟨_, rfl⟩
  have HXG := Lib.hid hG
  have hx0 : x.f = (n : Int) ∨ ¬ x.f = (n : Int) := by omega
  have HXF := Lib.hid hxf
  have HXT := Lib.hid hxt
  have xf0 : 0 ≤ x.f := hxf.1
  have xf1 : x.f < 4294967296 := hxf.2
  clear h hs hb hsx hbx hba hG hxt hxf
  unfold Ev.arr enA
  go_enter Tryz.func6, Tryz.ntmps6
  go_upto_region 1 with fail
  generalize w.alloc (.cells #[.int .u32 x.f, .int .u32 x.t, .slice x.A x.n x.c, .slice x.A' x.n' x.c'] enT) = w0 at HX0 HE HS HSX HBA ⊢
  rw [← HXG.out] at HX0 ⊢
  go_wp2_with fail
  refine (awake_any _).mono ?_
  rintro e w1 ⟨rfl, hB⟩
  have HB1 := Lib.hid hB
  have HFE := Lib.hid (FewL_any A n c evs w1 (HE.out.keep hB) (HS.out.keep hB) HBK.out)
  clear hB
  cases hfew : fewL evs with
  | false =>
    have HFF := Lib.hid hfew
    clear hfew
    go_wp2_with fail
    refine Calls.mono HFE.out ?_
    rw [HFF.out]
    rintro e w2 ⟨rfl, hB⟩
    have HB2 := Lib.hid (HB1.out.trans (hB.mono HB1.out.size))
    clear hB
    go_wp2_with fail
    refine (awake_any _).mono ?_
    rintro e wz ⟨rfl, hB⟩
    have HBz := Lib.hid (HB2.out.trans (hB.mono HB2.out.size))
    clear hB
    go_wp2_with fail
    go_ret
    exact ⟨rfl, HBA.out.trans (HBz.out.mono HBA.out.size)⟩
  | true =>
    obtain ⟨hn10, hfv⟩ := fewL_is hfew
    rw [HLEN.out] at hn10
    have HFF := Lib.hid hfew
    have HFV := Lib.hid hfv
    clear hfew hfv
    go_wp2_with fail
    refine Calls.mono HFE.out ?_
    rw [HFF.out]
    rintro e w2 ⟨rfl, hB⟩
    have HB2 := Lib.hid (HB1.out.trans (hB.mono HB1.out.size))
    clear hB
    have HFO := Lib.hid (formed_any A n c evs w2 (HE.out.keep HB2.out) (HS.out.keep HB2.out) HFV.out (by omega))
    cases hok : evs.all okV with
    | false =>
      have HOK := Lib.hid hok
      clear hok
      go_wp2_with fail
      refine Calls.mono HFO.out ?_
      rw [HOK.out]
      rintro e w3 ⟨rfl, hB⟩
      have HB3 := Lib.hid (HB2.out.trans (hB.mono HB2.out.size))
      clear hB
      go_wp2_with fail
      refine (awake_any _).mono ?_
      rintro e wz ⟨rfl, hB⟩
      have HBz := Lib.hid (HB3.out.trans (hB.mono HB3.out.size))
      clear hB
      go_wp2_with fail
      go_ret
      exact ⟨rfl, HBA.out.trans (HBz.out.mono HBA.out.size)⟩
    | true =>
      have HOK := Lib.hid hok
      have HOV := Lib.hid (List.all_eq_true.1 hok)
      clear hok
      go_wp2_with fail
      refine Calls.mono HFO.out ?_
      rw [HOK.out]
      rintro e w3 ⟨rfl, hB⟩
      have HB3 := Lib.hid (HB2.out.trans (hB.mono HB2.out.size))
      clear hB
      have HX3 := Lib.hid (HX0.out.below HB3.out HX0.out.lt)
      obtain ⟨x0, x1, x2, x3⟩ := (show w3.cell? ⟨G, 0, none⟩ = some (.int .u32 x.f) ∧ w3.cell? ⟨G, 1, none⟩ = some (.int .u32 x.t) ∧ w3.cell? ⟨G, 2, none⟩ = some (.slice x.A x.n x.c) ∧ w3.cell? ⟨G, 3, none⟩ = some (.slice x.A' x.n' x.c') from ev_facts HX3.out)
      have hxv := (HSX.out.keep HB3.out) x (by simp)
      have HFX := Lib.hid (Few_any x.f x.t x.A x.A' x.n x.c x.n' x.c' x.xs x.ys w3 hxv.1.1 hxv.2.1 HBX.out.1 HBX.out.2)
      clear hxv
      cases hfx : fewE x.xs x.ys with
      | false =>
        have HXX := Lib.hid hfx
        clear hfx
        go_wp2_with fail
        clear x0 x1 x2 x3
        refine Calls.mono HFX.out ?_
        rw [HXX.out]
        rintro e w4 ⟨rfl, hB⟩
        have HB4 := Lib.hid (HB3.out.trans (hB.mono HB3.out.size))
        clear hB
        go_wp2_with fail
        refine (awake_any _).mono ?_
        rintro e wz ⟨rfl, hB⟩
        have HBz := Lib.hid (HB4.out.trans (hB.mono HB4.out.size))
        clear hB
        go_wp2_with fail
        go_ret
        exact ⟨rfl, HBA.out.trans (HBz.out.mono HBA.out.size)⟩
      | true =>
        obtain ⟨s1, s2⟩ := few_small (v := x) hfx
        have HXX := Lib.hid hfx
        have HSM2 := Lib.hid s2
        rw [List.length_append] at s1
        have hxn : x.n + x.n' ≤ 30 := by
          have hxv := HSX.out x (by simp)
          have h1 := hxv.1.1.1
          have h2 := hxv.2.1.1
          omega
        clear hfx s1 s2
        go_wp2_with fail
        clear x0 x1 x2 x3
        refine Calls.mono HFX.out ?_
        rw [HXX.out]
        rintro e w4 ⟨rfl, hB⟩
        have HB4 := Lib.hid (HB3.out.trans (hB.mono HB3.out.size))
        clear hB
        have hfine : Fine w4.heap.size w4 evs := ⟨(HS.out.keep HB4.out).mono (Nat.le_trans HBA.out.size HB4.out.size), fun v hv => ⟨HFV.out v hv, HOV.out v hv⟩⟩
        have HLI := Lib.hid (es_links hfine (by rw [HLEN.out]; exact hn10))
        have HSZ := Lib.hid (es_size hfine (by rw [HLEN.out]; exact hn10))
        have HBU := Lib.hid (fine_bulk hfine)
        have hadd := added_any A n c 1048576 evs w4 (HE.out.keep HB4.out) hfine hn10 (by omega) (by omega)
        have HAD := Lib.hid hadd
        clear hfine hadd
        go_wp2_with fail
        refine Calls.mono HAD.out ?_
        intro e w5 hae
        obtain ⟨d, Aa, ca, S, rfl, hL5, hone, hown5, hB⟩ := added_long hae (by omega) HLI.out HSZ.out HLEN.out hn10
        have HB5 := Lib.hid (HB4.out.trans (hB.mono HB4.out.size))
        have HL5 := Lib.hid hL5
        have HONE := Lib.hid hone
        have HOWN5 := Lib.hid hown5
        clear hL5 hone hown5 hB hae
        obtain ⟨F, hF⟩ : ∃ F, F = rowF ((esOf evs).map bytesE) := ⟨_, rfl⟩
        have hFl : F.length ≤ 681080 := by
          have := HSZ.out
          unfold frL at this
          rw [List.take_length, ← hF] at this
          exact this
        have hone := HONE.out
        rw [← hF] at hone
        have hhad : hadL F = (esOf evs, F.length) := by rw [hF]; exact had_whole HLI.out
        have HONF := Lib.hid (show One 1073741824 (95 + 5) S F from hone)
        have HHAD := Lib.hid hhad
        clear hF hone hhad HONE
        go_wp2_with fail
        refine (open_one HL5.out (by omega) (by omega) HONF.out (by omega)).mono ?_
        rintro e w6 ⟨g, v, vs, S6, rfl, hL6, hK6, hone6, _, _, hla6, hvs6, hg6, hv6⟩
        have hBS : w4.heap.size ≤ w5.heap.size := HL5.out.base
        have HB6 := Lib.hid (HB5.out.trans ((hK6.below HL5.out.base).mono HB4.out.size))
        have HOWN6 := Lib.hid (hK6.own HOWN5.out (by decide))
        have hle := HHAD.out
        rw [hle] at hone6 hla6 hvs6
        rw [List.take_length] at hone6
        have HONE6 := Lib.hid hone6
        have HLA6 := Lib.hid hla6
        have HVS := Lib.hid (show vs.map Ev.ent = esOf evs from hvs6)
        have HL6 := Lib.hid hL6
        have HVB := Lib.hid hv6
        have HUSE := Lib.hid hone6.used
        have hvl : vs.length = n := by have := congrArg List.length HVS.out; rw [List.length_map, esOf_len, HLEN.out] at this; exact this
        have hgown : ∀ j, (Value.slice Aa n ca).ownBlock = some j → ¬ (j = g ∨ v.ownBlock = some j) := by
          intro j hj hc
          have h1 := (HOWN5.out.lt _ hj).2
          rcases hc with rfl | hc
          · omega
          · have := hv6 _ hc
            omega
        have HNB := Lib.hid hgown
        clear hL6 hK6 hone6 hla6 hvs6 hle hg6 hv6 hgown
        go_wp2_with fail
        have hu := live_Used HL6.out (by omega) (by omega)
        rw [HUSE.out] at hu
        refine hu.mono ?_
        rintro e w7 ⟨rfl, hB7⟩
        have HB7 := Lib.hid (HB6.out.trans (hB7.mono HB6.out.size))
        have HL7 := Lib.hid (HL6.out.same hB7)
        have HLA7 := Lib.hid (HLA6.out.below hB7)
        have HOWN7 := Lib.hid (own_below HOWN6.out hB7)
        clear hB7 hu
        have HX7 := Lib.hid (HX0.out.below HB7.out HX0.out.lt)
        obtain ⟨x0, x1, x2, x3⟩ := (show w7.cell? ⟨G, 0, none⟩ = some (.int .u32 x.f) ∧ w7.cell? ⟨G, 1, none⟩ = some (.int .u32 x.t) ∧ w7.cell? ⟨G, 2, none⟩ = some (.slice x.A x.n x.c) ∧ w7.cell? ⟨G, 3, none⟩ = some (.slice x.A' x.n' x.c') from ev_facts HX7.out)
        have hxv := (HSX.out.keep HB7.out) x (by simp)
        have HFM := Lib.hid (Formed_any x.f x.t x.A x.A' x.n x.c x.n' x.c' x.xs x.ys w7 hxv.1.1 hxv.2.1 (by omega) (by omega) HSM2.out)
        clear hxv
        obtain ⟨bx, hbx⟩ : ∃ b, b = okE x.ent := ⟨_, rfl⟩
        have hbx2 : okE (entOf x.f x.t x.xs x.ys) = bx := hbx.symm
        rw [hbx2] at HFM
        have HOKX := Lib.hid hbx.symm
        clear hbx hbx2
        go_wp2_with fail
        refine Calls.mono HFM.out ?_
        rintro e w8 ⟨rfl, hB8⟩
        have HB8 := Lib.hid (HB7.out.trans (hB8.mono HB7.out.size))
        have HL8 := Lib.hid (HL7.out.same hB8)
        have HLA8 := Lib.hid (HLA7.out.below hB8)
        have HOWN8 := Lib.hid (own_below HOWN7.out hB8)
        clear hB8 x0 x1 x2 x3
        have HBS := Lib.hid HL8.out.base
        have HX8 := Lib.hid (HX0.out.below HB8.out HX0.out.lt)
        obtain ⟨x0, x1, x2, x3⟩ := (show w8.cell? ⟨G, 0, none⟩ = some (.int .u32 x.f) ∧ w8.cell? ⟨G, 1, none⟩ = some (.int .u32 x.t) ∧ w8.cell? ⟨G, 2, none⟩ = some (.slice x.A x.n x.c) ∧ w8.cell? ⟨G, 3, none⟩ = some (.slice x.A' x.n' x.c') from ev_facts HX8.out)
        have hxv := (HSX.out.keep HB8.out) x (by simp)
        have HADD := Lib.hid (Add_any HL8.out (by omega) (by omega) HLA8.out L1 frame_one (by decide) x hxv.1.1 hxv.2.1 HXF.out HXT.out hxn HSM2.out (by omega) (by omega))
        clear hxv
        cases bx with
        | false =>
          have HR := Lib.hid (show addL S6 L1 (vs.map Ev.ent) F.length false x.ent = ⟨S6, vs.map Ev.ent, F.length, false, 2⟩ by unfold addL; rw [if_pos HOKX.out])
          go_wp2_with fail
          refine (show Calls _ _ _ _ _ from HADD.out).mono ?_
          rw [HR.out]
          rintro e wa ⟨rfl, hLa, ⟨v', vs', hlaa, hvsa, _⟩, hKa⟩
          have HBa := Lib.hid (HB8.out.trans ((hKa.below HBS.out).mono HB4.out.size))
          have HLa := Lib.hid hLa
          have HLAa := Lib.hid hlaa
          have HVSa := Lib.hid (hvsa.trans HVS.out)
          have HOWNa := Lib.hid (hKa.own HOWN8.out (by decide) HNB.out)
          clear hLa hlaa hvsa hKa x0 x1 x2 x3
          go_wp2_with fail
          have hu := live_Used HLa.out (by omega) (by omega)
          rw [HUSE.out] at hu
          refine hu.mono ?_
          rintro e wb ⟨rfl, hBb⟩
          have HBb := Lib.hid (HBa.out.trans (hBb.mono HBa.out.size))
          have HLAb := Lib.hid (HLAa.out.below hBb)
          have HOWNb := Lib.hid (own_below HOWNa.out hBb)
          have hwb : w4.heap.size ≤ wb.heap.size := Nat.le_trans HLa.out.base hBb.size
          clear hBb hu
          have hvlb : vs'.length = n := by have := congrArg List.length HVSa.out; rw [List.length_map, esOf_len, HLEN.out] at this; exact this
          have hEN := Entries_any HLAb.out (by omega) (bulky_of (vs := numE evs) HVSa.out HLAb.out.sees HBU.out)
          rw [hvlb] at hEN
          have HEN := Lib.hid hEN
          clear hvlb hEN
          go_wp2_with fail
          refine Calls.mono HEN.out ?_
          rintro e wc ⟨Ac, cc, us, rfl, hownc, hus, hsu, hBc⟩
          have HBc := Lib.hid (HBb.out.trans (hBc.mono HBb.out.size))
          have HOWNc := Lib.hid (own_below HOWNb.out hBc)
          have hes : us.map Ev.ent = (numE evs).map Ev.ent := hus.trans HVSa.out
          have hsva : SeesVs wc.heap.size wc (numE evs) := (numE_sees (HS.out.keep HBc.out)).mono (Nat.le_trans HBA.out.size HBc.out.size)
          have HSM := Lib.hid (SameL_any Ac Aa n cc ca us (numE evs) wc (SeesE.own hownc) (hsu.mono (Nat.le_trans hwb hBc.size)) (SeesE.own HOWNc.out) hsva hes (bulky_of hes hsu HBU.out) (by omega))
          clear hownc hus hsu hBc hes hsva
          go_wp2_with fail
          refine Calls.mono HSM.out ?_
          rintro e wd ⟨rfl, hBd⟩
          have HBd := Lib.hid (HBc.out.trans (hBd.mono HBc.out.size))
          clear hBd
          go_wp2_with fail
          go_ret
          exact ⟨rfl, HBA.out.trans (HBd.out.mono HBA.out.size)⟩
        | true =>
          have HXB := Lib.hid (show (bytesE x.ent).length ≤ 100000 from (goes_bytes HOKX.out HXF.out HXT.out (by
            have hxv := HSX.out x (by simp)
            rw [ent_len, hxv.1.1.1, hxv.2.1.1]; exact hxn) (ent_small HSM2.out)).2)
          have HBU2 := Lib.hid (show x.ent.xs.length ≤ 1073741824 ∧ x.ent.ys.length ≤ 1073741824 by
            have hxv := HSX.out x (by simp)
            have h1 := hxv.1.1.1
            have h2 := hxv.2.1.1
            have e1 : x.ent.xs.length = x.xs.length := by show (x.xs.map Rrd.toRec).length = _; rw [List.length_map]
            have e2 : x.ent.ys.length = x.ys.length := by show (x.ys.map Rrd.toRec).length = _; rw [List.length_map]
            omega)
          rcases Nat.eq_zero_or_pos n with hn0 | hn0
          · have g1 : ¬ (0 : Int) < (n : Int) := by omega
            have he0 : evs = [] := List.eq_nil_of_length_eq_zero (HLEN.out.trans hn0)
            have HE0 := Lib.hid he0
            clear he0
            have hgo : goesE (lastT (esOf evs)) x.ent.f = true := by
              rw [HE0.out]; rfl
            obtain ⟨a1, a2, a3, a4, _, _⟩ := (show One 1073741824 (92 + 3) S6 F from HONE6.out).add (es := esOf evs) (en := F.length) HOKX.out hgo (by have := HXB.out; omega)
            have HR := Lib.hid (show (addL S6 L1 (vs.map Ev.ent) F.length false x.ent).c = 0 ∧ (addL S6 L1 (vs.map Ev.ent) F.length false x.ent).es = esOf evs ++ [x.ent] by rw [HVS.out]; exact ⟨a1, a2⟩)
            clear a1 a2 a3 a4 hgo
            go_wp2_with fail
            refine (show Calls _ _ _ _ _ from HADD.out).mono ?_
            rintro e wa ⟨rfl, hLa, ⟨v', vs', hlaa, hvsa, _⟩, hKa⟩
            have HBa := Lib.hid (HB8.out.trans ((hKa.below HBS.out).mono HB4.out.size))
            have HLAa := Lib.hid hlaa
            have HVSa := Lib.hid (hvsa.trans HR.out.2)
            rw [HR.out.1]
            clear hLa hlaa hvsa hKa x0 x1 x2 x3
            have hvla : vs'.length = n + 1 := by have := congrArg List.length HVSa.out; rw [List.length_map, List.length_append, esOf_len, HLEN.out] at this; exact this
            have hEN := Entries_any HLAa.out (by omega) (bulky_of (vs := numE evs ++ [x]) (HVSa.out.trans (by rw [List.map_append]; rfl)) HLAa.out.sees (fun y hy => by
              rcases List.mem_append.1 hy with hy | hy
              · exact HBU.out y hy
              · rw [List.mem_singleton] at hy; subst hy; exact HBU2.out))
            rw [hvla] at hEN
            have HEN := Lib.hid hEN
            clear hvla hEN
            go_wp2_with fail
            refine Calls.mono HEN.out ?_
            rintro e wc ⟨Ac, cc, us, rfl, _, _, _, hBc⟩
            have HBc := Lib.hid (HBa.out.trans (hBc.mono HBa.out.size))
            clear hBc
            go_wp2_with fail
            go_ret
            exact ⟨rfl, HBA.out.trans (HBc.out.mono HBA.out.size)⟩
          · have g1 : (0 : Int) < (n : Int) := by omega
            have g2 : (n : Int) < 4294967296 := by omega
            rcases hx0 with hxe | hxe
            · have HXE := Lib.hid hxe
              have haa := HADD.out
              unfold Ev.arr enA at haa
              rw [hxe] at haa x0
              have HADD := Lib.hid haa
              clear haa hxe
              have hgo : goesE (lastT (esOf evs)) x.ent.f = true := by
                rw [lastT_num (by rw [HLEN.out]; omega), HLEN.out]
                show decide (x.f = (n : Int)) = true
                simpa using HXE.out
              obtain ⟨a1, a2, a3, a4, _, _⟩ := (show One 1073741824 (92 + 3) S6 F from HONE6.out).add (es := esOf evs) (en := F.length) HOKX.out hgo (by have := HXB.out; omega)
              have HR := Lib.hid (show (addL S6 L1 (vs.map Ev.ent) F.length false x.ent).c = 0 ∧ (addL S6 L1 (vs.map Ev.ent) F.length false x.ent).es = esOf evs ++ [x.ent] by rw [HVS.out]; exact ⟨a1, a2⟩)
              clear a1 a2 a3 a4 hgo
              go_wp2_with fail
              refine (show Calls _ _ _ _ _ from HADD.out).mono ?_
              rintro e wa ⟨rfl, hLa, ⟨v', vs', hlaa, hvsa, _⟩, hKa⟩
              have HBa := Lib.hid (HB8.out.trans ((hKa.below HBS.out).mono HB4.out.size))
              have HLAa := Lib.hid hlaa
              have HVSa := Lib.hid (hvsa.trans HR.out.2)
              rw [HR.out.1]
              clear hLa hlaa hvsa hKa x0 x1 x2 x3
              have hvla : vs'.length = n + 1 := by have := congrArg List.length HVSa.out; rw [List.length_map, List.length_append, esOf_len, HLEN.out] at this; exact this
              have hEN := Entries_any HLAa.out (by omega) (bulky_of (vs := numE evs ++ [x]) (HVSa.out.trans (by rw [List.map_append]; rfl)) HLAa.out.sees (fun y hy => by
                rcases List.mem_append.1 hy with hy | hy
                · exact HBU.out y hy
                · rw [List.mem_singleton] at hy; subst hy; exact HBU2.out))
              rw [hvla] at hEN
              have HEN := Lib.hid hEN
              clear hvla hEN
              go_wp2_with fail
              refine Calls.mono HEN.out ?_
              rintro e wc ⟨Ac, cc, us, rfl, _, _, _, hBc⟩
              have HBc := Lib.hid (HBa.out.trans (hBc.mono HBa.out.size))
              clear hBc
              go_wp2_with fail
              go_ret
              exact ⟨rfl, HBA.out.trans (HBc.out.mono HBA.out.size)⟩
            · have HXE := Lib.hid hxe
              have hxb : (x.f != (n : Int)) = true := by rw [bne_iff_ne]; exact hxe
              clear hxe
              have HR := Lib.hid (show addL S6 L1 (vs.map Ev.ent) F.length false x.ent = ⟨S6, vs.map Ev.ent, F.length, false, 8⟩ by
                have hgo : goesE (lastT (vs.map Ev.ent)) x.ent.f = false := by
                  rw [HVS.out, lastT_num (by rw [HLEN.out]; omega), HLEN.out]
                  show decide (x.f = (n : Int)) = false
                  simpa using HXE.out
                unfold addL
                rw [if_neg (by rw [HOKX.out]; decide), if_pos hgo])
              go_wp2_with fail
              refine (show Calls _ _ _ _ _ from HADD.out).mono ?_
              rw [HR.out]
              rintro e wa ⟨rfl, hLa, ⟨v', vs', hlaa, hvsa, _⟩, hKa⟩
              have HBa := Lib.hid (HB8.out.trans ((hKa.below HBS.out).mono HB4.out.size))
              have HLa := Lib.hid hLa
              have HLAa := Lib.hid hlaa
              have HVSa := Lib.hid (hvsa.trans HVS.out)
              have HOWNa := Lib.hid (hKa.own HOWN8.out (by decide) HNB.out)
              clear hLa hlaa hvsa hKa x0 x1 x2 x3
              go_wp2_with fail
              have hu := live_Used HLa.out (by omega) (by omega)
              rw [HUSE.out] at hu
              refine hu.mono ?_
              rintro e wb ⟨rfl, hBb⟩
              have HBb := Lib.hid (HBa.out.trans (hBb.mono HBa.out.size))
              have HLAb := Lib.hid (HLAa.out.below hBb)
              have HOWNb := Lib.hid (own_below HOWNa.out hBb)
              have hwb : w4.heap.size ≤ wb.heap.size := Nat.le_trans HLa.out.base hBb.size
              clear hBb hu
              have hvlb : vs'.length = n := by have := congrArg List.length HVSa.out; rw [List.length_map, esOf_len, HLEN.out] at this; exact this
              have hEN := Entries_any HLAb.out (by omega) (bulky_of (vs := numE evs) HVSa.out HLAb.out.sees HBU.out)
              rw [hvlb] at hEN
              have HEN := Lib.hid hEN
              clear hvlb hEN
              go_wp2_with fail
              refine Calls.mono HEN.out ?_
              rintro e wc ⟨Ac, cc, us, rfl, hownc, hus, hsu, hBc⟩
              have HBc := Lib.hid (HBb.out.trans (hBc.mono HBb.out.size))
              have HOWNc := Lib.hid (own_below HOWNb.out hBc)
              have hes : us.map Ev.ent = (numE evs).map Ev.ent := hus.trans HVSa.out
              have hsva : SeesVs wc.heap.size wc (numE evs) := (numE_sees (HS.out.keep HBc.out)).mono (Nat.le_trans HBA.out.size HBc.out.size)
              have HSM := Lib.hid (SameL_any Ac Aa n cc ca us (numE evs) wc (SeesE.own hownc) (hsu.mono (Nat.le_trans hwb hBc.size)) (SeesE.own HOWNc.out) hsva hes (bulky_of hes hsu HBU.out) (by omega))
              clear hownc hus hsu hBc hes hsva
              go_wp2_with fail
              refine Calls.mono HSM.out ?_
              rintro e wd ⟨rfl, hBd⟩
              have HBd := Lib.hid (HBc.out.trans (hBd.mono HBc.out.size))
              clear hBd
              go_wp2_with fail
              go_ret
              exact ⟨rfl, HBA.out.trans (HBd.out.mono HBA.out.size)⟩
end Go.Proofs.YtggognnjnfphgaaGreatDoor
