/- Parts of the proofs of the statements of image. No statement of the seat is proved here. -/
import Derived.Test.YtmpginmdaeclaaaGreatDoorSnpB
import Derived.Test.YtmpginmdaeclaaaGreatDoorSnpF
set_option maxHeartbeats 32000000
set_option maxRecDepth 20000
namespace Go.Proofs.YtmpginmdaeclaaaGreatDoor
open Go.RowKit Go.Maps Go.Sort
set_option maxRecDepth 20000
theorem fn_info : (Tryz.prog.info? 109).map (fun i => (i.zero, i.size, i.bytes)) = some (some .nilFunc, 1, 8) := by kernel_rfl
theorem info_three {t : TypeId} {z : Value} {s b : Nat} (h : (Tryz.prog.info? t).map (fun i => (i.zero, i.size, i.bytes)) = some (some z, s, b)) : ∃ i, Tryz.prog.info? t = some i /\ i.zero = some z /\ i.size = s /\ i.bytes = b := by
  cases hi : Tryz.prog.info? t with
  | none => rw [hi] at h; cases h
  | some i =>
    rw [hi] at h
    simp only [Option.map_some, Option.some.injEq, Prod.mk.injEq] at h
    exact ⟨i, rfl, h.1, h.2.1, h.2.2⟩
def rmq (gd c : Nat) (nm : ByteArray) : Stq := ⟨50, #[], #[.pointer (some ⟨gd, 0, none⟩), .pointer (some ⟨c, 0, none⟩)], fun S => removeS S nm.data.toList⟩
theorem stp_rm {B d m gd c : Nat} {w0 : World} (nm : ByteArray) (hc : ∀ w', Kept B w0 w' -> w'.cell? ⟨gd, 0, none⟩ = some (dptr d)) (hc2 : ∀ w', Kept B w0 w' -> w'.cell? ⟨c, 0, none⟩ = some (.string nm)) : Stp B d m w0 (rmq gd c nm) where
  enter := enters_of Tryz.func50 (by kernel_rfl) rfl
  call := by
    intro k M S w hK h hk hM
    have c0 := hc w hK
    have c1 := hc2 w hK
    have H := Ha h
    clear hc hc2 hK h; unfold rmq
    simp only [Array.empty_append]
    go_enter Tryz.func50, Tryz.ntmps50
    go_wp2_with fail
    refine (live_Remove H.out (by omega) nm).mono ?_
    rintro e w1 ⟨rfl, hL, hK⟩; have HL := Ha hL
    have HK := Ha hK
    clear hL hK; go_wp2_with fail
    go_ret
    exact ⟨rfl, HL.out.mono (by omega) (by omega), HK.out⟩
structure StepsAt (B gd : Nat) (w : World) (v : Value) (cs : List (Nat × ByteArray)) : Prop where
  row : w.ownsRow B 109 1 v cs.length (cs.map fun p => (rmq gd p.1 p.2).v)
  cells : ∀ p ∈ cs, Whole w p.1 9 #[.string p.2]
theorem StepsAt.below {B gd : Nat} {w w' : World} {v : Value} {cs : List (Nat × ByteArray)} (h : StepsAt B gd w v cs) (hb : Below w.heap.size w w') : StepsAt B gd w' v cs :=
  ⟨own_below h.row hb, fun p hp => (h.cells p hp).below hb (h.cells p hp).lt⟩
theorem StepsAt.snoc {B gd : Nat} {w w' : World} {v v' : Value} {cs : List (Nat × ByteArray)} {c : Nat} {nm : ByteArray} (h : StepsAt B gd w v cs) (hc : Whole w c 9 #[.string nm])
    (hrow : w'.ownsRow B 109 1 v' (cs.length + 1) ((cs.map fun p => (rmq gd p.1 p.2).v) ++ [(rmq gd c nm).v])) (hg : w.grownBy w' v.ownBlock) : StepsAt B gd w' v' (cs ++ [(c, nm)]) := by
  have hty : ∀ x, v.ownBlock = some x -> typ w.heap[x]? ≠ 9 := fun x hx => by rw [own_typ h.row hx]; decide
  refine ⟨by rw [List.length_append, List.map_append]; exact hrow, fun p hp => ?_⟩
  rcases List.mem_append.1 hp with hp | hp
  · exact (h.cells p hp).keepT hg hty
  · rw [List.mem_singleton] at hp
    subst hp; exact hc.keepT hg hty
def keepS (lg : Bys) (ns : List Bys) : List Bys := ns.filter fun n => n != imgN && n != lg
theorem sweepL_eq (lg : Bys) (ns : List Bys) : sweepL lg ns = (keepS lg ns).map fun n S => removeS S n := rfl
theorem steps_run {gd : Nat} {cs : List (Nat × ByteArray)} {lg : Bys} {ns : List Bys} (h : cs.map (fun p => p.2.data.toList) = keepS lg ns) : (cs.map fun p => rmq gd p.1 p.2).map (·.f) = sweepL lg ns := by
  rw [sweepL_eq, <-h, List.map_map, List.map_map]
  rfl
theorem keep_snoc {lg : Bys} {ns : List Bys} {k : Nat} {x : Bys} (h : ns[k]? = some x) : keepS lg (ns.take (k + 1)) = if (x != imgN && x != lg) = true then keepS lg (ns.take k) ++ [x] else keepS lg (ns.take k) := by
  unfold keepS
  rw [List.take_add_one, h, Option.toList_some, List.filter_append]
  split
  · rename_i e; simp only [List.filter, e]
  · rename_i e
    have e2 : (x != imgN && x != lg) = false := by simpa using e
    simp only [List.filter, e2, List.append_nil]
theorem own1 {w : World} {base e n : Nat} {v : Value} {xs : List Value} (h : w.ownsRow base e 1 v n xs) : ∃ A c, v = .slice A n c /\ ∀ i x, xs[i]? = some x -> ∃ g, A = some ⟨g, 0, none⟩ /\ g < w.heap.size /\ w.cell? ⟨g, i, none⟩ = some x := by
  have h0 := h
  rcases h.2 with ⟨rfl, hz⟩ | ⟨g, cap, cur, rfl, hb, hg, _⟩
  · refine ⟨none, 0, by rw [hz], fun i x hx => ?_⟩
    have h1 := h.1
    rw [hz] at h1
    have : xs = [] := List.eq_nil_of_length_eq_zero (by simpa using h1)
    rw [this] at hx
    simp at hx
  · refine ⟨some ⟨g, 0, none⟩, cap, rfl, fun i x hx => ⟨g, rfl, (Array.getElem?_eq_some_iff.1 hg).1, ?_⟩⟩
    have := World.ownsRow.cells h0 (g := g) rfl i x hx
    rwa [add0] at this
theorem Sweep_any {B d k M : Nat} {w : World} {S : St} (h : Live B w d k M S) (hk : k <= 2000) (hM : M <= 300000000) (gen : Nat) (lg : Bys)
    (hname : ∀ W, Calls Tryz.prog 49 #[.int .u64 (gen : Nat)] W fun e w' => e = .returned (.string (mk lg)) /\ Below W.heap.size W w') :
    Calls Tryz.prog 17 #[dptr d, .int .u64 (gen : Nat)] w fun e w' => e = .returned (.int .i64 (sweepS S lg).2) /\ Live B w' d (k + 2 * (k + 1)) M (sweepS S lg).1 /\ Kept B w w' := by
  have hmf : ∀ (fn : Fn) (first cap : Array Value) (w : World), (Instr.makeFunc fn first cap).run Tryz.prog w = .ok (.func fn first cap) w := fun _ _ _ _ => rfl
  obtain ⟨W0, hW0⟩ : ∃ W0, W0 = w.alloc (.cells #[dptr d] 31) := ⟨_, rfl⟩
  obtain ⟨gd, hgd⟩ : ∃ gd, gd = w.heap.size := ⟨_, rfl⟩
  have hb0 : Below w.heap.size w W0 := by rw [hW0]; exact (Below.refl _ _).alloc (Nat.le_refl _) _
  have hv0 : Whole W0 gd 31 #[dptr d] := by rw [hW0, hgd]; exact Whole.new _ _ _
  have c0 : W0.cell? ⟨gd, 0, none⟩ = some (dptr d) := hv0.cell 0
  have hl0 := h.same hb0
  have hli := List_any hl0.disk hl0.fit (by omega)
  have HLI := Ha hli
  have HL0 := Ha hl0
  have HV0 := Ha hv0
  have HB0 := Ha hb0
  have HW0 := Ha hW0
  have HGD := Ha hgd
  have HNM := Ha hname
  clear hli hl0 hv0 hb0 hW0 hgd hname h
  by_cases hd : S.down = true
  · have HE := Ha (show listE S = 5 by unfold listE; rw [if_pos hd])
    have HS := Ha (show sweepS S lg = (S, 5) by unfold sweepS; rw [if_pos hd])
    clear hd; go_enter Tryz.func17, Tryz.ntmps17
    go_wp2_with fail
    rw [<-HW0.out, <-HGD.out]
    go_wp2_with fail
    refine HLI.out.mono ?_
    rw [HE.out]
    rintro e w1 ⟨v, rfl, ho, hB⟩; obtain ⟨A, c, rfl, _⟩ := own1 ho
    have HL1 := Ha (HL0.out.same hB)
    have HB1 := thB HB0 hB
    clear hB ho; go_wp2_with fail
    go_ret
    rw [HS.out]
    exact ⟨rfl, HL1.out.mono (by omega) (Nat.le_refl _), .of_below HB1.out⟩
  · have hd0 : S.down = false := by simpa using hd
    obtain ⟨ns, hns⟩ : ∃ ns, ns = S.names.map (·.1) := ⟨_, rfl⟩
    have HE := Ha (show listE S = 0 by unfold listE; rw [if_neg hd])
    have hli : listL S = ns := by unfold listL; rw [if_neg hd, hns]
    have hnk : ns.length <= k := by rw [hns, List.length_map]; exact HL0.out.fit.nn
    have HS := Ha (show sweepS S lg = if keepS lg ns = [] then (S, 0) else runL (sweepL lg ns ++ [syncDirS]) S by
      unfold sweepS; rw [if_neg hd, <-hns, sweepL_eq]
      simp only [List.map_eq_nil_iff])
    rw [hli] at HLI
    have HNK := Ha hnk
    have HD0 := Ha hd0
    clear hd hd0 hns hli hnk; obtain ⟨n, hn⟩ : ∃ n, n = ns.length := ⟨_, rfl⟩
    have HN := Ha hn
    rw [<-hn] at HLI
    have hnI : n <= 2000 := by rw [hn]; have := HNK.out; omega
    clear hn; go_enter Tryz.func17, Tryz.ntmps17
    go_wp2_with fail
    rw [<-HW0.out, <-HGD.out]
    go_wp2_with fail
    refine HLI.out.mono ?_
    rw [HE.out]
    rintro e w1 ⟨v, rfl, ho, hB⟩; obtain ⟨A, c, rfl, hcell⟩ := own1 ho
    have HCE := Ha hcell
    have HL1 := Ha (HL0.out.same hB)
    have HB1' := Ha hB
    have HB1 := thB HB0 hB
    have HV1 := Ha (HV0.out.below hB HV0.out.lt)
    clear hB ho hcell c0; go_wp2_with fail
    go_loopw [7, 20] (fun u i wr => ∃ (k : Nat) (cs : List (Nat × ByteArray)), k <= n /\ i = .int .i64 k /\ StepsAt w1.heap.size gd wr u cs /\ cs.map (fun p => p.2.data.toList) = keepS lg (ns.take k) /\ Below w1.heap.size w1 wr) (fun _ i _ => n - (intOf i).toNat)
    case atStart => exact ⟨0, [], Nat.zero_le _, rfl, ⟨World.ownsRow_nil _ _ _ _, fun p hp => by cases hp⟩, rfl, Below.refl _ _⟩
    case round =>
      obtain ⟨j, cs, hj, rfl, hS, hcs, hB⟩ := hrel
      have HSS := Ha hS
      have HCS := Ha hcs
      have HB := Ha hB
      clear hS hcs hB
      by_cases hlt : j < n
      · have hlk : (j : Int) < (n : Int) := by omega
        obtain ⟨x, hx⟩ : ∃ x, ns[j]? = some x := ⟨_, List.getElem?_eq_getElem (by have := HN.out; omega)⟩
        obtain ⟨Z, hZ⟩ : ∃ Z, Z = mk x := ⟨_, rfl⟩
        obtain ⟨g, rfl, hg, hc⟩ := HCE.out j (.string Z) (by rw [List.getElem?_map, hx, hZ]; rfl)
        have hc' : wr.cell? ⟨g, j, none⟩ = some (.string Z) := (HB.out.cell (p := ⟨g, j, none⟩) hg).trans hc
        have HKS := Ha (keep_snoc (lg := lg) hx)
        obtain ⟨W, hW⟩ : ∃ W, W = wr.alloc (.cells #[.string Z] 9) := ⟨_, rfl⟩
        obtain ⟨gc, hgc⟩ : ∃ gc, gc = wr.heap.size := ⟨_, rfl⟩
        have hbw : Below wr.heap.size wr W := by rw [hW]; exact (Below.refl _ _).alloc (Nat.le_refl _) _
        have HWC := Ha (show Whole W gc 9 #[.string Z] by rw [hW, hgc]; exact Whole.new _ _ _)
        have HSW := Ha (HSS.out.below hbw)
        have HBW := thB HB hbw
        have HW := Ha hW
        have HGC := Ha hgc
        have HZ := Ha hZ
        have y0 : ∀ w' : World, Below W.heap.size W w' -> w'.cell? ⟨gc, 0, none⟩ = some (.string Z) := fun w' h => (h.cell HWC.out.lt).trans ((HWC.out.cell 0).trans rfl)
        have hbd : Below W.heap.size W W.drew := (Below.refl _ _).drew
        clear hx hg hc hbw hW hgc hZ
        by_cases h1 : x = imgN
        · have hl0 : (Z.toList == [105, 109, 97, 103, 101]) = true := by rw [HZ.out, ByteArray.toList_eq, mk_list, beq_iff_eq]; exact h1
          have HNO := Ha (show ¬ (x != imgN && x != lg) = true by rw [h1]; simp)
          clear h1; go_wp2_with fail
          rw [<-HW.out, <-HGC.out]
          refine wp_region_held_drew (S := fun w' => Below W.heap.size W w') (by kernel_rfl) hbd (fun hHeld => ?_)
          refine takeH (i := 0) (v := ?_) rfl (by kernel_rfl) (by kernel_rfl) (by kernel_rfl) (fun _ _ _ h => h) (Or.inl ⟨by rfl, ?_⟩) hHeld ?_
          rotate_left
          · intro w hSw
            go_simp
            try with_reducible rfl
          try simp only [Act.put, List.setIfInBounds_toArray, List.set_cons_zero, List.set_cons_succ]
          refine takeH (i := 1) (v := ?_) rfl (by kernel_rfl) (by kernel_rfl) (by kernel_rfl) (fun _ _ _ h => h) (Or.inl ⟨by rfl, ?_⟩) hHeld ?_
          rotate_left
          · intro w hSw
            go_simp
            try with_reducible rfl
          try simp only [Act.put, List.setIfInBounds_toArray, List.set_cons_zero, List.set_cons_succ]
          refine takeH (i := 2) (v := ?_) rfl (by kernel_rfl) (by kernel_rfl) (by kernel_rfl) (fun _ _ _ h => h) (Or.inl ⟨by rfl, ?_⟩) hHeld ?_
          rotate_left
          · intro w hSw
            go_simp
            try with_reducible rfl
          try simp only [Act.put, List.setIfInBounds_toArray, List.set_cons_zero, List.set_cons_succ]
          refine tkN (i := 3) rfl (by kernel_rfl) (by kernel_rfl) (by kernel_rfl) (fun _ _ _ h => h) (by rfl) hHeld ?_
          try simp only [Act.put, List.setIfInBounds_toArray, List.set_cons_zero, List.set_cons_succ]
          refine tkN (i := 4) rfl (by kernel_rfl) (by kernel_rfl) (by kernel_rfl) (fun _ _ _ h => h) (by rfl) hHeld ?_
          try simp only [Act.put, List.setIfInBounds_toArray, List.set_cons_zero, List.set_cons_succ]
          refine wpAnyH_ready (rs := [5]) (by decide +kernel) (by simp) ?_
          refine consH (i := 5) rfl (fun K hK => ?_) AllReadyH.nil
          rw [if_neg (fun h => Bool.false_ne_true ((show Region.wanted _ _ = false by rfl).symm.trans h))]
          refine hK.out _ _ hHeld (fun hHeld => ?_)
          clear hK K
          try simp only [Act.put, List.setIfInBounds_toArray, List.set_cons_zero, List.set_cons_succ]
          refine tkN (i := 6) rfl (by kernel_rfl) (by kernel_rfl) (by kernel_rfl) (fun _ _ _ h => h) (by rfl) hHeld ?_
          try simp only [Act.put, List.setIfInBounds_toArray, List.set_cons_zero, List.set_cons_succ]
          refine takeH (i := 7) (v := ?_) rfl (by kernel_rfl) (by kernel_rfl) (by kernel_rfl) (fun _ _ _ h => h) (Or.inl ⟨by rfl, ?_⟩) hHeld ?_
          rotate_left
          · intro w hSw
            go_simp
            try with_reducible rfl
          try simp only [Act.put, List.setIfInBounds_toArray, List.set_cons_zero, List.set_cons_succ]
          refine wpAnyH_done (by kernel_rfl) ?_ _
          have HE9 := Ha hHeld
          clear hHeld y0 hbd; have HSU := Ha (HSW.out.below HE9.out)
          have HBU := Ha (HBW.out.trans (HE9.out.mono HBW.out.size))
          go_wp2_with fail
          go_roundw
          case rel => exact ⟨j + 1, cs, by omega, by go_num, HSU.out, by rw [HKS.out, if_neg HNO.out]; exact HCS.out, HBU.out⟩
          case measure => simp [intOf]; omega
        · have hl1 : (Z.toList == [105, 109, 97, 103, 101]) = false := by rw [HZ.out, ByteArray.toList_eq, mk_list, beq_eq_false_iff_ne]; exact h1
          obtain ⟨LG, hLG⟩ : ∃ LG, LG = mk lg := ⟨_, rfl⟩
          have HNL := Ha HNM.out
          rw [<-hLG] at HNL
          by_cases h2 : x = lg
          · have hl3 : (Z.toList == LG.toList) = true := by rw [HZ.out, hLG, mk_beq, beq_iff_eq]; exact h2
            have HNO := Ha (show ¬ (x != imgN && x != lg) = true by rw [h2]; simp)
            clear h1 h2 hLG; go_wp2_with fail
            rw [<-HW.out, <-HGC.out]
            go_region_held3 (fun w' => Below W.heap.size W w') (go_keep) (first
              | (go_at_call 49; refine (HNL.out _).mono ?_; rintro e u ⟨rfl, hBu⟩; have hT := hbd.trans (hBu.mono hbd.size)))
            have HE9 := Ha hT
            clear hT y0 hbd hBu; have HSU := Ha (HSW.out.below HE9.out)
            have HBU := Ha (HBW.out.trans (HE9.out.mono HBW.out.size))
            go_wp2_with fail
            go_roundw
            case rel => exact ⟨j + 1, cs, by omega, by go_num, HSU.out, by rw [HKS.out, if_neg HNO.out]; exact HCS.out, HBU.out⟩
            case measure => simp [intOf]; omega
          · have hl3 : (Z.toList == LG.toList) = false := by rw [HZ.out, hLG, mk_beq, beq_eq_false_iff_ne]; exact h2
            have HYES := Ha (show (x != imgN && x != lg) = true by rw [Bool.and_eq_true, bne_iff_ne, bne_iff_ne]; exact ⟨h1, h2⟩)
            clear h1 h2 hLG; go_wp2_with fail
            rw [<-HW.out, <-HGC.out]
            go_region_held3 (fun w' => Below W.heap.size W w') (go_keep) (first
              | (go_at_call 49; refine (HNL.out _).mono ?_; rintro e u ⟨rfl, hBu⟩; have hT := hbd.trans (hBu.mono hbd.size)))
            have HE9 := Ha hT
            clear hT y0 hbd hBu; have HSU := Ha (HSW.out.below HE9.out)
            have HBU := Ha (HBW.out.trans (HE9.out.mono HBW.out.size))
            have HCU := Ha (HWC.out.below HE9.out HWC.out.lt)
            obtain ⟨i0, hi0, hz0, hz1, hz2⟩ := info_three fn_info
            have hcl : cs.length <= 2000 := by
              have h1 := congrArg List.length HCS.out
              rw [List.length_map] at h1
              have h2 : (keepS lg (ns.take j)).length <= (ns.take j).length := List.length_filter_le _ _
              rw [List.length_take] at h2
              omega
            have H63 := Ha (show cs.length + 1 <= maxLen by unfold maxLen; omega)
            have H47 := Ha (show (cs.length + 1) * 8 <= 140737488355328 by omega)
            clear hcl; go_wp2_with (at_builtin; refine wpList_append_own _ rfl _ _ 106 rfl w1.heap.size 109 i0 .nilFunc 1 8 Tryz.underlying106 hi0 hz0 hz1 hz2 rfl (by decide) _ _ _ rfl (HSU.out.below ((Below.refl _ u).alloc (Nat.le_refl _) _)).row ⟨u.heap.size, 0, none⟩ 1 1 [(rmq gd gc Z).v] rfl rfl (World.news_of_block (cs := #[(rmq gd gc Z).v]) (t := 109) (fr := (0, 0)) (heap_alloc_new u _)) (fun x hx => by rw [List.mem_singleton] at hx; subst hx; rfl) H63.out H47.out (Nat.le_trans HBU.out.size (by simp)) ?_; intro v2 w2 hown2 hgrow2 _)
            have hal : Below u.heap.size u (u.alloc (.cells #[(rmq gd gc Z).v] 109)) := (Below.refl _ _).alloc (Nat.le_refl _) _
            have HS2 := Ha ((HSU.out.below hal).snoc (HCU.out.below hal HCU.out.lt) hown2 hgrow2)
            have HB2 := Ha ((HBU.out.alloc HBU.out.size _).grown hgrow2 (Nat.le_trans HBU.out.size (by simp)) (fun j hj => (HSU.out.row.lt j hj).1))
            clear hal hown2 hgrow2; go_roundw
            case rel => exact ⟨j + 1, cs ++ [(gc, Z)], by omega, by go_num, HS2.out, by rw [HKS.out, if_pos HYES.out, List.map_append, HCS.out, List.map_cons, List.map_nil, HZ.out, mk_list], HB2.out⟩
            case measure => simp [intOf]; omega
      · obtain rfl : j = n := by omega
        have hkeep : cs.map (fun p => p.2.data.toList) = keepS lg ns := by rw [HCS.out, List.take_of_length_le (by have := HN.out; omega)]
        obtain ⟨A7, c7, rfl, _⟩ := own1 HSS.out.row
        have HK := Ha hkeep
        have HBE := Ha (HB1.out.trans (HB.out.mono HB1.out.size))
        have HLE := Ha (HL1.out.same HB.out)
        have HVE := Ha (HV1.out.below HB.out HV1.out.lt)
        have hcl : cs.length <= k := by
          have h1 := congrArg List.length hkeep
          rw [List.length_map] at h1
          have h2 : (keepS lg ns).length <= ns.length := List.length_filter_le _ _
          have := HNK.out
          omega
        by_cases h0 : cs.length = 0
        · have he : keepS lg ns = [] := by rw [<-hkeep, List.eq_nil_of_length_eq_zero h0]; rfl
          have HR := Ha (show sweepS S lg = (S, 0) by rw [HS.out, if_pos he])
          have h0b : ((cs.length : Int) == 0) = true := by rw [beq_iff_eq]; omega
          clear hkeep he h0; go_wp2_with fail
          go_ret
          rw [HR.out]
          exact ⟨rfl, HLE.out.mono (by omega) (Nat.le_refl _), .of_below HBE.out⟩
        · have he : ¬ keepS lg ns = [] := by rw [<-hkeep]; intro e; exact h0 (by have := congrArg List.length e; rwa [List.length_map] at this)
          have HR := Ha (show sweepS S lg = runL (sweepL lg ns ++ [syncDirS]) S by rw [HS.out, if_neg he])
          have h0b : ((cs.length : Int) == 0) = false := by rw [beq_eq_false_iff_ne]; omega
          have cgd : wr.cell? ⟨gd, 0, none⟩ = some (dptr d) := HVE.out.cell 0
          obtain ⟨i0, hi0, hz0, hz1, hz2⟩ := info_three fn_info
          have H63 := Ha (show cs.length + 1 <= maxLen by unfold maxLen; omega)
          have H47 := Ha (show (cs.length + 1) * 8 <= 140737488355328 by omega)
          have HCL := Ha hcl
          clear hkeep he h0 hcl; go_wp2_with (at_builtin; refine wpList_append_own _ rfl _ _ 106 rfl w1.heap.size 109 i0 .nilFunc 1 8 Tryz.underlying106 hi0 hz0 hz1 hz2 rfl (by decide) _ _ _ rfl (HSS.out.below ((Below.refl _ wr).alloc (Nat.le_refl _) _)).row ⟨wr.heap.size, 0, none⟩ 1 1 [.func (.func 53) #[dptr d] #[]] rfl rfl (World.news_of_block (cs := #[.func (.func 53) #[dptr d] #[]]) (t := 109) (fr := (0, 0)) (heap_alloc_new wr _)) (fun x hx => by rw [List.mem_singleton] at hx; subst hx; rfl) H63.out H47.out (Nat.le_trans HB.out.size (by simp)) ?_; intro v2 w2 hown2 hgrow2 _)
          have hal : Below wr.heap.size wr (wr.alloc (.cells #[.func (.func 53) #[dptr d] #[]] 109)) := (Below.refl _ _).alloc (Nat.le_refl _) _
          have hsa := HSS.out.below hal
          have hb2 : Below w1.heap.size w1 w2 := (HB.out.alloc HB.out.size _).grown hgrow2 (Nat.le_trans HB.out.size (by simp)) (fun j hj => (HSS.out.row.lt j hj).1)
          have hty : ∀ x, (Value.slice A7 cs.length c7).ownBlock = some x -> typ (wr.alloc (.cells #[.func (.func 53) #[dptr d] #[]] 109)).heap[x]? ≠ 9 := fun x hx => by rw [own_typ hsa.row hx]; decide
          have hcells : ∀ p ∈ cs, Whole w2 p.1 9 #[.string p.2] := fun p hp => (hsa.cells p hp).keepT hgrow2 hty
          have hgd : Whole w2 gd 31 #[dptr d] := HV1.out.below hb2 HV1.out.lt
          have hlive : Live B w2 d k M S := HL1.out.same hb2
          have hrow : w2.ownsRow w1.heap.size 109 1 v2 (cs.length + 1) ((cs.map fun p => (rmq gd p.1 p.2).v) ++ [.func (.func 53) #[dptr d] #[]]) := hown2
          obtain ⟨A9, c9, rfl, hat⟩ := own1 hrow
          obtain ⟨g9, rfl, _, _⟩ := hat cs.length (.func (.func 53) #[dptr d] #[]) (by rw [List.getElem?_append_right (by simp)]; simp)
          have hvs : ((cs.map fun p => rmq gd p.1 p.2) ++ [(⟨53, #[dptr d], #[], syncDirS⟩ : Stq)]).length = cs.length + 1 := by simp
          have hcar := carryOut_any (m := 0) (c := c9) ((cs.map fun p => rmq gd p.1 p.2) ++ [⟨53, #[dptr d], #[], syncDirS⟩]) hvs (by have := HCL.out; omega) hlive (by have := HCL.out; omega) (by omega)
            (by
              intro s hs
              rcases List.mem_append.1 hs with hs | hs
              · obtain ⟨p, hp, rfl⟩ := List.mem_map.1 hs
                exact stp_rm p.2 (fun w' hK => (hK.whole hgd (by decide)).cell 0) (fun w' hK => (hK.whole (hcells p hp) (by decide)).cell 0)
              · rw [List.mem_singleton] at hs
                subst hs; exact stp_syncDir)
            (g := g9) (by
              intro w' hK i s hs
              obtain ⟨A', c', e', hat'⟩ := own1 (hK.own hrow (by decide))
              obtain ⟨g', e1, _, hc⟩ := hat' i s.v (by
                have e : (cs.map fun p => (rmq gd p.1 p.2).v) ++ [Value.func (.func 53) #[dptr d] #[]] = ((cs.map fun p => rmq gd p.1 p.2) ++ [(⟨53, #[dptr d], #[], syncDirS⟩ : Stq)]).map Stq.v := by rw [List.map_append, List.map_map]; rfl
                rw [e, List.getElem?_map, hs]; rfl)
              injection e' with e2
              rw [<-e2] at e1
              injection e1 with e1
              injection e1 with e1
              subst e1; exact hc)
          rw [List.map_append, steps_run HK.out] at hcar
          have HCA := Ha hcar
          have HB2 := Ha (HB0.out.trans ((show Below W0.heap.size W0 w2 from (HB1'.out).trans (hb2.mono HB1'.out.size)).mono HB0.out.size))
          clear hal hsa hb2 hty hcells hgd hlive hrow hat hvs hcar hown2 hgrow2 cgd; refine Calls.mono HCA.out ?_
          rintro e w3 ⟨rfl, hL, hK⟩; have HL := Ha hL
          have HK3 := Ha ((Kept.of_below (B := B) HB2.out).trans hK)
          clear hL hK; go_wp2_with fail
          go_ret
          rw [HR.out]
          exact ⟨rfl, HL.out.mono (by have := HCL.out; omega) (by omega), HK3.out⟩
end Go.Proofs.YtmpginmdaeclaaaGreatDoor
