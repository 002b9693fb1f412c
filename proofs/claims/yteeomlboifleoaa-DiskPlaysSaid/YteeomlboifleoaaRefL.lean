/- The reference's Append of a new name. No statement of the seat is proved here. -/
import Derived.Test.YteeomlboifleoaaRefK
namespace Go.Proofs.Yteeomlboifleoaa
open Go.RowKit Go.Maps Go.Sort

theorem kin_E0 {W0 w5 : World} {o : Obj} {v : Value} {n c : Nat} (hv : v = .slice (some ⟨W0.heap.size, 0, none⟩) n c) (hG : (W0.alloc o).grownBy w5 v.ownBlock) : Below W0.heap.size W0 w5 := by
  subst hv
  exact ((Below.refl _ W0).alloc (Nat.le_refl _) o).grown hG (by simp) (fun k hk => by simp [Value.ownBlock] at hk; omega)
theorem chgV_new (nm : ByteArray) (i : Nat) : chgV ⟨[], nm.data.toList, some i⟩ = .agg #[.int .i64 0, .string nm, .string ⟨#[]⟩, .int .i64 (i : Nat)] := by
  unfold chgV kindC fromC toC fileC
  simp only [if_true]
  rfl
set_option maxHeartbeats 4000000 in
set_option maxRecDepth 20000 in
theorem Append_ref2 {w : World} {S : St} {k M : Nat} (L : Ls) (q l : Int) (dn : Bool) (h : RAt w L q l dn S) (F : Fit k M S) (hk : k ≤ 50000) (hM : M ≤ 500000000) (hl : l ≤ 9223372036854775807) (hz : ∀ p ∈ S.names, p.1 ≠ []) (hq : S.quota ≤ 1099511627776 ∧ 0 ≤ S.quota)
    (nm b : ByteArray) (hb : b.size ≤ 500000000) (hdS : S.down = false) (h1 : isN nm.data.toList = true) (hfull : ¬ (b.size : Int) > S.quota - (used S : Nat)) (hf : findN S.names nm.data.toList = none) :
    Calls Try.prog 28 #[rv L q l dn, .string nm, .string b] w fun e w' => ∃ V, e = .returned (.tuple #[V, .int .i64 (appendS S nm.data.toList b.data.toList).2]) ∧ Has V w' (appendS S nm.data.toList b.data.toList).1 ∧ Below w.heap.size w w' := by
  obtain ⟨af, nf, cf, an, nn, cn, as_, ns, cs, ap, np, cp⟩ := L
  have hlo := h.lo
  have HH := Lib.hid h
  have HFF := Lib.hid F
  have HZ := Lib.hid hz
  have hed := h.ed
  have heq := h.eq
  have x0 := Lib.hid (new1 w #[.int .i64 q, .slice af nf cf, .slice an nn cn, .slice as_ ns cs, .slice ap np cp, .int .i64 l, .bool dn] #[.int .i64 0, .slice none 0 0, .slice none 0 0, .slice none 0 0, .slice none 0 0, .int .i64 0, .bool false] 33 33)
  have x1 := Lib.hid (new2 w (.cells #[.int .i64 q, .slice af nf cf, .slice an nn cn, .slice as_ ns cs, .slice ap np cp, .int .i64 l, .bool dn] 33) 33 #[.int .i64 0, .slice none 0 0, .slice none 0 0, .slice none 0 0, .slice none 0 0, .int .i64 0, .bool false])
  have hu0 := used_le F (by omega) (by omega)
  have hu : (used S : Int) ≤ 1152921504606846976 := by omega
  have hus := Used_ref ⟨af, nf, cf, an, nn, cn, as_, ns, cs, ap, np, cp⟩ q l dn ((HH.out.same (below2 w (.cells #[.int .i64 q, .slice af nf cf, .slice an nn cn, .slice as_ ns cs, .slice ap np cp, .int .i64 l, .bool dn] 33) (.cells #[.int .i64 0, .slice none 0 0, .slice none 0 0, .slice none 0 0, .slice none 0 0, .int .i64 0, .bool false] 33)).drew).names) ((HH.out.same (below2 w (.cells #[.int .i64 q, .slice af nf cf, .slice an nn cn, .slice as_ ns cs, .slice ap np cp, .int .i64 l, .bool dn] 33) (.cells #[.int .i64 0, .slice none 0 0, .slice none 0 0, .slice none 0 0, .slice none 0 0, .int .i64 0, .bool false] 33)).drew).files) (fun p hp => (F.idn p hp).1) (by have := F.nn; omega) hu (by have := F.nf; omega)
  have HUS := Lib.hid hus
  have HM := Lib.hid hM
  have HU := Lib.hid hu
  clear h F hz hus hu0
  unfold rv
  obtain rfl : dn = false := by rw [hed, hdS]
  have H1 := Lib.hid h1
  have hq1 := hq.1
  have hq2 := hq.2
  have hun : (0 : Int) ≤ (used S : Nat) := by omega
  have hwr : IntKind.i64.wrap (((used S : Nat) : Int) + (b.size : Int)) = ((used S : Nat) : Int) + (b.size : Int) := wrap_in _ (by omega)
  have h00 := low0 w (.cells #[.int .i64 q, .slice af nf cf, .slice an nn cn, .slice as_ ns cs, .slice ap np cp, .int .i64 l, .bool false] 33) (.cells #[.int .i64 0, .slice none 0 0, .slice none 0 0, .slice none 0 0, .slice none 0 0, .int .i64 0, .bool false] 33)
  obtain ⟨a0, a1, a2, a3, a4, a5, a6⟩ := disk_facts x0.out
  have hdec : decide (q < ((used S : Nat) : Int) + (b.size : Int)) = false := by simpa using (by omega : ((used S : Nat) : Int) + (b.size : Int) ≤ q)
  have H00 := Lib.hid h00
  have H01 : Hid (w.heap.size + 1 < ((w.alloc (.cells #[.int .i64 q, .slice af nf cf, .slice an nn cn, .slice as_ ns cs, .slice ap np cp, .int .i64 l, .bool false] 33)).alloc (.cells #[.int .i64 0, .slice none 0 0, .slice none 0 0, .slice none 0 0, .slice none 0 0, .int .i64 0, .bool false] 33)).drew.heap.size) := Lib.hid (by simp [World.drew])
  have HNF : Hid (nf = S.files.length) := Lib.hid (row_lenG HH.out.files)
  have hR : Hid (appendS S nm.data.toList b.data.toList = (count (addB (chg (addF S) ⟨[], nm.data.toList, some nf⟩) nf b.data.toList), 0)) := Lib.hid (by rw [HNF.out]; unfold appendS; rw [hdS, h1]; simp only [Bool.false_eq_true, if_false, if_true]; rw [if_neg (by rw [size_len]; exact hfull), hf])
  have hFI : Hid (findI S.names nm.data.toList = -1) := Lib.hid (by unfold findI; rw [hf])
  have hnfb : nf ≤ 50000 := by have := HNF.out; have := HFF.out.nf; omega
  obtain ⟨i0, hi0, hz0, hz1, hz2⟩ := info_parts file_info
  clear h1 hdS hed hu heq hq hM hq1 hq2 hun hfull h00 hf
  go_enter Try.func28, Try.ntmps28
  go_wp2_with fail
  refine Calls.mono (isN_ref _ nm) ?_
  rintro e w1 ⟨rfl, rfl⟩
  rw [H1.out]
  go_wp2_with fail
  go_region_held3 (fun w' => w'.cell? ⟨w.heap.size, 0, none⟩ = some (.int .i64 q) ∧ w'.cell? ⟨w.heap.size, 1, none⟩ = some (.slice af nf cf) ∧ w'.cell? ⟨w.heap.size, 2, none⟩ = some (.slice an nn cn) ∧ w'.cell? ⟨w.heap.size, 3, none⟩ = some (.slice as_ ns cs) ∧ w'.cell? ⟨w.heap.size, 4, none⟩ = some (.slice ap np cp) ∧ w'.cell? ⟨w.heap.size, 5, none⟩ = some (.int .i64 l) ∧ w'.cell? ⟨w.heap.size, 6, none⟩ = some (.bool false)) (go_keep)
      (first | (go_at_call 36; refine (Calls.mono HUS.out ?_); rintro e w2 ⟨rfl, hB2⟩; have y0 := x0.out.drew.below hB2 H00.out; obtain ⟨b0, b1, b2, b3, b4, b5, b6⟩ := disk_facts y0))
  all_goals
    have X0 := Lib.hid y0
    have X1 := Lib.hid (x1.out.drew.below hB2 H01.out)
    have HB2 := Lib.hid ((below2 w (.cells #[.int .i64 q, .slice af nf cf, .slice an nn cn, .slice as_ ns cs, .slice ap np cp, .int .i64 l, .bool false] 33) (.cells #[.int .i64 0, .slice none 0 0, .slice none 0 0, .slice none 0 0, .slice none 0 0, .int .i64 0, .bool false] 33)).drew.trans (hB2.mono (by simp [World.drew]; omega)))
    have HR2 := Lib.hid (HH.out.same HB2.out)
    have l0 := X0.out.lt
    clear hB2 y0
    go_wp2_with fail
    refine Calls.mono (find_any HR2.out.names (by have := HFF.out.nn; omega) nm) ?_
    rintro e w3 ⟨rfl, rfl⟩
    rw [hFI.out]
    have H63 : Hid (0 + S.files.length ≤ maxLen) := Lib.hid (by have := HFF.out.nf; unfold maxLen; omega)
    have H47 : Hid ((0 + S.files.length) * 24 ≤ 140737488355328) := Lib.hid (by have := HFF.out.nf; omega)
    have H63b : Hid (S.files.length + 1 ≤ maxLen) := Lib.hid (by have := HFF.out.nf; unfold maxLen; omega)
    have H47b : Hid ((S.files.length + 1) * 24 ≤ 140737488355328) := Lib.hid (by have := HFF.out.nf; omega)
    obtain ⟨k0, k1, k2, k3, k4, k5, k6⟩ := disk_facts (X0.out.alloc (.cells #[] 72))
    go_wp2_with (first
      | (at_builtin; refine wpList_append_own _ rfl _ _ 29 rfl w2.heap.size 72 i0 (.agg #[.string ⟨#[]⟩, .int .i64 0]) 2 24 Try.underlying29 hi0 hz0 hz1 hz2 rfl (by decide) v5 S.files.length (ncells S.files) rfl (HO5.out.alloc _) ⟨w5.heap.size, 0, none⟩ 1 1 [.string ⟨#[]⟩, .int .i64 0] rfl rfl (World.news_of_block (cs := #[.string ⟨#[]⟩, .int .i64 0]) (t := 72) (fr := (0, 0)) (heap_alloc_new w5 _)) (two1 _ _ rfl rfl) H63b.out H47b.out (Nat.le_trans KB.out.size (by simp)) ?_; intro v6 w6 hO6 hG6 _; have kb6 := kin_B2 KB.out HO5.out hG6; have u0 := X0.out.below kb6 l0; have mf1 := u0.frozen 1; obtain ⟨m0, m1, m2, m3, m4, m5, m6⟩ := disk_facts u0; obtain ⟨A6, n6, c6, rfl⟩ : ∃ A n c, v6 = .slice A n c := (by rcases hO6.2 with ⟨e, _⟩ | ⟨_, _, _, e, _⟩ <;> exact ⟨_, _, _, e⟩); have U0 := Lib.hid u0; have KB6 := Lib.hid kb6; have HO6 := Lib.hid hO6; clear kb6 hO6 u0 hG6)
      | (at_builtin; refine wpList_append_row rfl _ _ 29 rfl w2.heap.size 72 i0 (.agg #[.string ⟨#[]⟩, .int .i64 0]) 2 24 Try.underlying29 hi0 hz0 hz1 hz2 rfl (by decide) (.slice (some ⟨w2.heap.size, 0, none⟩) 0 0) 0 [] rfl (own_empty (Whole.new w2 _ _) (Nat.le_refl _)) 0 _ S.files.length (ncells S.files) rfl (HR2.out.files.alloc _) (ncells_one S.files) H63.out H47.out (by simp) ?_; intro v5 w5 hO5 hG5; rw [Nat.zero_add, List.nil_append] at hO5; have kb := kin_E0 rfl hG5; have HO5 := Lib.hid hO5; have KB := Lib.hid kb; clear hO5 hG5 kb))
    have hg7 := gset w6 ⟨w.heap.size, 1, none⟩ (.slice A6 n6 c6)
    have t0 : Whole (w6.setCell ⟨w.heap.size, 1, none⟩ (.slice A6 n6 c6)) w.heap.size 33 #[.int .i64 q, .slice A6 n6 c6, .slice an nn cn, .slice as_ ns cs, .slice ap np cp, .int .i64 l, .bool false] := by
      have := U0.out.put 1 (.slice A6 n6 c6)
      simpa using this
    have t1 := (X1.out.below KB6.out X1.out.lt).far (p := ⟨w.heap.size, 1, none⟩) (by simp) (.slice A6 n6 c6)
    have tA : RAt (w6.setCell ⟨w.heap.size, 1, none⟩ (.slice A6 n6 c6)) ⟨A6, n6, c6, an, nn, cn, as_, ns, cs, ap, np, cp⟩ q l false (addF S) := by
      have b' := (HR2.out.same KB6.out).kept U0.out hg7
      refine ⟨?_, b'.names, b'.safe, b'.pend, b'.eq, b'.el, b'.lo, b'.ed⟩
      show World.ownsRow _ 0 _ 2 _ (S.files ++ [([], 0)]).length (ncells (S.files ++ [([], 0)]))
      rw [List.length_append, ncells_snoc]
      exact own_base (own_keepT HO6.out hg7 (by rintro x ⟨⟩; rw [whole_typ U0.out]; decide)) (Nat.zero_le _)
    have tB := (HB2.out.trans (KB6.out.mono HB2.out.size)).setCell (p := ⟨w.heap.size, 1, none⟩) (Nat.le_refl _) (.slice A6 n6 c6)
    clear hg7
    generalize w6.setCell ⟨w.heap.size, 1, none⟩ (.slice A6 n6 c6) = W7 at t0 t1 tA tB ⊢
    have T0 := Lib.hid t0
    have T1 := Lib.hid t1
    have TA := Lib.hid tA
    have TB := Lib.hid tB
    clear t0 t1 tA tB m0 m1 m2 m3 m4 m5 m6 mf1 b0 b1 b2 b3 b4 b5 b6 a0 a1 a2 a3 a4 a5 a6 k0 k1 k2 k3 k4 k5 k6 l0
    have hch := change_ref ⟨A6, n6, c6, an, nn, cn, as_, ns, cs, ap, np, cp⟩ q l false ⟨[], nm.data.toList, some nf⟩ TA.out.names TA.out.pend (Nat.le_trans HFF.out.nn (by omega)) (Nat.le_trans HFF.out.np (by omega)) HZ.out (fun e => absurd rfl e)
    rw [chgV_new] at hch
    refine Calls.mono hch ?_
    rintro e w8 ⟨A8, n8, k8, B8, m8, j8, rfl, hN8, hP8, hB8⟩
    have HA8 := Lib.hid ((TA.out.same hB8).chg ⟨[], nm.data.toList, some nf⟩ hN8 hP8)
    have V0 := Lib.hid (T0.out.below hB8 T0.out.lt)
    have V1 := Lib.hid (T1.out.below hB8 T1.out.lt)
    have HB8 := Lib.hid (TB.out.trans (hB8.mono TB.out.size))
    clear hch hN8 hP8 hB8
    obtain ⟨a0, a1, a2, a3, a4, a5, a6⟩ := disk_facts V0.out
    have f0 := V0.out.frozen 0
    have f1 := V0.out.frozen 1
    have f2 := V0.out.frozen 2
    have f3 := V0.out.frozen 3
    have f4 := V0.out.frozen 4
    have f5 := V0.out.frozen 5
    have f6 := V0.out.frozen 6
    unfold rv
    go_upto_region 12 with (fail)
    have t0 := seven_put V0.out (.int .i64 q) (.slice A6 n6 c6) (.slice A8 n8 k8) (.slice as_ ns cs) (.slice B8 m8 j8) (.int .i64 l) (.bool false)
    have tg := seven_grown w8 w.heap.size (.int .i64 q) (.slice A6 n6 c6) (.slice A8 n8 k8) (.slice as_ ns cs) (.slice B8 m8 j8) (.int .i64 l) (.bool false)
    have tA := HA8.out.kept V0.out tg
    have t1 := V1.out.grown tg (by simp)
    have tB := seven_below HB8.out (Nat.le_refl _) (.int .i64 q) (.slice A6 n6 c6) (.slice A8 n8 k8) (.slice as_ ns cs) (.slice B8 m8 j8) (.int .i64 l) (.bool false)
    clear tg f0 f1 f2 f3 f4 f5 f6 a0 a1 a2 a3 a4 a5 a6
    generalize (((((((w8.setCell ⟨w.heap.size, 0, none⟩ (.int .i64 q)).setCell ⟨w.heap.size, 1, none⟩ (.slice A6 n6 c6)).setCell ⟨w.heap.size, 2, none⟩ (.slice A8 n8 k8)).setCell ⟨w.heap.size, 3, none⟩ (.slice as_ ns cs)).setCell ⟨w.heap.size, 4, none⟩ (.slice B8 m8 j8)).setCell ⟨w.heap.size, 5, none⟩ (.int .i64 l)).setCell ⟨w.heap.size, 6, none⟩ (.bool false)) = W9 at t0 t1 tA tB ⊢
    have X0 := Lib.hid t0
    have X1 := Lib.hid t1
    have HR2 := Lib.hid tA
    have HB2 := Lib.hid tB
    clear t0 t1 tA tB
    obtain ⟨S', hS'⟩ : ∃ S', S' = chg (addF S) ⟨[], nm.data.toList, some nf⟩ := ⟨_, rfl⟩
    rw [← hS'] at HR2
    have hlen : S'.files.length = nf + 1 := by rw [hS']; have := HNF.out; simp [chg, addF]; omega
    have hRR : Hid (appendS S nm.data.toList b.data.toList = (count (addB S' nf b.data.toList), 0)) := Lib.hid (by rw [hS']; exact hR.out)
    have hn6 : n6 = S'.files.length := row_lenG HR2.out.files
    have hlt6 : (nf : Int) < (n6 : Int) := by omega
    have HIL : Hid (nf < S'.files.length) := Lib.hid (by omega)
    have HN6 : Hid (S'.files.length ≤ 90000) := Lib.hid (by omega)
    have HP : Hid (S'.files[nf]? = some ([], 0)) := Lib.hid (by
      have e : (chg (addF S) ⟨[], nm.data.toList, some nf⟩).files = S.files ++ [([], 0)] := rfl
      rw [hS', e, HNF.out, List.getElem?_concat_length])
    obtain ⟨g, p, rfl, hp, hg, c0, c1⟩ := RowF.at HR2.out.files HIL.out
    obtain rfl : p = ([], 0) := by rw [HP.out] at hp; exact (Option.some.inj hp).symm
    clear hp hg hn6 hlen hS'
    obtain ⟨z, hz⟩ : ∃ z, z = strB [] := ⟨_, rfl⟩
    have hzl : z.size ≤ 500000000 := by rw [hz, strB_size]; simp
    rw [← hz] at c0
    have hcat : z.size + b.size ≤ 9223372036854775807 := by omega
    have hcatI : ((z.size : Nat) : Int) + ((b.size : Nat) : Int) ≤ 9223372036854775807 := by omega
    have HZ2 := Lib.hid hz
    have HS2 : Hid (w.heap.size + 1 < W9.heap.size) := Lib.hid X1.out.lt
    clear hz
    obtain ⟨q0, q1, q2, q3, q4, q5, q6⟩ := disk_facts X0.out
    obtain ⟨k0, k1, k2, k3, k4, k5, k6⟩ := disk_facts (X0.out.alloc (.cells #[.string (z ++ b), .int .i64 0] 72))
    go_wp2_with fail
    have hput := put_ref ⟨some ⟨g, 0, none⟩, n6, c6, A8, n8, k8, as_, ns, cs, B8, m8, j8⟩ q l false (own_below HR2.out.files ((Below.refl _ W9).alloc (Nat.le_refl _) (.cells #[.string (z ++ b), .int .i64 0] 72)) : RowF _ 0 _ S'.files) HN6.out nf HIL.out (z ++ b) 0
    refine Calls.mono hput ?_
    rintro e w3 ⟨A3, n3, c3, rfl, hF3, hB3⟩
    have hB23 : Below W9.heap.size W9 w3 := ((Below.refl _ W9).alloc (Nat.le_refl _) _).trans (hB3.mono (by simp))
    have HA3 : Hid (RAt w3 ⟨A3, n3, c3, A8, n8, k8, as_, ns, cs, B8, m8, j8⟩ q l false (addB S' nf b.data.toList)) := Lib.hid (by
      have e1 : (fileAt S' nf) = ([], 0) := by unfold fileAt; rw [List.getD_eq_getElem?_getD, HP.out]; rfl
      have e3 : (z ++ b).data.toList = [] ++ b.data.toList := by rw [ByteArray.data_append, Array.toList_append, HZ2.out, strB_list]
      rw [e3] at hF3
      unfold addB
      rw [e1]
      exact (HR2.out.same hB23).put hF3)
    have X13 := Lib.hid (X1.out.below hB23 HS2.out)
    have HB3 := Lib.hid (HB2.out.trans (hB23.mono HB2.out.size))
    clear hput hF3 hB3 hB23 q0 q1 q2 q3 q4 q5 q6 k0 k1 k2 k3 k4 k5 k6 c0 c1
    go_wp2_with fail
    refine Calls.mono (done_ref _ ⟨A3, n3, c3, A8, n8, k8, as_, ns, cs, B8, m8, j8⟩ q l false hl hlo) ?_
    rintro e w4 ⟨rfl, hB4⟩
    have hA4 := (HA3.out.same hB4).done
    have X14 := Lib.hid (X13.out.below hB4 X13.out.lt)
    obtain ⟨⟨d0, d1, d2, d3, d4, d5, d6⟩, e0, e1, e2, e3, e4, e5, e6⟩ := zero_facts X14.out
    obtain ⟨l2, hl2⟩ : ∃ x, x = (rdone l false).1 := ⟨_, rfl⟩
    obtain ⟨b2, hb2⟩ : ∃ x, x = (rdone l false).2 := ⟨_, rfl⟩
    rw [← hl2, ← hb2] at hA4
    rw [← hl2, ← hb2]
    have HA4 := Lib.hid hA4
    have HB4 := Lib.hid (HB3.out.trans (hB4.mono HB3.out.size))
    clear hA4 hB4 hl2 hb2
    unfold rv
    go_wp2_with fail
    refine end72 rfl rfl rfl rfl X14.out HA4.out HB4.out (by omega) fun w3 h3 hB3 => ?_
    rw [hRR.out]
    exact ⟨_, rfl, h3, hB3⟩

theorem Append_ref {w : World} {S : St} {k M : Nat} (L : Ls) (q l : Int) (dn : Bool) (h : RAt w L q l dn S) (F : Fit k M S) (hk : k ≤ 50000) (hM : M ≤ 500000000) (hl : l ≤ 9223372036854775807) (hz : ∀ p ∈ S.names, p.1 ≠ []) (hq : S.quota ≤ 1099511627776 ∧ 0 ≤ S.quota)
    (nm b : ByteArray) (hb : b.size ≤ 500000000) :
    Calls Try.prog 28 #[rv L q l dn, .string nm, .string b] w fun e w' => ∃ V, e = .returned (.tuple #[V, .int .i64 (appendS S nm.data.toList b.data.toList).2]) ∧ Has V w' (appendS S nm.data.toList b.data.toList).1 ∧ Below w.heap.size w w' := by
  by_cases hc : S.down = false ∧ isN nm.data.toList = true ∧ ¬ (b.size : Int) > S.quota - (used S : Nat) ∧ findN S.names nm.data.toList = none
  · exact Append_ref2 L q l dn h F hk hM hl hz hq nm b hb hc.1 hc.2.1 hc.2.2.1 hc.2.2.2
  · exact Append_ref1 L q l dn h F hk hM hl hz hq nm b hb (fun a1 a2 a3 a4 => hc ⟨a1, a2, a3, a4⟩)
end Go.Proofs.Yteeomlboifleoaa
