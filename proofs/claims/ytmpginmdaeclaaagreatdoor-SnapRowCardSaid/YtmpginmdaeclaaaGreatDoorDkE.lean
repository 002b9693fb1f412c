/- Parts of the proofs of the statements of image. No statement of the seat is proved here. -/
import Derived.Test.YtmpginmdaeclaaaGreatDoorPaA
import Derived.Test.YtmpginmdaeclaaaGreatDoorDkB
import Derived.Lib.AppendStr
set_option maxHeartbeats 32000000
set_option maxRecDepth 20000
namespace Go.Proofs.YtmpginmdaeclaaaGreatDoor
open Go.RowKit Go.Maps Go.Sort
theorem append_str (w : World) (base : Nat) (i : TypeInfo) (ty : TypeId) (hi : Tryz.prog.info? 5 = some i) (hz : i.zero = some (.int .u8 0)) (hsize : i.size = 1) (hby : i.bytes = 1)
    (v : Value) (n : Nat) (xs : List Value) (hown : w.ownsRow base 5 1 v n xs) (s : ByteArray) (h63 : n + s.size <= 1000000000) (hbase : base <= w.heap.size) :
    ∃ v' w', (Builtin.append_ #[115, 9] ty #[v, .string s]).run Tryz.prog w = .ok v' w' /\ w'.ownsRow base 5 1 v' (n + s.size) (xs ++ Lib.strCells s) /\ w.grownBy w' v.ownBlock /\
      (v'.ownBlock = none \/ v'.ownBlock = v.ownBlock \/ ∃ g, v'.ownBlock = some g /\ w.heap.size <= g) := by
  have hm : n + s.size <= maxLen := by unfold maxLen; omega
  obtain ⟨v', w', h1, h2, h3, h4⟩ := Lib.run_append_own_string (P := Tryz.prog) w base 115 9 ty 5 i Tryz.underlying115 Tryz.underlying9 hi hz hsize hby v n xs hown s hm (by omega) hbase
  refine ⟨v', w', h1, h2, h3, ?_⟩
  rcases hown.2 with ⟨rfl, rfl⟩ | ⟨g, cap, cur, rfl, hb, hg, hn, hmx, hcur, htk⟩
  · obtain ⟨v2, w2, k1, k2, _, _⟩ := Lib.run_append_own_string (P := Tryz.prog) w w.heap.size 115 9 ty 5 i Tryz.underlying115 Tryz.underlying9 hi hz hsize hby (.slice none 0 0) 0 [] (World.ownsRow_nil w _ _ _) s (by unfold maxLen; omega) (by omega) (Nat.le_refl _)
    rw [h1] at k1
    injection k1 with e1 e2
    subst e1 e2
    cases hv : v'.ownBlock with
    | none => exact .inl rfl
    | some g => exact .inr (.inr ⟨g, rfl, (k2.lt g hv).1⟩)
  · by_cases hr : n + s.size <= cap
    · have k1 := Lib.run_append_room_string (P := Tryz.prog) w 115 9 ty 5 i Tryz.underlying115 Tryz.underlying9 hi hsize g n cap cur hg s hr (by omega)
      rw [h1] at k1
      injection k1 with e1 e2
      subst e1; exact .inr (.inl rfl)
    · have hlt : cap < n + s.size := by omega
      have hfit : Builtin.nextslicecap (n + s.size) cap * i.bytes <= 281474976710656 := by
        have := nextslicecap_le hlt
        rw [hby]
        omega
      have k1 := Lib.run_append_grow_string (P := Tryz.prog) w 115 9 ty 5 i (.int .u8 0) Tryz.underlying115 Tryz.underlying9 hi hz ⟨g, 0, none⟩ n cap xs (by rw [hsize]; exact hown.1) (hown.cells (g := g) rfl) s hlt (by omega) hfit
      rw [h1] at k1
      injection k1 with e1 e2
      subst e1; exact .inr (.inr ⟨w.heap.size, rfl, Nat.le_refl _⟩)
theorem wpList_append_str (w : World) {ops : Array Oper} {rest : List Oper} {o : Oper} {a : Act} {Q : Exit -> Act -> World -> Prop} (hgd : o.guard = none) (sl x : Operand)
    (ho : o.op = .call { callee := .builtin .append, args := #[sl, x], argTypes := #[115, 9] })
    (base : Nat) (i : TypeInfo) (hi : Tryz.prog.info? 5 = some i) (hz : i.zero = some (.int .u8 0)) (hsize : i.size = 1) (hby : i.bytes = 1)
    (v : Value) (n : Nat) (xs : List Value) (hs : a.eval sl = v) (hown : w.ownsRow base 5 1 v n xs) (s : ByteArray) (hx : a.eval x = .string s)
    (h63 : n + s.size <= 1000000000) (hbase : base <= w.heap.size)
    (h : ∀ v' w', w'.ownsRow base 5 1 v' (n + s.size) (xs ++ Lib.strCells s) -> w.grownBy w' v.ownBlock -> (v'.ownBlock = none \/ v'.ownBlock = v.ownBlock \/ ∃ g, v'.ownBlock = some g /\ w.heap.size <= g) -> wpList Tryz.prog ops Q rest (a.put o.dst v') w') : wpList Tryz.prog ops Q (o :: rest) a w := by
  refine wpList_plain hgd fun K hK => ?_
  obtain ⟨v', w', hr, h2, h3, h4⟩ := append_str w base i o.type hi hz hsize hby v n xs hown s h63 hbase
  unfold Oper.wp execOp
  simp only [ho, resolve, invoke, builtin, Sem.run_bind, Sem.run_pure, Result.andThen_ok, List.map_toArray, List.map_cons, List.map_nil, hs, hx, hr]
  exact hK _ _ (h v' w' h2 h3 h4)
theorem find_insN (x : Bys × Nat) : ∀ N : Nms, (∀ p ∈ N, p.1 ≠ x.1) -> (insN x N).find? (fun p => p.1 == x.1) = some x
  | [], _ => by simp [insN]
  | y :: r, h => by
    unfold insN
    split
    · simp
    · have h1 : (y.1 == x.1) = false := by simpa using h y (by simp)
      rw [List.find?_cons, h1]
      exact find_insN x r fun p hp => h p (by simp [hp])
theorem find_putN (N : Nms) (k : Bys) (f : Nat) : findN (putN N k f) k = some f := by
  unfold findN putN
  rw [find_insN (k, f) (delN N k) fun p hp => (mem_delN_iff.1 hp).2]
  rfl
theorem Fit.addF {k M : Nat} {S : St} (h : Fit k M S) : Fit (k + 1) M (addF S) :=
  ⟨Nat.le_succ_of_le h.nn, fun n => Nat.le_succ_of_le (h.nr n), Nat.le_succ_of_le h.np, by have := h.nf; simp [YtmpginmdaeclaaaGreatDoor.addF]; omega,
    fun x hx => by
      simp only [YtmpginmdaeclaaaGreatDoor.addF, List.mem_append, List.mem_singleton] at hx
      rcases hx with hx | rfl
      · exact h.fl x hx
      · simp,
    fun p hp => by have := h.idn p hp; simp only [YtmpginmdaeclaaaGreatDoor.addF, List.length_append, List.length_singleton]; omega,
    fun p hp => by have := h.ids p hp; simp only [YtmpginmdaeclaaaGreatDoor.addF, List.length_append, List.length_singleton]; omega,
    fun c hc => ⟨(h.idp c hc).1, fun i hi => by have := (h.idp c hc).2 i hi; simp only [YtmpginmdaeclaaaGreatDoor.addF, List.length_append, List.length_singleton]; omega⟩, h.lf⟩
theorem wrap_in (x : Int) (h : -9223372036854775808 <= x /\ x <= 9223372036854775807) : IntKind.i64.wrap x = x := by rw [IntKind.wrap_i64]; omega
theorem Sees.one (w : World) (s : ByteArray) : Sees (w.alloc (.cells #[.string s] 9)) (w.heap.size + 1) (some ⟨w.heap.size, 0, none⟩) 1 ([s].map Value.string) :=
  ⟨rfl, fun _ => ⟨w.heap.size, 0, rfl, Nat.lt_succ_self _, fun j u hu => by
    rw [(Whole.new w 9 #[.string s]).cell]
    simpa using hu⟩⟩
theorem byteC_str (c : Bys) (b : ByteArray) : Lib.byteCells c ++ Lib.strCells b = Lib.byteCells (c ++ b.data.toList) := by
  simp [Lib.byteCells, Lib.strCells]
theorem append_end {B d i : Nat} {m : Mem} {S : St} {w4 w5 : World} {C : Bys} {A2 : Option Addr} {n2 c2 : Nat} (h : At B w4 d m S) (hi : i < S.files.length) (hf : (fileAt S i).1 = C) (b : ByteArray)
    (hown : w5.ownsRow B 5 1 (.slice A2 n2 c2) (C.length + b.size) (Lib.byteCells C ++ Lib.strCells b)) (hg : w4.grownBy w5 (m.v i).ownBlock)
    (hloc : (Value.slice A2 n2 c2).ownBlock = none \/ (Value.slice A2 n2 c2).ownBlock = (m.v i).ownBlock \/ ∃ g, (Value.slice A2 n2 c2).ownBlock = some g /\ w4.heap.size <= g)
    (hc : Whole w5 (m.b i) 117 #[m.v i, .int .i64 ((fileAt S i).2 : Nat)]) :
    At B (w5.setCell ⟨m.b i, 0, none⟩ (.slice A2 n2 c2)) d { m with vs := m.vs.set i (.slice A2 n2 c2) } (addB S i b.data.toList) /\ Kept B w4 (w5.setCell ⟨m.b i, 0, none⟩ (.slice A2 n2 c2)) := by
  subst hf
  refine h.setF (x := ((fileAt S i).1 ++ b.data.toList, (fileAt S i).2)) hi hg (.inr rfl) ?_ hloc (dkGset _ _ _) ?_
  · rw [byteC_str] at hown
    rw [List.length_append, size_len]
    exact hown
  · have := hc.put 0 (.slice A2 n2 c2)
    simpa using this
theorem Append_any {B d : Nat} {S : St} {w : World} (h : DiskAt B w d S) (hB : B <= w.heap.size) {k M : Nat} (F : Fit k M S) (hk : k <= 50000) (hM : M <= 500000000) (hq : S.quota <= 1099511627776 /\ 0 <= S.quota) (nm b : ByteArray) (hb : b.size <= 500000000) (hnm : nm.size <= 1000000000) :
    Calls Tryz.prog 19 #[dptr d, .string nm, .string b] w fun e w' => e = .returned (.int .i64 (appendS S nm.data.toList b.data.toList).2) /\ DiskAt B w' d (appendS S nm.data.toList b.data.toList).1 /\ Kept B w w' := by
  obtain ⟨m, h⟩ := h
  have hA1 : At B (w.alloc (.cells #[.string nm] 9)) d m S := h.alloc _
  have hK1 : Kept B w (w.alloc (.cells #[.string nm] 9)) := (Kept.refl B w).alloc _
  have hchk := Ha (dkCheck_any (c := 1) hA1 _ [nm] (Sees.one w nm) (by omega))
  have hH := Ha hA1
  have hKK := Ha hK1
  have hFF := Ha F
  have hHd := Ha h
  by_cases hd : S.down = true
  · have hE : chkE S [nm] = 5 := by unfold chkE; rw [if_pos hd]
    have hR : Hid (appendS S nm.data.toList b.data.toList = (S, 5)) := Ha (by unfold appendS; rw [if_pos hd])
    rw [hE] at hchk
    clear hd hE h hA1 hK1 F; go_enter Tryz.func19, Tryz.ntmps19
    go_wp2_with (go_at_call 55; refine (Calls.mono hchk.out ?_); rintro e w1 ⟨rfl, rfl⟩); go_ret
    rw [hR.out]
    exact ⟨rfl, ⟨m, hH.out⟩, hKK.out⟩
  cases hn : isN nm.data.toList
  · have hE : chkE S [nm] = 1 := by unfold chkE okAll; rw [if_neg hd]; simp [hn]
    have hR : Hid (appendS S nm.data.toList b.data.toList = (S, 1)) := Ha (by unfold appendS; rw [if_neg hd, hn]; rfl)
    rw [hE] at hchk
    clear hd hE h hA1 hK1 F hn; go_enter Tryz.func19, Tryz.ntmps19
    go_wp2_with (go_at_call 55; refine (Calls.mono hchk.out ?_); rintro e w1 ⟨rfl, rfl⟩); go_ret
    rw [hR.out]
    exact ⟨rfl, ⟨m, hH.out⟩, hKK.out⟩
  have hE : chkE S [nm] = 0 := by unfold chkE okAll; rw [if_neg hd]; simp [hn]
  rw [hE] at hchk
  have hsz := Ha (isN_le hn)
  have hu := used_le F (by omega) (by omega)
  have hul : (0 : Int) <= (used S : Nat) := by omega
  have c0 : (w.alloc (.cells #[.string nm] 9)).cell? ⟨d, 0, none⟩ = some (.int .i64 S.quota) := (hA1.disk.cell 0).trans rfl
  have hUs := Ha (Used_any hA1.drew F hu)
  have hU0 := Ha hu
  have hq1 := hq.1
  have hq2 := hq.2
  have hwr : IntKind.i64.wrap (S.quota - (used S : Nat)) = S.quota - (used S : Nat) := wrap_in _ (by omega)
  by_cases hfull : (b.size : Int) > S.quota - (used S : Nat)
  · have hR : Hid (appendS S nm.data.toList b.data.toList = (S, 4)) := Ha (by unfold appendS; rw [if_neg hd, hn, if_pos rfl, if_pos (by rw [size_len]; exact hfull)])
    clear hd hE h hA1 hK1 F hn hq; go_enter Tryz.func19, Tryz.ntmps19
    go_wp2_with (go_at_call 55; refine (Calls.mono hchk.out ?_); rintro e w1 ⟨rfl, rfl⟩); go_region_held3 (fun w' => w'.cell? ⟨d, 0, none⟩ = some (.int .i64 S.quota)) (go_keep)
      (first | (go_at_call 56; refine (Calls.mono hUs.out ?_); rintro e w2 ⟨rfl, hB2⟩; have c02 : w2.cell? ⟨d, 0, none⟩ = some (.int .i64 S.quota) := (hB2.cell hH.out.disk.lt).trans c0))
    have HB2 := Ha hB2
    clear hB2 c02; go_wp2
    go_ret
    rw [hR.out]
    exact ⟨rfl, ⟨m, hH.out.drew.same HB2.out⟩, hKK.out.drew.trans (.of_below HB2.out)⟩
  have hdec : decide (S.quota - (used S : Nat) < (b.size : Int)) = false := by simpa using hfull
  clear hq1 hq2 hul hu
  obtain ⟨i0, hi0, hz0, hz1, hz2⟩ := info_parts byte_info
  have hms : nm.size <= maxLen := by have := hsz.out.1; unfold maxLen; omega
  have hnl := Ha hms
  have hBB := Ha hB
  cases hf : findN S.names nm.data.toList with
  | some i =>
    have hIlt := Ha (F.idn _ (findN_mem hf)).1
    have hR : Hid (appendS S nm.data.toList b.data.toList = (count (addB S i b.data.toList), 0)) := Ha (by unfold appendS; rw [if_neg hd, hn, if_pos rfl, if_neg (by rw [size_len]; exact hfull), hf])
    have hFd := Ha hf
    have hLeft : Hid ((((addB S i b.data.toList).left : Nat) : Int) <= 9223372036854775807) := Ha F.lf
    clear hd hE h hA1 hK1 F hn hq hf hfull hms hB; go_enter Tryz.func19, Tryz.ntmps19
    go_wp2_with (go_at_call 55; refine (Calls.mono hchk.out ?_); rintro e w1 ⟨rfl, rfl⟩); go_region_held3 (fun w' => w'.cell? ⟨d, 0, none⟩ = some (.int .i64 S.quota)) (go_keep)
      (first | (go_at_call 56; refine (Calls.mono hUs.out ?_); rintro e w2 ⟨rfl, hB2⟩; have c02 : w2.cell? ⟨d, 0, none⟩ = some (.int .i64 S.quota) := (hB2.cell hH.out.disk.lt).trans c0))
    have hA2 := hH.out.drew.same hB2
    have hKept4 := Ha (hKK.out.drew.trans (.of_below hB2))
    have hAt4 := Ha hA2
    obtain ⟨M4, hM4⟩ : ∃ M4, M4 = m := ⟨_, rfl⟩
    rw [<-hM4] at hA2 hAt4
    obtain ⟨C4, hC4⟩ : ∃ C4, (fileAt S i).1 = C4 := ⟨_, rfl⟩
    have hFile := Ha hC4
    have l1 := (look_some hA2.names nm hnl.out hFd.out).1
    have l2 := (look_some hA2.names nm hnl.out hFd.out).2
    change _ = Result.ok (Value.tuple #[Value.pointer (some ⟨M4.b i, 0, none⟩), Value.bool true]) w2 at l1
    change _ = Result.ok (Value.pointer (some ⟨M4.b i, 0, none⟩)) w2 at l2
    have c1 : w2.cell? ⟨d, 1, none⟩ = some (.map (some M4.nm)) := (hA2.disk.cell 1).trans rfl
    have hcf := hA2.files.cell i hIlt.out
    have hCell : Hid (Whole w2 (M4.b i) 117 #[M4.v i, .int .i64 ((fileAt S i).2 : Nat)]) := Ha hcf
    have cf0 : w2.cell? ⟨M4.b i, 0, none⟩ = some (M4.v i) := (hcf.cell 0).trans rfl
    have hRow : Hid (w2.ownsRow B 5 1 (M4.v i) C4.length (Lib.byteCells C4)) := Ha (by rw [<-hC4]; exact hA2.files.row i hIlt.out)
    have hTyp : Hid (∀ x, (M4.v i).ownBlock = some x -> typ w2.heap[x]? ≠ 117) := Ha (fun x hx => by rw [own_typ hRow.out hx]; decide)
    have hLen : Hid (C4.length + b.size <= 1000000000) := Ha (by
      have := (hFF.out.fl _ (List.getElem_mem hIlt.out)).1
      have e : (fileAt S i) = S.files[i]'hIlt.out := by unfold fileAt; rw [List.getD_eq_getElem?_getD, List.getElem?_eq_getElem hIlt.out]; rfl
      rw [<-e, hC4] at this
      omega)
    have hBs : Hid (B <= w2.heap.size) := Ha (Nat.le_trans hBB.out hKept4.out.size)
    clear hA2 hcf hB2 c02 hM4 hC4; go_wp2_with (first
      | (at_builtin; refine wpList_append_str _ rfl _ _ rfl B i0 hi0 hz0 hz1 hz2 (M4.v i) C4.length (Lib.byteCells C4) rfl hRow.out b rfl hLen.out hBs.out ?_; intro v2 w5 hown5 hgrow5 hloc5; have hF5 := Ha ((hCell.out.keepT hgrow5 hTyp.out)); have hC5 := (hF5.out.cell 0).trans (rfl : _ = some (M4.v i)); have hfz5 := hF5.out.frozen 0; obtain ⟨A2, c2, rfl, hsee2⟩ := Sees.own hown5; have HO5 := Ha hown5; have HG5 := Ha hgrow5; have HL5 := Ha hloc5; clear hown5 hgrow5 hloc5 hsee2))
    have GP := append_end hAt4.out hIlt.out hFile.out b HO5.out HG5.out HL5.out hF5.out
    refine (count_any GP.1 hLeft.out).mono ?_
    rintro e w7 ⟨rfl, hA7, hK7⟩; have HA7 := Ha hA7
    have HK7 := Ha ((hKept4.out.trans GP.2).trans hK7)
    clear GP hA7 hK7; go_wp2
    go_ret
    rw [hR.out]
    exact ⟨rfl, ⟨_, HA7.out⟩, HK7.out⟩
  | none =>
    have hR : Hid (appendS S nm.data.toList b.data.toList = (count (addB (chg (addF S) ⟨[], nm.data.toList, some S.files.length⟩) S.files.length b.data.toList), 0)) := Ha (by unfold appendS; rw [if_neg hd, hn, if_pos rfl, if_neg (by rw [size_len]; exact hfull), hf])
    have hFd := Ha hf
    have hLeft : Hid ((((addB (chg (addF S) ⟨[], nm.data.toList, some S.files.length⟩) S.files.length b.data.toList).left : Nat) : Int) <= 9223372036854775807) := Ha F.lf
    have hnz : nm.size ≠ 0 := by have := hsz.out.2; omega
    have hNZ := Ha hnz
    clear hd hE h hA1 hK1 F hn hq hf hfull hms hB hnz; go_enter Tryz.func19, Tryz.ntmps19
    go_wp2_with (go_at_call 55; refine (Calls.mono hchk.out ?_); rintro e w1 ⟨rfl, rfl⟩); go_region_held3 (fun w' => w'.cell? ⟨d, 0, none⟩ = some (.int .i64 S.quota)) (go_keep)
      (first | (go_at_call 56; refine (Calls.mono hUs.out ?_); rintro e w2 ⟨rfl, hB2⟩; have c02 : w2.cell? ⟨d, 0, none⟩ = some (.int .i64 S.quota) := (hB2.cell hH.out.disk.lt).trans c0))
    have hA2 := hH.out.drew.same hB2
    have hKept2 := Ha (hKK.out.drew.trans (.of_below hB2))
    have hAt2 := Ha hA2
    have l1 := look_none hA2.names nm hnl.out hFd.out
    have c1 : w2.cell? ⟨d, 1, none⟩ = some (.map (some m.nm)) := (hA2.disk.cell 1).trans rfl
    clear hA2 hB2 c02 c0; go_wp2_with fail
    have hA3 := hAt2.out.newF hFF.out (Nat.le_trans hBB.out hKept2.out.size)
    have hK3 := hKept2.out.alloc (.cells #[nilV, .int .i64 0] 117)
    have hch := change_any hA3 (Nat.le_trans hBB.out hK3.size) hFF.out.addF (by omega) ⟨#[]⟩ nm (some S.files.length) (by decide) hsz.out.1 ⟨fun e => (by cases e), fun e => absurd e hNZ.out⟩
    rw [show ptrOf (m.bs ++ [w2.heap.size]) (some S.files.length) = .pointer (some ⟨w2.heap.size, 0, none⟩) by
      show Value.pointer (some ⟨(m.bs ++ [w2.heap.size]).getD S.files.length 0, 0, none⟩) = _
      rw [getD_snoc, if_pos hAt2.out.files.lb.symm]] at hch
    have hKept3 := Ha hK3
    have hch' := Ha hch
    clear hA3 hK3 hch l1 c1; refine Calls.mono hch'.out ?_
    rintro e w4 ⟨rfl, ⟨M4, hA4, e1, e2⟩, hK4⟩; have hKept4 := Ha (hKept3.out.trans hK4)
    have hAt4 := Ha hA4
    obtain ⟨i, hi⟩ : ∃ i, i = S.files.length := ⟨_, rfl⟩
    have hIlt : Hid (i < (chg (addF S) ⟨[], nm.data.toList, some S.files.length⟩).files.length) := Ha (by rw [hi]; simp [chg, addF])
    have hFl : fileAt (chg (addF S) ⟨[], nm.data.toList, some S.files.length⟩) i = ([], 0) := by
      rw [hi]
      unfold fileAt; exact (getD_snoc _ _ _ _).trans (if_pos rfl)
    obtain ⟨C4, hC4⟩ : ∃ C4 : Bys, C4 = [] := ⟨_, rfl⟩
    have hFile : Hid ((fileAt (chg (addF S) ⟨[], nm.data.toList, some S.files.length⟩) i).1 = C4) := Ha (by rw [hFl, hC4])
    have hfd4 : findN (chg (addF S) ⟨[], nm.data.toList, some S.files.length⟩).names nm.data.toList = some i := by rw [hi]; exact find_putN _ _ _
    have l2 := (look_some hA4.names nm hnl.out hfd4).2
    change _ = Result.ok (Value.pointer (some ⟨M4.b i, 0, none⟩)) w4 at l2
    have c1 : w4.cell? ⟨d, 1, none⟩ = some (.map (some M4.nm)) := (hA4.disk.cell 1).trans rfl
    have hcf := hA4.files.cell i hIlt.out
    have hCell : Hid (Whole w4 (M4.b i) 117 #[M4.v i, .int .i64 ((fileAt (chg (addF S) ⟨[], nm.data.toList, some S.files.length⟩) i).2 : Nat)]) := Ha hcf
    have cf0 : w4.cell? ⟨M4.b i, 0, none⟩ = some (M4.v i) := (hcf.cell 0).trans rfl
    have hRow : Hid (w4.ownsRow B 5 1 (M4.v i) C4.length (Lib.byteCells C4)) := Ha (by rw [<-hFile.out]; exact hA4.files.row i hIlt.out)
    have hTyp : Hid (∀ x, (M4.v i).ownBlock = some x -> typ w4.heap[x]? ≠ 117) := Ha (fun x hx => by rw [own_typ hRow.out hx]; decide)
    have hLen : Hid (C4.length + b.size <= 1000000000) := Ha (by rw [hC4]; simp; omega)
    have hBs : Hid (B <= w4.heap.size) := Ha (Nat.le_trans hBB.out hKept4.out.size)
    rw [<-hi] at hR hLeft hIlt hFile hCell hAt4
    clear hch' hA4 hcf hC4 hfd4 hFl e1 e2 hK4 hi; go_wp2_with (first
      | (at_builtin; refine wpList_append_str _ rfl _ _ rfl B i0 hi0 hz0 hz1 hz2 (M4.v i) C4.length (Lib.byteCells C4) rfl hRow.out b rfl hLen.out hBs.out ?_; intro v2 w5 hown5 hgrow5 hloc5; have hF5 := Ha ((hCell.out.keepT hgrow5 hTyp.out)); have hC5 := (hF5.out.cell 0).trans (rfl : _ = some (M4.v i)); have hfz5 := hF5.out.frozen 0; obtain ⟨A2, c2, rfl, hsee2⟩ := Sees.own hown5; have HO5 := Ha hown5; have HG5 := Ha hgrow5; have HL5 := Ha hloc5; clear hown5 hgrow5 hloc5 hsee2))
    have GP := append_end hAt4.out hIlt.out hFile.out b HO5.out HG5.out HL5.out hF5.out
    refine (count_any GP.1 hLeft.out).mono ?_
    rintro e w7 ⟨rfl, hA7, hK7⟩; have HA7 := Ha hA7
    have HK7 := Ha ((hKept4.out.trans GP.2).trans hK7)
    clear GP hA7 hK7; go_wp2
    go_ret
    rw [hR.out]
    exact ⟨rfl, ⟨_, HA7.out⟩, HK7.out⟩
end Go.Proofs.YtmpginmdaeclaaaGreatDoor
