/- Names looked up and changed: open, apply, change. No statement of the seat is proved here. -/
import Derived.Test.YteeomlboifleoaaDkB
import Derived.Deep.RegionHeld3
import Derived.Deep.AppendLies
import Derived.Deep.RegionLaw
import Derived.StillTailTactics
namespace Go.Proofs.Yteeomlboifleoaa
open Go.RowKit Go.Maps Go.Sort

theorem zeroP (w : World) : (zeroValue 75).run Try.prog w = .ok (.pointer none) w := by kernel_rfl
theorem look_some {w : World} {b n : Nat} {bs : List Nat} {N : Nms} (h : w.ownsMap Try.prog 9 ptrR b n (dm bs N)) (s : ByteArray) (hs : s.size ≤ maxLen) {f : Nat} (hf : findN N s.data.toList = some f) :
    (Instr.lookup 60 (.map (some b)) (.string s) true).run Try.prog w = .ok (.tuple #[.pointer (some ⟨bs.getD f 0, 0, none⟩), .bool true]) w ∧
    (Instr.lookup 60 (.map (some b)) (.string s) false).run Try.prog w = .ok (.pointer (some ⟨bs.getD f 0, 0, none⟩)) w := by
  have hk := Go.WideMaps.keyOf_string_mk Try.underlying9 hs
  obtain ⟨v, ps, h1, h2⟩ := h.look_ok law Try.underlying60 (zeroP w) ptrR_none hk
  obtain ⟨v', ps', h3, h4⟩ := h.lookup law Try.underlying60 (zeroP w) ptrR_none hk
  rw [dm_at, hf] at h2 h4
  rw [ptrR_inv h2, dm_has, hf] at h1
  rw [ptrR_inv h4] at h3
  exact ⟨h1, h3⟩
theorem look_none {w : World} {b n : Nat} {bs : List Nat} {N : Nms} (h : w.ownsMap Try.prog 9 ptrR b n (dm bs N)) (s : ByteArray) (hs : s.size ≤ maxLen) (hf : findN N s.data.toList = none) :
    (Instr.lookup 60 (.map (some b)) (.string s) true).run Try.prog w = .ok (.tuple #[.pointer none, .bool false]) w := by
  have hk := Go.WideMaps.keyOf_string_mk Try.underlying9 hs
  obtain ⟨v, ps, h1, h2⟩ := h.look_ok law Try.underlying60 (zeroP w) ptrR_none hk
  rw [dm_at, hf] at h2
  rw [ptrR_none_inv h2, dm_has, hf] at h1
  exact h1

def openV (m : Mem) (r : Nat × Int) : Value := if r.2 = 0 then .pointer (some ⟨m.b r.1, 0, none⟩) else .pointer none
theorem isN_le {s : ByteArray} (h : isN s.data.toList = true) : s.size ≤ 64 ∧ 1 ≤ s.size := by
  rw [isN_size] at h
  simp at h
  omega
theorem open_any {B d B' n c : Nat} {m : Mem} {S : St} {w : World} (h : At B w d m S) (A : Option Addr) (s0 : ByteArray) (xs : List ByteArray) (hs : Sees w B' A n ((s0 :: xs).map Value.string)) (hn : n ≤ 1000000) :
    Calls Try.prog 44 #[dptr d, .slice A n c] w fun e w' => e = .returned (.tuple #[openV m (openS S s0.data.toList (okAll (s0 :: xs))), .int .i64 (openS S s0.data.toList (okAll (s0 :: xs))).2]) ∧ ∃ q, w' = w.drewN q := by
  have hlen : (s0 :: xs).length = n := by simpa using hs.len
  have hpos : 0 < n := by rw [← hlen]; simp
  obtain ⟨b, off, rfl, _, hc⟩ := hs.addr hpos
  have hc0 : w.cell? ⟨b, off, none⟩ = some (.string s0) := hc 0 _ rfl
  have c1 : w.cell? ⟨d, 1, none⟩ = some (.map (some m.nm)) := by rw [h.disk.cell]; rfl
  have hposI : (0 : Int) < (n : Int) := by omega
  have hK := Lib.hid (check_any (c := c) h (some ⟨b, off, none⟩) (s0 :: xs) hs hn)
  by_cases hd : S.down = true
  · have hR : Hid (openS S s0.data.toList (okAll (s0 :: xs)) = (0, 5)) := Lib.hid (by unfold openS; rw [if_pos hd])
    have hE : chkE S (s0 :: xs) = 5 := by unfold chkE; rw [if_pos hd]
    rw [hE] at hK
    clear hd hE hc hs h hlen hpos
    go_enter Try.func44, Try.ntmps44
    go_wp2_with (go_at_call 43; refine (Calls.mono hK.out ?_); rintro e w1 ⟨rfl, rfl⟩)
    go_ret2
    rw [hR.out]
    exact ⟨rfl, 0, (World.drewN_zero w).symm⟩
  · cases ho : okAll (s0 :: xs)
    · have hR : Hid (openS S s0.data.toList false = (0, 1)) := Lib.hid (by unfold openS; rw [if_neg hd]; rfl)
      have hE : chkE S (s0 :: xs) = 1 := by unfold chkE; rw [if_neg hd, ho]; rfl
      rw [hE] at hK
      clear hd hE hc hs h hlen hpos ho
      go_enter Try.func44, Try.ntmps44
      go_wp2_with (go_at_call 43; refine (Calls.mono hK.out ?_); rintro e w1 ⟨rfl, rfl⟩)
      go_ret2
      rw [hR.out]
      exact ⟨rfl, 0, (World.drewN_zero w).symm⟩
    · have hE : chkE S (s0 :: xs) = 0 := by unfold chkE; rw [if_neg hd, ho]; rfl
      rw [hE] at hK
      have hsz : s0.size ≤ maxLen := by
        have : isN s0.data.toList = true := by
          unfold okAll at ho
          simp only [List.all_cons, Bool.and_eq_true] at ho
          exact ho.1
        have := (isN_le this).1
        unfold maxLen; omega
      cases hf : findN S.names s0.data.toList with
      | none =>
        have hR : Hid (openS S s0.data.toList true = (0, 6)) := Lib.hid (by unfold openS; rw [if_neg hd, hf]; rfl)
        have hl := fun k => look_none (h.drewN k).names s0 hsz hf
        clear hd hE hc hs h hlen hpos ho hf hsz
        go_enter Try.func44, Try.ntmps44
        go_wp2_with (go_at_call 43; refine (Calls.mono hK.out ?_); rintro e w1 ⟨rfl, rfl⟩)
        go_quiet (fail)
        go_wp2
        go_ret2
        rw [hR.out]
        exact ⟨rfl, _, rfl⟩
      | some f =>
        have hR : Hid (openS S s0.data.toList true = (f, 0)) := Lib.hid (by unfold openS; rw [if_neg hd, hf]; rfl)
        have hl := fun k => (look_some (h.drewN k).names s0 hsz hf).1
        clear hd hE hc hs h hlen hpos ho hf hsz
        go_enter Try.func44, Try.ntmps44
        go_wp2_with (go_at_call 43; refine (Calls.mono hK.out ?_); rintro e w1 ⟨rfl, rfl⟩)
        go_quiet (fail)
        go_wp2
        go_ret2
        rw [hR.out]
        exact ⟨rfl, _, rfl⟩

theorem apply_any {b n : Nat} {bs : List Nat} {N : Nms} {w : World} (hown : w.ownsMap Try.prog 9 ptrR b n (dm bs N)) (hn : n ≤ 1000000) (src dst : ByteArray) (f : Option Nat) (hs : src.size ≤ 64) (hd : dst.size ≤ 64) (hwf : f = none ↔ dst.size = 0) :
    Calls Try.prog 55 #[.agg #[.string src, .string dst, ptrOf bs f], .map (some b)] w fun e w' =>
      e = .returned (.tuple #[]) ∧ w'.ownsMap Try.prog 9 ptrR b (n + 1) (dm bs ((⟨src.data.toList, dst.data.toList, f⟩ : Chg).app N)) ∧ w.grownBy w' (some b) := by
  have hk1 := Go.WideMaps.keyOf_string_mk (k := 9) (P := Try.prog) Try.underlying9 (s := src) (by unfold maxLen; omega)
  have hk2 := Go.WideMaps.keyOf_string_mk (k := 9) (P := Try.prog) Try.underlying9 (s := dst) (by unfold maxLen; omega)
  have hlt := hown.lt
  have hO := Lib.hid hown
  cases f with
  | none =>
    have hz := hwf.1 rfl
    have hde : dst = ⟨#[]⟩ := ByteArray.ext (Array.eq_empty_of_size_eq_zero hz)
    subst hde
    clear hwf hz hown
    go_enter Try.func55, Try.ntmps55
    go_wp2_with (at_delete; refine wpList_delete_own _ rfl _ _ 60 9 rfl 75 law Try.underlying60 _ b n (dm bs N) rfl (hO.out.alloc _) _ _ rfl hk1 ?_; intro w1 hown1 hturn1; have hg1 := hturn1.grown; have hc1 : w1.cell? ⟨w.heap.size, 1, none⟩ = some (.string ⟨#[]⟩) := hg1.cell (a := ⟨w.heap.size, 1, none⟩) (by rw [(Whole.new w 100 _).cell]; rfl) (by simp; omega))
    go_end0
    refine ⟨rfl, ?_, ?_⟩
    · rw [dm_del] at hown1
      exact hown1.mono (Nat.le_succ _)
    · exact ((World.grownBy_alloc w _ none).but (some b)).andThen hg1 (fun j hj => .inr hj)
  | some i =>
    have hz : dst.size ≠ 0 := fun e => by cases hwf.2 e
    have hne := not_empty hz
    obtain ⟨q, hq⟩ : ∃ q, q = bs.getD i 0 := ⟨_, rfl⟩
    have hW := Whole.new w 100 #[.string src, .string dst, .pointer (some ⟨q, 0, none⟩)]
    have hW' := Lib.hid hW
    clear hwf hz hown hW
    simp only [ptrOf, ptrA]
    rw [show (some (⟨bs.getD i 0, 0, none⟩ : Addr)) = some ⟨q, 0, none⟩ by rw [hq]]
    have hQ := Lib.hid hq
    clear hq
    go_enter Try.func55, Try.ntmps55
    go_wp2_with (first
      | (at_delete; (refine wpList_delete_own _ rfl _ _ 60 9 rfl 75 law Try.underlying60 _ b n (dm bs N) rfl (hO.out.alloc _) _ _ rfl hk1 ?_; intro w1 hown1 hturn1; have hg1 := Lib.hid hturn1.grown; have hW1 := hW'.out.grown hg1.out (fun e => by have := Option.some.inj e; omega); have hc1 : w1.cell? ⟨w.heap.size, 1, none⟩ = some (.string dst) := (hW1.cell 1).trans rfl; have hc2 : w1.cell? ⟨w.heap.size, 2, none⟩ = some (.pointer (some ⟨q, 0, none⟩)) := (hW1.cell 2).trans rfl; have HO1 := Lib.hid hown1; clear hW1 hown1 hturn1))
      | (at_mapUpdate; refine wpList_mapUpdate_own _ rfl _ _ _ 60 rfl 9 75 law Try.underlying60 _ b n _ rfl HO1.out (by unfold maxLen; omega) _ _ _ rfl rfl hk2 _ [] (ptrR_mk _) ?_; intro w2 hown2 hg2))
    go_end0
    refine ⟨rfl, ?_, ?_⟩
    · rw [hQ.out, dm_del, dm_put] at hown2
      exact hown2
    · exact (((World.grownBy_alloc w _ none).but (some b)).andThen hg1.out (fun j hj => .inr hj)).andThen hg2 (fun j hj => .inr hj)

theorem flat_snoc (bs : List Nat) (l : List Chg) (c : Chg) : pcells bs (l ++ [c]) = pcells bs l ++ [Go.Proofs.encStr c.src, Go.Proofs.encStr c.dst, ptrOf bs c.f] := by
  simp [pcells]
theorem enc_data (s : ByteArray) : Go.Proofs.encStr s.data.toList = .string s := by simp [Go.Proofs.encStr]
theorem chg_info : (Try.prog.info? 100).map (fun i => (i.zero, i.size, i.bytes)) = some (some (.agg #[.string ⟨#[]⟩, .string ⟨#[]⟩, .pointer none]), 3, 40) := by kernel_rfl
theorem change_end {B d gg cap : Nat} {m : Mem} {S : St} {w4 w5 : World} {o : Obj} {p : Option Addr} (h : At B w4 d m S) (src dst : ByteArray) (f : Option Nat) (hp : p = ptrA m.bs f)
    (hown : w5.ownsRow B 100 3 (.slice (some ⟨gg, 0, none⟩) (S.pend.length + 1) cap) (S.pend.length + 1) (pcells m.bs S.pend ++ [.string src, .string dst, .pointer p])) (hg : (w4.alloc o).drew.grownBy w5 m.pv.ownBlock) (q0 : Whole w5 d 63 (dcells m S)) :
    At B (w5.setCell ⟨d, 3, none⟩ (.slice (some ⟨gg, 0, none⟩) (S.pend.length + 1) cap)) d { m with pv := .slice (some ⟨gg, 0, none⟩) (S.pend.length + 1) cap } { S with pend := S.pend ++ [⟨src.data.toList, dst.data.toList, f⟩] } ∧
    Kept B w4 (w5.setCell ⟨d, 3, none⟩ (.slice (some ⟨gg, 0, none⟩) (S.pend.length + 1) cap)) := by
  have hg1 : w4.grownBy w5 m.pv.ownBlock := ((World.grownBy_alloc w4 o none).but m.pv.ownBlock).andThen (⟨hg.os, hg.tape, hg.output, hg.size, hg.block⟩ : (w4.alloc o).grownBy w5 m.pv.ownBlock) (fun j hj => .inr hj)
  refine h.setP hg1 (.inr rfl) ?_ (gset _ _ _) ?_
  · rw [flat_snoc, enc_data, enc_data, List.length_append, ptrOf, ← hp]
    exact hown
  · have := q0.put 3 (.slice (some ⟨gg, 0, none⟩) (S.pend.length + 1) cap)
    simpa [dcells] using this
theorem three1 (a b c : Value) (ha : a.oneCell' = true) (hb : b.oneCell' = true) (hc : c.oneCell' = true) : ∀ u ∈ [a, b, c], u.oneCell' = true := by
  intro u hu
  simp only [List.mem_cons, List.not_mem_nil, or_false] at hu
  rcases hu with rfl | rfl | rfl
  · exact ha
  · exact hb
  · exact hc
theorem change_any {B d : Nat} {m : Mem} {S : St} {w : World} (h : At B w d m S) (hB : B ≤ w.heap.size) {k M : Nat} (F : Fit k M S) (hk : k ≤ 1000000) (src dst : ByteArray) (f : Option Nat) (hs : src.size ≤ 64) (hd : dst.size ≤ 64) (hwf : f = none ↔ dst.size = 0) :
    Calls Try.prog 46 #[dptr d, .string src, .string dst, ptrOf m.bs f] w fun e w' =>
      e = .returned (.tuple #[]) ∧ (∃ m', At B w' d m' (chg S ⟨src.data.toList, dst.data.toList, f⟩) ∧ m'.bs = m.bs ∧ m'.vs = m.vs) ∧ Kept B w w' := by
  have hH := Lib.hid h
  have hFF := Lib.hid F
  unfold ptrOf
  obtain ⟨p, hP⟩ : ∃ p, p = ptrA m.bs f := ⟨_, rfl⟩
  rw [← hP]
  have hPP := Lib.hid hP
  have hwf' := Lib.hid hwf
  obtain ⟨i0, hi0, hz0, hz1, hz2⟩ := info_parts chg_info
  clear h F hP hwf
  go_enter Try.func46, Try.ntmps46
  go_wp2_with fail
  refine (strings_Clone_any src _ (by omega)).mono ?_
  rintro e w1 ⟨rfl, hb1⟩
  go_wp2_with fail
  refine (strings_Clone_any dst _ (by omega)).mono ?_
  rintro e w2 ⟨rfl, hb2⟩
  go_wp2_with fail
  have hX0 : At B (w2.alloc (.cells #[.string src, .string dst, .pointer p] 100)) d m S := ((hH.out.same hb1).same hb2).alloc _
  have hW0 := Whole.new w2 100 #[.string src, .string dst, .pointer p]
  have hK0 : Kept B w (w2.alloc (.cells #[.string src, .string dst, .pointer p] 100)) := ((Kept.of_below hb1).trans (.of_below hb2)).alloc _
  obtain ⟨g, hg⟩ : ∃ g, g = w2.heap.size := ⟨_, rfl⟩
  rw [← hg] at hW0 ⊢
  clear hg
  revert hX0 hW0 hK0
  generalize w2.alloc (.cells #[.string src, .string dst, .pointer p] 100) = w3
  intro hX0 hK0 hW0
  have c1 : w3.cell? ⟨d, 1, none⟩ = some (.map (some m.nm)) := (hX0.disk.cell 1).trans rfl
  have a0 : w3.cell? ⟨g, 0, none⟩ = some (.string src) := (hW0.cell 0).trans rfl
  have a1 : w3.cell? ⟨g, 1, none⟩ = some (.string dst) := (hW0.cell 1).trans rfl
  have a2 : w3.cell? ⟨g, 2, none⟩ = some (.pointer p) := (hW0.cell 2).trans rfl
  have hAp := Lib.hid (show ∀ W : World, W.ownsMap Try.prog 9 ptrR m.nm S.names.length (dm m.bs S.names) → Calls Try.prog 55 #[.agg #[.string src, .string dst, .pointer p], .map (some m.nm)] W fun e w' =>
      e = .returned (.tuple #[]) ∧ w'.ownsMap Try.prog 9 ptrR m.nm (S.names.length + 1) (dm m.bs ((⟨src.data.toList, dst.data.toList, f⟩ : Chg).app S.names)) ∧ W.grownBy w' (some m.nm) from fun W hW => by
    rw [hPP.out]
    exact apply_any hW (Nat.le_trans hFF.out.nn hk) src dst f hs hd hwf'.out)
  have hdr : Hid (At B w3.drew d m S) := Lib.hid hX0.drew
  have n1 : some g ≠ some m.nm := fun e => by
    have h1 := whole_typ hW0
    have h2 := map_typ hX0.names
    rw [Option.some.inj e, h2] at h1
    exact absurd h1 (by decide)
  have n2 : some d ≠ some m.nm := fun e => by
    have h1 := whole_typ hX0.disk
    have h2 := map_typ hX0.names
    rw [Option.some.inj e, h2] at h1
    exact absurd h1 (by decide)
  replace n1 := Lib.hid n1
  replace n2 := Lib.hid n2
  replace hX0 := Lib.hid hX0
  replace hW0 := Lib.hid hW0
  replace hK0 := Lib.hid hK0
  clear hb1 hb2
  go_region_held3 (fun w' => w'.cell? ⟨g, 0, none⟩ = some (.string src) ∧ w'.cell? ⟨g, 1, none⟩ = some (.string dst) ∧ w'.cell? ⟨g, 2, none⟩ = some (.pointer p) ∧ w'.cell? ⟨d, 1, none⟩ = some (.map (some m.nm))) (go_keep)
    (first | (go_at_call 55; refine (Calls.mono (hAp.out _ hdr.out.names) ?_); rintro e w4 ⟨rfl, ho4, hg4⟩; have b0 : w4.cell? ⟨g, 0, none⟩ = some (.string src) := hg4.cell (a := ⟨g, 0, none⟩) a0 n1.out; have b1 : w4.cell? ⟨g, 1, none⟩ = some (.string dst) := hg4.cell (a := ⟨g, 1, none⟩) a1 n1.out; have b2 : w4.cell? ⟨g, 2, none⟩ = some (.pointer p) := hg4.cell (a := ⟨g, 2, none⟩) a2 n1.out; have b3 : w4.cell? ⟨d, 1, none⟩ = some (.map (some m.nm)) := hg4.cell (a := ⟨d, 1, none⟩) c1 n2.out))
  obtain ⟨A4, K4⟩ := hdr.out.setN hg4 ho4
  have hA4 := Lib.hid A4
  have hK4 := Lib.hid (hK0.out.drew.trans K4)
  have hD4 := Lib.hid A4.disk
  have n3 : Hid (some d ≠ m.pv.ownBlock) := Lib.hid (fun e => by
    have h1 := whole_typ A4.disk
    have h2 := own_typ A4.pend e.symm
    rw [h2] at h1
    exact absurd h1 (by decide))
  have c3 : w4.cell? ⟨d, 3, none⟩ = some m.pv := (A4.disk.cell 3).trans rfl
  have H63 : Hid (S.pend.length + 1 ≤ maxLen) := Lib.hid (by have := hFF.out.np; unfold maxLen; omega)
  have H47 : Hid ((S.pend.length + 1) * 40 ≤ 140737488355328) := Lib.hid (by have := hFF.out.np; omega)
  have hBs : B ≤ w4.heap.size := Nat.le_trans hB (Nat.le_trans hK0.out.size hg4.size)
  clear hg4 ho4 A4 K4 b3 c1 a0 a1 a2
  go_wp2_with fail
  have c3a : (w4.alloc (.cells #[.string src, .string dst, .pointer p] 100)).cell? ⟨d, 3, none⟩ = some m.pv := ((hD4.out.alloc _).cell 3).trans rfl
  go_region_law (first | (refine step_append_lies _ (by rfl) _ _ _ (by rfl) B 100 i0 (.agg #[.string ⟨#[]⟩, .string ⟨#[]⟩, .pointer none]) 3 40 Try.underlying61 hi0 hz0 hz1 hz2 rfl (by omega) m.pv S.pend.length (pcells m.bs S.pend) (by rfl) (hA4.out.pend.alloc _) ⟨w4.heap.size, 0, none⟩ 1 1 [.string src, .string dst, .pointer p] (by rfl) (by rfl) (World.news_of_block (cs := #[.string src, .string dst, .pointer p]) (t := 100) (fr := (0, 0)) (heap_alloc_new w4 _)) (three1 _ _ _ rfl rfl rfl) (by omega) H63.out H47.out (Nat.le_trans hBs (by simp)) (w4.heap.size + 1) (by simp) ?_; intro gg cap w5 hown5 hgrow5 hat hlt5; have q0 := ((hD4.out.alloc (.cells #[.string src, .string dst, .pointer p] 100)).drew).grown hgrow5 n3.out; have c5 : w5.cell? ⟨d, 3, none⟩ = some m.pv := (q0.cell 3).trans rfl; have f5 := q0.frozen 3))
  all_goals
    have GP := Lib.hid (change_end hA4.out src dst f hPP.out hown5 hgrow5 q0)
    clear hown5 hgrow5 q0 hat hlt5 c5 f5
    go_wp2_with fail
    go_end0
    exact ⟨rfl, ⟨_, GP.out.1, rfl, rfl⟩, hK4.out.trans GP.out.2⟩
end Go.Proofs.Yteeomlboifleoaa
