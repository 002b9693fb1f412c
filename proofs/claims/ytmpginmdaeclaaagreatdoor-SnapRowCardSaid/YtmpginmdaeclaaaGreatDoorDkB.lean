/- Parts of the proofs of the statements of image. No statement of the seat is proved here. -/
import Derived.Test.YtmpginmdaeclaaaGreatDoorDkA
import Derived.Maps.RangeWalk
import Derived.Deep.RegionHeld3
import Derived.Deep.AppendLies
import Derived.Deep.RegionLaw
import Derived.StillTailTactics
set_option maxHeartbeats 32000000
set_option maxRecDepth 20000
namespace Go.Proofs.YtmpginmdaeclaaaGreatDoor
open Go.RowKit Go.Maps Go.Sort
def restG (g : Bys × Nat -> Nat) (left : Bys -> Bool) (N : Nms) : Nat := (N.map fun p => if left p.1 then g p else 0).sum
theorem rest_all (g : Bys × Nat -> Nat) (left : Bys -> Bool) : ∀ N : Nms, (∀ p ∈ N, left p.1 = true) -> restG g left N = (N.map g).sum
  | [], _ => rfl
  | p :: r, h => by
    have := rest_all g left r fun q hq => h q (by simp [hq])
    simp only [restG, List.map_cons, List.sum_cons, h p (by simp), if_true] at this ⊢
    rw [this]
theorem rest_none (g : Bys × Nat -> Nat) (left : Bys -> Bool) (h : ∀ x, left x = false) : ∀ N : Nms, restG g left N = 0
  | [] => rfl
  | p :: r => by
    have := rest_none g left h r
    simp only [restG, List.map_cons, List.sum_cons, h] at this ⊢
    simpa using this
theorem rest_other (g : Bys × Nat -> Nat) (left : Bys -> Bool) (x : Bys) : ∀ N : Nms, (∀ p ∈ N, p.1 ≠ x) -> restG g (fun y => left y && !(y == x)) N = restG g left N
  | [], _ => rfl
  | p :: r, h => by
    have h1 := rest_other g left x r fun q hq => h q (by simp [hq])
    have h2 : (p.1 == x) = false := by simpa using h p (by simp)
    simp only [restG, List.map_cons, List.sum_cons, h2, Bool.not_false, Bool.and_true] at h1 ⊢
    rw [h1]
theorem rest_step (g : Bys × Nat -> Nat) (left : Bys -> Bool) (x : Bys) (f : Nat) (hl : left x = true) : ∀ N : Nms, N.Pairwise (fun p q => p.1 ≠ q.1) -> (x, f) ∈ N ->
    restG g left N = g (x, f) + restG g (fun y => left y && !(y == x)) N
  | [], _, h => by cases h
  | p :: r, hp, h => by
    obtain ⟨p1, p2⟩ := List.pairwise_cons.1 hp
    rcases List.mem_cons.1 h with rfl | h
    · have := rest_other g left x r fun q hq => (p1 q hq).symm
      simp only [restG, List.map_cons, List.sum_cons, hl, beq_self_eq_true, Bool.not_true, Bool.and_false, if_true] at this ⊢
      simp only [Bool.false_eq_true, if_false]
      rw [this]; omega
    · have hne := p1 _ h
      have h2 : (p.1 == x) = false := by simpa using hne
      have := rest_step g left x f hl r p2 h
      simp only [restG, List.map_cons, List.sum_cons, h2, Bool.not_false, Bool.and_true] at this ⊢
      rw [this]; omega
theorem distinct_of {w : World} {b n : Nat} {bs : List Nat} {N : Nms} (h : w.ownsMap Tryz.prog 9 ptrR b n (dm bs N)) : N.Pairwise fun p q => p.1 ≠ q.1 := by
  refine (rising_of h).imp fun {p q} hb e => ?_
  rw [e, WideAt.bytes_irrefl] at hb
  cases hb
theorem find_some_mem {N : Nms} {x : Bys} {f : Nat} (h : findN N x = some f) : (x, f) ∈ N := findN_mem h
def UsedAt (m : Mem) (S : St) (w : World) (a : Nat) (wr : World) : Prop :=
  ∃ left cnt, wr.ranges Tryz.prog 9 ptrR m.nm w.heap.size S.names.length (dm m.bs S.names) left cnt /\ a + restG (fun p => lenOf S p.2) (fun x => left (.string x)) S.names = used S /\ Below w.heap.size w wr
theorem ptr_shape {v : Value} {y : DataW Unit × List MemPlace} (h : ptrR v = some y) : ∃ c : Option Addr, v = .pointer c := by
  unfold ptrR at h
  split at h
  · exact ⟨_, rfl⟩
  · exact ⟨_, rfl⟩
  · cases h
theorem came_out {bs : List Nat} {N : Nms} {x : Bys} {c : Option Addr} {yd : DataW Unit} {yp : List MemPlace} (hv : ptrR (.pointer c) = some (yd, yp)) (hat : ∀ zd, (dm bs N).atKey (.string x) zd = yd) :
    ∃ f, findN N x = some f /\ c = some ⟨bs.getD f 0, 0, none⟩ := by
  cases hf : findN N x with
  | none =>
    have h1 := hat .nil
    have h2 := hat (.lit (.bool true))
    rw [dm_at, hf] at h1 h2
    simp only at h1 h2
    rw [<-h1] at h2
    cases h2
  | some f =>
    refine ⟨f, rfl, ?_⟩
    have h1 := hat .nil
    rw [dm_at, hf] at h1
    simp only at h1
    rw [<-h1] at hv
    have := ptrR_inv hv
    simpa using this
theorem Used_any {B d : Nat} {m : Mem} {S : St} {w : World} (h : At B w d m S) {k M : Nat} (F : Fit k M S) (hu : (used S : Int) <= 1152921504606846976) :
    Calls Tryz.prog 56 #[dptr d] w fun e w' => e = .returned (.int .i64 (used S : Nat)) /\ Below w.heap.size w w' := by
  have c1 : w.cell? ⟨d, 1, none⟩ = some (.map (some m.nm)) := by rw [h.disk.cell]; rfl
  have hH := Ha h
  have hF := Ha F
  have hown := Ha h.names
  have hdis := Ha (distinct_of h.names)
  clear h F
  go_enter Tryz.func56, Tryz.ntmps56
  go_wp2_with (at_range; refine wpList_range_own _ rfl _ 77 rfl 9 92 law Tryz.underlying77 _ m.nm S.names.length (dm m.bs S.names) rfl hown.out ?_; intro w0 hrg0 hg0 hs0)
  go_frame
  go_loopw [3] (fun u wr => ∃ a : Nat, u = .int .i64 a /\ UsedAt m S w a wr) (fun _ wr => wr.rangeLeft m.nm w.heap.size)
  case atStart =>
    refine ⟨0, rfl, _, _, hrg0, ?_, ⟨hg0.os, hg0.tape, hg0.output, hg0.size, fun k hk => hg0.block k hk (by simp)⟩⟩
    rw [Nat.zero_add, rest_all]
    · rfl
    · intro p hp
      rw [dm_has]
      unfold findN; rw [Option.isSome_map, List.find?_isSome]
      exact ⟨p, hp, by simp⟩
  case round =>
    obtain ⟨a, rfl, left, cnt, hrg, hsum, hB⟩ := hrel
    have hR := Ha hrg
    have hSum := Ha hsum
    have hBel := Ha hB
    have ha : (a : Int) <= (used S : Nat) := by omega
    clear hrg hsum hB hg0 hrg0 hs0; go_wp2_with (at_next; refine wpList_next_ranges _ rfl _ rfl 9 law ptrR Go.Proofs.encStr Value.pointer (fun key kl hk => by obtain ⟨x, hx, _⟩ := Maps.keyOf_str Tryz.underlying9 hk; exact ⟨x, hx⟩) (fun v y hv => ptr_shape hv) m.nm w.heap.size S.names.length _ _ _ rfl hR.out ?_ ?_)
    · intro hc0 hl0
      have hfin : Hid (a = used S) := Ha (by have := hSum.out; rw [rest_none _ _ (fun x => hl0 _)] at this; omega)
      clear hc0 hl0; go_wp2
      go_ret
      exact ⟨by rw [hfin.out]; rfl, hBel.out⟩
    · intro x c kl yd yp w2 cnt2 hkey hlk hv hat hrg2 hlt hg2 hs2 hen
      obtain ⟨x', ex, rfl, _⟩ := Maps.keyOf_str Tryz.underlying9 hkey
      obtain rfl : x = x' := encStr_inj ex
      obtain ⟨f, hfind, rfl⟩ := came_out hv hat
      have hfl := (hF.out.idn _ (find_some_mem hfind)).1
      have hstep : restG (fun p => lenOf S p.2) (fun x => left (.string x)) S.names = lenOf S f + restG (fun p => lenOf S p.2) (fun z => left (.string z) && !(z == x)) S.names := rest_step (fun p => lenOf S p.2) (fun x => left (.string x)) x f hlk S.names hdis.out (find_some_mem hfind)
      have hmore := hSum.out
      rw [hstep] at hmore
      have hA := (hH.out.same hBel.out).files
      have hne : ∀ y, some w.heap.size = some y -> typ wr.heap[y]? ≠ 117 /\ typ wr.heap[y]? ≠ 5 := by
        rintro y ⟨⟩; obtain ⟨es, clock, since, seen, c0, _, _, _, _, hr, _⟩ := hR.out
        rw [hr]; exact ⟨(by decide : (1000001 : Nat) ≠ 117), (by decide : (1000001 : Nat) ≠ 5)⟩
      have hA2 := hA.keep hg2 hne
      obtain ⟨A, cc, hv1, _⟩ := Sees.own (hA2.row f hfl)
      have hc0 : w2.cell? ⟨m.b f, 0, none⟩ = some (.slice A (lenOf S f) cc) := by
        rw [(hA2.cell f hfl).cell, hv1]; rfl
      have hlen2 : (a : Int) + (lenOf S f : Nat) <= 1152921504606846976 := by
        have : lenOf S f <= restG (fun p => lenOf S p.2) (fun x => left (.string x)) S.names := by rw [hstep]; exact Nat.le_add_right _ _
        have := hSum.out
        omega
      have hB2 := Ha (hBel.out.trans (⟨hg2.os, hg2.tape, hg2.output, hg2.size, fun k hk => hg2.block k (Nat.lt_of_lt_of_le hk hBel.out.size) (by rintro ⟨⟩; omega)⟩ : Below w.heap.size wr w2))
      have hM2 := Ha (show (a + lenOf S f) + restG (fun p => lenOf S p.2) (fun z => left (.string z) && !(z == x)) S.names = used S by omega)
      have hG2 := Ha hrg2
      have hL2 := Ha (show w2.rangeLeft m.nm w.heap.size < wr.rangeLeft m.nm w.heap.size by rw [hrg2.left_eq, hR.out.left_eq]; exact hlt)
      have hbf : m.bs.getD f 0 = m.b f := rfl
      rw [hbf] at hen
      clear hs2 hkey hv hat hfind hfl hmore hstep hA hA2 hne hv1 hg2 hrg2 hlt hlk ex hbf; go_wp2
      go_roundw
      case rel => exact ⟨a + lenOf S f, by simp, _, _, hG2.out, hM2.out, hB2.out⟩
      case measure => exact hL2.out
theorem used_le {k M : Nat} {S : St} (F : Fit k M S) (hk : k <= 1048576) (hM : M <= 1073741824) : (used S : Int) <= 1152921504606846976 := by
  have h1 : ∀ N : Nms, (∀ p ∈ N, p.2 < S.files.length) -> (N.map fun p => lenOf S p.2).sum <= N.length * M := by
    intro N
    induction N with
    | nil => intro _; simp
    | cons p r ih =>
      intro h
      have h2 := ih fun q hq => h q (by simp [hq])
      have h3 : lenOf S p.2 <= M := by
        have hp := h p (by simp)
        unfold lenOf; rw [List.getD_eq_getElem?_getD, List.getElem?_eq_getElem hp]
        exact (F.fl _ (List.getElem_mem hp)).1
      simp only [List.map_cons, List.sum_cons, List.length_cons, Nat.add_mul, Nat.one_mul]
      omega
  have h2 := h1 S.names fun p hp => (F.idn p hp).1
  have h3 : S.names.length * M <= 1048576 * 1073741824 := Nat.mul_le_mul (Nat.le_trans F.nn hk) hM
  unfold used
  omega
theorem dkNew_any (q : Int) (w : World) (hq : qB q = true) : Calls Tryz.prog 9 #[.int .i64 q] w fun e w' => ∃ d, e = .returned (.tuple #[dptr d, .int .i64 0]) /\ DiskAt w.heap.size w' d (St.new q) /\ Below w.heap.size w w' := by
  have hmm := @run_makeMap Tryz.prog
  go_enter Tryz.func9, Tryz.ntmps9
  go_wp2_with (go_at_call 30; refine (isQuota_any _ _).mono ?_; rw [hq]; rintro e w' ⟨rfl, rfl⟩)
  go_ret2
  have h3 := Whole.new ((w.alloc (.map #[] 0)).alloc (.map #[] 0)) 80 (dcells ⟨w.heap.size, w.heap.size + 1, nilV, [], []⟩ (St.new q))
  simp only [World.size_alloc] at h3
  have m1 : (((w.alloc (.map #[] 0)).alloc (.map #[] 0)).alloc (.cells (dcells ⟨w.heap.size, w.heap.size + 1, nilV, [], []⟩ (St.new q)) 80)).ownsMap Tryz.prog 9 ptrR w.heap.size 0 (dm [] []) :=
    ((World.ownsMap_made w Tryz.prog 9 ptrR).alloc _).alloc _
  have m2 := (World.ownsMap_made (w.alloc (.map #[] 0)) Tryz.prog 9 ptrR).alloc (.cells (dcells ⟨w.heap.size, w.heap.size + 1, nilV, [], []⟩ (St.new q)) 80)
  rw [World.size_alloc] at m2
  refine ⟨w.heap.size + 1 + 1, rfl, ⟨⟨w.heap.size, w.heap.size + 1, nilV, [], []⟩, by omega, Nat.le_refl _, Nat.le_succ _, by simp, h3, m1, m2, World.ownsRow_nil _ _ _ _, ⟨rfl, rfl, ?_, ?_, ?_, ?_, ?_⟩⟩, ?_⟩
  · intro i hi; cases hi
  · intro i hi; cases hi
  · intro i hi; cases hi
  · intro i j hi; cases hi
  · intro i j hi; cases hi
  · exact (((Below.refl _ _).alloc (Nat.le_refl _) _).alloc (by simp) _).alloc (by simp; omega) _
end Go.Proofs.YtmpginmdaeclaaaGreatDoor
namespace Go.Proofs.YtmpginmdaeclaaaGreatDoor
open Go.RowKit Go.Maps Go.Sort
theorem zeroP (w : World) : (zeroValue 92).run Tryz.prog w = .ok (.pointer none) w := by kernel_rfl
theorem look_some {w : World} {b n : Nat} {bs : List Nat} {N : Nms} (h : w.ownsMap Tryz.prog 9 ptrR b n (dm bs N)) (s : ByteArray) (hs : s.size <= maxLen) {f : Nat} (hf : findN N s.data.toList = some f) :
    (Instr.lookup 77 (.map (some b)) (.string s) true).run Tryz.prog w = .ok (.tuple #[.pointer (some ⟨bs.getD f 0, 0, none⟩), .bool true]) w /\
    (Instr.lookup 77 (.map (some b)) (.string s) false).run Tryz.prog w = .ok (.pointer (some ⟨bs.getD f 0, 0, none⟩)) w := by
  have hk := Go.WideMaps.keyOf_string_mk Tryz.underlying9 hs
  obtain ⟨v, ps, h1, h2⟩ := h.look_ok law Tryz.underlying77 (zeroP w) ptrR_none hk
  obtain ⟨v', ps', h3, h4⟩ := h.lookup law Tryz.underlying77 (zeroP w) ptrR_none hk
  rw [dm_at, hf] at h2 h4
  rw [ptrR_inv h2, dm_has, hf] at h1
  rw [ptrR_inv h4] at h3
  exact ⟨h1, h3⟩
theorem look_none {w : World} {b n : Nat} {bs : List Nat} {N : Nms} (h : w.ownsMap Tryz.prog 9 ptrR b n (dm bs N)) (s : ByteArray) (hs : s.size <= maxLen) (hf : findN N s.data.toList = none) :
    (Instr.lookup 77 (.map (some b)) (.string s) true).run Tryz.prog w = .ok (.tuple #[.pointer none, .bool false]) w := by
  have hk := Go.WideMaps.keyOf_string_mk Tryz.underlying9 hs
  obtain ⟨v, ps, h1, h2⟩ := h.look_ok law Tryz.underlying77 (zeroP w) ptrR_none hk
  rw [dm_at, hf] at h2
  rw [ptrR_none_inv h2, dm_has, hf] at h1
  exact h1
def openV (m : Mem) (r : Nat × Int) : Value := if r.2 = 0 then .pointer (some ⟨m.b r.1, 0, none⟩) else .pointer none
theorem isN_le {s : ByteArray} (h : isN s.data.toList = true) : s.size <= 64 /\ 1 <= s.size := by
  rw [isN_size] at h
  simp at h
  omega
theorem open_any {B d B' n c : Nat} {m : Mem} {S : St} {w : World} (h : At B w d m S) (A : Option Addr) (s0 : ByteArray) (xs : List ByteArray) (hs : Sees w B' A n ((s0 :: xs).map Value.string)) (hn : n <= 1000000) :
    Calls Tryz.prog 108 #[dptr d, .slice A n c] w fun e w' => e = .returned (.tuple #[openV m (openS S s0.data.toList (okAll (s0 :: xs))), .int .i64 (openS S s0.data.toList (okAll (s0 :: xs))).2]) /\ ∃ q, w' = w.drewN q := by
  have hlen : (s0 :: xs).length = n := by simpa using hs.len
  have hpos : 0 < n := by rw [<-hlen]; simp
  obtain ⟨b, off, rfl, _, hc⟩ := hs.addr hpos
  have hc0 : w.cell? ⟨b, off, none⟩ = some (.string s0) := hc 0 _ rfl
  have c1 : w.cell? ⟨d, 1, none⟩ = some (.map (some m.nm)) := by rw [h.disk.cell]; rfl
  have hposI : (0 : Int) < (n : Int) := by omega
  have hK := Ha (dkCheck_any (c := c) h (some ⟨b, off, none⟩) (s0 :: xs) hs hn)
  by_cases hd : S.down = true
  · have hR : Hid (openS S s0.data.toList (okAll (s0 :: xs)) = (0, 5)) := Ha (by unfold openS; rw [if_pos hd])
    have hE : chkE S (s0 :: xs) = 5 := by unfold chkE; rw [if_pos hd]
    rw [hE] at hK
    clear hd hE hc hs h hlen hpos; go_enter Tryz.func108, Tryz.ntmps108
    go_wp2_with (go_at_call 55; refine (Calls.mono hK.out ?_); rintro e w1 ⟨rfl, rfl⟩); go_ret2
    rw [hR.out]
    exact ⟨rfl, 0, (World.drewN_zero w).symm⟩
  · cases ho : okAll (s0 :: xs)
    · have hR : Hid (openS S s0.data.toList false = (0, 1)) := Ha (by unfold openS; rw [if_neg hd]; rfl)
      have hE : chkE S (s0 :: xs) = 1 := by unfold chkE; rw [if_neg hd, ho]; rfl
      rw [hE] at hK
      clear hd hE hc hs h hlen hpos ho; go_enter Tryz.func108, Tryz.ntmps108
      go_wp2_with (go_at_call 55; refine (Calls.mono hK.out ?_); rintro e w1 ⟨rfl, rfl⟩); go_ret2
      rw [hR.out]
      exact ⟨rfl, 0, (World.drewN_zero w).symm⟩
    · have hE : chkE S (s0 :: xs) = 0 := by unfold chkE; rw [if_neg hd, ho]; rfl
      rw [hE] at hK
      have hsz : s0.size <= maxLen := by
        have : isN s0.data.toList = true := by
          unfold okAll at ho
          simp only [List.all_cons, Bool.and_eq_true] at ho
          exact ho.1
        have := (isN_le this).1
        unfold maxLen; omega
      cases hf : findN S.names s0.data.toList with
      | none =>
        have hR : Hid (openS S s0.data.toList true = (0, 6)) := Ha (by unfold openS; rw [if_neg hd, hf]; rfl)
        have hl := fun k => look_none (h.drewN k).names s0 hsz hf
        clear hd hE hc hs h hlen hpos ho hf hsz; go_enter Tryz.func108, Tryz.ntmps108
        go_wp2_with (go_at_call 55; refine (Calls.mono hK.out ?_); rintro e w1 ⟨rfl, rfl⟩); go_quiet (fail)
        go_wp2
        go_ret2
        rw [hR.out]
        exact ⟨rfl, _, rfl⟩
      | some f =>
        have hR : Hid (openS S s0.data.toList true = (f, 0)) := Ha (by unfold openS; rw [if_neg hd, hf]; rfl)
        have hl := fun k => (look_some (h.drewN k).names s0 hsz hf).1
        clear hd hE hc hs h hlen hpos ho hf hsz; go_enter Tryz.func108, Tryz.ntmps108
        go_wp2_with (go_at_call 55; refine (Calls.mono hK.out ?_); rintro e w1 ⟨rfl, rfl⟩); go_quiet (fail)
        go_wp2
        go_ret2
        rw [hR.out]
        exact ⟨rfl, _, rfl⟩
theorem apply_any {b n : Nat} {bs : List Nat} {N : Nms} {w : World} (hown : w.ownsMap Tryz.prog 9 ptrR b n (dm bs N)) (hn : n <= 1000000) (src dst : ByteArray) (f : Option Nat) (hs : src.size <= 64) (hd : dst.size <= 64) (hwf : f = none ↔ dst.size = 0) :
    Calls Tryz.prog 100 #[.agg #[.string src, .string dst, ptrOf bs f], .map (some b)] w fun e w' =>
      e = .returned (.tuple #[]) /\ w'.ownsMap Tryz.prog 9 ptrR b (n + 1) (dm bs ((⟨src.data.toList, dst.data.toList, f⟩ : Chg).app N)) /\ w.grownBy w' (some b) := by
  have hk1 := Go.WideMaps.keyOf_string_mk (k := 9) (P := Tryz.prog) Tryz.underlying9 (s := src) (by unfold maxLen; omega)
  have hk2 := Go.WideMaps.keyOf_string_mk (k := 9) (P := Tryz.prog) Tryz.underlying9 (s := dst) (by unfold maxLen; omega)
  have hlt := hown.lt
  have hO := Ha hown
  cases f with
  | none =>
    have hz := hwf.1 rfl
    have hde : dst = ⟨#[]⟩ := ByteArray.ext (Array.eq_empty_of_size_eq_zero hz)
    subst hde; clear hwf hz hown; go_enter Tryz.func100, Tryz.ntmps100
    go_wp2_with (at_delete; refine wpList_delete_own _ rfl _ _ 77 9 rfl 92 law Tryz.underlying77 _ b n (dm bs N) rfl (hO.out.alloc _) _ _ rfl hk1 ?_; intro w1 hown1 hturn1; have hg1 := hturn1.grown; have hc1 : w1.cell? ⟨w.heap.size, 1, none⟩ = some (.string ⟨#[]⟩) := hg1.cell (a := ⟨w.heap.size, 1, none⟩) (by rw [(Whole.new w 149 _).cell]; rfl) (by simp; omega))
    go_end0
    refine ⟨rfl, ?_, ?_⟩
    · rw [dm_del] at hown1
      exact hown1.mono (Nat.le_succ _)
    · exact ((World.grownBy_alloc w _ none).but (some b)).andThen hg1 (fun j hj => .inr hj)
  | some i =>
    have hz : dst.size ≠ 0 := fun e => by cases hwf.2 e
    have hne := not_empty hz
    obtain ⟨q, hq⟩ : ∃ q, q = bs.getD i 0 := ⟨_, rfl⟩
    have hW := Whole.new w 149 #[.string src, .string dst, .pointer (some ⟨q, 0, none⟩)]
    have hW' := Ha hW
    clear hwf hz hown hW
    simp only [ptrOf, ptrA]
    rw [show (some (⟨bs.getD i 0, 0, none⟩ : Addr)) = some ⟨q, 0, none⟩ by rw [hq]]
    have hQ := Ha hq
    clear hq; go_enter Tryz.func100, Tryz.ntmps100
    go_wp2_with (first
      | (at_delete; (refine wpList_delete_own _ rfl _ _ 77 9 rfl 92 law Tryz.underlying77 _ b n (dm bs N) rfl (hO.out.alloc _) _ _ rfl hk1 ?_; intro w1 hown1 hturn1; have hg1 := Ha hturn1.grown; have hW1 := hW'.out.grown hg1.out (fun e => by have := Option.some.inj e; omega); have hc1 : w1.cell? ⟨w.heap.size, 1, none⟩ = some (.string dst) := (hW1.cell 1).trans rfl; have hc2 : w1.cell? ⟨w.heap.size, 2, none⟩ = some (.pointer (some ⟨q, 0, none⟩)) := (hW1.cell 2).trans rfl; have HO1 := Ha hown1; clear hW1 hown1 hturn1))
      | (at_mapUpdate; refine wpList_mapUpdate_own _ rfl _ _ _ 77 rfl 9 92 law Tryz.underlying77 _ b n _ rfl HO1.out (by unfold maxLen; omega) _ _ _ rfl rfl hk2 _ [] (ptrR_mk _) ?_; intro w2 hown2 hg2))
    go_end0
    refine ⟨rfl, ?_, ?_⟩
    · rw [hQ.out, dm_del, dm_put] at hown2
      exact hown2
    · exact (((World.grownBy_alloc w _ none).but (some b)).andThen hg1.out (fun j hj => .inr hj)).andThen hg2 (fun j hj => .inr hj)
theorem dkFlat_snoc (bs : List Nat) (l : List Chg) (c : Chg) : pcells bs (l ++ [c]) = pcells bs l ++ [Go.Proofs.encStr c.src, Go.Proofs.encStr c.dst, ptrOf bs c.f] := by
  simp [pcells]
theorem enc_data (s : ByteArray) : Go.Proofs.encStr s.data.toList = .string s := by simp [Go.Proofs.encStr]
theorem chg_info : (Tryz.prog.info? 149).map (fun i => (i.zero, i.size, i.bytes)) = some (some (.agg #[.string ⟨#[]⟩, .string ⟨#[]⟩, .pointer none]), 3, 40) := by kernel_rfl
theorem change_end {B d gg cap : Nat} {m : Mem} {S : St} {w4 w5 : World} {o : Obj} {p : Option Addr} (h : At B w4 d m S) (src dst : ByteArray) (f : Option Nat) (hp : p = ptrA m.bs f)
    (hown : w5.ownsRow B 149 3 (.slice (some ⟨gg, 0, none⟩) (S.pend.length + 1) cap) (S.pend.length + 1) (pcells m.bs S.pend ++ [.string src, .string dst, .pointer p])) (hg : (w4.alloc o).drew.grownBy w5 m.pv.ownBlock) (q0 : Whole w5 d 80 (dcells m S)) :
    At B (w5.setCell ⟨d, 3, none⟩ (.slice (some ⟨gg, 0, none⟩) (S.pend.length + 1) cap)) d { m with pv := .slice (some ⟨gg, 0, none⟩) (S.pend.length + 1) cap } { S with pend := S.pend ++ [⟨src.data.toList, dst.data.toList, f⟩] } /\
    Kept B w4 (w5.setCell ⟨d, 3, none⟩ (.slice (some ⟨gg, 0, none⟩) (S.pend.length + 1) cap)) := by
  have hg1 : w4.grownBy w5 m.pv.ownBlock := ((World.grownBy_alloc w4 o none).but m.pv.ownBlock).andThen (⟨hg.os, hg.tape, hg.output, hg.size, hg.block⟩ : (w4.alloc o).grownBy w5 m.pv.ownBlock) (fun j hj => .inr hj)
  refine h.setP hg1 (.inr rfl) ?_ (dkGset _ _ _) ?_
  · rw [dkFlat_snoc, enc_data, enc_data, List.length_append, ptrOf, <-hp]
    exact hown
  · have := q0.put 3 (.slice (some ⟨gg, 0, none⟩) (S.pend.length + 1) cap)
    simpa [dcells] using this
theorem three1 (a b c : Value) (ha : a.oneCell' = true) (hb : b.oneCell' = true) (hc : c.oneCell' = true) : ∀ u ∈ [a, b, c], u.oneCell' = true := by
  intro u hu
  simp only [List.mem_cons, List.not_mem_nil, or_false] at hu
  rcases hu with rfl | rfl | rfl
  · exact ha
  · exact hb
  · exact hc
theorem change_any {B d : Nat} {m : Mem} {S : St} {w : World} (h : At B w d m S) (hB : B <= w.heap.size) {k M : Nat} (F : Fit k M S) (hk : k <= 1000000) (src dst : ByteArray) (f : Option Nat) (hs : src.size <= 64) (hd : dst.size <= 64) (hwf : f = none ↔ dst.size = 0) :
    Calls Tryz.prog 57 #[dptr d, .string src, .string dst, ptrOf m.bs f] w fun e w' =>
      e = .returned (.tuple #[]) /\ (∃ m', At B w' d m' (chg S ⟨src.data.toList, dst.data.toList, f⟩) /\ m'.bs = m.bs /\ m'.vs = m.vs) /\ Kept B w w' := by
  have hH := Ha h
  have hFF := Ha F
  unfold ptrOf
  obtain ⟨p, hP⟩ : ∃ p, p = ptrA m.bs f := ⟨_, rfl⟩
  rw [<-hP]
  have hPP := Ha hP
  have hwf' := Ha hwf
  obtain ⟨i0, hi0, hz0, hz1, hz2⟩ := info_parts chg_info
  clear h F hP hwf
  go_enter Tryz.func57, Tryz.ntmps57
  go_wp2_with fail
  refine (strings_Clone_any src _ (by omega)).mono ?_
  rintro e w1 ⟨rfl, hb1⟩
  go_wp2_with fail
  refine (strings_Clone_any dst _ (by omega)).mono ?_
  rintro e w2 ⟨rfl, hb2⟩
  go_wp2_with fail
  have hX0 : At B (w2.alloc (.cells #[.string src, .string dst, .pointer p] 149)) d m S := ((hH.out.same hb1).same hb2).alloc _
  have hW0 := Whole.new w2 149 #[.string src, .string dst, .pointer p]
  have hK0 : Kept B w (w2.alloc (.cells #[.string src, .string dst, .pointer p] 149)) := ((Kept.of_below hb1).trans (.of_below hb2)).alloc _
  obtain ⟨g, hg⟩ : ∃ g, g = w2.heap.size := ⟨_, rfl⟩
  rw [<-hg] at hW0 ⊢
  clear hg
  revert hX0 hW0 hK0
  generalize w2.alloc (.cells #[.string src, .string dst, .pointer p] 149) = w3
  intro hX0 hK0 hW0
  have c1 : w3.cell? ⟨d, 1, none⟩ = some (.map (some m.nm)) := (hX0.disk.cell 1).trans rfl
  have a0 : w3.cell? ⟨g, 0, none⟩ = some (.string src) := (hW0.cell 0).trans rfl
  have a1 : w3.cell? ⟨g, 1, none⟩ = some (.string dst) := (hW0.cell 1).trans rfl
  have a2 : w3.cell? ⟨g, 2, none⟩ = some (.pointer p) := (hW0.cell 2).trans rfl
  have hAp := Ha (show ∀ W : World, W.ownsMap Tryz.prog 9 ptrR m.nm S.names.length (dm m.bs S.names) -> Calls Tryz.prog 100 #[.agg #[.string src, .string dst, .pointer p], .map (some m.nm)] W fun e w' =>
      e = .returned (.tuple #[]) /\ w'.ownsMap Tryz.prog 9 ptrR m.nm (S.names.length + 1) (dm m.bs ((⟨src.data.toList, dst.data.toList, f⟩ : Chg).app S.names)) /\ W.grownBy w' (some m.nm) from fun W hW => by
    rw [hPP.out]
    exact apply_any hW (Nat.le_trans hFF.out.nn hk) src dst f hs hd hwf'.out)
  have hdr : Hid (At B w3.drew d m S) := Ha hX0.drew
  have n1 : some g ≠ some m.nm := fun e => by
    have h1 := whole_typ hW0
    have h2 := map_typ hX0.names
    rw [Option.some.inj e, h2] at h1
    exact absurd h1 (by decide)
  have n2 : some d ≠ some m.nm := fun e => by
    have h1 := whole_typ hX0.disk
    have h2 := map_typ hX0.names
    rw [Option.some.inj e, h2] at h1
    exact absurd h1 (by decide)
  replace n1 := Ha n1
  replace n2 := Ha n2
  replace hX0 := Ha hX0
  replace hW0 := Ha hW0
  replace hK0 := Ha hK0
  clear hb1 hb2
  go_region_held3 (fun w' => w'.cell? ⟨g, 0, none⟩ = some (.string src) /\ w'.cell? ⟨g, 1, none⟩ = some (.string dst) /\ w'.cell? ⟨g, 2, none⟩ = some (.pointer p) /\ w'.cell? ⟨d, 1, none⟩ = some (.map (some m.nm))) (go_keep)
    (first | (go_at_call 100; refine (Calls.mono (hAp.out _ hdr.out.names) ?_); rintro e w4 ⟨rfl, ho4, hg4⟩; have b0 : w4.cell? ⟨g, 0, none⟩ = some (.string src) := hg4.cell (a := ⟨g, 0, none⟩) a0 n1.out; have b1 : w4.cell? ⟨g, 1, none⟩ = some (.string dst) := hg4.cell (a := ⟨g, 1, none⟩) a1 n1.out; have b2 : w4.cell? ⟨g, 2, none⟩ = some (.pointer p) := hg4.cell (a := ⟨g, 2, none⟩) a2 n1.out; have b3 : w4.cell? ⟨d, 1, none⟩ = some (.map (some m.nm)) := hg4.cell (a := ⟨d, 1, none⟩) c1 n2.out))
  obtain ⟨A4, K4⟩ := hdr.out.setN hg4 ho4
  have hA4 := Ha A4
  have hK4 := Ha (hK0.out.drew.trans K4)
  have hD4 := Ha A4.disk
  have n3 : Hid (some d ≠ m.pv.ownBlock) := Ha (fun e => by
    have h1 := whole_typ A4.disk
    have h2 := own_typ A4.pend e.symm
    rw [h2] at h1
    exact absurd h1 (by decide))
  have c3 : w4.cell? ⟨d, 3, none⟩ = some m.pv := (A4.disk.cell 3).trans rfl
  have H63 : Hid (S.pend.length + 1 <= maxLen) := Ha (by have := hFF.out.np; unfold maxLen; omega)
  have H47 : Hid ((S.pend.length + 1) * 40 <= 140737488355328) := Ha (by have := hFF.out.np; omega)
  have hBs : B <= w4.heap.size := Nat.le_trans hB (Nat.le_trans hK0.out.size hg4.size)
  clear hg4 ho4 A4 K4 b3 c1 a0 a1 a2
  go_wp2_with fail
  have c3a : (w4.alloc (.cells #[.string src, .string dst, .pointer p] 149)).cell? ⟨d, 3, none⟩ = some m.pv := ((hD4.out.alloc _).cell 3).trans rfl
  go_region_law (first | (refine step_append_lies _ (by rfl) _ _ _ (by rfl) B 149 i0 (.agg #[.string ⟨#[]⟩, .string ⟨#[]⟩, .pointer none]) 3 40 Tryz.underlying78 hi0 hz0 hz1 hz2 rfl (by omega) m.pv S.pend.length (pcells m.bs S.pend) (by rfl) (hA4.out.pend.alloc _) ⟨w4.heap.size, 0, none⟩ 1 1 [.string src, .string dst, .pointer p] (by rfl) (by rfl) (World.news_of_block (cs := #[.string src, .string dst, .pointer p]) (t := 149) (fr := (0, 0)) (heap_alloc_new w4 _)) (three1 _ _ _ rfl rfl rfl) (by omega) H63.out H47.out (Nat.le_trans hBs (by simp)) (w4.heap.size + 1) (by simp) ?_; intro gg cap w5 hown5 hgrow5 hat hlt5; have q0 := ((hD4.out.alloc (.cells #[.string src, .string dst, .pointer p] 149)).drew).grown hgrow5 n3.out; have c5 : w5.cell? ⟨d, 3, none⟩ = some m.pv := (q0.cell 3).trans rfl; have f5 := q0.frozen 3))
  all_goals
    have GP := Ha (change_end hA4.out src dst f hPP.out hown5 hgrow5 q0)
    clear hown5 hgrow5 q0 hat hlt5 c5 f5; go_wp2_with fail
    go_end0
    exact ⟨rfl, ⟨_, GP.out.1, rfl, rfl⟩, hK4.out.trans GP.out.2⟩
end Go.Proofs.YtmpginmdaeclaaaGreatDoor
namespace Go.Proofs.YtmpginmdaeclaaaGreatDoor
open Go.RowKit Go.Maps Go.Sort
theorem pcells_at (bs : List Nat) : ∀ (l : List Chg) (k : Nat) (c : Chg), l[k]? = some c ->
    (pcells bs l)[k * 3]? = some (Go.Proofs.encStr c.src) /\ (pcells bs l)[k * 3 + 1]? = some (Go.Proofs.encStr c.dst) /\ (pcells bs l)[k * 3 + 2]? = some (ptrOf bs c.f)
  | [], k, c, h => by simp at h
  | x :: r, 0, c, h => by
    simp only [List.getElem?_cons_zero, Option.some.injEq] at h
    subst h; exact ⟨rfl, rfl, rfl⟩
  | x :: r, k + 1, c, h => by
    simp only [List.getElem?_cons_succ] at h
    obtain ⟨h0, h1, h2⟩ := pcells_at bs r k c h
    have e : pcells bs (x :: r) = [Go.Proofs.encStr x.src, Go.Proofs.encStr x.dst, ptrOf bs x.f] ++ pcells bs r := rfl
    rw [e]
    refine ⟨?_, ?_, ?_⟩
    · rw [List.getElem?_append_right (by simp; omega)]; simpa [show (k + 1) * 3 - 3 = k * 3 by omega] using h0
    · rw [List.getElem?_append_right (by simp; omega)]; simpa [show (k + 1) * 3 + 1 - 3 = k * 3 + 1 by omega] using h1
    · rw [List.getElem?_append_right (by simp; omega)]; simpa [show (k + 1) * 3 + 2 - 3 = k * 3 + 2 by omega] using h2
def safeTo (S : St) (k : Nat) : St := { S with safe := runs (S.pend.take k) S.safe }
theorem safeTo_step {S : St} {k : Nat} {c : Chg} (h : S.pend[k]? = some c) : safeTo S (k + 1) = { safeTo S k with safe := c.app (safeTo S k).safe } := by
  unfold safeTo
  rw [List.take_add_one, h]
  simp [runs]
theorem At.done {B d : Nat} {m : Mem} {S : St} {w : World} (h : At B w d m S) :
    At B (w.setCell ⟨d, 3, none⟩ nilV) d { m with pv := nilV } { S with pend := [] } /\ Kept B w (w.setCell ⟨d, 3, none⟩ nilV) := by
  refine h.setP (w1 := w) (r := none) ⟨rfl, rfl, rfl, Nat.le_refl _, fun _ _ _ => rfl⟩ (.inl rfl) (World.ownsRow_nil _ _ _ _) (dkGset _ _ _) ?_
  have := h.disk.put 3 nilV
  simpa [dcells] using this
theorem add0 (g j : Nat) : (⟨g, 0, none⟩ : Addr).add j = ⟨g, j, none⟩ := by unfold Addr.add; split <;> simp_all
theorem settle_any {B d : Nat} {m : Mem} {S : St} {w : World} (h : At B w d m S) {k M : Nat} (F : Fit k M S) (hk : k <= 100000) (n : Nat) (hn : n <= S.pend.length) :
    Calls Tryz.prog 41 #[dptr d, .int .i64 n] w fun e w' => e = .returned (.tuple #[]) /\ (∃ m', At B w' d m' (settle S n) /\ m'.bs = m.bs /\ m'.vs = m.vs /\ m'.nm = m.nm /\ m'.sm = m.sm) /\ Kept B w w' := by
  have c3 : w.cell? ⟨d, 3, none⟩ = some m.pv := (h.disk.cell 3).trans rfl
  have f3 := h.disk.frozen 3
  have hFF := Ha F
  have hp := h.pend
  have hnk : n <= 100000 := by have := F.np; omega
  rcases hp.2 with ⟨hv, hz⟩ | ⟨g, cap, cur, hv, hg, hcur, hcap, hmax, hsz, htk⟩
  · -- nothing waits
    have hn0 : n = 0 := by omega
    subst hn0; rw [hv] at c3
    have hH := Ha h
    have hS : Hid (settle S 0 = { S with pend := [] }) := Ha rfl
    clear h hp hv hz F hn hnk; go_enter Tryz.func41, Tryz.ntmps41
    go_wp2
    go_loop [13] (fun i => i = .int .i64 0) (fun _ => 0)
    case atStart => rfl
    case round =>
      obtain rfl := hrel
      go_wp2
      go_end0
      obtain ⟨r1, r2⟩ := hH.out.done
      rw [hS.out]
      exact ⟨rfl, ⟨_, r1, rfl, rfl, rfl, rfl⟩, r2⟩
  · rw [hv] at c3
    have hnc : (n : Int) <= (cap : Int) := by omega
    have hcells := hp.cells (g := g) (by rw [hv]; rfl)
    have hH := Ha h
    have hN := Ha hn
    have hC := Ha hcells
    have hV := Ha hv
    clear h hp hv F hn hg hcur hsz htk hcells; go_enter Tryz.func41, Tryz.ntmps41
    go_wp2
    go_loopw [13] (fun i wr => ∃ j : Nat, j <= n /\ i = .int .i64 j /\ At B wr d m (safeTo S j) /\ Kept B w wr) (fun i _ => n - (intOf i).toNat)
    case atStart => exact ⟨0, Nat.zero_le _, rfl, hH.out, Kept.refl _ _⟩
    case round =>
      obtain ⟨j, hj, rfl, hA, hK⟩ := hrel
      have hA' := Ha hA
      have hK' := Ha hK
      by_cases hlt : j < n
      · obtain ⟨c, hc⟩ : ∃ c, S.pend[j]? = some c := ⟨S.pend[j]'(by have := hN.out; omega), List.getElem?_eq_getElem _⟩
        have hcl := hA.pend.cells (g := g) (by rw [hV.out]; rfl)
        obtain ⟨h0, h1, h2⟩ := pcells_at m.bs S.pend j c hc
        obtain ⟨s1, hs1⟩ : ∃ s : ByteArray, s = ⟨c.src.toArray⟩ := ⟨_, rfl⟩
        obtain ⟨s2, hs2⟩ : ∃ s : ByteArray, s = ⟨c.dst.toArray⟩ := ⟨_, rfl⟩
        obtain ⟨p, hp⟩ : ∃ p, p = ptrA m.bs c.f := ⟨_, rfl⟩
        have x0 := hcl _ _ h0
        have x1 := hcl _ _ h1
        have x2 := hcl _ _ h2
        rw [show Go.Proofs.encStr c.src = .string s1 by rw [hs1]] at x0
        rw [show Go.Proofs.encStr c.dst = .string s2 by rw [hs2]] at x1
        rw [show ptrOf m.bs c.f = .pointer p by rw [hp]; rfl] at x2
        have hlk : (j : Int) < (n : Int) := by omega
        rw [add0] at x0 x1 x2
        have hS := Ha (safeTo_step hc)
        have hwf := Ha (hFF.out.idp c (List.mem_of_getElem? hc)).1
        have hP := Ha hp
        have hE : Hid (c = ⟨s1.data.toList, s2.data.toList, c.f⟩) := Ha (by rw [hs1, hs2])
        have hz1 : Hid (s1.size <= 64 /\ s2.size <= 64 /\ (c.f = none ↔ s2.size = 0)) := Ha (by
          obtain ⟨w1, w2, w3⟩ := hwf.out
          rw [<-size_len, <-size_len, hs1, hs2]
          refine ⟨w2, w3, w1.trans ?_⟩
          exact List.length_eq_zero_iff.symm)
        clear hA hK hc hcl h0 h1 h2 hs1 hs2 hp; go_wp2_with fail
        have hX0 : At B (wr.alloc (.cells #[.string s1, .string s2, .pointer p] 149)) d m (safeTo S j) := hA'.out.alloc _
        have hW0 := Whole.new wr 149 #[.string s1, .string s2, .pointer p]
        have hK0 : Kept B w (wr.alloc (.cells #[.string s1, .string s2, .pointer p] 149)) := hK'.out.alloc _
        obtain ⟨g2, hg2⟩ : ∃ g2, g2 = wr.heap.size := ⟨_, rfl⟩
        rw [<-hg2] at hW0 ⊢
        clear hg2 x0 x1 x2
        revert hX0 hK0 hW0
        generalize wr.alloc (.cells #[.string s1, .string s2, .pointer p] 149) = w3
        intro hX0 hK0 hW0
        have c1 : w3.cell? ⟨d, 2, none⟩ = some (.map (some m.sm)) := (hX0.disk.cell 2).trans rfl
        have a0 : w3.cell? ⟨g2, 0, none⟩ = some (.string s1) := (hW0.cell 0).trans rfl
        have a1 : w3.cell? ⟨g2, 1, none⟩ = some (.string s2) := (hW0.cell 1).trans rfl
        have a2 : w3.cell? ⟨g2, 2, none⟩ = some (.pointer p) := (hW0.cell 2).trans rfl
        have hAp := Ha (show ∀ W : World, W.ownsMap Tryz.prog 9 ptrR m.sm (safeTo S j).safe.length (dm m.bs (safeTo S j).safe) -> Calls Tryz.prog 100 #[.agg #[.string s1, .string s2, .pointer p], .map (some m.sm)] W fun e w' =>
            e = .returned (.tuple #[]) /\ w'.ownsMap Tryz.prog 9 ptrR m.sm ((safeTo S j).safe.length + 1) (dm m.bs ((⟨s1.data.toList, s2.data.toList, c.f⟩ : Chg).app (safeTo S j).safe)) /\ W.grownBy w' (some m.sm) from fun W hW => by
          rw [hP.out]
          have h1 := hFF.out.nr j
          exact apply_any hW (Nat.le_trans h1 (by omega)) s1 s2 c.f hz1.out.1 hz1.out.2.1 hz1.out.2.2)
        have hdr : Hid (At B w3.drew d m (safeTo S j)) := Ha hX0.drew
        have n1 : some g2 ≠ some m.sm := fun e => by
          have h1 := whole_typ hW0
          have h2 := map_typ hX0.safe
          rw [Option.some.inj e, h2] at h1
          exact absurd h1 (by decide)
        have n2 : some d ≠ some m.sm := fun e => by
          have h1 := whole_typ hX0.disk
          have h2 := map_typ hX0.safe
          rw [Option.some.inj e, h2] at h1
          exact absurd h1 (by decide)
        replace n1 := Ha n1
        replace n2 := Ha n2
        replace hX0 := Ha hX0
        replace hW0 := Ha hW0
        replace hK0 := Ha hK0
        go_region_held3 (fun w' => w'.cell? ⟨g2, 0, none⟩ = some (.string s1) /\ w'.cell? ⟨g2, 1, none⟩ = some (.string s2) /\ w'.cell? ⟨g2, 2, none⟩ = some (.pointer p) /\ w'.cell? ⟨d, 2, none⟩ = some (.map (some m.sm))) (go_keep)
          (first | (go_at_call 100; refine (Calls.mono (hAp.out _ hdr.out.safe) ?_); rintro e w4 ⟨rfl, ho4, hg4⟩; have b0 : w4.cell? ⟨g2, 0, none⟩ = some (.string s1) := hg4.cell (a := ⟨g2, 0, none⟩) a0 n1.out; have b1 : w4.cell? ⟨g2, 1, none⟩ = some (.string s2) := hg4.cell (a := ⟨g2, 1, none⟩) a1 n1.out; have b2 : w4.cell? ⟨g2, 2, none⟩ = some (.pointer p) := hg4.cell (a := ⟨g2, 2, none⟩) a2 n1.out; have b3 : w4.cell? ⟨d, 2, none⟩ = some (.map (some m.sm)) := hg4.cell (a := ⟨d, 2, none⟩) c1 n2.out))
        have GP := Ha (hdr.out.setS hg4 ho4)
        clear hg4 ho4 b0 b1 b2 b3 a0 a1 a2 c1; go_wp2_with fail
        go_roundw
        case rel =>
          refine ⟨j + 1, by omega, by go_num, ?_, hK0.out.drew.trans GP.out.2⟩
          rw [hS.out]
          have := GP.out.1
          rw [<-hE.out] at this
          exact this
        case measure => simp [intOf]; omega
      · obtain rfl : j = n := by omega
        clear hA hK; have c3 : wr.cell? ⟨d, 3, none⟩ = some m.pv := (hA'.out.disk.cell 3).trans rfl
        have f3 := hA'.out.disk.frozen 3
        go_wp2
        go_end0
        obtain ⟨r1, r2⟩ := hA'.out.done
        exact ⟨rfl, ⟨_, r1, rfl, rfl, rfl, rfl⟩, hK'.out.trans r2⟩
end Go.Proofs.YtmpginmdaeclaaaGreatDoor
