/- Used: the sum over the names, in whatever order they come; New. No statement of the seat is proved here. -/
import Derived.Test.YteeomlboifleoaaDkA
import Derived.Maps.RangeWalk
namespace Go.Proofs.Yteeomlboifleoaa
open Go.RowKit Go.Maps Go.Sort

def restG (g : Bys × Nat → Nat) (left : Bys → Bool) (N : Nms) : Nat := (N.map fun p => if left p.1 then g p else 0).sum
theorem rest_all (g : Bys × Nat → Nat) (left : Bys → Bool) : ∀ N : Nms, (∀ p ∈ N, left p.1 = true) → restG g left N = (N.map g).sum
  | [], _ => rfl
  | p :: r, h => by
    have := rest_all g left r fun q hq => h q (by simp [hq])
    simp only [restG, List.map_cons, List.sum_cons, h p (by simp), if_true] at this ⊢
    rw [this]
theorem rest_none (g : Bys × Nat → Nat) (left : Bys → Bool) (h : ∀ x, left x = false) : ∀ N : Nms, restG g left N = 0
  | [] => rfl
  | p :: r => by
    have := rest_none g left h r
    simp only [restG, List.map_cons, List.sum_cons, h] at this ⊢
    simpa using this
theorem rest_other (g : Bys × Nat → Nat) (left : Bys → Bool) (x : Bys) : ∀ N : Nms, (∀ p ∈ N, p.1 ≠ x) → restG g (fun y => left y && !(y == x)) N = restG g left N
  | [], _ => rfl
  | p :: r, h => by
    have h1 := rest_other g left x r fun q hq => h q (by simp [hq])
    have h2 : (p.1 == x) = false := by simpa using h p (by simp)
    simp only [restG, List.map_cons, List.sum_cons, h2, Bool.not_false, Bool.and_true] at h1 ⊢
    rw [h1]
theorem rest_step (g : Bys × Nat → Nat) (left : Bys → Bool) (x : Bys) (f : Nat) (hl : left x = true) : ∀ N : Nms, N.Pairwise (fun p q => p.1 ≠ q.1) → (x, f) ∈ N →
    restG g left N = g (x, f) + restG g (fun y => left y && !(y == x)) N
  | [], _, h => by cases h
  | p :: r, hp, h => by
    obtain ⟨p1, p2⟩ := List.pairwise_cons.1 hp
    rcases List.mem_cons.1 h with rfl | h
    · have := rest_other g left x r fun q hq => (p1 q hq).symm
      simp only [restG, List.map_cons, List.sum_cons, hl, beq_self_eq_true, Bool.not_true, Bool.and_false, if_true] at this ⊢
      simp only [Bool.false_eq_true, if_false]
      rw [this]; omega
    · have hne := p1 _ h
      have h2 : (p.1 == x) = false := by simpa using hne
      have := rest_step g left x f hl r p2 h
      simp only [restG, List.map_cons, List.sum_cons, h2, Bool.not_false, Bool.and_true] at this ⊢
      rw [this]; omega
theorem distinct_of {w : World} {b n : Nat} {bs : List Nat} {N : Nms} (h : w.ownsMap Try.prog 9 ptrR b n (dm bs N)) : N.Pairwise fun p q => p.1 ≠ q.1 := by
  refine (rising_of h).imp fun {p q} hb e => ?_
  rw [e, WideAt.bytes_irrefl] at hb
  cases hb
theorem find_some_mem {N : Nms} {x : Bys} {f : Nat} (h : findN N x = some f) : (x, f) ∈ N := findN_mem h

/-- the loop: a is counted; what is left to come is the rest -/
def UsedAt (m : Mem) (S : St) (w : World) (a : Nat) (wr : World) : Prop :=
  ∃ left cnt, wr.ranges Try.prog 9 ptrR m.nm w.heap.size S.names.length (dm m.bs S.names) left cnt ∧ a + restG (fun p => lenOf S p.2) (fun x => left (.string x)) S.names = used S ∧ Below w.heap.size w wr

theorem ptr_shape {v : Value} {y : DataW Unit × List MemPlace} (h : ptrR v = some y) : ∃ c : Option Addr, v = .pointer c := by
  unfold ptrR at h
  split at h
  · exact ⟨_, rfl⟩
  · exact ⟨_, rfl⟩
  · cases h
/-- what came out of the map is a name and its file -/
theorem came_out {bs : List Nat} {N : Nms} {x : Bys} {c : Option Addr} {yd : DataW Unit} {yp : List MemPlace} (hv : ptrR (.pointer c) = some (yd, yp)) (hat : ∀ zd, (dm bs N).atKey (.string x) zd = yd) :
    ∃ f, findN N x = some f ∧ c = some ⟨bs.getD f 0, 0, none⟩ := by
  cases hf : findN N x with
  | none =>
    have h1 := hat .nil
    have h2 := hat (.lit (.bool true))
    rw [dm_at, hf] at h1 h2
    simp only at h1 h2
    rw [← h1] at h2
    cases h2
  | some f =>
    refine ⟨f, rfl, ?_⟩
    have h1 := hat .nil
    rw [dm_at, hf] at h1
    simp only at h1
    rw [← h1] at hv
    have := ptrR_inv hv
    simpa using this
theorem Used_any {B d : Nat} {m : Mem} {S : St} {w : World} (h : At B w d m S) {k M : Nat} (F : Fit k M S) (hu : (used S : Int) ≤ 1152921504606846976) :
    Calls Try.prog 24 #[dptr d] w fun e w' => e = .returned (.int .i64 (used S : Nat)) ∧ Below w.heap.size w w' := by
  have c1 : w.cell? ⟨d, 1, none⟩ = some (.map (some m.nm)) := by rw [h.disk.cell]; rfl
  have hH := Lib.hid h
  have hF := Lib.hid F
  have hown := Lib.hid h.names
  have hdis := Lib.hid (distinct_of h.names)
  clear h F
  go_enter Try.func24, Try.ntmps24
  go_wp2_with (at_range; refine wpList_range_own _ rfl _ 60 rfl 9 75 law Try.underlying60 _ m.nm S.names.length (dm m.bs S.names) rfl hown.out ?_; intro w0 hrg0 hg0 hs0)
  go_frame
  go_loopw [3] (fun u wr => ∃ a : Nat, u = .int .i64 a ∧ UsedAt m S w a wr) (fun _ wr => wr.rangeLeft m.nm w.heap.size)
  case atStart =>
    refine ⟨0, rfl, _, _, hrg0, ?_, ⟨hg0.os, hg0.tape, hg0.output, hg0.size, fun k hk => hg0.block k hk (by simp)⟩⟩
    rw [Nat.zero_add, rest_all]
    · rfl
    · intro p hp
      rw [dm_has]
      unfold findN
      rw [Option.isSome_map, List.find?_isSome]
      exact ⟨p, hp, by simp⟩
  case round =>
    obtain ⟨a, rfl, left, cnt, hrg, hsum, hB⟩ := hrel
    have hR := Lib.hid hrg
    have hSum := Lib.hid hsum
    have hBel := Lib.hid hB
    have ha : (a : Int) ≤ (used S : Nat) := by omega
    clear hrg hsum hB hg0 hrg0 hs0
    go_wp2_with (at_next; refine wpList_next_ranges _ rfl _ rfl 9 law ptrR Go.Proofs.encStr Value.pointer (fun key kl hk => by obtain ⟨x, hx, _⟩ := Maps.keyOf_str Try.underlying9 hk; exact ⟨x, hx⟩) (fun v y hv => ptr_shape hv) m.nm w.heap.size S.names.length _ _ _ rfl hR.out ?_ ?_)
    · intro hc0 hl0
      have hfin : Hid (a = used S) := Lib.hid (by have := hSum.out; rw [rest_none _ _ (fun x => hl0 _)] at this; omega)
      clear hc0 hl0
      go_wp2
      go_ret
      exact ⟨by rw [hfin.out]; rfl, hBel.out⟩
    · intro x c kl yd yp w2 cnt2 hkey hlk hv hat hrg2 hlt hg2 hs2 hen
      obtain ⟨x', ex, rfl, _⟩ := Maps.keyOf_str Try.underlying9 hkey
      obtain rfl : x = x' := encStr_inj ex
      obtain ⟨f, hfind, rfl⟩ := came_out hv hat
      have hfl := (hF.out.idn _ (find_some_mem hfind)).1
      have hstep : restG (fun p => lenOf S p.2) (fun x => left (.string x)) S.names = lenOf S f + restG (fun p => lenOf S p.2) (fun z => left (.string z) && !(z == x)) S.names := rest_step (fun p => lenOf S p.2) (fun x => left (.string x)) x f hlk S.names hdis.out (find_some_mem hfind)
      have hmore := hSum.out
      rw [hstep] at hmore
      have hA := (hH.out.same hBel.out).files
      have hne : ∀ y, some w.heap.size = some y → typ wr.heap[y]? ≠ 85 ∧ typ wr.heap[y]? ≠ 5 := by
        rintro y ⟨⟩
        obtain ⟨es, clock, since, seen, c0, _, _, _, _, hr, _⟩ := hR.out
        rw [hr]; exact ⟨(by decide : (1000001 : Nat) ≠ 85), (by decide : (1000001 : Nat) ≠ 5)⟩
      have hA2 := hA.keep hg2 hne
      obtain ⟨A, cc, hv1, _⟩ := Sees.own (hA2.row f hfl)
      have hc0 : w2.cell? ⟨m.b f, 0, none⟩ = some (.slice A (lenOf S f) cc) := by
        rw [(hA2.cell f hfl).cell, hv1]; rfl
      have hlen2 : (a : Int) + (lenOf S f : Nat) ≤ 1152921504606846976 := by
        have : lenOf S f ≤ restG (fun p => lenOf S p.2) (fun x => left (.string x)) S.names := by rw [hstep]; exact Nat.le_add_right _ _
        have := hSum.out
        omega
      have hB2 := Lib.hid (hBel.out.trans (⟨hg2.os, hg2.tape, hg2.output, hg2.size, fun k hk => hg2.block k (Nat.lt_of_lt_of_le hk hBel.out.size) (by rintro ⟨⟩; omega)⟩ : Below w.heap.size wr w2))
      have hM2 := Lib.hid (show (a + lenOf S f) + restG (fun p => lenOf S p.2) (fun z => left (.string z) && !(z == x)) S.names = used S by omega)
      have hG2 := Lib.hid hrg2
      have hL2 := Lib.hid (show w2.rangeLeft m.nm w.heap.size < wr.rangeLeft m.nm w.heap.size by rw [hrg2.left_eq, hR.out.left_eq]; exact hlt)
      have hbf : m.bs.getD f 0 = m.b f := rfl
      rw [hbf] at hen
      clear hs2 hkey hv hat hfind hfl hmore hstep hA hA2 hne hv1 hg2 hrg2 hlt hlk ex hbf
      go_wp2
      go_roundw
      case rel => exact ⟨a + lenOf S f, by simp, _, _, hG2.out, hM2.out, hB2.out⟩
      case measure => exact hL2.out
theorem used_le {k M : Nat} {S : St} (F : Fit k M S) (hk : k ≤ 1048576) (hM : M ≤ 1073741824) : (used S : Int) ≤ 1152921504606846976 := by
  have h1 : ∀ N : Nms, (∀ p ∈ N, p.2 < S.files.length) → (N.map fun p => lenOf S p.2).sum ≤ N.length * M := by
    intro N
    induction N with
    | nil => intro _; simp
    | cons p r ih =>
      intro h
      have h2 := ih fun q hq => h q (by simp [hq])
      have h3 : lenOf S p.2 ≤ M := by
        have hp := h p (by simp)
        unfold lenOf
        rw [List.getD_eq_getElem?_getD, List.getElem?_eq_getElem hp]
        exact (F.fl _ (List.getElem_mem hp)).1
      simp only [List.map_cons, List.sum_cons, List.length_cons, Nat.add_mul, Nat.one_mul]
      omega
  have h2 := h1 S.names fun p hp => (F.idn p hp).1
  have h3 : S.names.length * M ≤ 1048576 * 1073741824 := Nat.mul_le_mul (Nat.le_trans F.nn hk) hM
  unfold used
  omega
theorem New_bad (q : Int) (w : World) (hq : qB q = false) : Calls Try.prog 10 #[.int .i64 q] w fun e w' => e = .returned (.tuple #[.pointer none, .int .i64 1]) ∧ w = w' := by
  go_enter Try.func10, Try.ntmps10
  go_wp2_with (go_at_call 26; refine (isQuota_any _ _).mono ?_; rw [hq]; rintro e w' ⟨rfl, rfl⟩)
  go_ret2
  exact ⟨rfl, rfl⟩
theorem New_any (q : Int) (w : World) (hq : qB q = true) : Calls Try.prog 10 #[.int .i64 q] w fun e w' => ∃ d, e = .returned (.tuple #[dptr d, .int .i64 0]) ∧ DiskAt w.heap.size w' d (St.new q) ∧ Below w.heap.size w w' := by
  have hmm := @run_makeMap Try.prog
  go_enter Try.func10, Try.ntmps10
  go_wp2_with (go_at_call 26; refine (isQuota_any _ _).mono ?_; rw [hq]; rintro e w' ⟨rfl, rfl⟩)
  go_ret2
  have h3 := Whole.new ((w.alloc (.map #[] 0)).alloc (.map #[] 0)) 63 (dcells ⟨w.heap.size, w.heap.size + 1, nilV, [], []⟩ (St.new q))
  simp only [World.size_alloc] at h3
  have m1 : (((w.alloc (.map #[] 0)).alloc (.map #[] 0)).alloc (.cells (dcells ⟨w.heap.size, w.heap.size + 1, nilV, [], []⟩ (St.new q)) 63)).ownsMap Try.prog 9 ptrR w.heap.size 0 (dm [] []) :=
    ((World.ownsMap_made w Try.prog 9 ptrR).alloc _).alloc _
  have m2 := (World.ownsMap_made (w.alloc (.map #[] 0)) Try.prog 9 ptrR).alloc (.cells (dcells ⟨w.heap.size, w.heap.size + 1, nilV, [], []⟩ (St.new q)) 63)
  rw [World.size_alloc] at m2
  refine ⟨w.heap.size + 1 + 1, rfl, ⟨⟨w.heap.size, w.heap.size + 1, nilV, [], []⟩, by omega, Nat.le_refl _, Nat.le_succ _, by simp, h3, m1, m2, World.ownsRow_nil _ _ _ _, ⟨rfl, rfl, ?_, ?_, ?_, ?_, ?_⟩⟩, ?_⟩
  · intro i hi; cases hi
  · intro i hi; cases hi
  · intro i hi; cases hi
  · intro i j hi; cases hi
  · intro i j hi; cases hi
  · exact (((Below.refl _ _).alloc (Nat.le_refl _) _).alloc (by simp) _).alloc (by simp; omega) _
end Go.Proofs.Yteeomlboifleoaa
