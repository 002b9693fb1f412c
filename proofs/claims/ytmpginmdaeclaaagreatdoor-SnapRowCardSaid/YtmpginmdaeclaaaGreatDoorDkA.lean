/- Parts of the proofs of the statements of image. No statement of the seat is proved here. -/
import Derived.Maps.RangeWalk
import Derived.Sort.KeysCollected
import Derived.Test.YtmpginmdaeclaaaGreatDoorPaA
import Derived.Test.YtmpginmdaeclaaaGreatDoorNaI
import Derived.Test.YtmpginmdaeclaaaGreatDoorShd
import Derived.Test.YtmpginmdaeclaaaGreatDoorOcA
import Derived.Test.YtmpginmdaeclaaaGreatDoorRows
import Derived.WalkKit
import Derived.WalkSpells
import Derived.Deep.Draws
import Derived.Deep.QuietTactic
import Derived.BigQuiet
set_option maxHeartbeats 32000000
set_option maxRecDepth 20000
namespace Go.Proofs.YtmpginmdaeclaaaGreatDoor
open Go.Maps
abbrev Bys := List UInt8
abbrev Nms := List (Bys × Nat)
def delN (N : Nms) (k : Bys) : Nms := N.filter fun p => !(p.1 == k)
def insN (x : Bys × Nat) : Nms -> Nms
  | [] => [x]
  | y :: r => if bytesBefore x.1 y.1 then x :: y :: r else y :: insN x r
def putN (N : Nms) (k : Bys) (f : Nat) : Nms := insN (k, f) (delN N k)
def findN (N : Nms) (k : Bys) : Option Nat := (N.find? fun p => p.1 == k).map (·.2)
structure Chg where
  src : Bys
  dst : Bys
  f : Option Nat
def Chg.app (c : Chg) (N : Nms) : Nms := match c.f with | some i => putN (delN N c.src) c.dst i | none => delN N c.src
def Chg.wf (c : Chg) : Prop := (c.f = none ↔ c.dst = []) /\ c.src.length <= 64 /\ c.dst.length <= 64
structure St where
  quota : Int
  files : List (Bys × Nat)
  names : Nms
  safe : Nms
  pend : List Chg
  left : Nat
  down : Bool
def St.new (q : Int) : St := ⟨q, [], [], [], [], 0, false⟩
def lenOf (S : St) (i : Nat) : Nat := (S.files.getD i ([], 0)).1.length
def used (S : St) : Nat := (S.names.map fun p => lenOf S p.2).sum
def count (S : St) : St := if S.left = 0 then S else { S with left := S.left - 1, down := decide (S.left - 1 = 0) }
def isN (s : Bys) : Bool := decide (1 <= s.length) && decide (s.length <= 64)
def chg (S : St) (c : Chg) : St := { S with names := c.app S.names, pend := S.pend ++ [c] }
def addF (S : St) : St := { S with files := S.files ++ [([], 0)] }
def setF (S : St) (i : Nat) (x : Bys × Nat) : St := { S with files := S.files.set i x }
def fileAt (S : St) (i : Nat) : Bys × Nat := S.files.getD i ([], 0)
def addB (S : St) (i : Nat) (b : Bys) : St := setF S i ((fileAt S i).1 ++ b, (fileAt S i).2)
def runs (l : List Chg) (N : Nms) : Nms := l.foldl (fun N c => c.app N) N
def settle (S : St) (n : Nat) : St := { S with safe := runs (S.pend.take n) S.safe, pend := [] }
def appendS (S : St) (nm b : Bys) : St × Int :=
  if S.down then (S, 5) else if isN nm then
    if (b.length : Int) > S.quota - used S then (S, 4) else
    match findN S.names nm with
    | some i => (count (addB S i b), 0)
    | none => (count (addB (chg (addF S) ⟨[], nm, some S.files.length⟩) S.files.length b), 0)
  else (S, 1)
def openS (S : St) (nm : Bys) (ok : Bool) : Nat × Int :=
  if S.down then (0, 5) else if ok then (match findN S.names nm with | some i => (i, 0) | none => (0, 6)) else (0, 1)
def syncS (S : St) (nm : Bys) : St × Int :=
  if (openS S nm (isN nm)).2 = 0 then
    (count (setF S (openS S nm (isN nm)).1 ((fileAt S (openS S nm (isN nm)).1).1, lenOf S (openS S nm (isN nm)).1)), 0)
  else (S, (openS S nm (isN nm)).2)
def syncDirS (S : St) : St × Int := if S.down then (S, 5) else (count (settle S S.pend.length), 0)
def renameS (S : St) (a b : Bys) : St × Int :=
  if (openS S a (isN a && isN b)).2 = 0 then (count (chg S ⟨a, b, some (openS S a (isN a && isN b)).1⟩), 0) else (S, (openS S a (isN a && isN b)).2)
def removeS (S : St) (a : Bys) : St × Int :=
  if (openS S a (isN a)).2 = 0 then (count (chg S ⟨a, [], none⟩), 0) else (S, (openS S a (isN a)).2)
def readS (S : St) (a : Bys) : Bys × Int :=
  if (openS S a (isN a)).2 = 0 then ((fileAt S (openS S a (isN a)).1).1, 0) else ([], (openS S a (isN a)).2)
def lose (S : St) (i c : Nat) : St :=
  setF S i ((fileAt S i).1.take ((fileAt S i).2 + c * ((fileAt S i).1.length - (fileAt S i).2 + 1) / 256), (fileAt S i).2 + c * ((fileAt S i).1.length - (fileAt S i).2 + 1) / 256)
def head (ch : Bys) : Nat := (ch.headD 0).toNat
def loses : St -> Nms -> Bys -> St
  | S, [], _ => S
  | S, p :: r, ch => loses (lose S p.2 (head ch)) r ch.tail
def restart1 (S : St) (ch : Bys) : St := settle S (head ch % (S.pend.length + 1))
def restart2 (S : St) (ch : Bys) : St := { restart1 S ch with names := (restart1 S ch).safe }
def restartS (S : St) (ch : Bys) : St := { loses (restart2 S ch) (restart2 S ch).names ch.tail with left := 0, down := false }
def ent (bs : List Nat) (p : Bys × Nat) : Lit × DataW Unit := (.string p.1, .lit (.int .i64 (bs.getD p.2 0 : Nat)))
def dm (bs : List Nat) (N : Nms) : DataW Unit := .map (N.map (ent bs))
theorem dm_del (bs : List Nat) (N : Nms) (k : Bys) : (dm bs N).del (.string k) = dm bs (delN N k) := by
  show DataW.map _ = DataW.map _
  congr 1
  unfold delN
  rw [List.filter_map]
  rfl
theorem ins_map (bs : List Nat) (x : Bys × Nat) : ∀ N : Nms, DataW.insert (ent bs x) (N.map (ent bs)) = (insN x N).map (ent bs)
  | [] => rfl
  | y :: r => by
    show (if bytesBefore x.1 y.1 = true then _ else _) = _
    unfold insN
    split
    · rfl
    · rw [List.map_cons]
      exact congrArg _ (ins_map bs x r)
theorem dm_put (bs : List Nat) (N : Nms) (k : Bys) (f : Nat) : (dm bs N).put (.string k) (.lit (.int .i64 (bs.getD f 0 : Nat))) = dm bs (putN N k f) := by
  show DataW.map (DataW.insert (ent bs (k, f)) _) = _
  unfold putN dm
  rw [<-ins_map]
  congr 2
  unfold delN
  rw [List.filter_map]
  rfl
theorem dm_has (bs : List Nat) (N : Nms) (k : Bys) : Maps.has (dm bs N) (.string k) = (findN N k).isSome := by
  unfold findN dm
  rw [Maps.has_eq, List.any_map, Option.isSome_map, Bool.eq_iff_iff, List.find?_isSome, List.any_eq_true]
  rfl
theorem dm_at (bs : List Nat) (N : Nms) (k : Bys) (z : DataW Unit) : (dm bs N).atKey (.string k) z = match findN N k with | some f => .lit (.int .i64 (bs.getD f 0 : Nat)) | none => z := by
  unfold dm findN
  simp only [DataW.atKey]
  rw [List.find?_map, show ((fun p : Lit × DataW Unit => p.1.sameKey (.string k)) ∘ ent bs) = fun p => p.1 == k from rfl]
  cases N.find? fun p => p.1 == k <;> rfl
theorem dm_size (bs : List Nat) (N : Nms) : Maps.size (dm bs N) = N.length := by simp [Maps.size, dm]
theorem dm_keys (bs : List Nat) (N : Nms) : strKeys (dm bs N) = N.map (·.1) := by
  simp [strKeys, dm, ent, strOf]
theorem dm_more (bs : List Nat) (x : Nat) (N : Nms) (h : ∀ p ∈ N, p.2 < bs.length) : dm (bs ++ [x]) N = dm bs N := by
  unfold dm
  congr 1
  refine List.map_congr_left fun p hp => ?_
  simp [ent, List.getD, List.getElem?_append_left (h p hp)]
def ptrR : Value -> Option (DataW Unit × List MemPlace)
  | .pointer (some ⟨b, 0, none⟩) => some (.lit (.int .i64 (b : Nat)), [])
  | .pointer none => some (.lit (.int .i64 (-1)), [])
  | _ => none
theorem ptrR_mk (b : Nat) : ptrR (.pointer (some ⟨b, 0, none⟩)) = some (.lit (.int .i64 (b : Nat)), []) := rfl
theorem ptrR_none : ptrR (.pointer none) = some (.lit (.int .i64 (-1)), []) := rfl
theorem ptrR_inv {v : Value} {b : Nat} {ps : List MemPlace} (h : ptrR v = some (.lit (.int .i64 (b : Nat)), ps)) : v = .pointer (some ⟨b, 0, none⟩) := by
  unfold ptrR at h
  split at h
  · simp only [Option.some.injEq, Prod.mk.injEq, DataW.lit.injEq, Lit.int.injEq, true_and] at h
    rename_i b'
    obtain rfl : b' = b := by have := h.1; omega
    rfl
  · simp only [Option.some.injEq, Prod.mk.injEq, DataW.lit.injEq, Lit.int.injEq, true_and] at h
    have := h.1; omega
  · cases h
theorem ptrR_none_inv {v : Value} {ps : List MemPlace} (h : ptrR v = some (.lit (.int .i64 (-1)), ps)) : v = .pointer none := by
  unfold ptrR at h
  split at h
  · simp only [Option.some.injEq, Prod.mk.injEq, DataW.lit.injEq, Lit.int.injEq, true_and] at h
    have := h.1; omega
  · rfl
  · cases h
theorem mem_insN {x q : Bys × Nat} : ∀ {N : Nms}, q ∈ insN x N ↔ q = x \/ q ∈ N
  | [] => by simp [insN]
  | y :: r => by
    unfold insN
    split
    · simp
    · simp only [List.mem_cons, mem_insN (N := r)]
      constructor
      · rintro (h | h | h)
        · exact .inr (.inl h)
        · exact .inl h
        · exact .inr (.inr h)
      · rintro (h | h | h)
        · exact .inr (.inl h)
        · exact .inl h
        · exact .inr (.inr h)
theorem length_insN (x : Bys × Nat) : ∀ N : Nms, (insN x N).length = N.length + 1
  | [] => rfl
  | y :: r => by
    unfold insN
    split
    · simp
    · simp [length_insN x r]
theorem mem_delN {N : Nms} {k : Bys} {q : Bys × Nat} (h : q ∈ delN N k) : q ∈ N := (List.mem_filter.1 h).1
theorem mem_delN_iff {N : Nms} {k : Bys} {q : Bys × Nat} : q ∈ delN N k ↔ q ∈ N /\ q.1 ≠ k := by
  simp [delN]
theorem length_delN (N : Nms) (k : Bys) : (delN N k).length <= N.length := List.length_filter_le _ _
theorem mem_app {c : Chg} {N : Nms} {q : Bys × Nat} (h : q ∈ c.app N) : q ∈ N \/ (c.f = some q.2 /\ q.1 = c.dst) := by
  unfold Chg.app at h
  cases hf : c.f with
  | none => rw [hf] at h; exact .inl (mem_delN h)
  | some i =>
    rw [hf] at h
    rcases mem_insN.1 h with rfl | h
    · exact .inr ⟨rfl, rfl⟩
    · exact .inl (mem_delN (mem_delN h))
theorem length_app (c : Chg) (N : Nms) : (c.app N).length <= N.length + 1 := by
  unfold Chg.app
  cases c.f with
  | none => exact Nat.le_succ_of_le (length_delN _ _)
  | some i =>
    show (insN _ _).length <= _
    rw [length_insN]
    have := length_delN (delN N c.src) c.dst
    have := length_delN N c.src
    omega
theorem findN_mem {N : Nms} {k : Bys} {i : Nat} (h : findN N k = some i) : (k, i) ∈ N := by
  unfold findN at h
  cases hf : N.find? (fun p => p.1 == k) with
  | none => rw [hf] at h; cases h
  | some p =>
    rw [hf] at h
    have h1 := List.find?_some hf
    have h2 := List.mem_of_find?_eq_some hf
    simp only [Option.map_some, Option.some.injEq] at h
    simp only [beq_iff_eq] at h1
    obtain ⟨a, b⟩ := p
    simp only at h h1
    subst h h1
    exact h2
theorem runs_nil (N : Nms) : runs [] N = N := rfl
theorem runs_snoc (l : List Chg) (c : Chg) (N : Nms) : runs (l ++ [c]) N = c.app (runs l N) := by simp [runs]
theorem mem_runs : ∀ {l : List Chg} {N : Nms} {q : Bys × Nat}, q ∈ runs l N -> q ∈ N \/ ∃ c ∈ l, c.f = some q.2 /\ q.1 = c.dst
  | [], _, _, h => .inl h
  | c :: l, N, q, h => by
    rcases mem_runs (l := l) h with h | ⟨c', h1, h2⟩
    · rcases mem_app h with h | h
      · exact .inl h
      · exact .inr ⟨c, by simp, h⟩
    · exact .inr ⟨c', by simp [h1], h2⟩
structure Fit (k M : Nat) (S : St) : Prop where
  nn : S.names.length <= k
  nr : ∀ n, (runs (S.pend.take n) S.safe).length <= k
  np : S.pend.length <= k
  nf : S.files.length <= k
  fl : ∀ x ∈ S.files, x.1.length <= M /\ x.2 <= x.1.length
  idn : ∀ p ∈ S.names, p.2 < S.files.length /\ p.1.length <= 64
  ids : ∀ p ∈ S.safe, p.2 < S.files.length /\ p.1.length <= 64
  idp : ∀ c ∈ S.pend, c.wf /\ ∀ i, c.f = some i -> i < S.files.length
  lf : (S.left : Int) <= 9223372036854775807
theorem Fit.ns {k M : Nat} {S : St} (h : Fit k M S) : S.safe.length <= k := h.nr 0
theorem Fit.mono {k M k' M' : Nat} {S : St} (h : Fit k M S) (hk : k <= k') (hM : M <= M') : Fit k' M' S :=
  ⟨Nat.le_trans h.nn hk, fun n => Nat.le_trans (h.nr n) hk, Nat.le_trans h.np hk, Nat.le_trans h.nf hk, fun x hx => ⟨Nat.le_trans (h.fl x hx).1 hM, (h.fl x hx).2⟩, h.idn, h.ids, h.idp, h.lf⟩
theorem Fit.new (q : Int) : Fit 0 0 (St.new q) := ⟨Nat.le_refl _, fun n => by simp [St.new, runs], Nat.le_refl _, Nat.le_refl _, by simp [St.new], by simp [St.new], by simp [St.new], by simp [St.new], by simp [St.new]⟩
theorem Fit.count {k M : Nat} {S : St} (h : Fit k M S) : Fit k M (count S) := by
  unfold YtmpginmdaeclaaaGreatDoor.count
  split
  · exact h
  · exact ⟨h.nn, h.nr, h.np, h.nf, h.fl, h.idn, h.ids, h.idp, by have := h.lf; simp only; omega⟩
end Go.Proofs.YtmpginmdaeclaaaGreatDoor
namespace Go.Proofs.YtmpginmdaeclaaaGreatDoor
open Go.RowKit Go.Maps Go.Sort
theorem strings_Clone_any (s : ByteArray) (w : World) (hs : s.size <= 281474976710656) :
    Calls Tryz.prog 109 #[.string s] w fun e w' => e = .returned (.string s) /\ Below w.heap.size w w' := by
  go_enter Tryz.func109, Tryz.ntmps109
  go_wp2_with (go_at_call 158; refine (AnyPu.stringslite_Clone scloneL s w hs).mono ?_; rintro e w1 ⟨rfl, hb⟩)
  go_ret
  exact ⟨rfl, hb⟩
theorem dkMaps_Clone_any (b n : Nat) (D : DataW Unit) (w : World) (hown : w.ownsMap Tryz.prog 9 ptrR b n D) :
    Calls Tryz.prog 42 #[.map (some b)] w fun e w' => e = .returned (.map (some w.heap.size)) /\ w'.ownsMap Tryz.prog 9 ptrR w.heap.size n D /\ Below w.heap.size w w' :=
  (AnyW.maps_Clone_owns dkCloneL 9 ptrR b n D w hown).mono fun _ _ ⟨h1, h2, _, h3⟩ => ⟨h1, h2, h3⟩
theorem sorts_two (m : Nat) : AnyZ.SortsIn Tryz.prog sortedL_ren Fence.wide m :=
  ⟨fun blk off cap ss W hH hblk hsz => callsIn_wide.2 (AnyM.slices_Sort_string sortL blk off cap ss W hH hblk hsz),
   fun p cap W => callsIn_wide.2 (AnyM.slices_Sort_string_none sortL p cap W)⟩
theorem maps_Keys_any (mb : Option Nat) (w : World) :
    Calls Tryz.prog 44 #[.map mb] w fun e w' => e = .returned (.func (.func 104) #[] #[.pointer (some ⟨w.heap.size, 0, none⟩)]) /\ w' = w.alloc (.cells #[.map mb] 77) :=
  (callsIn_wide (n := 5)).1 (AnyZ.keys_in keysL Fence.wide 5 trivial rfl mb w)
theorem before_lt : ∀ a b : Bys, bytesBefore a b = true -> a <= b
  | [], _, _ => by simp
  | _ :: _, [], h => by simp [bytesBefore] at h
  | a :: r, b :: s, h => by
    simp only [bytesBefore, Bool.or_eq_true, Bool.and_eq_true, decide_eq_true_eq, beq_iff_eq] at h
    rw [List.cons_le_cons_iff]
    rcases h with h | ⟨h1, h2⟩
    · exact .inl h
    · exact .inr ⟨h1, before_lt r s h2⟩
theorem rising_of {w : World} {b n : Nat} {bs : List Nat} {N : Nms} (h : w.ownsMap Tryz.prog 9 ptrR b n (dm bs N)) : N.Pairwise fun p q => bytesBefore p.1 q.1 = true := by
  obtain ⟨es, clock, hb, F, hs, hD⟩ := h
  have h1 := Maps.sorted_sorted law.one _ (Maps.fit_keys F) (Maps.fit_apart law F)
  have h2 : N.map (ent bs) = (es.toList.map (WideElems.rg Tryz.prog 9 ptrR)).foldr DataW.insert [] := by
    simpa [dm] using hD
  rw [<-h2, List.pairwise_map] at h1
  exact h1
theorem keys_sorted {N : Nms} (h : N.Pairwise fun p q => bytesBefore p.1 q.1 = true) {ss : List Bys} (hp : ss.Perm (N.map (·.1))) : ss.mergeSort (fun x y => decide (x <= y)) = N.map (·.1) := by
  rw [mergeSort_of_perm hp]
  apply List.mergeSort_of_pairwise
  rw [List.pairwise_map]
  exact h.imp fun h => by simpa using before_lt _ _ h
theorem slices_Sorted_any (b n : Nat) (bs : List Nat) (N : Nms) (w : World) (hown : w.ownsMap Tryz.prog 9 ptrR b n (dm bs N)) (hn : N.length <= 1000000) :
    Calls Tryz.prog 43 #[.func (.func 104) #[] #[.pointer (some ⟨w.heap.size, 0, none⟩)]] (w.alloc (.cells #[.map (some b)] 77)) fun e w' =>
      ∃ v : Value, e = .returned v /\ w'.ownsRow w.heap.size 9 1 v N.length ((N.map (·.1)).map Go.Proofs.encStr) /\ Below w.heap.size w w' := by
  have hbl := hown.lt
  have hseq : SeqGives Fence.wide 2 Tryz.prog 104 #[.pointer (some ⟨w.heap.size, 0, none⟩)] Go.Proofs.encStr (fun ss => ss.Perm (strKeys (dm bs N))) (Maps.size (dm bs N)) (w.alloc (.cells #[.map (some b)] 77)) :=
    AnyZ.keys_gives (ρ := keysL_ren) { keysL with } Fence.wide _ trivial rfl (by omega) w.heap.size b n (dm bs N) _ (by simp) (by simp) (by
      obtain ⟨es, clock, hb, Ft, hs, hD⟩ := hown
      exact ⟨es, clock, (Below.heap_alloc _ _ b hbl).trans hb, Ft, hs, hD⟩)
  have hsz : Maps.size (dm bs N) = N.length := dm_size bs N
  refine (callsIn_wide (n := 5)).1 ((AnyZ.sorted_in sortedL Fence.wide 5 trivial trivial trivial trivial rfl (by omega) (sorts_two _) (enters_of Tryz.func103 (by kernel_rfl) rfl) 104 #[.pointer (some ⟨w.heap.size, 0, none⟩)] trivial
    (enters_of Tryz.func104 (by kernel_rfl) rfl) _ _ (by rw [hsz]; unfold maxLen; omega) (by rw [hsz]; omega) _ hseq).mono ?_)
  rintro e w' ⟨v, ss, rfl, hS, hrow, hnil, hb⟩
  rw [dm_keys] at hS
  rw [keys_sorted (rising_of hown) hS] at hrow
  have hl : ss.length = N.length := by simpa using hS.length_eq
  rw [hl] at hrow
  have hB : Below w.heap.size w (w.alloc (.cells #[.map (some b)] 77)) := (Below.refl _ w).alloc (Nat.le_refl _) _
  refine ⟨v, rfl, ?_, hB.trans (hb.mono (by simp))⟩
  obtain ⟨h1, h2⟩ := hrow
  refine ⟨h1, ?_⟩
  rcases h2 with h2 | ⟨g, cap, cur, hv, hg, r⟩
  · exact .inl h2
  · exact .inr ⟨g, cap, cur, hv, Nat.le_trans (by simp) hg, r⟩
end Go.Proofs.YtmpginmdaeclaaaGreatDoor
namespace Go.Proofs.YtmpginmdaeclaaaGreatDoor
open Go.RowKit Go.Maps Go.Sort
def typ : Option Obj -> Nat
  | some (.cells _ t _) => t
  | some (.map _ _) => 1000000
  | _ => 1000001
def mineT (t : Nat) : Bool := t == 80 || t == 149 || t == 117 || t == 5 || t == 1000000
structure Kept (B : Nat) (w w' : World) : Prop where
  os : w'.os = w.os
  tape : w'.tape = w.tape
  output : w'.output = w.output
  size : w.heap.size <= w'.heap.size
  block : ∀ k, k < w.heap.size -> (k < B \/ mineT (typ w.heap[k]?) = false) -> w'.heap[k]? = w.heap[k]?
theorem Kept.refl (B : Nat) (w : World) : Kept B w w := ⟨rfl, rfl, rfl, Nat.le_refl _, fun _ _ _ => rfl⟩
theorem Kept.trans {B : Nat} {a b c : World} (h : Kept B a b) (k : Kept B b c) : Kept B a c :=
  ⟨k.os.trans h.os, k.tape.trans h.tape, k.output.trans h.output, Nat.le_trans h.size k.size, fun i hi hm =>
    (k.block i (Nat.lt_of_lt_of_le hi h.size) (by rw [h.block i hi hm]; exact hm)).trans (h.block i hi hm)⟩
theorem Kept.of_below {B : Nat} {w w' : World} (h : Below w.heap.size w w') : Kept B w w' := ⟨h.os, h.tape, h.output, h.size, fun k hk _ => h.block k hk⟩
theorem Kept.of_grown {B : Nat} {w w' : World} {g : Nat} (h : w.grownBy w' (some g)) (hB : B <= g) (hm : mineT (typ w.heap[g]?) = true) : Kept B w w' :=
  ⟨h.os, h.tape, h.output, h.size, fun k hk hc => h.block k hk (by
    rintro ⟨⟩
    rcases hc with hc | hc
    · omega
    · rw [hm] at hc; cases hc)⟩
theorem Kept.alloc {B : Nat} {a w : World} (h : Kept B a w) (o : Obj) : Kept B a (w.alloc o) := h.trans (.of_below ((Below.refl _ w).alloc (Nat.le_refl _) o))
theorem Kept.drew {B : Nat} {a w : World} (h : Kept B a w) : Kept B a w.drew := ⟨h.os, h.tape, h.output, h.size, h.block⟩
theorem Kept.below {B : Nat} {w w' : World} (h : Kept B w w') (hB : B <= w.heap.size) : Below B w w' :=
  ⟨h.os, h.tape, h.output, h.size, fun k hk => h.block k (by omega) (.inl hk)⟩
theorem Kept.whole {B : Nat} {w w' : World} (h : Kept B w w') {g t : Nat} {cs : Array Value} (hw : Whole w g t cs) (ht : mineT t = false) : Whole w' g t cs := by
  have hl := hw.lt
  unfold Whole at hw ⊢
  rw [h.block g hl (.inr (by rw [hw]; exact ht))]
  exact hw
theorem Kept.own {B : Nat} {w w' : World} (h : Kept B w w') {base e size n : Nat} {v : Value} {xs : List Value} (ho : w.ownsRow base e size v n xs) (ht : mineT e = false) : w'.ownsRow base e size v n xs := by
  obtain ⟨h1, h2⟩ := ho
  refine ⟨h1, ?_⟩
  rcases h2 with h2 | ⟨g, cap, cur, hv, hg, hh, r⟩
  · exact .inl h2
  · exact .inr ⟨g, cap, cur, hv, hg, h.whole (g := g) hh ht, r⟩
theorem dkGset (w : World) (p : Addr) (u : Value) : w.grownBy (w.setCell p u) (some p.block) :=
  ⟨rfl, rfl, rfl, by simp [World.setCell], fun k _ hne => Below.heap_setCell _ _ _ _ (fun e => hne (by rw [e]))⟩
theorem gof {w w' : World} (h : Below w.heap.size w w') : w.grownBy w' none := ⟨h.os, h.tape, h.output, h.size, fun k hk _ => h.block k hk⟩
theorem whole_typ {w : World} {g t : Nat} {cs : Array Value} (h : Whole w g t cs) : typ w.heap[g]? = t := by unfold Whole at h; rw [h]; rfl
theorem own_typ {w : World} {base e size n : Nat} {v : Value} {xs : List Value} (h : w.ownsRow base e size v n xs) {g : Nat} (hg : v.ownBlock = some g) : typ w.heap[g]? = e := by
  rcases h.2 with ⟨rfl, _⟩ | ⟨g', cap, cur, rfl, _, hh, _⟩
  · simp [Value.ownBlock] at hg
  · obtain rfl : g' = g := by simpa [Value.ownBlock] using hg
    rw [hh]; rfl
theorem map_typ {w : World} {k b n : Nat} {R : Value -> Option (DataW Unit × List MemPlace)} {D : DataW Unit} (h : w.ownsMap Tryz.prog k R b n D) : typ w.heap[b]? = 1000000 := by
  obtain ⟨es, clock, hb, _⟩ := h
  rw [hb]; rfl
theorem Whole.keepT {w w' : World} {g t : Nat} {cs : Array Value} {r : Option Nat} (h : Whole w g t cs) (hg : w.grownBy w' r) (hn : ∀ x, r = some x -> typ w.heap[x]? ≠ t) : Whole w' g t cs :=
  h.grown hg (by rintro rfl; exact hn g rfl (whole_typ h))
theorem own_keepT {w w' : World} {base e size n : Nat} {v : Value} {xs : List Value} {r : Option Nat} (h : w.ownsRow base e size v n xs) (hg : w.grownBy w' r) (hn : ∀ x, r = some x -> typ w.heap[x]? ≠ e) : w'.ownsRow base e size v n xs := by
  refine h.kept hg ?_
  cases hv : v.ownBlock with
  | none => exact .inl rfl
  | some x =>
    refine .inr ?_
    rintro rfl; exact hn x rfl (own_typ h hv)
theorem map_keepT {w w' : World} {k b n : Nat} {R : Value -> Option (DataW Unit × List MemPlace)} {D : DataW Unit} {r : Option Nat} (h : w.ownsMap Tryz.prog k R b n D) (hg : w.grownBy w' r) (hn : ∀ x, r = some x -> typ w.heap[x]? ≠ 1000000) : w'.ownsMap Tryz.prog k R b n D :=
  h.kept hg (by rintro rfl; exact hn b rfl (map_typ h))
theorem map_tight {w : World} {k b n : Nat} {R : Value -> Option (DataW Unit × List MemPlace)} {D : DataW Unit} (h : w.ownsMap Tryz.prog k R b n D) : w.ownsMap Tryz.prog k R b (Maps.size D) D := by
  obtain ⟨es, clock, hb, F, _, rfl⟩ := h
  refine ⟨es, clock, hb, F, ?_, rfl⟩
  simp [Maps.size, length_sorted]
structure Mem where
  nm : Nat
  sm : Nat
  pv : Value
  bs : List Nat
  vs : List Value
abbrev nilV : Value := .slice none 0 0
def Mem.b (m : Mem) (i : Nat) : Nat := m.bs.getD i 0
def Mem.v (m : Mem) (i : Nat) : Value := m.vs.getD i nilV
def ptrA (bs : List Nat) : Option Nat -> Option Addr
  | none => none
  | some i => some ⟨bs.getD i 0, 0, none⟩
def ptrOf (bs : List Nat) (f : Option Nat) : Value := .pointer (ptrA bs f)
def pcells (bs : List Nat) (l : List Chg) : List Value := l.flatMap fun c => [Go.Proofs.encStr c.src, Go.Proofs.encStr c.dst, ptrOf bs c.f]
abbrev dcells (m : Mem) (S : St) : Array Value := #[.int .i64 S.quota, .map (some m.nm), .map (some m.sm), m.pv, .int .i64 (S.left : Nat), .bool S.down]
structure FilesAt (B : Nat) (w : World) (m : Mem) (fs : List (Bys × Nat)) : Prop where
  lb : m.bs.length = fs.length
  lv : m.vs.length = fs.length
  base : ∀ i, i < fs.length -> B <= m.b i
  cell : ∀ i, i < fs.length -> Whole w (m.b i) 117 #[m.v i, .int .i64 ((fs.getD i ([], 0)).2 : Nat)]
  row : ∀ i, i < fs.length -> w.ownsRow B 5 1 (m.v i) (fs.getD i ([], 0)).1.length (Lib.byteCells (fs.getD i ([], 0)).1)
  one : ∀ i j, i < fs.length -> j < fs.length -> m.b i = m.b j -> i = j
  apart : ∀ i j, i < fs.length -> j < fs.length -> i ≠ j -> (m.v i).ownBlock = none \/ (m.v i).ownBlock ≠ (m.v j).ownBlock
structure At (B : Nat) (w : World) (d : Nat) (m : Mem) (S : St) : Prop where
  dB : B <= d
  nB : B <= m.nm
  sB : B <= m.sm
  ne : m.nm ≠ m.sm
  disk : Whole w d 80 (dcells m S)
  names : w.ownsMap Tryz.prog 9 ptrR m.nm S.names.length (dm m.bs S.names)
  safe : w.ownsMap Tryz.prog 9 ptrR m.sm S.safe.length (dm m.bs S.safe)
  pend : w.ownsRow B 149 3 m.pv S.pend.length (pcells m.bs S.pend)
  files : FilesAt B w m S.files
def DiskAt (B : Nat) (w : World) (d : Nat) (S : St) : Prop := ∃ m, At B w d m S
theorem FilesAt.keep {B : Nat} {w w' : World} {m : Mem} {fs : List (Bys × Nat)} {r : Option Nat} (h : FilesAt B w m fs) (hg : w.grownBy w' r) (h1 : ∀ x, r = some x -> typ w.heap[x]? ≠ 117 /\ typ w.heap[x]? ≠ 5) : FilesAt B w' m fs :=
  ⟨h.lb, h.lv, h.base, fun i hi => (h.cell i hi).keepT hg fun x hx => (h1 x hx).1, fun i hi => own_keepT (h.row i hi) hg fun x hx => (h1 x hx).2, h.one, h.apart⟩
theorem FilesAt.mem {B : Nat} {w : World} {m m' : Mem} {fs : List (Bys × Nat)} (h : FilesAt B w m fs) (hb : m'.bs = m.bs) (hv : m'.vs = m.vs) : FilesAt B w m' fs := by
  obtain ⟨a, b, c, bs, vs⟩ := m
  obtain ⟨a', b', c', bs', vs'⟩ := m'
  simp only at hb hv
  subst hb hv
  exact ⟨h.lb, h.lv, h.base, h.cell, h.row, h.one, h.apart⟩
theorem At.same {B d : Nat} {w w' : World} {m : Mem} {S : St} (h : At B w d m S) (hb : Below w.heap.size w w') : At B w' d m S := by
  have hg := gof hb
  exact ⟨h.dB, h.nB, h.sB, h.ne, h.disk.keepT hg (by simp), map_keepT h.names hg (by simp), map_keepT h.safe hg (by simp), own_keepT h.pend hg (by simp), h.files.keep hg (by simp)⟩
theorem DiskAt.same {B d : Nat} {w w' : World} {S : St} (h : DiskAt B w d S) (hb : Below w.heap.size w w') : DiskAt B w' d S := by
  obtain ⟨m, h⟩ := h
  exact ⟨m, h.same hb⟩
theorem At.drewN {B d : Nat} {w : World} {m : Mem} {S : St} (h : At B w d m S) (n : Nat) : At B (w.drewN n) d m S := h.same (below_drewN (Below.refl _ _) n)
theorem At.drew {B d : Nat} {w : World} {m : Mem} {S : St} (h : At B w d m S) : At B w.drew d m S := h.same (Below.refl _ _).drew
theorem At.alloc {B d : Nat} {w : World} {m : Mem} {S : St} (h : At B w d m S) (o : Obj) : At B (w.alloc o) d m S := h.same ((Below.refl _ _).alloc (Nat.le_refl _) o)
theorem mine_disk {w : World} {d : Nat} {cs : Array Value} (h : Whole w d 80 cs) : mineT (typ w.heap[d]?) = true := by rw [whole_typ h]; decide
theorem mine_file {w : World} {d : Nat} {cs : Array Value} (h : Whole w d 117 cs) : mineT (typ w.heap[d]?) = true := by rw [whole_typ h]; decide
theorem At.setD {B d : Nat} {w w' : World} {m : Mem} {S S' : St} (h : At B w d m S) (hg : w.grownBy w' (some d)) (hd : Whole w' d 80 (dcells m S')) (en : S'.names = S.names) (es : S'.safe = S.safe) (ep : S'.pend = S.pend) (ef : S'.files = S.files) :
    At B w' d m S' /\ Kept B w w' := by
  have ht := whole_typ h.disk
  refine ⟨⟨h.dB, h.nB, h.sB, h.ne, hd, ?_, ?_, ?_, ?_⟩, .of_grown hg h.dB (mine_disk h.disk)⟩
  · rw [en]; exact map_keepT h.names hg (by rintro x ⟨⟩; rw [ht]; decide)
  · rw [es]; exact map_keepT h.safe hg (by rintro x ⟨⟩; rw [ht]; decide)
  · rw [ep]; exact own_keepT h.pend hg (by rintro x ⟨⟩; rw [ht]; decide)
  · rw [ef]; exact h.files.keep hg (by rintro x ⟨⟩; rw [ht]; decide)
theorem At.setN {B d n : Nat} {w w' : World} {m : Mem} {S : St} {N : Nms} (h : At B w d m S) (hg : w.grownBy w' (some m.nm)) (hn : w'.ownsMap Tryz.prog 9 ptrR m.nm n (dm m.bs N)) :
    At B w' d m { S with names := N } /\ Kept B w w' := by
  have ht := map_typ h.names
  refine ⟨⟨h.dB, h.nB, h.sB, h.ne, ?_, ?_, ?_, ?_, ?_⟩, .of_grown hg h.nB (by rw [ht]; decide)⟩
  · exact h.disk.keepT hg (by rintro x ⟨⟩; rw [ht]; decide)
  · have := map_tight hn
    rwa [dm_size] at this
  · exact h.safe.kept hg (by intro e; exact h.ne (Option.some.inj e).symm)
  · exact own_keepT h.pend hg (by rintro x ⟨⟩; rw [ht]; decide)
  · exact h.files.keep hg (by rintro x ⟨⟩; rw [ht]; decide)
theorem At.setS {B d n : Nat} {w w' : World} {m : Mem} {S : St} {N : Nms} (h : At B w d m S) (hg : w.grownBy w' (some m.sm)) (hn : w'.ownsMap Tryz.prog 9 ptrR m.sm n (dm m.bs N)) :
    At B w' d m { S with safe := N } /\ Kept B w w' := by
  have ht := map_typ h.safe
  refine ⟨⟨h.dB, h.nB, h.sB, h.ne, ?_, ?_, ?_, ?_, ?_⟩, .of_grown hg h.sB (by rw [ht]; decide)⟩
  · exact h.disk.keepT hg (by rintro x ⟨⟩; rw [ht]; decide)
  · exact h.names.kept hg (by intro e; exact h.ne (Option.some.inj e))
  · have := map_tight hn
    rwa [dm_size] at this
  · exact own_keepT h.pend hg (by rintro x ⟨⟩; rw [ht]; decide)
  · exact h.files.keep hg (by rintro x ⟨⟩; rw [ht]; decide)
theorem At.setP {B d : Nat} {w w1 w' : World} {m : Mem} {S : St} {v : Value} {l : List Chg} {r : Option Nat} (h : At B w d m S) (hg : w.grownBy w1 r) (hr : r = none \/ r = m.pv.ownBlock) (hv : w1.ownsRow B 149 3 v l.length (pcells m.bs l))
    (hg' : w1.grownBy w' (some d)) (hd : Whole w' d 80 (dcells { m with pv := v } { S with pend := l })) : At B w' d { m with pv := v } { S with pend := l } /\ Kept B w w' := by
  have hrt : ∀ x, r = some x -> typ w.heap[x]? = 149 /\ B <= x := by
    intro x hx
    rcases hr with hr | hr
    · rw [hr] at hx; cases hx
    · rw [hr] at hx; exact ⟨own_typ h.pend hx, (h.pend.lt x hx).1⟩
  have hd1 := h.disk.keepT hg (fun x hx => by rw [(hrt x hx).1]; decide)
  have ht := whole_typ hd1
  have k1 : Kept B w w1 := by
    cases hr0 : r with
    | none => rw [hr0] at hg; exact ⟨hg.os, hg.tape, hg.output, hg.size, fun k hk _ => hg.block k hk (by simp)⟩
    | some x =>
      obtain ⟨t1, t2⟩ := hrt x hr0
      rw [hr0] at hg
      exact .of_grown hg t2 (by rw [t1]; decide)
  refine ⟨⟨h.dB, h.nB, h.sB, h.ne, hd, ?_, ?_, ?_, ?_⟩, k1.trans (.of_grown hg' h.dB (mine_disk hd1))⟩
  · exact map_keepT (map_keepT h.names hg (fun x hx => by rw [(hrt x hx).1]; decide)) hg' (by rintro x ⟨⟩; rw [ht]; decide)
  · exact map_keepT (map_keepT h.safe hg (fun x hx => by rw [(hrt x hx).1]; decide)) hg' (by rintro x ⟨⟩; rw [ht]; decide)
  · exact own_keepT hv hg' (by rintro x ⟨⟩; rw [ht]; decide)
  · exact (((h.files.keep hg (fun x hx => by rw [(hrt x hx).1]; decide))).keep hg' (by rintro x ⟨⟩; rw [ht]; decide)).mem rfl rfl
theorem At.newN {B d n nm : Nat} {w w' : World} {m : Mem} {S : St} {N : Nms} (h : At B w d m S) (hg : w.grownBy w' (some d)) (hn : w'.ownsMap Tryz.prog 9 ptrR nm n (dm m.bs N)) (hB : B <= nm) (hs : nm ≠ m.sm)
    (hd : Whole w' d 80 (dcells { m with nm := nm } { S with names := N })) : At B w' d { m with nm := nm } { S with names := N } /\ Kept B w w' := by
  have ht := whole_typ h.disk
  refine ⟨⟨h.dB, hB, h.sB, hs, hd, ?_, ?_, ?_, ?_⟩, .of_grown hg h.dB (mine_disk h.disk)⟩
  · have := map_tight hn
    rwa [dm_size] at this
  · exact map_keepT h.safe hg (by rintro x ⟨⟩; rw [ht]; decide)
  · exact own_keepT h.pend hg (by rintro x ⟨⟩; rw [ht]; decide)
  · exact (h.files.keep hg (by rintro x ⟨⟩; rw [ht]; decide)).mem rfl rfl
theorem getD_set {α : Type} (l : List α) (i j : Nat) (x z : α) (hi : i < l.length) : (l.set i x).getD j z = if j = i then x else l.getD j z := by
  simp only [List.getD, List.getElem?_set]
  by_cases h : i = j
  · subst h; simp [hi]
  · simp [h, Ne.symm h]
theorem getD_snoc {α : Type} (l : List α) (j : Nat) (x z : α) : (l ++ [x]).getD j z = if j = l.length then x else l.getD j z := by
  simp only [List.getD]
  by_cases h : j < l.length
  · rw [List.getElem?_append_left h, if_neg (by omega)]
  · rw [List.getElem?_append_right (by omega)]
    by_cases h2 : j = l.length
    · subst h2; simp
    · rw [if_neg h2, List.getElem?_eq_none (by simp; omega), List.getElem?_eq_none (by omega)]
theorem At.setF {B d i : Nat} {w w1 w' : World} {m : Mem} {S : St} {x : Bys × Nat} {v : Value} {r : Option Nat} (h : At B w d m S) (hi : i < S.files.length) (hg : w.grownBy w1 r) (hr : r = none \/ r = (m.v i).ownBlock)
    (hv : w1.ownsRow B 5 1 v x.1.length (Lib.byteCells x.1)) (hloc : v.ownBlock = none \/ v.ownBlock = (m.v i).ownBlock \/ ∃ g, v.ownBlock = some g /\ w.heap.size <= g)
    (hg' : w1.grownBy w' (some (m.b i))) (hd : Whole w' (m.b i) 117 #[v, .int .i64 (x.2 : Nat)]) : At B w' d { m with vs := m.vs.set i v } (setF S i x) /\ Kept B w w' := by
  have hf := h.files
  have hrt : ∀ x, r = some x -> typ w.heap[x]? = 5 /\ B <= x := by
    intro x hx
    rcases hr with hr | hr
    · rw [hr] at hx; cases hx
    · rw [hr] at hx; exact ⟨own_typ (hf.row i hi) hx, ((hf.row i hi).lt x hx).1⟩
  have hc1 := (hf.cell i hi).keepT hg (fun x hx => by rw [(hrt x hx).1]; decide)
  have ht := whole_typ hc1
  have k1 : Kept B w w1 := by
    cases hr0 : r with
    | none => rw [hr0] at hg; exact ⟨hg.os, hg.tape, hg.output, hg.size, fun k hk _ => hg.block k hk (by simp)⟩
    | some x =>
      obtain ⟨t1, t2⟩ := hrt x hr0
      rw [hr0] at hg
      exact .of_grown hg t2 (by rw [t1]; decide)
  have hvs : ∀ j, ({ m with vs := m.vs.set i v } : Mem).v j = if j = i then v else m.v j := fun j => getD_set _ _ _ _ _ (by rw [hf.lv]; exact hi)
  have hfs : ∀ j, (S.files.set i x).getD j ([], 0) = if j = i then x else S.files.getD j ([], 0) := fun j => getD_set _ _ _ _ _ hi
  refine ⟨⟨h.dB, h.nB, h.sB, h.ne, ?_, ?_, ?_, ?_, ⟨?_, ?_, ?_, ?_, ?_, ?_, ?_⟩⟩, k1.trans (.of_grown hg' (hf.base i hi) (mine_file hc1))⟩
  · exact (h.disk.keepT hg (fun x hx => by rw [(hrt x hx).1]; decide)).keepT hg' (by rintro x ⟨⟩; rw [ht]; decide)
  · exact map_keepT (map_keepT h.names hg (fun x hx => by rw [(hrt x hx).1]; decide)) hg' (by rintro x ⟨⟩; rw [ht]; decide)
  · exact map_keepT (map_keepT h.safe hg (fun x hx => by rw [(hrt x hx).1]; decide)) hg' (by rintro x ⟨⟩; rw [ht]; decide)
  · exact own_keepT (own_keepT h.pend hg (fun x hx => by rw [(hrt x hx).1]; decide)) hg' (by rintro x ⟨⟩; rw [ht]; decide)
  · simpa [YtmpginmdaeclaaaGreatDoor.setF] using hf.lb
  · simpa [YtmpginmdaeclaaaGreatDoor.setF] using hf.lv
  · intro j hj
    exact hf.base j (by simpa [YtmpginmdaeclaaaGreatDoor.setF] using hj)
  · intro j hj
    have hj' : j < S.files.length := by simpa [YtmpginmdaeclaaaGreatDoor.setF] using hj
    show Whole w' (m.b j) _ #[_, .int .i64 (((S.files.set i x).getD j ([], 0)).2 : Nat)]
    rw [hvs, hfs]
    by_cases e : j = i
    · subst e; simpa using hd
    · simp only [if_neg e]
      exact ((hf.cell j hj').keepT hg (fun x hx => by rw [(hrt x hx).1]; decide)).grown hg' (fun e' => e (hf.one j i hj' hi (Option.some.inj e')))
  · intro j hj
    have hj' : j < S.files.length := by simpa [YtmpginmdaeclaaaGreatDoor.setF] using hj
    show w'.ownsRow B _ 1 _ ((S.files.set i x).getD j ([], 0)).1.length (Lib.byteCells ((S.files.set i x).getD j ([], 0)).1)
    rw [hvs, hfs]
    by_cases e : j = i
    · subst e
      simp only [if_pos]
      exact own_keepT hv hg' (by rintro x ⟨⟩; rw [ht]; decide)
    · simp only [if_neg e]
      refine own_keepT ((hf.row j hj').kept hg ?_) hg' (by rintro x ⟨⟩; rw [ht]; decide)
      rcases hr with rfl | rfl
      · cases (m.v j).ownBlock <;> simp
      · exact hf.apart j i hj' hi e
  · intro j k hj hk
    exact hf.one j k (by simpa [YtmpginmdaeclaaaGreatDoor.setF] using hj) (by simpa [YtmpginmdaeclaaaGreatDoor.setF] using hk)
  · intro j k hj hk hne
    have hj' : j < S.files.length := by simpa [YtmpginmdaeclaaaGreatDoor.setF] using hj
    have hk' : k < S.files.length := by simpa [YtmpginmdaeclaaaGreatDoor.setF] using hk
    rw [hvs, hvs]
    by_cases e : j = i
    · subst e
      rw [if_pos rfl, if_neg (Ne.symm hne)]
      rcases hloc with hl | hl | ⟨g, hl, hg2⟩
      · exact .inl hl
      · rw [hl]; exact hf.apart j k hj' hk' hne
      · refine .inr ?_
        rw [hl]
        intro e'
        have := ((hf.row k hk').lt g e'.symm).2
        omega
    · rw [if_neg e]
      by_cases e2 : k = i
      · subst e2
        rw [if_pos rfl]
        rcases hloc with hl | hl | ⟨g, hl, hg2⟩
        · cases hv : (m.v j).ownBlock with
          | none => exact .inl rfl
          | some y => refine .inr ?_; rw [hl]; simp
        · rw [hl]; exact hf.apart j k hj' hk' hne
        · cases hv : (m.v j).ownBlock with
          | none => exact .inl rfl
          | some y =>
            refine .inr ?_
            rw [hl]
            intro e'
            have := ((hf.row j hj').lt y hv).2
            cases e'
            omega
      · rw [if_neg e2]; exact hf.apart j k hj' hk' hne
theorem ptrOf_more (bs : List Nat) (x : Nat) (f : Option Nat) (h : ∀ i, f = some i -> i < bs.length) : ptrOf (bs ++ [x]) f = ptrOf bs f := by
  cases f with
  | none => rfl
  | some i =>
    have := h i rfl
    simp [ptrOf, ptrA, List.getD, List.getElem?_append_left this]
theorem pcells_more (bs : List Nat) (x : Nat) (l : List Chg) (h : ∀ c ∈ l, ∀ i, c.f = some i -> i < bs.length) : pcells (bs ++ [x]) l = pcells bs l := by
  unfold pcells
  simp only [List.flatMap_def]
  congr 1
  refine List.map_congr_left fun c hc => ?_
  rw [ptrOf_more bs x c.f (h c hc)]
theorem At.newF {B d k M : Nat} {w : World} {m : Mem} {S : St} (h : At B w d m S) (F : Fit k M S) (hB : B <= w.heap.size) :
    At B (w.alloc (.cells #[nilV, .int .i64 0] 117)) d { m with bs := m.bs ++ [w.heap.size], vs := m.vs ++ [nilV] } (addF S) := by
  have h1 := h.alloc (.cells #[nilV, .int .i64 0] 117)
  have hf := h1.files
  have hbs : ∀ j, ({ m with bs := m.bs ++ [w.heap.size], vs := m.vs ++ [nilV] } : Mem).b j = if j = S.files.length then w.heap.size else m.b j := fun j => by
    rw [<-h.files.lb]; exact getD_snoc _ _ _ _
  have hvs : ∀ j, ({ m with bs := m.bs ++ [w.heap.size], vs := m.vs ++ [nilV] } : Mem).v j = if j = S.files.length then nilV else m.v j := fun j => by
    rw [<-h.files.lv]; exact getD_snoc _ _ _ _
  have hfs : ∀ j, (S.files ++ [([], 0)]).getD j ([], 0) = if j = S.files.length then ([], 0) else S.files.getD j ([], 0) := fun j => getD_snoc _ _ _ _
  have hlt : ∀ j, j < S.files.length -> m.b j < w.heap.size := fun j hj => (h.files.cell j hj).lt
  have hcase : ∀ j, j < (addF S).files.length -> j = S.files.length \/ j < S.files.length := fun j hj => by
    have : j < S.files.length + 1 := by simpa [addF] using hj
    omega
  refine ⟨h.dB, h.nB, h.sB, h.ne, h1.disk, ?_, ?_, ?_, ⟨?_, ?_, ?_, ?_, ?_, ?_, ?_⟩⟩
  · show World.ownsMap _ _ _ _ _ _ (dm (m.bs ++ [w.heap.size]) S.names)
    rw [dm_more _ _ _ (fun p hp => by rw [h.files.lb]; exact (F.idn p hp).1)]; exact h1.names
  · show World.ownsMap _ _ _ _ _ _ (dm (m.bs ++ [w.heap.size]) S.safe)
    rw [dm_more _ _ _ (fun p hp => by rw [h.files.lb]; exact (F.ids p hp).1)]; exact h1.safe
  · show World.ownsRow _ _ _ _ _ _ (pcells (m.bs ++ [w.heap.size]) S.pend)
    rw [pcells_more _ _ _ (fun c hc => by rw [h.files.lb]; exact (F.idp c hc).2)]; exact h1.pend
  · simp [addF, h.files.lb]
  · simp [addF, h.files.lv]
  · intro j hj
    rw [hbs]
    rcases hcase j hj with rfl | hj
    · simpa using hB
    · rw [if_neg (by omega)]; exact hf.base j hj
  · intro j hj
    show Whole _ _ _ #[_, .int .i64 (((S.files ++ [([], 0)]).getD j ([], 0)).2 : Nat)]
    rw [hbs, hvs, hfs]
    rcases hcase j hj with rfl | hj
    · simpa using Whole.new w 117 _
    · simp only [if_neg (show j ≠ S.files.length by omega)]; exact hf.cell j hj
  · intro j hj
    show World.ownsRow _ _ _ 1 _ ((S.files ++ [([], 0)]).getD j ([], 0)).1.length (Lib.byteCells ((S.files ++ [([], 0)]).getD j ([], 0)).1)
    rw [hvs, hfs]
    rcases hcase j hj with rfl | hj
    · rw [if_pos rfl, if_pos rfl]; exact World.ownsRow_nil _ B 5 1
    · simp only [if_neg (show j ≠ S.files.length by omega)]; exact hf.row j hj
  · intro i j hi hj
    rw [hbs, hbs]
    rcases hcase i hi with rfl | hi' <;> rcases hcase j hj with rfl | hj'
    · simp
    · rw [if_pos rfl, if_neg (by omega)]; have := hlt j hj'; omega
    · rw [if_neg (by omega), if_pos rfl]; have := hlt i hi'; omega
    · rw [if_neg (by omega), if_neg (by omega)]; exact hf.one i j hi' hj'
  · intro i j hi hj hne
    rw [hvs, hvs]
    rcases hcase i hi with rfl | hi' <;> rcases hcase j hj with rfl | hj'
    · exact absurd rfl hne
    · rw [if_pos rfl]; exact .inl rfl
    · rw [if_neg (by omega), if_pos rfl]
      cases hv : (m.v i).ownBlock with
      | none => exact .inl rfl
      | some y => exact .inr (by simp [Value.ownBlock])
    · rw [if_neg (by omega), if_neg (by omega)]; exact hf.apart i j hi' hj' hne
end Go.Proofs.YtmpginmdaeclaaaGreatDoor
namespace Go.Proofs.YtmpginmdaeclaaaGreatDoor
open Go.RowKit Go.Maps Go.Sort
abbrev dptr (d : Nat) : Value := .pointer (some ⟨d, 0, none⟩)
def qB (n : Int) : Bool := decide (0 <= n) && decide (n <= 1099511627776)
theorem isQuota_any (n : Int) (w : World) : Calls Tryz.prog 30 #[.int .i64 n] w fun e w' => e = .returned (.bool (qB n)) /\ w = w' := by
  by_cases h1 : (0 : Int) <= n
  · go_enter Tryz.func30, Tryz.ntmps30
    go_wp2
    go_ret
    exact ⟨by simp [qB, h1], rfl⟩
  · have e1 : decide (0 <= n) = false := by simpa using h1
    go_enter Tryz.func30, Tryz.ntmps30
    go_wp2
    go_ret
    exact ⟨by simp [qB, e1], rfl⟩
theorem gset2 (w : World) (g i j : Nat) (u v : Value) : w.grownBy ((w.setCell ⟨g, i, none⟩ u).setCell ⟨g, j, none⟩ v) (some g) :=
  ⟨rfl, rfl, rfl, by simp [World.setCell], fun k _ hne => by
    rw [Below.heap_setCell _ _ _ _ (fun e => hne (by rw [e])), Below.heap_setCell _ _ _ _ (fun e => hne (by rw [e]))]⟩
theorem At.put2 {B d : Nat} {w : World} {m : Mem} {S : St} (h : At B w d m S) (l : Nat) (dn : Bool) (x : Int) (hx : x = (l : Nat)) :
    At B ((w.setCell ⟨d, 4, none⟩ (.int .i64 x)).setCell ⟨d, 5, none⟩ (.bool dn)) d m { S with left := l, down := dn } /\ Kept B w ((w.setCell ⟨d, 4, none⟩ (.int .i64 x)).setCell ⟨d, 5, none⟩ (.bool dn)) := by
  subst hx
  exact h.setD (gset2 _ _ _ _ _ _) (by have := (h.disk.put 4 (.int .i64 (l : Nat))).put 5 (.bool dn); simpa [dcells] using this) rfl rfl rfl rfl
theorem count_any {B d : Nat} {m : Mem} {S : St} {w : World} (h : At B w d m S) (hl : (S.left : Int) <= 9223372036854775807) :
    Calls Tryz.prog 58 #[dptr d] w fun e w' => e = .returned (.tuple #[]) /\ At B w' d m (count S) /\ Kept B w w' := by
  have c4 : w.cell? ⟨d, 4, none⟩ = some (.int .i64 (S.left : Nat)) := by rw [h.disk.cell]; rfl
  have c5 : w.cell? ⟨d, 5, none⟩ = some (.bool S.down) := by rw [h.disk.cell]; rfl
  have f4 := h.disk.frozen 4
  have f5 := h.disk.frozen 5
  by_cases h0 : S.left = 0
  · have e0 : ((S.left : Nat) : Int) = 0 := by omega
    rw [e0] at c4
    have hR : Hid (At B w d m (count S)) := Ha (by unfold count; rw [if_pos h0]; exact h)
    clear e0 h0 hl; go_enter Tryz.func58, Tryz.ntmps58
    go_wp2
    refine bodyPost_ret (results_none rfl _ _ _) rfl ?_
    exact ⟨rfl, hR.out, Kept.refl _ _⟩
  · have h1 : (1 : Int) <= (S.left : Nat) := by omega
    have e0 : ((S.left : Nat) : Int) ≠ 0 := by omega
    have hH := Ha h
    clear h h0; go_enter Tryz.func58, Tryz.ntmps58
    go_wp2
    go_end0
    obtain ⟨r1, r2⟩ := At.put2 hH.out (S.left - 1) (((S.left : Nat) : Int) - 1 == 0) (((S.left : Nat) : Int) - 1) (by omega)
    refine ⟨rfl, ?_, r2⟩
    have he : count S = { S with left := S.left - 1, down := (((S.left : Nat) : Int) - 1 == 0) } := by
      unfold count; rw [if_neg (by omega)]
      congr 1
      rw [Bool.eq_iff_iff]
      simp only [decide_eq_true_eq, beq_iff_eq]
      omega
    rw [he]; exact r1
def okAll (xs : List ByteArray) : Bool := xs.all fun s => isN s.data.toList
def chkE (S : St) (xs : List ByteArray) : Int := if S.down then 5 else if okAll xs then 0 else 1
theorem size_len (s : ByteArray) : s.data.toList.length = s.size := by rw [Array.length_toList]; rfl
theorem isN_size (s : ByteArray) : isN s.data.toList = (decide (1 <= s.size) && decide (s.size <= 64)) := by unfold isN; rw [size_len]
theorem okAll_bad {xs : List ByteArray} {k : Nat} {s : ByteArray} (h : xs[k]? = some s) (hs : isN s.data.toList = false) : okAll xs = false := by
  cases ho : okAll xs
  · rfl
  · have := (List.all_eq_true.1 ho) s (List.mem_of_getElem? h)
    rw [hs] at this; cases this
theorem dkTake_ok {xs : List ByteArray} {k : Nat} {s : ByteArray} (h : xs[k]? = some s) (hk : okAll (xs.take k) = true) (hs : isN s.data.toList = true) : okAll (xs.take (k + 1)) = true := by
  unfold okAll at *
  rw [List.take_add_one, h, List.all_append, hk]
  simp [hs]
theorem dkCheck_any {B d B' n c : Nat} {m : Mem} {S : St} {w : World} (h : At B w d m S) (A : Option Addr) (xs : List ByteArray) (hs : Sees w B' A n (xs.map Value.string)) (hn : n <= 1000000) :
    Calls Tryz.prog 55 #[dptr d, .slice A n c] w fun e w' => e = .returned (.int .i64 (chkE S xs)) /\ w = w' := by
  have c5 : w.cell? ⟨d, 5, none⟩ = some (.bool S.down) := by rw [h.disk.cell]; rfl
  have hlen : xs.length = n := by simpa using hs.len
  have hS := Ha hs
  clear h hs
  cases hd : S.down
  · have hE : Hid (chkE S xs = if okAll xs then 0 else 1) := Ha (by unfold chkE; rw [hd]; rfl)
    rw [hd] at c5
    clear hd; go_enter Tryz.func55, Tryz.ntmps55
    go_wp2
    go_loop [13] (fun i => ∃ k : Nat, k <= n /\ i = .int .i64 k /\ okAll (xs.take k) = true) (fun i => n - (intOf i).toNat)
    case atStart => exact ⟨0, Nat.zero_le _, rfl, rfl⟩
    case round =>
      obtain ⟨k, hk, rfl, hok⟩ := hrel
      have hO := Ha hok
      clear hok
      by_cases hlt : k < n
      · obtain ⟨s, hx⟩ : ∃ s, xs[k]? = some s := ⟨xs[k]'(by omega), List.getElem?_eq_getElem (by omega)⟩
        obtain ⟨b, off, rfl, _, hc⟩ := hS.out.addr (by omega)
        have hc1 := hc k (.string s) (by rw [List.getElem?_map, hx]; rfl)
        have hX := Ha hx
        have hlk : (k : Int) < (n : Int) := by omega
        clear hc hx
        by_cases h0 : s.size = 0
        · have hse : s = ⟨#[]⟩ := ByteArray.ext (Array.eq_empty_of_size_eq_zero h0)
          subst hse; have hR : Hid (chkE S xs = 1) := Ha (by rw [hE.out, okAll_bad hX.out (by rw [isN_size]; rfl)]; rfl)
          clear h0; go_wp2
          go_ret
          exact ⟨by rw [hR.out]; rfl, rfl⟩
        · have hne := not_empty h0
          by_cases h64 : (s.size : Int) <= 64
          · have hN : Hid (isN s.data.toList = true) := Ha (by rw [isN_size]; simp; omega)
            clear h0; go_wp2
            go_round
            case rel => exact ⟨k + 1, by omega, by go_num, dkTake_ok hX.out hO.out hN.out⟩
            case measure => simp [intOf]; omega
          · have hR : Hid (chkE S xs = 1) := Ha (by rw [hE.out, okAll_bad hX.out (by rw [isN_size]; simp; omega)]; rfl)
            clear h0; go_wp2
            go_ret
            exact ⟨by rw [hR.out]; rfl, rfl⟩
      · obtain rfl : k = n := by omega
        have hR : Hid (chkE S xs = 0) := Ha (by rw [hE.out]; have := hO.out; rw [List.take_of_length_le (by omega)] at this; rw [this]; rfl)
        go_wp2
        go_ret
        exact ⟨by rw [hR.out]; rfl, rfl⟩
  · have hE : Hid (chkE S xs = 5) := Ha (by unfold chkE; rw [hd]; rfl)
    rw [hd] at c5
    clear hd; go_enter Tryz.func55, Tryz.ntmps55
    go_wp2
    go_ret
    exact ⟨by rw [hE.out]; rfl, rfl⟩
end Go.Proofs.YtmpginmdaeclaaaGreatDoor
