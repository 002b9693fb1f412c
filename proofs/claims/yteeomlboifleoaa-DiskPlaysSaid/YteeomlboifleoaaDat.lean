/- The disk as plain data, by the chapter, and how its names stand as a map's entries. No statement of the seat is proved here. -/
import Derived.Maps.RangeWalk
import Derived.Sort.KeysCollected
namespace Go.Proofs.Yteeomlboifleoaa
open Go.Maps

abbrev Bys := List UInt8
abbrev Nms := List (Bys × Nat)
def delN (N : Nms) (k : Bys) : Nms := N.filter fun p => !(p.1 == k)
def insN (x : Bys × Nat) : Nms → Nms
  | [] => [x]
  | y :: r => if bytesBefore x.1 y.1 then x :: y :: r else y :: insN x r
def putN (N : Nms) (k : Bys) (f : Nat) : Nms := insN (k, f) (delN N k)
def findN (N : Nms) (k : Bys) : Option Nat := (N.find? fun p => p.1 == k).map (·.2)

/-- a change of names that waits: src ceases, dst refers to the file -/
structure Chg where
  src : Bys
  dst : Bys
  f : Option Nat
def Chg.app (c : Chg) (N : Nms) : Nms := match c.f with | some i => putN (delN N c.src) c.dst i | none => delN N c.src
def Chg.wf (c : Chg) : Prop := (c.f = none ↔ c.dst = []) ∧ c.src.length ≤ 64 ∧ c.dst.length ≤ 64

structure St where
  quota : Int
  files : List (Bys × Nat)
  names : Nms
  safe : Nms
  pend : List Chg
  left : Nat
  down : Bool
def St.new (q : Int) : St := ⟨q, [], [], [], [], 0, false⟩
def lenOf (S : St) (i : Nat) : Nat := (S.files.getD i ([], 0)).1.length
def used (S : St) : Nat := (S.names.map fun p => lenOf S p.2).sum
def count (S : St) : St := if S.left = 0 then S else { S with left := S.left - 1, down := decide (S.left - 1 = 0) }
def isN (s : Bys) : Bool := decide (1 ≤ s.length) && decide (s.length ≤ 64)
def chg (S : St) (c : Chg) : St := { S with names := c.app S.names, pend := S.pend ++ [c] }
def addF (S : St) : St := { S with files := S.files ++ [([], 0)] }
def setF (S : St) (i : Nat) (x : Bys × Nat) : St := { S with files := S.files.set i x }
def fileAt (S : St) (i : Nat) : Bys × Nat := S.files.getD i ([], 0)
def addB (S : St) (i : Nat) (b : Bys) : St := setF S i ((fileAt S i).1 ++ b, (fileAt S i).2)
def runs (l : List Chg) (N : Nms) : Nms := l.foldl (fun N c => c.app N) N
def settle (S : St) (n : Nat) : St := { S with safe := runs (S.pend.take n) S.safe, pend := [] }

def appendS (S : St) (nm b : Bys) : St × Int :=
  if S.down then (S, 5) else if isN nm then
    if (b.length : Int) > S.quota - used S then (S, 4) else
    match findN S.names nm with
    | some i => (count (addB S i b), 0)
    | none => (count (addB (chg (addF S) ⟨[], nm, some S.files.length⟩) S.files.length b), 0)
  else (S, 1)
/-- what a call with these names answers before it does anything: an error, or the first one's file -/
def openS (S : St) (nm : Bys) (ok : Bool) : Nat × Int :=
  if S.down then (0, 5) else if ok then (match findN S.names nm with | some i => (i, 0) | none => (0, 6)) else (0, 1)
def syncS (S : St) (nm : Bys) : St × Int :=
  if (openS S nm (isN nm)).2 = 0 then
    (count (setF S (openS S nm (isN nm)).1 ((fileAt S (openS S nm (isN nm)).1).1, lenOf S (openS S nm (isN nm)).1)), 0)
  else (S, (openS S nm (isN nm)).2)
def syncDirS (S : St) : St × Int := if S.down then (S, 5) else (count (settle S S.pend.length), 0)
def renameS (S : St) (a b : Bys) : St × Int :=
  if (openS S a (isN a && isN b)).2 = 0 then (count (chg S ⟨a, b, some (openS S a (isN a && isN b)).1⟩), 0) else (S, (openS S a (isN a && isN b)).2)
def removeS (S : St) (a : Bys) : St × Int :=
  if (openS S a (isN a)).2 = 0 then (count (chg S ⟨a, [], none⟩), 0) else (S, (openS S a (isN a)).2)
def readS (S : St) (a : Bys) : Bys × Int :=
  if (openS S a (isN a)).2 = 0 then ((fileAt S (openS S a (isN a)).1).1, 0) else ([], (openS S a (isN a)).2)
def breakS (S : St) (n : Int) : St × Int :=
  if n < 0 then (S, 1) else if n = 0 then ({ S with left := 0, down := true }, 0) else ({ S with left := n.toNat }, 0)
def lose (S : St) (i c : Nat) : St :=
  setF S i ((fileAt S i).1.take ((fileAt S i).2 + c * ((fileAt S i).1.length - (fileAt S i).2 + 1) / 256), (fileAt S i).2 + c * ((fileAt S i).1.length - (fileAt S i).2 + 1) / 256)
def head (ch : Bys) : Nat := (ch.headD 0).toNat
def loses : St → Nms → Bys → St
  | S, [], _ => S
  | S, p :: r, ch => loses (lose S p.2 (head ch)) r ch.tail
def restart1 (S : St) (ch : Bys) : St := settle S (head ch % (S.pend.length + 1))
def restart2 (S : St) (ch : Bys) : St := { restart1 S ch with names := (restart1 S ch).safe }
def restartS (S : St) (ch : Bys) : St := { loses (restart2 S ch) (restart2 S ch).names ch.tail with left := 0, down := false }

/-! ### the names as a map's entries -/
def ent (bs : List Nat) (p : Bys × Nat) : Lit × DataW Unit := (.string p.1, .lit (.int .i64 (bs.getD p.2 0 : Nat)))
def dm (bs : List Nat) (N : Nms) : DataW Unit := .map (N.map (ent bs))
theorem same_string (a b : Bys) : (Lit.string a).sameKey (.string b) = (a == b) := rfl
theorem dm_del (bs : List Nat) (N : Nms) (k : Bys) : (dm bs N).del (.string k) = dm bs (delN N k) := by
  show DataW.map _ = DataW.map _
  congr 1
  unfold delN
  rw [List.filter_map]
  rfl
theorem ins_map (bs : List Nat) (x : Bys × Nat) : ∀ N : Nms, DataW.insert (ent bs x) (N.map (ent bs)) = (insN x N).map (ent bs)
  | [] => rfl
  | y :: r => by
    show (if bytesBefore x.1 y.1 = true then _ else _) = _
    unfold insN
    split
    · rfl
    · rw [List.map_cons]
      exact congrArg _ (ins_map bs x r)
theorem dm_put (bs : List Nat) (N : Nms) (k : Bys) (f : Nat) : (dm bs N).put (.string k) (.lit (.int .i64 (bs.getD f 0 : Nat))) = dm bs (putN N k f) := by
  show DataW.map (DataW.insert (ent bs (k, f)) _) = _
  unfold putN dm
  rw [← ins_map]
  congr 2
  unfold delN
  rw [List.filter_map]
  rfl
theorem dm_has (bs : List Nat) (N : Nms) (k : Bys) : Maps.has (dm bs N) (.string k) = (findN N k).isSome := by
  unfold findN dm
  rw [Maps.has_eq, List.any_map, Option.isSome_map, Bool.eq_iff_iff, List.find?_isSome, List.any_eq_true]
  rfl
theorem dm_at (bs : List Nat) (N : Nms) (k : Bys) (z : DataW Unit) : (dm bs N).atKey (.string k) z = match findN N k with | some f => .lit (.int .i64 (bs.getD f 0 : Nat)) | none => z := by
  unfold dm findN
  simp only [DataW.atKey]
  rw [List.find?_map, show ((fun p : Lit × DataW Unit => p.1.sameKey (.string k)) ∘ ent bs) = fun p => p.1 == k from rfl]
  cases N.find? fun p => p.1 == k <;> rfl
theorem dm_size (bs : List Nat) (N : Nms) : Maps.size (dm bs N) = N.length := by simp [Maps.size, dm]
theorem dm_keys (bs : List Nat) (N : Nms) : strKeys (dm bs N) = N.map (·.1) := by
  simp [strKeys, dm, ent, strOf]
theorem dm_more (bs : List Nat) (x : Nat) (N : Nms) (h : ∀ p ∈ N, p.2 < bs.length) : dm (bs ++ [x]) N = dm bs N := by
  unfold dm
  congr 1
  refine List.map_congr_left fun p hp => ?_
  simp [ent, List.getD, List.getElem?_append_left (h p hp)]

/-- how an element of the map reads: a pointer to the first cell of a block -/
def ptrR : Value → Option (DataW Unit × List MemPlace)
  | .pointer (some ⟨b, 0, none⟩) => some (.lit (.int .i64 (b : Nat)), [])
  | .pointer none => some (.lit (.int .i64 (-1)), [])
  | _ => none
theorem ptrR_mk (b : Nat) : ptrR (.pointer (some ⟨b, 0, none⟩)) = some (.lit (.int .i64 (b : Nat)), []) := rfl
theorem ptrR_none : ptrR (.pointer none) = some (.lit (.int .i64 (-1)), []) := rfl
theorem ptrR_inv {v : Value} {b : Nat} {ps : List MemPlace} (h : ptrR v = some (.lit (.int .i64 (b : Nat)), ps)) : v = .pointer (some ⟨b, 0, none⟩) := by
  unfold ptrR at h
  split at h
  · simp only [Option.some.injEq, Prod.mk.injEq, DataW.lit.injEq, Lit.int.injEq, true_and] at h
    rename_i b'
    obtain rfl : b' = b := by have := h.1; omega
    rfl
  · simp only [Option.some.injEq, Prod.mk.injEq, DataW.lit.injEq, Lit.int.injEq, true_and] at h
    have := h.1; omega
  · cases h
theorem ptrR_none_inv {v : Value} {ps : List MemPlace} (h : ptrR v = some (.lit (.int .i64 (-1)), ps)) : v = .pointer none := by
  unfold ptrR at h
  split at h
  · simp only [Option.some.injEq, Prod.mk.injEq, DataW.lit.injEq, Lit.int.injEq, true_and] at h
    have := h.1; omega
  · rfl
  · cases h

/-! ### small facts on names -/
theorem mem_insN {x q : Bys × Nat} : ∀ {N : Nms}, q ∈ insN x N ↔ q = x ∨ q ∈ N
  | [] => by simp [insN]
  | y :: r => by
    unfold insN
    split
    · simp
    · simp only [List.mem_cons, mem_insN (N := r)]
      constructor
      · rintro (h | h | h)
        · exact .inr (.inl h)
        · exact .inl h
        · exact .inr (.inr h)
      · rintro (h | h | h)
        · exact .inr (.inl h)
        · exact .inl h
        · exact .inr (.inr h)
theorem length_insN (x : Bys × Nat) : ∀ N : Nms, (insN x N).length = N.length + 1
  | [] => rfl
  | y :: r => by
    unfold insN
    split
    · simp
    · simp [length_insN x r]
theorem mem_delN {N : Nms} {k : Bys} {q : Bys × Nat} (h : q ∈ delN N k) : q ∈ N := (List.mem_filter.1 h).1
theorem mem_delN_iff {N : Nms} {k : Bys} {q : Bys × Nat} : q ∈ delN N k ↔ q ∈ N ∧ q.1 ≠ k := by
  simp [delN]
theorem length_delN (N : Nms) (k : Bys) : (delN N k).length ≤ N.length := List.length_filter_le _ _
theorem mem_app {c : Chg} {N : Nms} {q : Bys × Nat} (h : q ∈ c.app N) : q ∈ N ∨ (c.f = some q.2 ∧ q.1 = c.dst) := by
  unfold Chg.app at h
  cases hf : c.f with
  | none => rw [hf] at h; exact .inl (mem_delN h)
  | some i =>
    rw [hf] at h
    rcases mem_insN.1 h with rfl | h
    · exact .inr ⟨rfl, rfl⟩
    · exact .inl (mem_delN (mem_delN h))
theorem length_app (c : Chg) (N : Nms) : (c.app N).length ≤ N.length + 1 := by
  unfold Chg.app
  cases c.f with
  | none => exact Nat.le_succ_of_le (length_delN _ _)
  | some i =>
    show (insN _ _).length ≤ _
    rw [length_insN]
    have := length_delN (delN N c.src) c.dst
    have := length_delN N c.src
    omega
theorem findN_mem {N : Nms} {k : Bys} {i : Nat} (h : findN N k = some i) : (k, i) ∈ N := by
  unfold findN at h
  cases hf : N.find? (fun p => p.1 == k) with
  | none => rw [hf] at h; cases h
  | some p =>
    rw [hf] at h
    have h1 := List.find?_some hf
    have h2 := List.mem_of_find?_eq_some hf
    simp only [Option.map_some, Option.some.injEq] at h
    simp only [beq_iff_eq] at h1
    obtain ⟨a, b⟩ := p
    simp only at h h1
    subst h h1
    exact h2
theorem runs_nil (N : Nms) : runs [] N = N := rfl
theorem runs_cons (c : Chg) (l : List Chg) (N : Nms) : runs (c :: l) N = runs l (c.app N) := rfl
theorem runs_snoc (l : List Chg) (c : Chg) (N : Nms) : runs (l ++ [c]) N = c.app (runs l N) := by simp [runs]
theorem mem_runs : ∀ {l : List Chg} {N : Nms} {q : Bys × Nat}, q ∈ runs l N → q ∈ N ∨ ∃ c ∈ l, c.f = some q.2 ∧ q.1 = c.dst
  | [], _, _, h => .inl h
  | c :: l, N, q, h => by
    rcases mem_runs (l := l) h with h | ⟨c', h1, h2⟩
    · rcases mem_app h with h | h
      · exact .inl h
      · exact .inr ⟨c, by simp, h⟩
    · exact .inr ⟨c', by simp [h1], h2⟩
theorem length_runs : ∀ (l : List Chg) (N : Nms), (runs l N).length ≤ N.length + l.length
  | [], _ => by simp [runs]
  | c :: l, N => by
    have h1 := length_runs l (c.app N)
    have h2 := length_app c N
    rw [runs_cons]
    simp only [List.length_cons]
    omega

/-! ### what is small -/
structure Fit (k M : Nat) (S : St) : Prop where
  nn : S.names.length ≤ k
  nr : ∀ n, (runs (S.pend.take n) S.safe).length ≤ k
  np : S.pend.length ≤ k
  nf : S.files.length ≤ k
  fl : ∀ x ∈ S.files, x.1.length ≤ M ∧ x.2 ≤ x.1.length
  idn : ∀ p ∈ S.names, p.2 < S.files.length ∧ p.1.length ≤ 64
  ids : ∀ p ∈ S.safe, p.2 < S.files.length ∧ p.1.length ≤ 64
  idp : ∀ c ∈ S.pend, c.wf ∧ ∀ i, c.f = some i → i < S.files.length
  lf : (S.left : Int) ≤ 9223372036854775807

theorem Fit.ns {k M : Nat} {S : St} (h : Fit k M S) : S.safe.length ≤ k := h.nr 0
theorem Fit.mono {k M k' M' : Nat} {S : St} (h : Fit k M S) (hk : k ≤ k') (hM : M ≤ M') : Fit k' M' S :=
  ⟨Nat.le_trans h.nn hk, fun n => Nat.le_trans (h.nr n) hk, Nat.le_trans h.np hk, Nat.le_trans h.nf hk, fun x hx => ⟨Nat.le_trans (h.fl x hx).1 hM, (h.fl x hx).2⟩, h.idn, h.ids, h.idp, h.lf⟩
theorem Fit.new (q : Int) : Fit 0 0 (St.new q) := ⟨Nat.le_refl _, fun n => by simp [St.new, runs], Nat.le_refl _, Nat.le_refl _, by simp [St.new], by simp [St.new], by simp [St.new], by simp [St.new], by simp [St.new]⟩
theorem Fit.count {k M : Nat} {S : St} (h : Fit k M S) : Fit k M (count S) := by
  unfold Yteeomlboifleoaa.count
  split
  · exact h
  · exact ⟨h.nn, h.nr, h.np, h.nf, h.fl, h.idn, h.ids, h.idp, by have := h.lf; simp only; omega⟩
end Go.Proofs.Yteeomlboifleoaa
