/- How a disk lies in memory, and what keeps it so. No statement of the seat is proved here. -/
import Derived.Test.YteeomlboifleoaaShf
import Derived.Deep.Draws
namespace Go.Proofs.Yteeomlboifleoaa
open Go.RowKit Go.Maps Go.Sort

def typ : Option Obj → Nat
  | some (.cells _ t _) => t
  | some (.map _ _) => 1000000
  | _ => 1000001
def mineT (t : Nat) : Bool := t == 63 || t == 100 || t == 85 || t == 5 || t == 1000000
/-- of what was there, only a disk's own memory (from block B on) may have turned -/
structure Kept (B : Nat) (w w' : World) : Prop where
  os : w'.os = w.os
  tape : w'.tape = w.tape
  output : w'.output = w.output
  size : w.heap.size ≤ w'.heap.size
  block : ∀ k, k < w.heap.size → (k < B ∨ mineT (typ w.heap[k]?) = false) → w'.heap[k]? = w.heap[k]?
theorem Kept.refl (B : Nat) (w : World) : Kept B w w := ⟨rfl, rfl, rfl, Nat.le_refl _, fun _ _ _ => rfl⟩
theorem Kept.trans {B : Nat} {a b c : World} (h : Kept B a b) (k : Kept B b c) : Kept B a c :=
  ⟨k.os.trans h.os, k.tape.trans h.tape, k.output.trans h.output, Nat.le_trans h.size k.size, fun i hi hm =>
    (k.block i (Nat.lt_of_lt_of_le hi h.size) (by rw [h.block i hi hm]; exact hm)).trans (h.block i hi hm)⟩
theorem Kept.of_below {B : Nat} {w w' : World} (h : Below w.heap.size w w') : Kept B w w' := ⟨h.os, h.tape, h.output, h.size, fun k hk _ => h.block k hk⟩
theorem Kept.of_grown {B : Nat} {w w' : World} {g : Nat} (h : w.grownBy w' (some g)) (hB : B ≤ g) (hm : mineT (typ w.heap[g]?) = true) : Kept B w w' :=
  ⟨h.os, h.tape, h.output, h.size, fun k hk hc => h.block k hk (by
    rintro ⟨⟩
    rcases hc with hc | hc
    · omega
    · rw [hm] at hc; cases hc)⟩
theorem Kept.alloc {B : Nat} {a w : World} (h : Kept B a w) (o : Obj) : Kept B a (w.alloc o) := h.trans (.of_below ((Below.refl _ w).alloc (Nat.le_refl _) o))
theorem Kept.drewN {B : Nat} {a w : World} (h : Kept B a w) (n : Nat) : Kept B a (w.drewN n) := ⟨h.os, h.tape, h.output, h.size, h.block⟩
theorem Kept.drew {B : Nat} {a w : World} (h : Kept B a w) : Kept B a w.drew := ⟨h.os, h.tape, h.output, h.size, h.block⟩
theorem Kept.below {B : Nat} {w w' : World} (h : Kept B w w') (hB : B ≤ w.heap.size) : Below B w w' :=
  ⟨h.os, h.tape, h.output, h.size, fun k hk => h.block k (by omega) (.inl hk)⟩
theorem Kept.whole {B : Nat} {w w' : World} (h : Kept B w w') {g t : Nat} {cs : Array Value} (hw : Whole w g t cs) (ht : mineT t = false) : Whole w' g t cs := by
  have hl := hw.lt
  unfold Whole at hw ⊢
  rw [h.block g hl (.inr (by rw [hw]; exact ht))]
  exact hw
theorem Kept.own {B : Nat} {w w' : World} (h : Kept B w w') {base e size n : Nat} {v : Value} {xs : List Value} (ho : w.ownsRow base e size v n xs) (ht : mineT e = false) : w'.ownsRow base e size v n xs := by
  obtain ⟨h1, h2⟩ := ho
  refine ⟨h1, ?_⟩
  rcases h2 with h2 | ⟨g, cap, cur, hv, hg, hh, r⟩
  · exact .inl h2
  · exact .inr ⟨g, cap, cur, hv, hg, h.whole (g := g) hh ht, r⟩

/-! ### one block has turned -/
theorem gset (w : World) (p : Addr) (u : Value) : w.grownBy (w.setCell p u) (some p.block) :=
  ⟨rfl, rfl, rfl, by simp [World.setCell], fun k _ hne => Below.heap_setCell _ _ _ _ (fun e => hne (by rw [e]))⟩
theorem gof {w w' : World} (h : Below w.heap.size w w') : w.grownBy w' none := ⟨h.os, h.tape, h.output, h.size, fun k hk _ => h.block k hk⟩
theorem whole_typ {w : World} {g t : Nat} {cs : Array Value} (h : Whole w g t cs) : typ w.heap[g]? = t := by unfold Whole at h; rw [h]; rfl
theorem own_typ {w : World} {base e size n : Nat} {v : Value} {xs : List Value} (h : w.ownsRow base e size v n xs) {g : Nat} (hg : v.ownBlock = some g) : typ w.heap[g]? = e := by
  rcases h.2 with ⟨rfl, _⟩ | ⟨g', cap, cur, rfl, _, hh, _⟩
  · simp [Value.ownBlock] at hg
  · obtain rfl : g' = g := by simpa [Value.ownBlock] using hg
    rw [hh]; rfl
theorem map_typ {w : World} {k b n : Nat} {R : Value → Option (DataW Unit × List MemPlace)} {D : DataW Unit} (h : w.ownsMap Try.prog k R b n D) : typ w.heap[b]? = 1000000 := by
  obtain ⟨es, clock, hb, _⟩ := h
  rw [hb]; rfl
theorem Whole.keepT {w w' : World} {g t : Nat} {cs : Array Value} {r : Option Nat} (h : Whole w g t cs) (hg : w.grownBy w' r) (hn : ∀ x, r = some x → typ w.heap[x]? ≠ t) : Whole w' g t cs :=
  h.grown hg (by rintro rfl; exact hn g rfl (whole_typ h))
theorem own_keepT {w w' : World} {base e size n : Nat} {v : Value} {xs : List Value} {r : Option Nat} (h : w.ownsRow base e size v n xs) (hg : w.grownBy w' r) (hn : ∀ x, r = some x → typ w.heap[x]? ≠ e) : w'.ownsRow base e size v n xs := by
  refine h.kept hg ?_
  cases hv : v.ownBlock with
  | none => exact .inl rfl
  | some x =>
    refine .inr ?_
    rintro rfl
    exact hn x rfl (own_typ h hv)
theorem map_keepT {w w' : World} {k b n : Nat} {R : Value → Option (DataW Unit × List MemPlace)} {D : DataW Unit} {r : Option Nat} (h : w.ownsMap Try.prog k R b n D) (hg : w.grownBy w' r) (hn : ∀ x, r = some x → typ w.heap[x]? ≠ 1000000) : w'.ownsMap Try.prog k R b n D :=
  h.kept hg (by rintro rfl; exact hn b rfl (map_typ h))
theorem map_tight {w : World} {k b n : Nat} {R : Value → Option (DataW Unit × List MemPlace)} {D : DataW Unit} (h : w.ownsMap Try.prog k R b n D) : w.ownsMap Try.prog k R b (Maps.size D) D := by
  obtain ⟨es, clock, hb, F, _, rfl⟩ := h
  refine ⟨es, clock, hb, F, ?_, rfl⟩
  simp [Maps.size, length_sorted]

/-! ### the disk in memory -/
structure Mem where
  nm : Nat
  sm : Nat
  pv : Value
  bs : List Nat
  vs : List Value
abbrev nilV : Value := .slice none 0 0
def Mem.b (m : Mem) (i : Nat) : Nat := m.bs.getD i 0
def Mem.v (m : Mem) (i : Nat) : Value := m.vs.getD i nilV
def ptrA (bs : List Nat) : Option Nat → Option Addr
  | none => none
  | some i => some ⟨bs.getD i 0, 0, none⟩
def ptrOf (bs : List Nat) (f : Option Nat) : Value := .pointer (ptrA bs f)
def pcells (bs : List Nat) (l : List Chg) : List Value := l.flatMap fun c => [Go.Proofs.encStr c.src, Go.Proofs.encStr c.dst, ptrOf bs c.f]
abbrev dcells (m : Mem) (S : St) : Array Value := #[.int .i64 S.quota, .map (some m.nm), .map (some m.sm), m.pv, .int .i64 (S.left : Nat), .bool S.down]
/-- the files -/
structure FilesAt (B : Nat) (w : World) (m : Mem) (fs : List (Bys × Nat)) : Prop where
  lb : m.bs.length = fs.length
  lv : m.vs.length = fs.length
  base : ∀ i, i < fs.length → B ≤ m.b i
  cell : ∀ i, i < fs.length → Whole w (m.b i) 85 #[m.v i, .int .i64 ((fs.getD i ([], 0)).2 : Nat)]
  row : ∀ i, i < fs.length → w.ownsRow B 5 1 (m.v i) (fs.getD i ([], 0)).1.length (Lib.byteCells (fs.getD i ([], 0)).1)
  one : ∀ i j, i < fs.length → j < fs.length → m.b i = m.b j → i = j
  apart : ∀ i j, i < fs.length → j < fs.length → i ≠ j → (m.v i).ownBlock = none ∨ (m.v i).ownBlock ≠ (m.v j).ownBlock
structure At (B : Nat) (w : World) (d : Nat) (m : Mem) (S : St) : Prop where
  dB : B ≤ d
  nB : B ≤ m.nm
  sB : B ≤ m.sm
  ne : m.nm ≠ m.sm
  disk : Whole w d 63 (dcells m S)
  names : w.ownsMap Try.prog 9 ptrR m.nm S.names.length (dm m.bs S.names)
  safe : w.ownsMap Try.prog 9 ptrR m.sm S.safe.length (dm m.bs S.safe)
  pend : w.ownsRow B 100 3 m.pv S.pend.length (pcells m.bs S.pend)
  files : FilesAt B w m S.files
def DiskAt (B : Nat) (w : World) (d : Nat) (S : St) : Prop := ∃ m, At B w d m S

theorem FilesAt.keep {B : Nat} {w w' : World} {m : Mem} {fs : List (Bys × Nat)} {r : Option Nat} (h : FilesAt B w m fs) (hg : w.grownBy w' r) (h1 : ∀ x, r = some x → typ w.heap[x]? ≠ 85 ∧ typ w.heap[x]? ≠ 5) : FilesAt B w' m fs :=
  ⟨h.lb, h.lv, h.base, fun i hi => (h.cell i hi).keepT hg fun x hx => (h1 x hx).1, fun i hi => own_keepT (h.row i hi) hg fun x hx => (h1 x hx).2, h.one, h.apart⟩
theorem FilesAt.mem {B : Nat} {w : World} {m m' : Mem} {fs : List (Bys × Nat)} (h : FilesAt B w m fs) (hb : m'.bs = m.bs) (hv : m'.vs = m.vs) : FilesAt B w m' fs := by
  obtain ⟨a, b, c, bs, vs⟩ := m
  obtain ⟨a', b', c', bs', vs'⟩ := m'
  simp only at hb hv
  subst hb hv
  exact ⟨h.lb, h.lv, h.base, h.cell, h.row, h.one, h.apart⟩
theorem At.same {B d : Nat} {w w' : World} {m : Mem} {S : St} (h : At B w d m S) (hb : Below w.heap.size w w') : At B w' d m S := by
  have hg := gof hb
  exact ⟨h.dB, h.nB, h.sB, h.ne, h.disk.keepT hg (by simp), map_keepT h.names hg (by simp), map_keepT h.safe hg (by simp), own_keepT h.pend hg (by simp), h.files.keep hg (by simp)⟩
theorem DiskAt.same {B d : Nat} {w w' : World} {S : St} (h : DiskAt B w d S) (hb : Below w.heap.size w w') : DiskAt B w' d S := by
  obtain ⟨m, h⟩ := h
  exact ⟨m, h.same hb⟩
theorem At.drewN {B d : Nat} {w : World} {m : Mem} {S : St} (h : At B w d m S) (n : Nat) : At B (w.drewN n) d m S := h.same (below_drewN (Below.refl _ _) n)
theorem At.drew {B d : Nat} {w : World} {m : Mem} {S : St} (h : At B w d m S) : At B w.drew d m S := h.same (Below.refl _ _).drew
theorem At.alloc {B d : Nat} {w : World} {m : Mem} {S : St} (h : At B w d m S) (o : Obj) : At B (w.alloc o) d m S := h.same ((Below.refl _ _).alloc (Nat.le_refl _) o)
theorem mine_disk {w : World} {d : Nat} {cs : Array Value} (h : Whole w d 63 cs) : mineT (typ w.heap[d]?) = true := by rw [whole_typ h]; decide
theorem mine_file {w : World} {d : Nat} {cs : Array Value} (h : Whole w d 85 cs) : mineT (typ w.heap[d]?) = true := by rw [whole_typ h]; decide

/-- the disk's own cells turn: quota, left, down -/
theorem At.setD {B d : Nat} {w w' : World} {m : Mem} {S S' : St} (h : At B w d m S) (hg : w.grownBy w' (some d)) (hd : Whole w' d 63 (dcells m S')) (en : S'.names = S.names) (es : S'.safe = S.safe) (ep : S'.pend = S.pend) (ef : S'.files = S.files) :
    At B w' d m S' ∧ Kept B w w' := by
  have ht := whole_typ h.disk
  refine ⟨⟨h.dB, h.nB, h.sB, h.ne, hd, ?_, ?_, ?_, ?_⟩, .of_grown hg h.dB (mine_disk h.disk)⟩
  · rw [en]; exact map_keepT h.names hg (by rintro x ⟨⟩; rw [ht]; decide)
  · rw [es]; exact map_keepT h.safe hg (by rintro x ⟨⟩; rw [ht]; decide)
  · rw [ep]; exact own_keepT h.pend hg (by rintro x ⟨⟩; rw [ht]; decide)
  · rw [ef]; exact h.files.keep hg (by rintro x ⟨⟩; rw [ht]; decide)
/-- the names' map turns -/
theorem At.setN {B d n : Nat} {w w' : World} {m : Mem} {S : St} {N : Nms} (h : At B w d m S) (hg : w.grownBy w' (some m.nm)) (hn : w'.ownsMap Try.prog 9 ptrR m.nm n (dm m.bs N)) :
    At B w' d m { S with names := N } ∧ Kept B w w' := by
  have ht := map_typ h.names
  refine ⟨⟨h.dB, h.nB, h.sB, h.ne, ?_, ?_, ?_, ?_, ?_⟩, .of_grown hg h.nB (by rw [ht]; decide)⟩
  · exact h.disk.keepT hg (by rintro x ⟨⟩; rw [ht]; decide)
  · have := map_tight hn
    rwa [dm_size] at this
  · exact h.safe.kept hg (by intro e; exact h.ne (Option.some.inj e).symm)
  · exact own_keepT h.pend hg (by rintro x ⟨⟩; rw [ht]; decide)
  · exact h.files.keep hg (by rintro x ⟨⟩; rw [ht]; decide)
/-- the safe names' map turns -/
theorem At.setS {B d n : Nat} {w w' : World} {m : Mem} {S : St} {N : Nms} (h : At B w d m S) (hg : w.grownBy w' (some m.sm)) (hn : w'.ownsMap Try.prog 9 ptrR m.sm n (dm m.bs N)) :
    At B w' d m { S with safe := N } ∧ Kept B w w' := by
  have ht := map_typ h.safe
  refine ⟨⟨h.dB, h.nB, h.sB, h.ne, ?_, ?_, ?_, ?_, ?_⟩, .of_grown hg h.sB (by rw [ht]; decide)⟩
  · exact h.disk.keepT hg (by rintro x ⟨⟩; rw [ht]; decide)
  · exact h.names.kept hg (by intro e; exact h.ne (Option.some.inj e))
  · have := map_tight hn
    rwa [dm_size] at this
  · exact own_keepT h.pend hg (by rintro x ⟨⟩; rw [ht]; decide)
  · exact h.files.keep hg (by rintro x ⟨⟩; rw [ht]; decide)
/-- another row of pending changes: first the row turns (or a new one is laid), then the disk's cell -/
theorem At.setP {B d : Nat} {w w1 w' : World} {m : Mem} {S : St} {v : Value} {l : List Chg} {r : Option Nat} (h : At B w d m S) (hg : w.grownBy w1 r) (hr : r = none ∨ r = m.pv.ownBlock) (hv : w1.ownsRow B 100 3 v l.length (pcells m.bs l))
    (hg' : w1.grownBy w' (some d)) (hd : Whole w' d 63 (dcells { m with pv := v } { S with pend := l })) : At B w' d { m with pv := v } { S with pend := l } ∧ Kept B w w' := by
  have hrt : ∀ x, r = some x → typ w.heap[x]? = 100 ∧ B ≤ x := by
    intro x hx
    rcases hr with hr | hr
    · rw [hr] at hx; cases hx
    · rw [hr] at hx; exact ⟨own_typ h.pend hx, (h.pend.lt x hx).1⟩
  have hd1 := h.disk.keepT hg (fun x hx => by rw [(hrt x hx).1]; decide)
  have ht := whole_typ hd1
  have k1 : Kept B w w1 := by
    cases hr0 : r with
    | none => rw [hr0] at hg; exact ⟨hg.os, hg.tape, hg.output, hg.size, fun k hk _ => hg.block k hk (by simp)⟩
    | some x =>
      obtain ⟨t1, t2⟩ := hrt x hr0
      rw [hr0] at hg
      exact .of_grown hg t2 (by rw [t1]; decide)
  refine ⟨⟨h.dB, h.nB, h.sB, h.ne, hd, ?_, ?_, ?_, ?_⟩, k1.trans (.of_grown hg' h.dB (mine_disk hd1))⟩
  · exact map_keepT (map_keepT h.names hg (fun x hx => by rw [(hrt x hx).1]; decide)) hg' (by rintro x ⟨⟩; rw [ht]; decide)
  · exact map_keepT (map_keepT h.safe hg (fun x hx => by rw [(hrt x hx).1]; decide)) hg' (by rintro x ⟨⟩; rw [ht]; decide)
  · exact own_keepT hv hg' (by rintro x ⟨⟩; rw [ht]; decide)
  · exact (((h.files.keep hg (fun x hx => by rw [(hrt x hx).1]; decide))).keep hg' (by rintro x ⟨⟩; rw [ht]; decide)).mem rfl rfl
/-- another map of names: it lies in a new block -/
theorem At.newN {B d n nm : Nat} {w w' : World} {m : Mem} {S : St} {N : Nms} (h : At B w d m S) (hg : w.grownBy w' (some d)) (hn : w'.ownsMap Try.prog 9 ptrR nm n (dm m.bs N)) (hB : B ≤ nm) (hs : nm ≠ m.sm)
    (hd : Whole w' d 63 (dcells { m with nm := nm } { S with names := N })) : At B w' d { m with nm := nm } { S with names := N } ∧ Kept B w w' := by
  have ht := whole_typ h.disk
  refine ⟨⟨h.dB, hB, h.sB, hs, hd, ?_, ?_, ?_, ?_⟩, .of_grown hg h.dB (mine_disk h.disk)⟩
  · have := map_tight hn
    rwa [dm_size] at this
  · exact map_keepT h.safe hg (by rintro x ⟨⟩; rw [ht]; decide)
  · exact own_keepT h.pend hg (by rintro x ⟨⟩; rw [ht]; decide)
  · exact (h.files.keep hg (by rintro x ⟨⟩; rw [ht]; decide)).mem rfl rfl

theorem getD_set {α : Type} (l : List α) (i j : Nat) (x z : α) (hi : i < l.length) : (l.set i x).getD j z = if j = i then x else l.getD j z := by
  simp only [List.getD, List.getElem?_set]
  by_cases h : i = j
  · subst h; simp [hi]
  · simp [h, Ne.symm h]
theorem getD_snoc {α : Type} (l : List α) (j : Nat) (x z : α) : (l ++ [x]).getD j z = if j = l.length then x else l.getD j z := by
  simp only [List.getD]
  by_cases h : j < l.length
  · rw [List.getElem?_append_left h, if_neg (by omega)]
  · rw [List.getElem?_append_right (by omega)]
    by_cases h2 : j = l.length
    · subst h2; simp
    · rw [if_neg h2, List.getElem?_eq_none (by simp; omega), List.getElem?_eq_none (by omega)]
/-- a file turns: its row may turn (or a new row is laid), then its cells -/
theorem At.setF {B d i : Nat} {w w1 w' : World} {m : Mem} {S : St} {x : Bys × Nat} {v : Value} {r : Option Nat} (h : At B w d m S) (hi : i < S.files.length) (hg : w.grownBy w1 r) (hr : r = none ∨ r = (m.v i).ownBlock)
    (hv : w1.ownsRow B 5 1 v x.1.length (Lib.byteCells x.1)) (hloc : v.ownBlock = none ∨ v.ownBlock = (m.v i).ownBlock ∨ ∃ g, v.ownBlock = some g ∧ w.heap.size ≤ g)
    (hg' : w1.grownBy w' (some (m.b i))) (hd : Whole w' (m.b i) 85 #[v, .int .i64 (x.2 : Nat)]) : At B w' d { m with vs := m.vs.set i v } (setF S i x) ∧ Kept B w w' := by
  have hf := h.files
  have hrt : ∀ x, r = some x → typ w.heap[x]? = 5 ∧ B ≤ x := by
    intro x hx
    rcases hr with hr | hr
    · rw [hr] at hx; cases hx
    · rw [hr] at hx; exact ⟨own_typ (hf.row i hi) hx, ((hf.row i hi).lt x hx).1⟩
  have hc1 := (hf.cell i hi).keepT hg (fun x hx => by rw [(hrt x hx).1]; decide)
  have ht := whole_typ hc1
  have k1 : Kept B w w1 := by
    cases hr0 : r with
    | none => rw [hr0] at hg; exact ⟨hg.os, hg.tape, hg.output, hg.size, fun k hk _ => hg.block k hk (by simp)⟩
    | some x =>
      obtain ⟨t1, t2⟩ := hrt x hr0
      rw [hr0] at hg
      exact .of_grown hg t2 (by rw [t1]; decide)
  have hvs : ∀ j, ({ m with vs := m.vs.set i v } : Mem).v j = if j = i then v else m.v j := fun j => getD_set _ _ _ _ _ (by rw [hf.lv]; exact hi)
  have hfs : ∀ j, (S.files.set i x).getD j ([], 0) = if j = i then x else S.files.getD j ([], 0) := fun j => getD_set _ _ _ _ _ hi
  refine ⟨⟨h.dB, h.nB, h.sB, h.ne, ?_, ?_, ?_, ?_, ⟨?_, ?_, ?_, ?_, ?_, ?_, ?_⟩⟩, k1.trans (.of_grown hg' (hf.base i hi) (mine_file hc1))⟩
  · exact (h.disk.keepT hg (fun x hx => by rw [(hrt x hx).1]; decide)).keepT hg' (by rintro x ⟨⟩; rw [ht]; decide)
  · exact map_keepT (map_keepT h.names hg (fun x hx => by rw [(hrt x hx).1]; decide)) hg' (by rintro x ⟨⟩; rw [ht]; decide)
  · exact map_keepT (map_keepT h.safe hg (fun x hx => by rw [(hrt x hx).1]; decide)) hg' (by rintro x ⟨⟩; rw [ht]; decide)
  · exact own_keepT (own_keepT h.pend hg (fun x hx => by rw [(hrt x hx).1]; decide)) hg' (by rintro x ⟨⟩; rw [ht]; decide)
  · simpa [Yteeomlboifleoaa.setF] using hf.lb
  · simpa [Yteeomlboifleoaa.setF] using hf.lv
  · intro j hj
    exact hf.base j (by simpa [Yteeomlboifleoaa.setF] using hj)
  · intro j hj
    have hj' : j < S.files.length := by simpa [Yteeomlboifleoaa.setF] using hj
    show Whole w' (m.b j) _ #[_, .int .i64 (((S.files.set i x).getD j ([], 0)).2 : Nat)]
    rw [hvs, hfs]
    by_cases e : j = i
    · subst e; simpa using hd
    · simp only [if_neg e]
      exact ((hf.cell j hj').keepT hg (fun x hx => by rw [(hrt x hx).1]; decide)).grown hg' (fun e' => e (hf.one j i hj' hi (Option.some.inj e')))
  · intro j hj
    have hj' : j < S.files.length := by simpa [Yteeomlboifleoaa.setF] using hj
    show w'.ownsRow B _ 1 _ ((S.files.set i x).getD j ([], 0)).1.length (Lib.byteCells ((S.files.set i x).getD j ([], 0)).1)
    rw [hvs, hfs]
    by_cases e : j = i
    · subst e
      simp only [if_pos]
      exact own_keepT hv hg' (by rintro x ⟨⟩; rw [ht]; decide)
    · simp only [if_neg e]
      refine own_keepT ((hf.row j hj').kept hg ?_) hg' (by rintro x ⟨⟩; rw [ht]; decide)
      rcases hr with rfl | rfl
      · cases (m.v j).ownBlock <;> simp
      · exact hf.apart j i hj' hi e
  · intro j k hj hk
    exact hf.one j k (by simpa [Yteeomlboifleoaa.setF] using hj) (by simpa [Yteeomlboifleoaa.setF] using hk)
  · intro j k hj hk hne
    have hj' : j < S.files.length := by simpa [Yteeomlboifleoaa.setF] using hj
    have hk' : k < S.files.length := by simpa [Yteeomlboifleoaa.setF] using hk
    rw [hvs, hvs]
    by_cases e : j = i
    · subst e
      rw [if_pos rfl, if_neg (Ne.symm hne)]
      rcases hloc with hl | hl | ⟨g, hl, hg2⟩
      · exact .inl hl
      · rw [hl]; exact hf.apart j k hj' hk' hne
      · refine .inr ?_
        rw [hl]
        intro e'
        have := ((hf.row k hk').lt g e'.symm).2
        omega
    · rw [if_neg e]
      by_cases e2 : k = i
      · subst e2
        rw [if_pos rfl]
        rcases hloc with hl | hl | ⟨g, hl, hg2⟩
        · cases hv : (m.v j).ownBlock with
          | none => exact .inl rfl
          | some y => refine .inr ?_; rw [hl]; simp
        · rw [hl]; exact hf.apart j k hj' hk' hne
        · cases hv : (m.v j).ownBlock with
          | none => exact .inl rfl
          | some y =>
            refine .inr ?_
            rw [hl]
            intro e'
            have := ((hf.row j hj').lt y hv).2
            cases e'
            omega
      · rw [if_neg e2]; exact hf.apart j k hj' hk' hne
theorem ptrOf_more (bs : List Nat) (x : Nat) (f : Option Nat) (h : ∀ i, f = some i → i < bs.length) : ptrOf (bs ++ [x]) f = ptrOf bs f := by
  cases f with
  | none => rfl
  | some i =>
    have := h i rfl
    simp [ptrOf, ptrA, List.getD, List.getElem?_append_left this]
theorem pcells_more (bs : List Nat) (x : Nat) (l : List Chg) (h : ∀ c ∈ l, ∀ i, c.f = some i → i < bs.length) : pcells (bs ++ [x]) l = pcells bs l := by
  unfold pcells
  simp only [List.flatMap_def]
  congr 1
  refine List.map_congr_left fun c hc => ?_
  rw [ptrOf_more bs x c.f (h c hc)]
/-- a new file -/
theorem At.newF {B d k M : Nat} {w : World} {m : Mem} {S : St} (h : At B w d m S) (F : Fit k M S) (hB : B ≤ w.heap.size) :
    At B (w.alloc (.cells #[nilV, .int .i64 0] 85)) d { m with bs := m.bs ++ [w.heap.size], vs := m.vs ++ [nilV] } (addF S) := by
  have h1 := h.alloc (.cells #[nilV, .int .i64 0] 85)
  have hf := h1.files
  have hbs : ∀ j, ({ m with bs := m.bs ++ [w.heap.size], vs := m.vs ++ [nilV] } : Mem).b j = if j = S.files.length then w.heap.size else m.b j := fun j => by
    rw [← h.files.lb]; exact getD_snoc _ _ _ _
  have hvs : ∀ j, ({ m with bs := m.bs ++ [w.heap.size], vs := m.vs ++ [nilV] } : Mem).v j = if j = S.files.length then nilV else m.v j := fun j => by
    rw [← h.files.lv]; exact getD_snoc _ _ _ _
  have hfs : ∀ j, (S.files ++ [([], 0)]).getD j ([], 0) = if j = S.files.length then ([], 0) else S.files.getD j ([], 0) := fun j => getD_snoc _ _ _ _
  have hlt : ∀ j, j < S.files.length → m.b j < w.heap.size := fun j hj => (h.files.cell j hj).lt
  have hcase : ∀ j, j < (addF S).files.length → j = S.files.length ∨ j < S.files.length := fun j hj => by
    have : j < S.files.length + 1 := by simpa [addF] using hj
    omega
  refine ⟨h.dB, h.nB, h.sB, h.ne, h1.disk, ?_, ?_, ?_, ⟨?_, ?_, ?_, ?_, ?_, ?_, ?_⟩⟩
  · show World.ownsMap _ _ _ _ _ _ (dm (m.bs ++ [w.heap.size]) S.names)
    rw [dm_more _ _ _ (fun p hp => by rw [h.files.lb]; exact (F.idn p hp).1)]; exact h1.names
  · show World.ownsMap _ _ _ _ _ _ (dm (m.bs ++ [w.heap.size]) S.safe)
    rw [dm_more _ _ _ (fun p hp => by rw [h.files.lb]; exact (F.ids p hp).1)]; exact h1.safe
  · show World.ownsRow _ _ _ _ _ _ (pcells (m.bs ++ [w.heap.size]) S.pend)
    rw [pcells_more _ _ _ (fun c hc => by rw [h.files.lb]; exact (F.idp c hc).2)]; exact h1.pend
  · simp [addF, h.files.lb]
  · simp [addF, h.files.lv]
  · intro j hj
    rw [hbs]
    rcases hcase j hj with rfl | hj
    · simpa using hB
    · rw [if_neg (by omega)]; exact hf.base j hj
  · intro j hj
    show Whole _ _ _ #[_, .int .i64 (((S.files ++ [([], 0)]).getD j ([], 0)).2 : Nat)]
    rw [hbs, hvs, hfs]
    rcases hcase j hj with rfl | hj
    · simpa using Whole.new w 85 _
    · simp only [if_neg (show j ≠ S.files.length by omega)]; exact hf.cell j hj
  · intro j hj
    show World.ownsRow _ _ _ 1 _ ((S.files ++ [([], 0)]).getD j ([], 0)).1.length (Lib.byteCells ((S.files ++ [([], 0)]).getD j ([], 0)).1)
    rw [hvs, hfs]
    rcases hcase j hj with rfl | hj
    · rw [if_pos rfl, if_pos rfl]; exact World.ownsRow_nil _ B 5 1
    · simp only [if_neg (show j ≠ S.files.length by omega)]; exact hf.row j hj
  · intro i j hi hj
    rw [hbs, hbs]
    rcases hcase i hi with rfl | hi' <;> rcases hcase j hj with rfl | hj'
    · simp
    · rw [if_pos rfl, if_neg (by omega)]; have := hlt j hj'; omega
    · rw [if_neg (by omega), if_pos rfl]; have := hlt i hi'; omega
    · rw [if_neg (by omega), if_neg (by omega)]; exact hf.one i j hi' hj'
  · intro i j hi hj hne
    rw [hvs, hvs]
    rcases hcase i hi with rfl | hi' <;> rcases hcase j hj with rfl | hj'
    · exact absurd rfl hne
    · rw [if_pos rfl]; exact .inl rfl
    · rw [if_neg (by omega), if_pos rfl]
      cases hv : (m.v i).ownBlock with
      | none => exact .inl rfl
      | some y => exact .inr (by simp [Value.ownBlock])
    · rw [if_neg (by omega), if_neg (by omega)]; exact hf.apart i j hi' hj' hne
end Go.Proofs.Yteeomlboifleoaa
