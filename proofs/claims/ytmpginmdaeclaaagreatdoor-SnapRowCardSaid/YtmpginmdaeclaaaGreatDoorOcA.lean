/- Parts of the proofs of the statements of image. No statement of the seat is proved here. -/
import Derived.Below
import Derived.Laws.OwnMore
import Derived.Deep.Draws
import Derived.Laws.Rows
import Derived.Lib.Hide
import Derived.Laws.Strings
import Derived.Test.YtmpginmdaeclaaaGreatDoorProg
import Derived.KernelRfl
import Derived.WalkKit
import Derived.WalkSpells
import Derived.Deep.QuietTactic
import Derived.BigQuiet
import Derived.Lib.ConvBytes
import Derived.Lib.EndianBits
import Derived.Defers
import Derived.Recover
import Derived.RegionTactic
import Derived.ChangeAlike
import Derived.Laws.IdiomStrings
import Derived.WalkMore
set_option maxHeartbeats 32000000
set_option maxRecDepth 20000
namespace Go.Proofs.YtmpginmdaeclaaaGreatDoor
theorem Ha {p : Prop} (h : p) : RowKit.Hid p := Lib.hid h
open Go.RowKit
def Sees (w : World) (B : Nat) (A : Option Addr) (n : Nat) (xs : List Value) : Prop :=
  xs.length = n /\ (0 < n -> ∃ b off, A = some ⟨b, off, none⟩ /\ b < B /\ ∀ j u, xs[j]? = some u -> w.cell? ⟨b, off + j, none⟩ = some u)
theorem Sees.nil (w : World) (B : Nat) (A : Option Addr) : Sees w B A 0 [] := ⟨rfl, fun h => absurd h (by omega)⟩
theorem Sees.len {w : World} {B : Nat} {A : Option Addr} {n : Nat} {xs : List Value} (h : Sees w B A n xs) : xs.length = n := h.1
theorem Sees.addr {w : World} {B : Nat} {A : Option Addr} {n : Nat} {xs : List Value} (h : Sees w B A n xs) (hn : 0 < n) :
    ∃ b off, A = some ⟨b, off, none⟩ /\ b < B /\ ∀ j u, xs[j]? = some u -> w.cell? ⟨b, off + j, none⟩ = some u := h.2 hn
theorem Sees.keep {w w' : World} {B : Nat} {A : Option Addr} {n : Nat} {xs : List Value} (h : Sees w B A n xs)
    (hk : ∀ p : Addr, p.block < B -> w'.cell? p = w.cell? p) : Sees w' B A n xs :=
  ⟨h.1, fun hn => by
    obtain ⟨b, off, e, hb, hc⟩ := h.2 hn
    exact ⟨b, off, e, hb, fun j u hu => (hk _ hb).trans (hc j u hu)⟩⟩
theorem Sees.below {w w' : World} {B : Nat} {A : Option Addr} {n : Nat} {xs : List Value} (h : Sees w B A n xs) (hb : Below B w w') : Sees w' B A n xs :=
  h.keep fun _ hp => hb.cell hp
theorem Sees.more {w : World} {B B' : Nat} {A : Option Addr} {n : Nat} {xs : List Value} (h : Sees w B A n xs) (hB : B <= B') : Sees w B' A n xs :=
  ⟨h.1, fun hn => by
    obtain ⟨b, off, e, hb, hc⟩ := h.2 hn
    exact ⟨b, off, e, by omega, hc⟩⟩
theorem Sees.own {w : World} {base : Nat} {e : TypeId} {v : Value} {n : Nat} {xs : List Value} (h : w.ownsRow base e 1 v n xs) :
    ∃ A c, v = .slice A n c /\ Sees w w.heap.size A n xs := by
  rcases h.2 with ⟨rfl, rfl⟩ | ⟨g, cap, cur, rfl, hb, hg, h1, h2, h3, h4⟩
  · have : xs = [] := List.eq_nil_of_length_eq_zero (by simpa using h.1)
    subst this; exact ⟨none, 0, rfl, Sees.nil _ _ _⟩
  · refine ⟨some ⟨g, 0, none⟩, cap, rfl, by simpa using h.1, fun _ => ⟨g, 0, rfl, (Array.getElem?_eq_some_iff.1 hg).1, fun j u hu => ?_⟩⟩
    have := h.cells (g := g) rfl j u hu
    rwa [show (⟨g, 0, none⟩ : Addr).add j = ⟨g, 0 + j, none⟩ from by unfold Addr.add; split <;> simp_all] at this
def Whole (w : World) (g : Nat) (t : TypeId) (cs : Array Value) : Prop := w.heap[g]? = some (.cells cs t (0, 0))
theorem Whole.lt {w : World} {g : Nat} {t : TypeId} {cs : Array Value} (h : Whole w g t cs) : g < w.heap.size := (Array.getElem?_eq_some_iff.1 h).1
theorem Whole.cell {w : World} {g : Nat} {t : TypeId} {cs : Array Value} (h : Whole w g t cs) (i : Nat) : w.cell? ⟨g, i, none⟩ = cs[i]? := cell_of_row w g i cs t (0, 0) h
theorem Whole.frozen {w : World} {g : Nat} {t : TypeId} {cs : Array Value} (h : Whole w g t cs) (i : Nat) : w.frozen? ⟨g, i, none⟩ = false := by
  unfold Whole at h; simp [World.frozen?, h]
theorem Whole.new (w : World) (t : TypeId) (cs : Array Value) : Whole (w.alloc (.cells cs t)) w.heap.size t cs := heap_alloc_new w _
theorem Whole.alloc {w : World} {g : Nat} {t : TypeId} {cs : Array Value} (h : Whole w g t cs) (o : Obj) : Whole (w.alloc o) g t cs := (Below.heap_alloc w o g h.lt).trans h
theorem Whole.drew {w : World} {g : Nat} {t : TypeId} {cs : Array Value} (h : Whole w g t cs) : Whole w.drew g t cs := h
theorem Whole.drewN {w : World} {g : Nat} {t : TypeId} {cs : Array Value} (h : Whole w g t cs) (n : Nat) : Whole (w.drewN n) g t cs := h
theorem Whole.put {w : World} {g : Nat} {t : TypeId} {cs : Array Value} (h : Whole w g t cs) (i : Nat) (u : Value) : Whole (w.setCell ⟨g, i, none⟩ u) g t (cs.setIfInBounds i u) := by
  unfold Whole at h ⊢; simp [World.setCell, Array.getElem?_modify, h]
theorem Whole.put1 {w : World} {g : Nat} {t : TypeId} {a : Value} (h : Whole w g t #[a]) (u : Value) : Whole (w.setCell ⟨g, 0, none⟩ u) g t #[u] := by
  have := h.put 0 u
  simpa using this
theorem Whole.cell1 {w : World} {g : Nat} {t : TypeId} {a : Value} (h : Whole w g t #[a]) : w.cell? ⟨g, 0, none⟩ = some a := by simpa using h.cell 0
theorem Whole.far {w : World} {g : Nat} {t : TypeId} {cs : Array Value} (h : Whole w g t cs) {p : Addr} (hp : g ≠ p.block) (u : Value) : Whole (w.setCell p u) g t cs :=
  (Below.heap_setCell w p u g hp).trans h
theorem Whole.below {w w' : World} {B g : Nat} {t : TypeId} {cs : Array Value} (h : Whole w g t cs) (hb : Below B w w') (hg : g < B) : Whole w' g t cs := (hb.block g hg).trans h
theorem Whole.grown {w w' : World} {g : Nat} {t : TypeId} {cs : Array Value} {row : Option Nat} (h : Whole w g t cs) (hb : w.grownBy w' row) (hg : some g ≠ row) : Whole w' g t cs :=
  (hb.block g h.lt hg).trans h
theorem Whole.apart {w : World} {g g' : Nat} {t t' : TypeId} {cs cs' : Array Value} (h : Whole w g t cs) (h' : Whole w g' t' cs') (hne : t ≠ t') : g ≠ g' := by
  rintro rfl
  unfold Whole at h h'
  rw [h] at h'
  injection h' with h'
  injection h' with _ ht
  exact hne ht
theorem own_apart {w : World} {base : Nat} {e : TypeId} {size n g : Nat} {v : Value} {xs : List Value} {t : TypeId} {cs : Array Value} (h : w.ownsRow base e size v n xs) (hg : Whole w g t cs) (hne : e ≠ t) :
    v.ownBlock ≠ some g := by
  rcases h.2 with ⟨rfl, _⟩ | ⟨g', cap, cur, rfl, _, hh, _⟩
  · simp [Value.ownBlock]
  · intro he
    obtain rfl : g' = g := by simpa [Value.ownBlock] using he
    exact Whole.apart (t := e) hh hg hne rfl
theorem below_drewN {B : Nat} {a w : World} (h : Below B a w) (n : Nat) : Below B a (w.drewN n) := ⟨h.os, h.tape, h.output, h.size, h.block⟩
theorem grown_setCell {w w1 : World} {g : Nat} (h : w.grownBy w1 (some g)) (u : Value) : w.grownBy (w1.setCell ⟨g, 0, none⟩ u) (some g) :=
  ⟨h.os, h.tape, h.output, by simpa [World.setCell] using h.size, fun k hk hne => (Below.heap_setCell _ _ _ _ (by simpa using hne)).trans (h.block k hk hne)⟩
theorem four (w : World) (a b c d : Array Value) (ta tb tc td : TypeId) :
    Whole ((((w.alloc (.cells a ta)).alloc (.cells b tb)).alloc (.cells c tc)).alloc (.cells d td)) w.heap.size ta a /\
    Whole ((((w.alloc (.cells a ta)).alloc (.cells b tb)).alloc (.cells c tc)).alloc (.cells d td)) (w.heap.size + 1) tb b /\
    Whole ((((w.alloc (.cells a ta)).alloc (.cells b tb)).alloc (.cells c tc)).alloc (.cells d td)) (w.heap.size + 1 + 1) tc c /\
    Whole ((((w.alloc (.cells a ta)).alloc (.cells b tb)).alloc (.cells c tc)).alloc (.cells d td)) (w.heap.size + 1 + 1 + 1) td d /\
    Below w.heap.size w ((((w.alloc (.cells a ta)).alloc (.cells b tb)).alloc (.cells c tc)).alloc (.cells d td)) := by
  have h0 := Whole.new w ta a
  have h1 := Whole.new (w.alloc (.cells a ta)) tb b
  have h2 := Whole.new ((w.alloc (.cells a ta)).alloc (.cells b tb)) tc c
  have h3 := Whole.new (((w.alloc (.cells a ta)).alloc (.cells b tb)).alloc (.cells c tc)) td d
  simp only [World.size_alloc] at h1 h2 h3
  refine ⟨((h0.alloc _).alloc _).alloc _, (h1.alloc _).alloc _, h2.alloc _, h3, ?_⟩
  exact ((((Below.refl _ _).alloc (Nat.le_refl _) _).alloc (by simp) _).alloc (by simp; omega) _).alloc (by simp; omega) _
theorem news1 (w : World) (t : TypeId) (x : Value) : ∀ j u, [x][j]? = some u -> (w.alloc (.cells #[x] t)).cell? ((⟨w.heap.size, 0, none⟩ : Addr).add j) = some u := by
  intro j u hu
  have hj : j = 0 := by
    rcases Nat.eq_zero_or_pos j with h | h
    · exact h
    · rw [List.getElem?_eq_none (by simp; omega)] at hu; cases hu
  subst hj
  rw [show (⟨w.heap.size, 0, none⟩ : Addr).add 0 = ⟨w.heap.size, 0, none⟩ from rfl, (Whole.new w t #[x]).cell1]
  simpa using hu
theorem one1 (x : Value) (h : x.oneCell' = true) : ∀ u ∈ [x], u.oneCell' = true := by
  intro u hu
  rw [List.mem_singleton] at hu
  rw [hu]; exact h
theorem not_empty {t : ByteArray} (h : t.size ≠ 0) : t.toList.isEmpty = false := by
  rw [ByteArray.toList_eq, List.isEmpty_eq_false_iff]
  intro e
  apply h
  show t.data.size = 0
  rw [<-Array.length_toList, e]; rfl
theorem own_below {w w' : World} {base : Nat} {e : TypeId} {size n : Nat} {v : Value} {xs : List Value} (h : w.ownsRow base e size v n xs) (hb : Below w.heap.size w w') : w'.ownsRow base e size v n xs :=
  h.kept (row := none) ⟨hb.os, hb.tape, hb.output, hb.size, fun k hk _ => hb.block k hk⟩ (by cases v.ownBlock <;> simp)
theorem ret_bool {a b : Bool} (h : a = b) : Ending.returned (.bool a) = .returned (.bool b) := by rw [h]
theorem ret_int {k : IntKind} {a b : Int} (h : a = b) : Ending.returned (.int k a) = .returned (.int k b) := by rw [h]
end Go.Proofs.YtmpginmdaeclaaaGreatDoor
namespace Go.Proofs.YtmpginmdaeclaaaGreatDoor
def num (l : List UInt8) : Nat := l.foldl (fun n c => n * 256 + c.toNat) 0
def numOf (s : ByteArray) : Nat := num s.data.toList
theorem num_snoc (l : List UInt8) (c : UInt8) : num (l ++ [c]) = num l * 256 + c.toNat := by simp [num]
theorem foldl_num (l : List UInt8) (a : Nat) : l.foldl (fun n c => n * 256 + c.toNat) a = a * 256 ^ l.length + num l := by
  induction l generalizing a with
  | nil => simp [num]
  | cons c l ih =>
    simp only [List.foldl_cons, num, List.length_cons]
    rw [ih, ih (0 * 256 + c.toNat)]
    rw [Nat.pow_succ]
    generalize 256 ^ l.length = p
    rw [Nat.add_mul, Nat.zero_mul, Nat.zero_add, Nat.mul_assoc, Nat.mul_comm 256 p]
    omega
theorem num_cons (c : UInt8) (l : List UInt8) : num (c :: l) = c.toNat * 256 ^ l.length + num l := by
  show List.foldl (fun n c => n * 256 + c.toNat) 0 (c :: l) = _
  rw [List.foldl_cons, foldl_num]
  simp
theorem num_lt (l : List UInt8) : num l < 256 ^ l.length := by
  induction l with
  | nil => simp [num]
  | cons c l ih =>
    rw [num_cons, List.length_cons, Nat.pow_succ]
    have := c.toNat_lt
    generalize 256 ^ l.length = p at *
    have h2 : c.toNat * p <= 255 * p := Nat.mul_le_mul_right _ (by omega)
    omega
def be (v : Nat) : Nat -> List UInt8
  | 0 => []
  | w + 1 => UInt8.ofNat (v / 256 ^ w) :: be v w
theorem be_length (v w : Nat) : (be v w).length = w := by induction w with | zero => rfl | succ w ih => simp [be, ih]
theorem num_be (v w : Nat) : num (be v w) = v % 256 ^ w := by
  induction w with
  | zero => simp [be, num, Nat.mod_one]
  | succ w ih =>
    rw [be, num_cons, ih, be_length, UInt8.toNat_ofNat', show 256 ^ (w + 1) = 256 ^ w * 256 from Nat.pow_succ .., Nat.mod_mul, show 2 ^ 8 = 256 from rfl, Nat.mul_comm]
    omega
theorem num_be_eq (v w : Nat) (h : v < 256 ^ w) : num (be v w) = v := by rw [num_be, Nat.mod_eq_of_lt h]
def wB (n : Int) : Bool := n == 1 || n == 2 || n == 4 || n == 8
def pB (n : Int) : Bool := n == 1 || n == 2 || n == 4
theorem wB_cases {n : Int} (h : wB n = true) : n = 1 \/ n = 2 \/ n = 4 \/ n = 8 := by simp [wB] at h; omega
theorem pB_cases {n : Int} (h : pB n = true) : n = 1 \/ n = 2 \/ n = 4 := by simp [pB] at h; omega
def empty : ByteArray := ⟨#[]⟩
def cutR (s : ByteArray) (n : Int) : ByteArray × ByteArray × Int :=
  if pB n then
    if (s.size : Int) < n \/ s.size - n.toNat < numOf (s.extract 0 n.toNat) then (empty, empty, 2)
    else ((s.extract n.toNat s.size).extract 0 (numOf (s.extract 0 n.toNat)), (s.extract n.toNat s.size).extract (numOf (s.extract 0 n.toNat)) (s.size - n.toNat), 0)
  else (empty, empty, 1)
def splitF : ByteArray -> List Int -> Option (List Int × ByteArray)
  | s, [] => some ([], s)
  | s, w :: ws => if (s.size : Int) < w then none else (splitF (s.extract w.toNat s.size) ws).map fun p => ((numOf (s.extract 0 w.toNat) : Int) :: p.1, p.2)
def splitR (s : ByteArray) (ws : List Int) : List Int × ByteArray × Int :=
  if ws.all wB then
    match splitF s ws with
    | none => ([], empty, 2)
    | some p => (p.1, p.2, 0)
  else ([], empty, 1)
def Done (s : ByteArray) (ws : List Int) (acc : List Int) (t : ByteArray) (rest : List Int) : Prop :=
  splitF s ws = (splitF t rest).map fun p => (acc ++ p.1, p.2)
theorem Done.start (s : ByteArray) (ws : List Int) : Done s ws [] s ws := by
  unfold Done
  cases splitF s ws <;> simp
theorem Done.step {s t : ByteArray} {ws acc rest : List Int} {w : Int} (h : Done s ws acc t (w :: rest)) (hw : w <= (t.size : Int)) :
    Done s ws (acc ++ [(numOf (t.extract 0 w.toNat) : Int)]) (t.extract w.toNat t.size) rest := by
  unfold Done at h ⊢
  rw [h, splitF, if_neg (by omega)]
  cases splitF (t.extract w.toNat t.size) rest <;> simp
theorem Done.fails {s t : ByteArray} {ws acc rest : List Int} {w : Int} (h : Done s ws acc t (w :: rest)) (hw : (t.size : Int) < w) : splitF s ws = none := by
  unfold Done at h
  rw [h, splitF, if_pos hw]
  rfl
theorem Done.ends {s t : ByteArray} {ws acc : List Int} (h : Done s ws acc t []) : splitF s ws = some (acc, t) := by
  unfold Done at h
  rw [h, splitF]
  simp
theorem splitR_bad {s : ByteArray} {ws : List Int} (h : ws.all wB = false) : splitR s ws = ([], empty, 1) := by simp [splitR, h]
theorem splitR_none {s : ByteArray} {ws : List Int} (h : ws.all wB = true) (h' : splitF s ws = none) : splitR s ws = ([], empty, 2) := by simp [splitR, h, h']
theorem splitR_some {s t : ByteArray} {ws acc : List Int} (h : ws.all wB = true) (h' : splitF s ws = some (acc, t)) : splitR s ws = (acc, t, 0) := by simp [splitR, h, h']
theorem drop_at {ws : List Int} {k : Nat} (h : k < ws.length) : ws.drop k = ws[k] :: ws.drop (k + 1) := List.drop_eq_getElem_cons h
def piecesF : Nat -> ByteArray -> Int -> Option (List ByteArray)
  | 0, _, _ => some []
  | f + 1, s, n => if s.size = 0 then some [] else if (cutR s n).2.2 = 0 then (piecesF f (cutR s n).2.1 n).map ((cutR s n).1 :: ·) else none
def piecesR (s : ByteArray) (n : Int) : List ByteArray × Int :=
  if pB n then
    match piecesF (s.size + 1) s n with
    | none => ([], 2)
    | some l => (l, 0)
  else ([], 1)
theorem cutR_code (t : ByteArray) (n : Int) (h : pB n = true) : (cutR t n).2.2 = 2 \/ ((cutR t n).2.2 = 0 /\ (cutR t n).2.1.size + 1 <= t.size) := by
  have hp := pB_cases h
  unfold cutR
  rw [if_pos h]
  split
  · exact .inl rfl
  · refine .inr ⟨rfl, ?_⟩
    simp
    omega
def Cuts (s : ByteArray) (n : Int) (acc : List ByteArray) (t : ByteArray) : Prop :=
  ∃ f, t.size < f /\ piecesF (s.size + 1) s n = (piecesF f t n).map (acc ++ ·)
theorem Cuts.start (s : ByteArray) (n : Int) : Cuts s n [] s := ⟨s.size + 1, by omega, by cases piecesF (s.size + 1) s n <;> simp⟩
theorem Cuts.step {s t : ByteArray} {n : Int} {acc : List ByteArray} (h : Cuts s n acc t) (h0 : t.size ≠ 0) (h1 : (cutR t n).2.2 = 0) (h2 : (cutR t n).2.1.size + 1 <= t.size) :
    Cuts s n (acc ++ [(cutR t n).1]) (cutR t n).2.1 := by
  obtain ⟨f, hf, e⟩ := h
  cases f with
  | zero => omega
  | succ f =>
    refine ⟨f, by omega, ?_⟩
    rw [e, piecesF, if_neg h0, if_pos h1]
    cases piecesF f (cutR t n).2.1 n <;> simp
theorem Cuts.fails {s t : ByteArray} {n : Int} {acc : List ByteArray} (h : Cuts s n acc t) (h0 : t.size ≠ 0) (h1 : (cutR t n).2.2 = 2) : piecesF (s.size + 1) s n = none := by
  obtain ⟨f, hf, e⟩ := h
  cases f with
  | zero => omega
  | succ f => rw [e, piecesF, if_neg h0, if_neg (by rw [h1]; decide)]; rfl
theorem Cuts.ends {s t : ByteArray} {n : Int} {acc : List ByteArray} (h : Cuts s n acc t) (h0 : t.size = 0) : piecesF (s.size + 1) s n = some acc := by
  obtain ⟨f, hf, e⟩ := h
  cases f with
  | zero => omega
  | succ f => rw [e, piecesF, if_pos h0]; simp
theorem piecesR_none {s : ByteArray} {n : Int} (h : pB n = true) (h' : piecesF (s.size + 1) s n = none) : piecesR s n = ([], 2) := by simp [piecesR, h, h']
theorem piecesR_some {s : ByteArray} {n : Int} {l : List ByteArray} (h : pB n = true) (h' : piecesF (s.size + 1) s n = some l) : piecesR s n = (l, 0) := by simp [piecesR, h, h']
theorem piecesF_len (n : Int) (h : pB n = true) : ∀ (f : Nat) (s : ByteArray) (l : List ByteArray), s.size < f -> piecesF f s n = some l -> l.length <= s.size := by
  intro f
  induction f with
  | zero => intro s l hf; omega
  | succ f ih =>
    intro s l hf hl
    rw [piecesF] at hl
    split at hl
    · injection hl with hl; rw [<-hl]; simp
    · split at hl
      · rename_i h0 hc
        rcases cutR_code s n h with h2 | ⟨_, hless⟩
        · rw [h2] at hc; cases hc
        · cases hr : piecesF f (cutR s n).2.1 n with
          | none => rw [hr] at hl; cases hl
          | some l' =>
            rw [hr] at hl
            simp at hl
            have := ih _ l' (by omega) hr
            rw [<-hl]
            simp
            omega
      · cases hl
theorem piecesR_len (s : ByteArray) (n : Int) : (piecesR s n).1.length <= s.size := by
  unfold piecesR
  cases hp : pB n
  · simp
  · simp only [if_true]
    cases hr : piecesF (s.size + 1) s n with
    | none => simp
    | some l => exact piecesF_len n hp _ s l (by omega) hr
end Go.Proofs.YtmpginmdaeclaaaGreatDoor
namespace Go.Proofs.YtmpginmdaeclaaaGreatDoor
open Go.RowKit
theorem isWidth_any (n : Int) (w : World) : Calls Tryz.prog 211 #[.int .i64 n] w fun e w' => e = .returned (.bool (wB n)) /\ w = w' := by
  by_cases h1 : n = 1
  · subst h1
    go_enter Tryz.func211, Tryz.ntmps211
    go_wp2
    go_ret
    exact ⟨rfl, rfl⟩
  by_cases h2 : n = 2
  · subst h2
    go_enter Tryz.func211, Tryz.ntmps211
    go_wp2
    go_ret
    exact ⟨rfl, rfl⟩
  by_cases h4 : n = 4
  · subst h4
    go_enter Tryz.func211, Tryz.ntmps211
    go_wp2
    go_ret
    exact ⟨rfl, rfl⟩
  by_cases h8 : n = 8
  · subst h8
    go_enter Tryz.func211, Tryz.ntmps211
    go_wp2
    go_ret
    exact ⟨rfl, rfl⟩
  have e1 : (n == 1) = false := by simpa using h1
  have e2 : (n == 2) = false := by simpa using h2
  have e4 : (n == 4) = false := by simpa using h4
  have e8 : (n == 8) = false := by simpa using h8
  have f : wB n = false := by simp [wB, e1, e2, e4, e8]
  go_enter Tryz.func211, Tryz.ntmps211
  go_wp2
  go_ret
  exact ⟨ret_bool f.symm, rfl⟩
theorem isPieceWidth_any (n : Int) (w : World) : Calls Tryz.prog 162 #[.int .i64 n] w fun e w' => e = .returned (.bool (pB n)) /\ w = w' := by
  by_cases h1 : n = 1
  · subst h1
    go_enter Tryz.func162, Tryz.ntmps162
    go_wp2
    go_ret
    exact ⟨rfl, rfl⟩
  by_cases h2 : n = 2
  · subst h2
    go_enter Tryz.func162, Tryz.ntmps162
    go_wp2
    go_ret
    exact ⟨rfl, rfl⟩
  by_cases h4 : n = 4
  · subst h4
    go_enter Tryz.func162, Tryz.ntmps162
    go_wp2
    go_ret
    exact ⟨rfl, rfl⟩
  have e1 : (n == 1) = false := by simpa using h1
  have e2 : (n == 2) = false := by simpa using h2
  have e4 : (n == 4) = false := by simpa using h4
  have f : pB n = false := by simp [pB, e1, e2, e4]
  go_enter Tryz.func162, Tryz.ntmps162
  go_wp2
  go_ret
  exact ⟨ret_bool f.symm, rfl⟩
theorem Width_any (n : Int) (w : World) : Calls Tryz.prog 167 #[.int .i64 n] w fun e w' => e = .returned (.bool (wB n)) /\ w = w' := by
  by_cases h1 : n = 1
  · subst h1
    go_enter Tryz.func167, Tryz.ntmps167
    go_wp2
    go_ret
    exact ⟨rfl, rfl⟩
  by_cases h2 : n = 2
  · subst h2
    go_enter Tryz.func167, Tryz.ntmps167
    go_wp2
    go_ret
    exact ⟨rfl, rfl⟩
  by_cases h4 : n = 4
  · subst h4
    go_enter Tryz.func167, Tryz.ntmps167
    go_wp2
    go_ret
    exact ⟨rfl, rfl⟩
  by_cases h8 : n = 8
  · subst h8
    go_enter Tryz.func167, Tryz.ntmps167
    go_wp2
    go_ret
    exact ⟨rfl, rfl⟩
  have e1 : (n == 1) = false := by simpa using h1
  have e2 : (n == 2) = false := by simpa using h2
  have e4 : (n == 4) = false := by simpa using h4
  have e8 : (n == 8) = false := by simpa using h8
  have f : wB n = false := by simp [wB, e1, e2, e4, e8]
  go_enter Tryz.func167, Tryz.ntmps167
  go_wp2
  go_ret
  exact ⟨ret_bool f.symm, rfl⟩
def ints (k : IntKind) (zs : List Int) : List Value := zs.map (Value.int k)
theorem ints_at {w : World} {B : Nat} {A : Option Addr} {n : Nat} {kd : IntKind} {zs : List Int} (h : Sees w B A n (ints kd zs)) {k : Nat} (hk : k < n) :
    ∃ b off, A = some ⟨b, off, none⟩ /\ b < B /\ w.cell? ⟨b, off + k, none⟩ = some (.int kd (zs.getD k 0)) := by
  obtain ⟨b, off, e, hb, hc⟩ := h.addr (by omega)
  have hl : k < zs.length := by have := h.len; simp [ints] at this; omega
  exact ⟨b, off, e, hb, hc k _ (by simp [ints, List.getD, hl])⟩
theorem allWidths_any (A : Option Addr) (n c B : Nat) (zs : List Int) (w : World) (h : Sees w B A n (ints .i64 zs)) (hn : n <= 1073741824) :
    Calls Tryz.prog 159 #[.slice A n c] w fun e w' => e = .returned (.bool (zs.all wB)) /\ w = w' := by
  have hlen : zs.length = n := by simpa [ints] using h.len
  go_enter Tryz.func159, Tryz.ntmps159
  go_wp2_with fail
  go_loop [7] (fun i => ∃ k : Nat, k <= n /\ i = .int .i64 k /\ (zs.take k).all wB = true) (fun i => n - (intOf i).toNat)
  case atStart => exact ⟨0, Nat.zero_le _, rfl, rfl⟩
  case round =>
    obtain ⟨k, hk, rfl, hr⟩ := hrel
    have Hr := Ha hr
    clear hr
    by_cases hlt : k < n
    · obtain ⟨b, off, rfl, _, hc⟩ := ints_at h hlt
      have hl : k < zs.length := by omega
      have hg : zs.getD k 0 = zs[k] := by simp [List.getD, hl]
      rw [hg] at hc
      have Hl := Ha hlen
      clear hlen hg
      cases hw : wB zs[k]
      · go_wp2_with (go_at_call 211; refine (isWidth_any _ _).mono ?_; rintro e w' ⟨rfl, rfl⟩)
        go_ret
        refine ⟨?_, rfl⟩
        have : zs.all wB = false := by
          rw [List.all_eq_false]
          exact ⟨zs[k], List.getElem_mem hl, by simp [hw]⟩
        exact ret_bool this.symm
      · go_wp2_with (go_at_call 211; refine (isWidth_any _ _).mono ?_; rintro e w' ⟨rfl, rfl⟩)
        go_round
        case rel =>
          refine ⟨k + 1, by omega, by go_num, ?_⟩
          rw [List.take_succ_eq_append_getElem hl, List.all_append, Hr.out]
          simp [hw]
        case measure => simp [intOf]; omega
    · obtain rfl : k = n := by omega
      go_wp2_with fail
      go_ret
      refine ⟨?_, rfl⟩
      have := Hr.out
      rw [List.take_of_length_le (by omega)] at this
      exact ret_bool this.symm
def texts (l : List ByteArray) : List Value := l.map Value.string
theorem texts_at {w : World} {B : Nat} {A : Option Addr} {n : Nat} {zs : List ByteArray} (h : Sees w B A n (texts zs)) {k : Nat} (hk : k < n) :
    ∃ b off, A = some ⟨b, off, none⟩ /\ b < B /\ w.cell? ⟨b, off + k, none⟩ = some (.string (zs.getD k ByteArray.empty)) := by
  obtain ⟨b, off, e, hb, hc⟩ := h.addr (by omega)
  have hl : k < zs.length := by have := h.len; simp [texts] at this; omega
  exact ⟨b, off, e, hb, hc k _ (by simp [texts, List.getD, hl])⟩
def SplitLeaves (s : ByteArray) (ws : List Int) (w : World) (e : Ending) (w' : World) : Prop :=
  ∃ A c, e = .returned (.tuple #[.slice A (splitR s ws).1.length c, .string (splitR s ws).2.1, .int .i64 (splitR s ws).2.2]) /\
    Sees w' w'.heap.size A (splitR s ws).1.length (ints .u64 (splitR s ws).1) /\ Below w.heap.size w w'
theorem u64_info : (Tryz.prog.info? 44).map (fun i => (i.zero, i.size, i.bytes)) = some (some (.int .u64 0), 1, 8) := by kernel_rfl
end Go.Proofs.YtmpginmdaeclaaaGreatDoor
namespace Go.Proofs.YtmpginmdaeclaaaGreatDoor
open Go.RowKit
theorem or8 (v c : Nat) (hv : v < 256 ^ 7) (hc : c < 256) : bits BinOp.or IntKind.u64 (IntKind.u64.wrap ((v : Int) * 256)) (IntKind.u64.wrap (c : Int)) = (v : Int) * 256 + c := by
  have e1 : IntKind.u64.wrap ((v : Int) * 256) = (v : Int) * 256 := wraps_u64 _ (by omega) (by omega)
  have e2 : IntKind.u64.wrap (c : Int) = c := wraps_u64 _ (by omega) (by omega)
  rw [e1, e2]
  have h := u64_or8 (c : Int) ((v : Int) * 256) (by omega) (by omega) (by omega) (by omega) (by omega)
  rw [show bits BinOp.or IntKind.u64 ((v : Int) * 256) (c : Int) = bits BinOp.or IntKind.u64 (c : Int) ((v : Int) * 256) from by simp [bits, Nat.or_comm]]
  rw [h]
  omega
def short : List PanicEntry := [{ v := .iface 202 (.agg #[]), recovered := false }]
theorem take_ok (g : Nat) (s : ByteArray) (n : Int) (w : World) (hg : Whole w g 204 #[.string s]) (h0 : 0 <= n) (h1 : n <= (s.size : Int)) (h2 : s.size <= 1073741824) :
    Calls Tryz.prog 212 #[.pointer (some ⟨g, 0, none⟩), .int .u64 n] w fun e w' =>
      e = .returned (.string (s.extract 0 n.toNat)) /\ w.setCell ⟨g, 0, none⟩ (.string (s.extract n.toNat s.size)) = w' := by
  obtain ⟨n, rfl⟩ := Int.eq_ofNat_of_zero_le h0
  have hc : w.cell? ⟨g, 0, none⟩ = some (.string s) := by simpa using hg.cell 0
  have hf := hg.frozen 0
  go_enter Tryz.func212, Tryz.ntmps212
  go_wp2_with fail
  go_ret
  exact ⟨rfl, rfl⟩
theorem take_short (g : Nat) (s : ByteArray) (n : Int) (w : World) (hg : Whole w g 204 #[.string s]) (h1 : (s.size : Int) < n) (h2 : s.size <= 1073741824) :
    Calls Tryz.prog 212 #[.pointer (some ⟨g, 0, none⟩), .int .u64 n] w fun e w' => e = .panicked short /\ w = w' := by
  obtain ⟨n, rfl⟩ := Int.eq_ofNat_of_zero_le (show 0 <= n by omega)
  have hc : w.cell? ⟨g, 0, none⟩ = some (.string s) := by simpa using hg.cell 0
  go_enter Tryz.func212, Tryz.ntmps212
  go_wp2_with fail
  exact ⟨rfl, rfl, rfl⟩
theorem integer_short (g : Nat) (s : ByteArray) (n : Int) (w : World) (hg : Whole w g 204 #[.string s]) (h0 : 0 <= n) (h1 : (s.size : Int) < n) (h2 : s.size <= 1073741824) (h3 : n <= 8) :
    Calls Tryz.prog 161 #[.pointer (some ⟨g, 0, none⟩), .int .i64 n] w fun e w' => e = .panicked short /\ w = w' := by
  go_enter Tryz.func161, Tryz.ntmps161
  go_wp2_with (go_at_call 212; refine (take_short g s _ _ hg (by omega) h2).mono ?_; rintro e w' ⟨rfl, rfl⟩)
  exact ⟨rfl, rfl, rfl⟩
theorem integer_ok (g : Nat) (s : ByteArray) (n : Int) (w : World) (hg : Whole w g 204 #[.string s]) (h0 : 0 < n) (h1 : n <= (s.size : Int)) (h2 : s.size <= 1073741824) (h3 : n <= 8) :
    Calls Tryz.prog 161 #[.pointer (some ⟨g, 0, none⟩), .int .i64 n] w fun e w' =>
      e = .returned (.int .u64 (numOf (s.extract 0 n.toNat))) /\ w.grownBy w' (some g) /\ Whole w' g 204 #[.string (s.extract n.toNat s.size)] := by
  have hconv := fun W S => Lib.run_convert_string_bytes (P := Tryz.prog) W 9 115 5 S Tryz.underlying9 Tryz.underlying115 Tryz.underlying5
  obtain ⟨n, rfl⟩ := Int.eq_ofNat_of_zero_le (show 0 <= n by omega)
  rw [Int.toNat_natCast]
  have h1' : n <= s.size := by omega
  have h3' : n <= 8 := by omega
  go_enter Tryz.func161, Tryz.ntmps161
  go_wp2_with (go_at_call 212; refine (take_ok g s _ _ hg (by omega) (by omega) h2).mono ?_; rw [Int.toNat_natCast]; rintro e w' ⟨rfl, rfl⟩)
  obtain ⟨W1, hW1⟩ : ∃ W1, W1 = Lib.bytesWorld (w.setCell ⟨g, 0, none⟩ (.string (s.extract n s.size))) 5 (s.extract 0 n) := ⟨_, rfl⟩
  rw [<-hW1]
  have hsz : (s.extract 0 n).size = n := by simp; omega
  obtain ⟨l, hl⟩ : ∃ l, l = (s.extract 0 n).data.toList := ⟨_, rfl⟩
  have hln : l.length = n := by rw [hl, Array.length_toList]; exact hsz
  have hcell : ∀ k, k < n -> W1.cell? ⟨w.heap.size, k, none⟩ = some (.int .u8 (l.getD k 0).toNat) := by
    intro k hk
    have := Lib.bytesWorld_cell (w.setCell ⟨g, 0, none⟩ (.string (s.extract n s.size))) 5 (s.extract 0 n) k (by omega)
    rw [hW1, hl, <-this]
    simp [World.setCell]
  have hgb : w.grownBy W1 (some g) := by
    rw [hW1]
    refine ⟨rfl, rfl, rfl, by simp [Lib.bytesWorld_size, World.setCell], fun k hk hne => ?_⟩
    rw [Lib.bytesWorld_at_old _ _ _ _ (by simpa [World.setCell] using hk), Below.heap_setCell _ _ _ _ (by simpa using hne)]
  have hwh : Whole W1 g 204 #[.string (s.extract n s.size)] := by
    rw [hW1]
    unfold Whole; rw [Lib.bytesWorld_at_old _ _ _ _ (by have := hg.lt; simpa [World.setCell] using this)]
    exact (hg.put 0 _).trans (by simp)
  have HS := Ha hsz
  have HL := Ha hl
  have HN := Ha hln
  have HC := Ha hcell
  clear hW1 hsz hl hcell hln hconv
  go_loop [5, 14] (fun v i => ∃ k : Nat, k <= n /\ i = .int .i64 k /\ v = .int .u64 (num (l.take k))) (fun _ i => n - (intOf i).toNat)
  case atStart => exact ⟨0, Nat.zero_le _, rfl, rfl⟩
  case round =>
    obtain ⟨k, hk, rfl, rfl⟩ := hrel
    by_cases hlt : k < n
    · have hc := HC.out k hlt
      go_wp2_with fail
      go_round
      case rel =>
        refine ⟨k + 1, by omega, by go_num, ?_⟩
        have hkl : k < l.length := by have := HN.out; omega
        have e1 : l.take (k + 1) = l.take k ++ [l[k]] := List.take_succ_eq_append_getElem hkl
        have e2 : l[k]?.getD 0 = l[k] := by simp [hkl]
        have b1 := num_lt (l.take k)
        have b2 : 256 ^ (l.take k).length <= 256 ^ 7 := Nat.pow_le_pow_right (by omega) (by simp; omega)
        rw [e1, num_snoc, e2, or8 _ _ (by omega) l[k].toNat_lt]
        simp
      case measure => simp [intOf]; omega
    · obtain rfl : k = n := by omega
      go_wp2_with fail
      go_ret
      refine ⟨?_, hgb, hwh⟩
      exact ret_int (by unfold numOf; rw [<-HL.out, List.take_of_length_le (by have := HN.out; omega)])
theorem piece_ok (g : Nat) (s : ByteArray) (n : Int) (w : World) (hg : Whole w g 204 #[.string s]) (h0 : 0 < n) (h1 : n <= (s.size : Int)) (h2 : s.size <= 1073741824) (h3 : n <= 8)
    (h4 : numOf (s.extract 0 n.toNat) <= s.size - n.toNat) :
    Calls Tryz.prog 164 #[.pointer (some ⟨g, 0, none⟩), .int .i64 n] w fun e w' =>
      e = .returned (.string ((s.extract n.toNat s.size).extract 0 (numOf (s.extract 0 n.toNat)))) /\ w.grownBy w' (some g) /\
        Whole w' g 204 #[.string ((s.extract n.toNat s.size).extract (numOf (s.extract 0 n.toNat)) (s.size - n.toNat))] := by
  have hsz : (s.extract n.toNat s.size).size = s.size - n.toNat := by simp
  go_enter Tryz.func164, Tryz.ntmps164
  go_wp2_with fail
  refine (integer_ok g s n w hg h0 h1 h2 h3).mono ?_
  rintro e w1 ⟨rfl, hgb, hw1⟩
  go_wp2_with fail
  refine (take_ok g _ _ w1 hw1 (by omega) (by rw [hsz]; omega) (by rw [hsz]; omega)).mono ?_
  rw [Int.toNat_natCast]
  rintro e w2 ⟨rfl, rfl⟩
  go_wp2_with fail
  go_ret
  exact ⟨rfl, grown_setCell hgb _, hw1.put1 _⟩
theorem piece_short (g : Nat) (s : ByteArray) (n : Int) (w : World) (hg : Whole w g 204 #[.string s]) (h0 : 0 < n) (h2 : s.size <= 1073741824) (h3 : n <= 8)
    (h4 : (s.size : Int) < n \/ s.size - n.toNat < numOf (s.extract 0 n.toNat)) :
    Calls Tryz.prog 164 #[.pointer (some ⟨g, 0, none⟩), .int .i64 n] w fun e w' => e = .panicked short /\ w.grownBy w' (some g) := by
  by_cases h1 : (s.size : Int) < n
  · go_enter Tryz.func164, Tryz.ntmps164
    go_wp2_with fail
    refine (integer_short g s n w hg (by omega) h1 h2 h3).mono ?_
    rintro e w1 ⟨rfl, rfl⟩; exact ⟨rfl, rfl, World.grownBy.refl w _⟩
  · have h5 : s.size - n.toNat < numOf (s.extract 0 n.toNat) := by omega
    have hsz : (s.extract n.toNat s.size).size = s.size - n.toNat := by simp
    go_enter Tryz.func164, Tryz.ntmps164
    go_wp2_with fail
    refine (integer_ok g s n w hg h0 (by omega) h2 h3).mono ?_
    rintro e w1 ⟨rfl, hgb, hw1⟩; go_wp2_with fail
    refine (take_short g _ _ w1 hw1 (by rw [hsz]; omega) (by rw [hsz]; omega)).mono ?_
    rintro e w2 ⟨rfl, rfl⟩; exact ⟨rfl, rfl, hgb⟩
end Go.Proofs.YtmpginmdaeclaaaGreatDoor
namespace Go.Proofs.YtmpginmdaeclaaaGreatDoor
open Go.RowKit
theorem zero9 : (Array.replicate 9 undef : Array Value) = #[undef, undef, undef, undef, undef, undef, undef, undef, undef] := rfl
theorem is_short (w : World) : (Instr.typeAssert (.iface 202 (.agg #[])) 20 202 true).run Tryz.prog w = .ok (.tuple #[.agg #[], .bool true]) w := by kernel_rfl
theorem cutLater_panicking (b : Nat) (w : World) (x y z : Value) (hp : Whole w b 9 #[x]) (hq : Whole w (b + 1) 9 #[y]) (hr : Whole w (b + 1 + 1) 32 #[z]) :
    CallsD Tryz.prog 163 #[.pointer (some ⟨b, 0, none⟩), .pointer (some ⟨b + 1, 0, none⟩), .pointer (some ⟨b + 1 + 1, 0, none⟩)] (.panicking short) w fun e u' w' =>
      e = .returned (.tuple #[]) /\ settle u' = .returning /\ Whole w' b 9 #[(.string empty)] /\ Whole w' (b + 1) 9 #[.string empty] /\ Whole w' (b + 1 + 1) 32 #[.int .i64 2] /\ Below b w w' := by
  have hta := is_short
  have k0 := (hp.alloc (.cells #[] 202)).cell1
  have k1 := (hq.alloc (.cells #[] 202)).cell1
  have k2 := (hr.alloc (.cells #[] 202)).cell1
  have f0 := (hp.alloc (.cells #[] 202)).frozen 0
  have f1 := (hq.alloc (.cells #[] 202)).frozen 0
  have f2 := (hr.alloc (.cells #[] 202)).frozen 0
  have hB : Below b w ((((w.alloc (.cells #[] 202)).setCell ⟨b, 0, none⟩ (.string empty)).setCell ⟨b + 1, 0, none⟩ (.string empty)).setCell ⟨b + 1 + 1, 0, none⟩ (.int .i64 2)) := ((((Below.refl b w).alloc (Nat.le_of_lt hp.lt) _).setCell (Nat.le_refl _) _).setCell (by simp) _).setCell (by simp; omega) _
  have hP : Whole ((((w.alloc (.cells #[] 202)).setCell ⟨b, 0, none⟩ (.string empty)).setCell ⟨b + 1, 0, none⟩ (.string empty)).setCell ⟨b + 1 + 1, 0, none⟩ (.int .i64 2)) b 9 #[(.string empty)] := (((hp.alloc _).put1 _).far (by simp) _).far (by simp; omega) _
  have hQ : Whole ((((w.alloc (.cells #[] 202)).setCell ⟨b, 0, none⟩ (.string empty)).setCell ⟨b + 1, 0, none⟩ (.string empty)).setCell ⟨b + 1 + 1, 0, none⟩ (.int .i64 2)) (b + 1) 9 #[.string empty] := (((hq.alloc _).far (by simp) _).put1 _).far (by simp) _
  have hR : Whole ((((w.alloc (.cells #[] 202)).setCell ⟨b, 0, none⟩ (.string empty)).setCell ⟨b + 1, 0, none⟩ (.string empty)).setCell ⟨b + 1 + 1, 0, none⟩ (.int .i64 2)) (b + 1 + 1) 32 #[.int .i64 2] := (((hr.alloc _).far (by simp; omega) _).far (by simp) _).put1 _
  have HB := Ha hB
  have HP := Ha hP
  have HQ := Ha hQ
  have HR := Ha hR
  clear hp hq hr hB hP hQ hR
  refine callsD_of_wpS Tryz.func163 rfl fun c₀ cs hu => ?_
  apply wpS_seq
  apply wpS_region
  simp [wpOpsS, go_sem, recoverD, hu, Tryz.ntmps163, Exit.thenS, short, zero9]
  refine wpS_of_wp ?_
  go_wp2
  exact ⟨rfl, _, rfl, .tuple #[], by simp [results, Tryz.results163, Sem.run_pure], rfl, rfl, HP.out, HQ.out, HR.out, HB.out⟩
theorem cutLater_idle (b : Nat) (w : World) :
    CallsD Tryz.prog 163 #[.pointer (some ⟨b, 0, none⟩), .pointer (some ⟨b + 1, 0, none⟩), .pointer (some ⟨b + 1 + 1, 0, none⟩)] .returning w fun e u' w' =>
      e = .returned (.tuple #[]) /\ settle u' = .returning /\ w' = w := by
  refine callsD_of_wpS Tryz.func163 rfl fun c₀ cs hu => ?_
  apply wpS_seq
  apply wpS_region
  simp [wpOpsS, go_sem, recoverD, hu, Tryz.ntmps163, Exit.thenS, zero9]
  refine wpS_of_wp ?_
  go_wp2
  refine ⟨rfl, c₀.mode, rfl, .tuple #[], by simp [results, Tryz.results163, Sem.run_pure], rfl, by rw [hu]; rfl, rfl⟩
theorem Cut_any (s : ByteArray) (n : Int) (w : World) (hs : s.size <= 1073741824) :
    Calls Tryz.prog 112 #[.string s, .int .i64 n] w fun e w' =>
      e = .returned (.tuple #[.string (cutR s n).1, .string (cutR s n).2.1, .int .i64 (cutR s n).2.2]) /\ Below w.heap.size w w' := by
  have hmf : ∀ (fn : Fn) (first cap : Array Value) (w : World), (Instr.makeFunc fn first cap).run Tryz.prog w = .ok (.func fn first cap) w := fun _ _ _ _ => rfl
  cases hp : pB n
  · have hr : cutR s n = (empty, empty, 1) := by simp [cutR, hp]
    rw [hr]
    clear hr; go_enter_defers Tryz.func112, Tryz.ntmps112
    go_wp2_with (go_at_call 162; refine (isPieceWidth_any _ _).mono ?_; rintro e w' ⟨rfl, rfl⟩)
    simp [bodyPostD, Leaves, results, Tryz.results112, go_sem, empty]
    exact (((Below.refl _ _).alloc (by simp) _).alloc (by simp) _).alloc (by simp; omega) _
  obtain ⟨hn1, hn2⟩ : 0 < n /\ n <= 8 := by have := pB_cases hp; omega
  by_cases hsh : (s.size : Int) < n \/ s.size - n.toNat < numOf (s.extract 0 n.toNat)
  · have hr : cutR s n = (empty, empty, 2) := by simp [cutR, hp, hsh]
    rw [hr]
    clear hr; have HS := Ha hsh
    clear hsh; go_enter_defers Tryz.func112, Tryz.ntmps112
    go_wp2_with (go_at_call 162; refine (isPieceWidth_any _ _).mono ?_; rintro e w' ⟨rfl, rfl⟩); obtain ⟨F0, F1, F2, F3, FB⟩ := four w #[.string ⟨#[]⟩] #[.string ⟨#[]⟩] #[.int .i64 0] #[.string s] 9 9 32 204
    refine (piece_short _ s n _ F3 hn1 hs hn2 HS.out).mono ?_
    rintro e w1 ⟨rfl, hgb⟩; have G0 := F0.grown hgb (by simp; omega)
    have G1 := F1.grown hgb (by simp)
    have G2 := F2.grown hgb (by simp)
    have GB := FB.grown hgb (by simp; omega) (by intro k hk; simp at hk; omega)
    clear F0 F1 F2 F3 FB hgb HS hmf; refine leaves_cons (f := 163) (args := #[.pointer (some ⟨w.heap.size, 0, none⟩), .pointer (some ⟨w.heap.size + 1, 0, none⟩), .pointer (some ⟨w.heap.size + 1 + 1, 0, none⟩)]) (by simp) (by simp [go_sem]) ?_
    refine (cutLater_panicking w.heap.size w1 _ _ _ G0 G1 G2).mono ?_
    rintro e u' w2 ⟨rfl, hset, K0, K1, K2, KB⟩
    change Leaves _ _ _ _ [] (settle u') w2
    rw [hset]
    exact ⟨_, by simp [results, Tryz.results112, go_sem, K0.cell1, K1.cell1, K2.cell1], rfl, GB.trans (KB.mono (Nat.le_refl _))⟩
  · have hr : cutR s n = ((s.extract n.toNat s.size).extract 0 (numOf (s.extract 0 n.toNat)), (s.extract n.toNat s.size).extract (numOf (s.extract 0 n.toNat)) (s.size - n.toNat), 0) := by simp [cutR, hp, hsh]
    rw [hr]
    clear hr; have HS := Ha hsh
    clear hsh; go_enter_defers Tryz.func112, Tryz.ntmps112
    go_wp2_with (go_at_call 162; refine (isPieceWidth_any _ _).mono ?_; rintro e w' ⟨rfl, rfl⟩); obtain ⟨F0, F1, F2, F3, FB⟩ := four w #[.string ⟨#[]⟩] #[.string ⟨#[]⟩] #[.int .i64 0] #[.string s] 9 9 32 204
    refine (piece_ok _ s n _ F3 hn1 (by have := HS.out; omega) hs hn2 (by have := HS.out; omega)).mono ?_
    rintro e w1 ⟨rfl, hgb, G3⟩; have G0 := F0.grown hgb (by simp; omega)
    have G1 := F1.grown hgb (by simp)
    have G2 := F2.grown hgb (by simp)
    have GB := Ha (FB.grown hgb (by simp; omega) (by intro k hk; simp at hk; omega))
    have c0 := G0.cell1
    have c1 := G1.cell1
    have c2 := G2.cell1
    have c3 := G3.cell1
    have f0 := G0.frozen 0
    have f1 := G1.frozen 0
    have f2 := G2.frozen 0
    clear F0 F1 F2 F3 FB hgb HS G0 G1 G2 G3; go_wp2_with fail
    go_region
    go_wp2_with fail
    refine leaves_cons (f := 163) (args := #[.pointer (some ⟨w.heap.size, 0, none⟩), .pointer (some ⟨w.heap.size + 1, 0, none⟩), .pointer (some ⟨w.heap.size + 1 + 1, 0, none⟩)]) (by simp) (by simp [go_sem]) ?_
    refine (cutLater_idle w.heap.size _).mono ?_
    rintro e u' w2 ⟨rfl, hset, rfl⟩
    change Leaves _ _ _ _ [] (settle u') _
    rw [hset]
    exact ⟨_, by simp [results, Tryz.results112, go_sem, c0, c1, c2], rfl, ((((GB.out.setCell (by simp) _).setCell (by simp) _).setCell (by simp) _).setCell (by simp; omega) _).drew⟩
end Go.Proofs.YtmpginmdaeclaaaGreatDoor
namespace Go.Proofs.YtmpginmdaeclaaaGreatDoor
open Go.RowKit
theorem up8 (v c : Nat) (hv : v < 256 ^ 7) (hc : c < 256) : IntKind.u64.wrap (IntKind.u64.wrap ((v : Int) * 256) + IntKind.u64.wrap (c : Int)) = (v : Int) * 256 + c := by
  have e1 : IntKind.u64.wrap ((v : Int) * 256) = (v : Int) * 256 := wraps_u64 _ (by omega) (by omega)
  have e2 : IntKind.u64.wrap (c : Int) = c := wraps_u64 _ (by omega) (by omega)
  rw [e1, e2]
  exact wraps_u64 _ (by omega) (by omega)
theorem Number_any (s : ByteArray) (w : World) (hs : s.size <= 8) :
    Calls Tryz.prog 117 #[.string s] w fun e w' => e = .returned (.int .u64 (numOf s)) /\ w = w' := by
  go_enter Tryz.func117, Tryz.ntmps117
  go_wp2_with fail
  go_loop [3, 4] (fun v i => ∃ k : Nat, k <= s.size /\ i = .int .i64 k /\ v = .int .u64 (num (s.data.toList.take k))) (fun _ i => s.size - (intOf i).toNat)
  case atStart => exact ⟨0, Nat.zero_le _, rfl, rfl⟩
  case round =>
    obtain ⟨k, hk, rfl, rfl⟩ := hrel
    by_cases hlt : k < s.size
    · go_wp2_with fail
      go_round
      case rel =>
        refine ⟨k + 1, by omega, by go_num, ?_⟩
        have hkl : k < s.data.toList.length := by simpa using hlt
        have e1 : s.data.toList.take (k + 1) = s.data.toList.take k ++ [s[k]] := List.take_succ_eq_append_getElem hkl
        have b1 := num_lt (s.data.toList.take k)
        have b2 : 256 ^ (s.data.toList.take k).length <= 256 ^ 7 := Nat.pow_le_pow_right (by omega) (by simp; omega)
        rw [e1, num_snoc, up8 _ _ (by omega) s[k].toNat_lt]
        simp
      case measure => simp [intOf]; omega
    · obtain rfl : k = s.size := by omega
      go_wp2_with fail
      go_ret
      exact ⟨ret_int (by unfold numOf; rw [List.take_of_length_le (by simp)]), rfl⟩
end Go.Proofs.YtmpginmdaeclaaaGreatDoor
namespace Go.Proofs.YtmpginmdaeclaaaGreatDoor
open Go.RowKit
structure Later (w : World) where
  val : World
  below : Below w.heap.size w val
instance (w : World) : Nonempty (Later w) := ⟨⟨w, Below.refl _ _⟩⟩
theorem region_later {id : Nat} {Q : Exit -> Act -> World -> Prop} {a : Act} {w : World} {l : List Oper} (hB : Region.lexB .any l.toArray = true)
    (h : wpQuiet Tryz.prog l.toArray (fun w' => ∃ p : Later w, w' = p.val) (fun a' => ∀ w', (∃ p : Later w, w' = p.val) -> Q .normal a' w') l a) : (Code.region id l.toArray true).wp Tryz.prog Q a w :=
  wp_region_quiet (C := fun w' => ∃ p : Later w, w' = p.val) (by kernel_rfl) hB ⟨⟨w.drew, (Below.refl _ w).drew⟩, rfl⟩ (by simpa using h)
theorem later_call {f : FuncId} {args : Array Value} {w : World} {p : Later w} {v : Value} (h : Calls Tryz.prog f args p.val fun e w' => e = .returned v /\ Below p.val.heap.size p.val w') :
    Calls Tryz.prog f args p.val fun e w'' => e = .returned v /\ ∃ q : Later w, w'' = q.val :=
  h.mono fun _ w' ⟨he, hb⟩ => ⟨he, ⟨w', p.below.trans (hb.mono p.below.size)⟩, rfl⟩
theorem later_same {f : FuncId} {args : Array Value} {w : World} {p : Later w} {v : Value} (h : Calls Tryz.prog f args p.val fun e w' => e = .returned v /\ p.val = w') :
    Calls Tryz.prog f args p.val fun e w'' => e = .returned v /\ ∃ q : Later w, w'' = q.val :=
  h.mono fun _ _ ⟨he, hb⟩ => ⟨he, p, hb.symm⟩
theorem Whole.later {w : World} {g : Nat} {t : TypeId} {cs : Array Value} (h : Whole w g t cs) (q : Later w) : Whole q.val g t cs := h.below q.below h.lt
theorem thB {a w w' : World} (H : RowKit.Hid (RowKit.Below a.heap.size a w)) (k : RowKit.Below w.heap.size w w') : RowKit.Hid (RowKit.Below a.heap.size a w') := Lib.hid (H.out.trans (k.mono H.out.size))
end Go.Proofs.YtmpginmdaeclaaaGreatDoor
