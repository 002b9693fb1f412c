/- RdO: texts RdaO, RdaP of our own, joined. No statement of the seat is proved here. -/
import Derived.Test.YtkmmbbcmpjkmkaaRdB
import Derived.Test.YtkmmbbcmpjkmkaaOcD
import Derived.Test.YtkmmbbcmpjkmkaaOcJ
import Derived.Test.YtkmmbbcmpjkmkaaNaA
import Derived.StillTailTactics
import Derived.Deep.RegionHeld3
namespace Go.Proofs.Ytkmmbbcmpjkmkaa
open Go.RowKit

/-- a list of strings that takes what is seen -/
def JL (c0 : Nat) (w0 : World) (vs : Vis) (W : World) : Prop := ∃ v, Whole W c0 71 #[v] ∧ W.ownsRow w0.heap.size 9 1 v vs.length (texts (vs.map fun x => mk x.2)) ∧ Below w0.heap.size w0 W ∧ w0.heap.size ≤ c0

/-! ### the parts of the data of an SOA -/
def agg7 (m r : List UInt8) (n0 n1 n2 n3 n4 : Nat) : Array Value := #[.string (mk m), .string (mk r), .int .u32 (n0 : Nat), .int .u32 (n1 : Nat), .int .u32 (n2 : Nat), .int .u32 (n3 : Nat), .int .u32 (n4 : Nat)]
structure Soa7 (D m r a b c d e : List UInt8) : Prop where
  nm : (∃ L, nameL m = some L) ∧ ∃ L, nameL r = some L
  four : a.length = 4 ∧ b.length = 4 ∧ c.length = 4 ∧ d.length = 4 ∧ e.length = 4
  all : D = m ++ r ++ a ++ b ++ c ++ d ++ e
theorem Soa7.is {D m r a b c d e : List UInt8} (h : Soa7 D m r a b c d e) : rightR 6 D = true ∧ visR 6 D = [(-1, m), (-1, r), (20, a ++ b ++ c ++ d ++ e)] ∧
    steps D D.length (kindsR 6) 0 = ([(-1, m), (-1, r), (4, a), (4, b), (4, c), (4, d), (4, e)], some D.length) := by
  obtain ⟨h1, h2⟩ := h.nm
  obtain ⟨l0, l1, l2, l3, l4⟩ := h.four
  have hm : m.length ≤ 255 := by obtain ⟨L, hL⟩ := h1; exact (nameL_is hL).2.2
  have hr : r.length ≤ 255 := by obtain ⟨L, hL⟩ := h2; exact (nameL_is hL).2.2
  have w1 : WF [(-1, m), (-1, r), (20, a ++ b ++ c ++ d ++ e)] :=
    ⟨by simp [Part], ⟨fun _ => h1, by simp, by simp⟩, by simp, by simp [Part], ⟨fun _ => h2, by simp, by simp⟩, by simp, by simp [Part], ⟨by simp, by simp, fun _ => by simp [l0, l1, l2, l3, l4]⟩, by simp, trivial⟩
  have w2 : WF [(-1, m), (-1, r), (4, a), (4, b), (4, c), (4, d), (4, e)] :=
    ⟨by simp [Part], ⟨fun _ => h1, by simp, by simp⟩, by simp, by simp [Part], ⟨fun _ => h2, by simp, by simp⟩, by simp, by simp [Part], ⟨by simp, by simp, fun _ => by simp [l0]⟩, by simp, by simp [Part], ⟨by simp, by simp, fun _ => by simp [l1]⟩, by simp,
      by simp [Part], ⟨by simp, by simp, fun _ => by simp [l2]⟩, by simp, by simp [Part], ⟨by simp, by simp, fun _ => by simp [l3]⟩, by simp, by simp [Part], ⟨by simp, by simp, fun _ => by simp [l4]⟩, by simp, trivial⟩
  have c1 : cat [(-1, m), (-1, r), (20, a ++ b ++ c ++ d ++ e)] = D := by rw [h.all]; simp [cat]
  have c2 : cat [(-1, m), (-1, r), (4, a), (4, b), (4, c), (4, d), (4, e)] = D := by rw [h.all]; simp [cat]
  have hl : (cat [(-1, m), (-1, r), (20, a ++ b ++ c ++ d ++ e)]).length ≤ 65535 := by rw [c1, h.all]; simp; omega
  obtain ⟨r1, r2⟩ := right_of (t := 6) w1 rfl hl
  rw [c1] at r1 r2
  have s2 := steps_cat w2
  rw [c2] at s2
  exact ⟨r1, r2, s2⟩
theorem soa_is {D : List UInt8} (h : rightR 6 D = true) : ∃ m r a b c d e, Soa7 D m r a b c d e := by
  obtain ⟨_, _, h3, h4, h5⟩ := right_is h
  have hk : partsP 6 = [-1, -1, 20] := rfl
  rw [hk] at h5
  match hv : visR 6 D, h5 with
  | [(k1, m), (k2, r), (k3, x)], h5 =>
    simp only [List.map_cons, List.map_nil, List.cons.injEq, and_true] at h5
    obtain ⟨rfl, rfl, rfl⟩ := h5
    rw [hv] at h3 h4
    obtain ⟨_, ⟨a1, _, _⟩, _, _, ⟨b1, _, _⟩, _, _, ⟨_, _, c3⟩, _⟩ := h4
    have hx : x.length = 20 := by have := c3 (by decide); omega
    refine ⟨m, r, x.take 4, (x.drop 4).take 4, (x.drop 8).take 4, (x.drop 12).take 4, x.drop 16, ⟨a1 (.inl rfl), b1 (.inl rfl)⟩, by simp; omega, ?_⟩
    rw [← h3]
    have e1 : x = x.take 4 ++ ((x.drop 4).take 4 ++ ((x.drop 8).take 4 ++ ((x.drop 12).take 4 ++ x.drop 16))) := by
      have g : ∀ i, (x.drop i).take 4 ++ x.drop (i + 4) = x.drop i := fun i => by rw [← List.drop_drop]; exact List.take_append_drop 4 _
      rw [g 12, g 8, g 4, List.take_append_drop]
    simp only [cat, List.flatMap_cons, List.flatMap_nil, List.append_nil, List.append_assoc]
    rw [← e1]
end Go.Proofs.Ytkmmbbcmpjkmkaa
namespace Go.Proofs.Ytkmmbbcmpjkmkaa
open Go.RowKit

theorem seven_put {w : World} {r t : Nat} {x0 x1 x2 x3 x4 x5 x6 : Value} (h : Whole w r t #[x0, x1, x2, x3, x4, x5, x6]) (a0 a1 a2 a3 a4 a5 a6 : Value) :
    Whole (((((((w.setCell ⟨r, 0, none⟩ a0).setCell ⟨r, 1, none⟩ a1).setCell ⟨r, 2, none⟩ a2).setCell ⟨r, 3, none⟩ a3).setCell ⟨r, 4, none⟩ a4).setCell ⟨r, 5, none⟩ a5).setCell ⟨r, 6, none⟩ a6) r t #[a0, a1, a2, a3, a4, a5, a6] := by
  have := ((((((h.put 0 a0).put 1 a1).put 2 a2).put 3 a3).put 4 a4).put 5 a5).put 6 a6
  simpa using this
theorem seven_below {B : Nat} {a w : World} {r : Nat} (h : Below B a w) (hr : B ≤ r) (a0 a1 a2 a3 a4 a5 a6 : Value) :
    Below B a (((((((w.setCell ⟨r, 0, none⟩ a0).setCell ⟨r, 1, none⟩ a1).setCell ⟨r, 2, none⟩ a2).setCell ⟨r, 3, none⟩ a3).setCell ⟨r, 4, none⟩ a4).setCell ⟨r, 5, none⟩ a5).setCell ⟨r, 6, none⟩ a6) :=
  ((((((h.setCell hr a0).setCell hr a1).setCell hr a2).setCell hr a3).setCell hr a4).setCell hr a5).setCell hr a6
theorem soa_facts {w : World} {r t : Nat} {a0 a1 a2 a3 a4 a5 a6 : Value} (h : Whole w r t #[a0, a1, a2, a3, a4, a5, a6]) :
    w.cell? ⟨r, 0, none⟩ = some a0 ∧ w.cell? ⟨r, 1, none⟩ = some a1 ∧ w.cell? ⟨r, 2, none⟩ = some a2 ∧ w.cell? ⟨r, 3, none⟩ = some a3 ∧ w.cell? ⟨r, 4, none⟩ = some a4 ∧ w.cell? ⟨r, 5, none⟩ = some a5 ∧ w.cell? ⟨r, 6, none⟩ = some a6 :=
  ⟨(h.cell 0).trans rfl, (h.cell 1).trans rfl, (h.cell 2).trans rfl, (h.cell 3).trans rfl, (h.cell 4).trans rfl, (h.cell 5).trans rfl, (h.cell 6).trans rfl⟩
theorem soa_frozen {w : World} {r t : Nat} {cs : Array Value} (h : Whole w r t cs) : w.frozen? ⟨r, 0, none⟩ = false ∧ w.frozen? ⟨r, 1, none⟩ = false ∧ w.frozen? ⟨r, 2, none⟩ = false ∧ w.frozen? ⟨r, 3, none⟩ = false ∧ w.frozen? ⟨r, 4, none⟩ = false ∧ w.frozen? ⟨r, 5, none⟩ = false ∧ w.frozen? ⟨r, 6, none⟩ = false :=
  ⟨h.frozen 0, h.frozen 1, h.frozen 2, h.frozen 3, h.frozen 4, h.frozen 5, h.frozen 6⟩
def zeroS : Array Value := #[.string ⟨#[]⟩, .string ⟨#[]⟩, .int .u32 0, .int .u32 0, .int .u32 0, .int .u32 0, .int .u32 0]
theorem splitF_step {a t : List UInt8} (h : a.length = 4) (ws : List Int) : splitF (mk (a ++ t)) (4 :: ws) = (splitF (mk t) ws).map fun (p : List Int × ByteArray) => ((num a : Int) :: p.1, p.2) := by
  have h1 : ¬ (((mk (a ++ t)).size : Int) < 4) := by rw [mk_size]; simp; omega
  have e1 : (mk (a ++ t)).extract 4 (mk (a ++ t)).size = mk t := by rw [mk_extract, mk_size, List.take_length, List.drop_left' h]
  have e2 : numOf ((mk (a ++ t)).extract 0 4) = num a := by rw [mk_extract, mk_num, List.take_left' h, List.drop_zero]
  rw [splitF, if_neg h1]
  show Option.map _ (splitF ((mk (a ++ t)).extract 4 (mk (a ++ t)).size) ws) = _
  rw [e1]
  show Option.map (fun (p : List Int × ByteArray) => ((numOf ((mk (a ++ t)).extract 0 4) : Int) :: p.1, p.2)) _ = _
  rw [e2]
theorem split5 {a b c d e : List UInt8} (h : a.length = 4 ∧ b.length = 4 ∧ c.length = 4 ∧ d.length = 4 ∧ e.length = 4) :
    splitR (mk (a ++ b ++ c ++ d ++ e)) [4, 4, 4, 4, 4] = ([(num a : Int), (num b : Int), (num c : Int), (num d : Int), (num e : Int)], mk [], 0) := by
  obtain ⟨l0, l1, l2, l3, l4⟩ := h
  refine splitR_some (by decide) ?_
  have e0 : a ++ b ++ c ++ d ++ e = a ++ (b ++ (c ++ (d ++ (e ++ [])))) := by simp
  rw [e0, splitF_step l0, splitF_step l1, splitF_step l2, splitF_step l3, splitF_step l4]
  rfl
end Go.Proofs.Ytkmmbbcmpjkmkaa
