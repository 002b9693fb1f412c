/- The reference's Data. No statement of the seat is proved here. -/
import Derived.Test.YtgnfleldkjhgcaaRdaR
namespace Go.Proofs.Ytgnfleldkjhgcaa
open Go.RowKit

theorem four_at (w0 W : World) (g : Nat) (cs : Array Value) (n : Nat) (hn : n < 4294967296) (hw : Whole W g soT cs) (hB : Below w0.heap.size w0 W) :
    Calls Try.prog 46 #[.int .u32 (n : Nat)] W fun en W' => en = .returned (.string (mk (be n 4))) ∧ Whole W' g soT cs ∧ Below w0.heap.size w0 W' := by
  refine (four_any n W hn).mono ?_
  rintro en W' ⟨rfl, h⟩
  exact ⟨rfl, hw.below h hw.lt, hB.trans (h.mono hB.size)⟩

set_option maxHeartbeats 600000 in
set_option maxRecDepth 20000 in
theorem RefData_any (m r : List UInt8) (n0 n1 n2 n3 n4 : Nat) (w : World) (hm : m.length ≤ 2000) (hr : r.length ≤ 2000) (hn : n0 < 4294967296 ∧ n1 < 4294967296 ∧ n2 < 4294967296 ∧ n3 < 4294967296 ∧ n4 < 4294967296) :
    Calls Try.prog 22 #[.agg (agg7 m r n0 n1 n2 n3 n4)] w fun en w' => en = .returned (.string (mk (m ++ r ++ be n0 4 ++ be n1 4 ++ be n2 4 ++ be n3 4 ++ be n4 4))) ∧ Below w.heap.size w w' := by
  unfold agg7
  have hw0 := Whole.new w soT #[.string (mk m), .string (mk r), .int .u32 (n0 : Nat), .int .u32 (n1 : Nat), .int .u32 (n2 : Nat), .int .u32 (n3 : Nat), .int .u32 (n4 : Nat)]
  have hB0 : Below w.heap.size w (w.alloc (.cells #[.string (mk m), .string (mk r), .int .u32 (n0 : Nat), .int .u32 (n1 : Nat), .int .u32 (n2 : Nat), .int .u32 (n3 : Nat), .int .u32 (n4 : Nat)] soT)) := (Below.refl _ _).alloc (Nat.le_refl _) _
  have hw1 := hw0.drew
  have hB1 := hB0.drew
  have hz : (mk m).size + (mk r).size ≤ 4000 := by rw [mk_size, mk_size]; omega
  have hbe : ∀ n, (mk (be n 4)).size = 4 := fun n => by rw [mk_size, be_length]
  have q1 : ¬ 9223372036854775807 < (mk m).size + (mk r).size := by omega
  have q2 : ¬ 9223372036854775807 < (mk m).size + (mk r).size + (mk (be n0 4)).size := by rw [hbe]; omega
  have q3 : ¬ 9223372036854775807 < (mk m).size + (mk r).size + (mk (be n0 4)).size + (mk (be n1 4)).size := by rw [hbe, hbe]; omega
  have q4 : ¬ 9223372036854775807 < (mk m).size + (mk r).size + (mk (be n0 4)).size + (mk (be n1 4)).size + (mk (be n2 4)).size := by rw [hbe, hbe, hbe]; omega
  have q5 : ¬ 9223372036854775807 < (mk m).size + (mk r).size + (mk (be n0 4)).size + (mk (be n1 4)).size + (mk (be n2 4)).size + (mk (be n3 4)).size := by rw [hbe, hbe, hbe, hbe]; omega
  have q6 : ¬ 9223372036854775807 < (mk m).size + (mk r).size + (mk (be n0 4)).size + (mk (be n1 4)).size + (mk (be n2 4)).size + (mk (be n3 4)).size + (mk (be n4 4)).size := by rw [hbe, hbe, hbe, hbe, hbe]; omega
  obtain ⟨h0, h1, h2, h3, h4⟩ := hn
  have HRES := Lib.hid (show mk m ++ mk r ++ mk (be n0 4) ++ mk (be n1 4) ++ mk (be n2 4) ++ mk (be n3 4) ++ mk (be n4 4) = mk (m ++ r ++ be n0 4 ++ be n1 4 ++ be n2 4 ++ be n3 4 ++ be n4 4) by simp only [mk_append])
  clear hw0 hB0 hbe hz
  go_enter Try.func22, Try.ntmps22
  go_wp2_with fail
  go_region_held3 (fun w' => w'.cell? ⟨w.heap.size, 0, none⟩ = some (.string (mk m)) ∧ w'.cell? ⟨w.heap.size, 1, none⟩ = some (.string (mk r)) ∧ w'.cell? ⟨w.heap.size, 2, none⟩ = some (.int .u32 (n0 : Nat)) ∧ w'.cell? ⟨w.heap.size, 3, none⟩ = some (.int .u32 (n1 : Nat)) ∧ w'.cell? ⟨w.heap.size, 4, none⟩ = some (.int .u32 (n2 : Nat)) ∧ w'.cell? ⟨w.heap.size, 5, none⟩ = some (.int .u32 (n3 : Nat)) ∧ w'.cell? ⟨w.heap.size, 6, none⟩ = some (.int .u32 (n4 : Nat))) (go_keep) (first
    | (go_at_call 46; (refine (four_at w _ w.heap.size _ _ (by assumption) (by assumption) (by assumption)).mono ?_; rintro en w3 ⟨rfl, hw3, hB3⟩; obtain ⟨d0, d1, d2, d3, d4, d5, d6⟩ := soa_facts hw3)))
  all_goals (
    go_wp2_with fail
    go_ret
    exact ⟨by rw [← HRES.out]; rfl, hB3⟩)
end Go.Proofs.Ytgnfleldkjhgcaa
