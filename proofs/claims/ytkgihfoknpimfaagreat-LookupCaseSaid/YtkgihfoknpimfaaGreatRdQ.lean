/- RdQ: texts RdaQ of our own, joined. No statement of the seat is proved here. -/
import Derived.Test.YtkgihfoknpimfaaGreatRdO
namespace Go.Proofs.YtkgihfoknpimfaaGreat
open Go.RowKit

theorem join5 {n0 n1 n2 n3 n4 : Nat} (h : n0 < 4294967296 ∧ n1 < 4294967296 ∧ n2 < 4294967296 ∧ n3 < 4294967296 ∧ n4 < 4294967296) :
    joinR [(n0 : Int), (n1 : Int), (n2 : Int), (n3 : Int), (n4 : Int)] [4, 4, 4, 4, 4] = (mk (be n0 4 ++ be n1 4 ++ be n2 4 ++ be n3 4 ++ be n4 4), 0) := by
  have hf : ∀ n : Nat, n < 4294967296 → fitB n 4 = true := fun n hn => by unfold fitB; rw [decide_eq_true_eq]; exact hn
  obtain ⟨h0, h1, h2, h3, h4⟩ := h
  refine joinR_some (by decide) rfl ?_
  have e4 : ((4 : Int)).toNat = 4 := rfl
  simp only [joinF, Int.toNat_natCast, e4, hf _ h0, hf _ h1, hf _ h2, hf _ h3, hf _ h4, if_true, Option.map_some, List.append_nil, List.append_assoc]
theorem u64_row : (Tryz.prog.info? 133).map (fun i => (i.zero, i.size, i.bytes)) = some (some (.int .u64 0), 1, 8) := by kernel_rfl
def natsV (ns : List Nat) : List Int := ns.map (fun n : Nat => (n : Int))

end Go.Proofs.YtkgihfoknpimfaaGreat
