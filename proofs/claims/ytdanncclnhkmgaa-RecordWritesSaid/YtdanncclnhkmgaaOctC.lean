/- Cut: the deferred function turns the shortage's panic into the error; 'Cut' returns the first piece, or its error. -/
import Derived.Test.YtdanncclnhkmgaaOctB
import Derived.Defers
import Derived.Recover
import Derived.RegionTactic
import Derived.ChangeAlike
namespace Go.Proofs.Ytdanncclnhkmgaa
open Go.RowKit

theorem zero9 : (Array.replicate 9 undef : Array Value) = #[undef, undef, undef, undef, undef, undef, undef, undef, undef] := rfl
theorem is_short (w : World) : (Instr.typeAssert (.iface 121 (.agg #[])) 20 121 true).run Try.prog w = .ok (.tuple #[.agg #[], .bool true]) w := by kernel_rfl

set_option maxHeartbeats 400000 in
theorem cutLater_panicking (b : Nat) (w : World) (x y z : Value) (hp : Whole w b 9 #[x]) (hq : Whole w (b + 1) 9 #[y]) (hr : Whole w (b + 1 + 1) 37 #[z]) :
    CallsD Try.prog 87 #[.pointer (some ⟨b, 0, none⟩), .pointer (some ⟨b + 1, 0, none⟩), .pointer (some ⟨b + 1 + 1, 0, none⟩)] (.panicking short) w fun e u' w' =>
      e = .returned (.tuple #[]) ∧ settle u' = .returning ∧ Whole w' b 9 #[(.string empty)] ∧ Whole w' (b + 1) 9 #[.string empty] ∧ Whole w' (b + 1 + 1) 37 #[.int .i64 2] ∧ Below b w w' := by
  have hta := is_short
  have k0 := (hp.alloc (.cells #[] 121)).cell1
  have k1 := (hq.alloc (.cells #[] 121)).cell1
  have k2 := (hr.alloc (.cells #[] 121)).cell1
  have f0 := (hp.alloc (.cells #[] 121)).frozen 0
  have f1 := (hq.alloc (.cells #[] 121)).frozen 0
  have f2 := (hr.alloc (.cells #[] 121)).frozen 0
  have hB : Below b w ((((w.alloc (.cells #[] 121)).setCell ⟨b, 0, none⟩ (.string empty)).setCell ⟨b + 1, 0, none⟩ (.string empty)).setCell ⟨b + 1 + 1, 0, none⟩ (.int .i64 2)) := ((((Below.refl b w).alloc (Nat.le_of_lt hp.lt) _).setCell (Nat.le_refl _) _).setCell (by simp) _).setCell (by simp; omega) _
  have hP : Whole ((((w.alloc (.cells #[] 121)).setCell ⟨b, 0, none⟩ (.string empty)).setCell ⟨b + 1, 0, none⟩ (.string empty)).setCell ⟨b + 1 + 1, 0, none⟩ (.int .i64 2)) b 9 #[(.string empty)] := (((hp.alloc _).put1 _).far (by simp) _).far (by simp; omega) _
  have hQ : Whole ((((w.alloc (.cells #[] 121)).setCell ⟨b, 0, none⟩ (.string empty)).setCell ⟨b + 1, 0, none⟩ (.string empty)).setCell ⟨b + 1 + 1, 0, none⟩ (.int .i64 2)) (b + 1) 9 #[.string empty] := (((hq.alloc _).far (by simp) _).put1 _).far (by simp) _
  have hR : Whole ((((w.alloc (.cells #[] 121)).setCell ⟨b, 0, none⟩ (.string empty)).setCell ⟨b + 1, 0, none⟩ (.string empty)).setCell ⟨b + 1 + 1, 0, none⟩ (.int .i64 2)) (b + 1 + 1) 37 #[.int .i64 2] := (((hr.alloc _).far (by simp; omega) _).far (by simp) _).put1 _
  have HB := Lib.hid hB
  have HP := Lib.hid hP
  have HQ := Lib.hid hQ
  have HR := Lib.hid hR
  clear hp hq hr hB hP hQ hR
  refine callsD_of_wpS Try.func87 rfl fun c₀ cs hu => ?_
  apply wpS_seq
  apply wpS_region
  simp [wpOpsS, go_sem, recoverD, hu, Try.ntmps87, Exit.thenS, short, zero9]
  refine wpS_of_wp ?_
  go_wp2
  exact ⟨rfl, _, rfl, .tuple #[], by simp [results, Try.results87, Sem.run_pure], rfl, rfl, HP.out, HQ.out, HR.out, HB.out⟩

set_option maxHeartbeats 400000 in
theorem cutLater_idle (b : Nat) (w : World) :
    CallsD Try.prog 87 #[.pointer (some ⟨b, 0, none⟩), .pointer (some ⟨b + 1, 0, none⟩), .pointer (some ⟨b + 1 + 1, 0, none⟩)] .returning w fun e u' w' =>
      e = .returned (.tuple #[]) ∧ settle u' = .returning ∧ w' = w := by
  refine callsD_of_wpS Try.func87 rfl fun c₀ cs hu => ?_
  apply wpS_seq
  apply wpS_region
  simp [wpOpsS, go_sem, recoverD, hu, Try.ntmps87, Exit.thenS, zero9]
  refine wpS_of_wp ?_
  go_wp2
  refine ⟨rfl, c₀.mode, rfl, .tuple #[], by simp [results, Try.results87, Sem.run_pure], rfl, by rw [hu]; rfl, rfl⟩

theorem ret_str3 {a b a' b' : ByteArray} {k k' : Int} (h1 : a = a') (h2 : b = b') (h3 : k = k') :
    Ending.returned (.tuple #[.string a, .string b, .int .i64 k]) = .returned (.tuple #[.string a', .string b', .int .i64 k']) := by rw [h1, h2, h3]

set_option maxHeartbeats 1000000 in
theorem Cut_any (s : ByteArray) (n : Int) (w : World) (hs : s.size ≤ 1073741824) :
    Calls Try.prog 55 #[.string s, .int .i64 n] w fun e w' =>
      e = .returned (.tuple #[.string (cutR s n).1, .string (cutR s n).2.1, .int .i64 (cutR s n).2.2]) ∧ Below w.heap.size w w' := by
  have hmf : ∀ (fn : Fn) (first cap : Array Value) (w : World), (Instr.makeFunc fn first cap).run Try.prog w = .ok (.func fn first cap) w := fun _ _ _ _ => rfl
  cases hp : pB n
  · have hr : cutR s n = (empty, empty, 1) := by simp [cutR, hp]
    rw [hr]
    clear hr
    go_enter_defers Try.func55, Try.ntmps55
    go_wp2_with (go_at_call 86; refine (isPieceWidth_any _ _).mono ?_; rintro e w' ⟨rfl, rfl⟩)
    simp [bodyPostD, Leaves, results, Try.results55, go_sem, empty]
    exact (((Below.refl _ _).alloc (by simp) _).alloc (by simp) _).alloc (by simp; omega) _
  obtain ⟨hn1, hn2⟩ : 0 < n ∧ n ≤ 8 := by have := pB_cases hp; omega
  by_cases hsh : (s.size : Int) < n ∨ s.size - n.toNat < numOf (s.extract 0 n.toNat)
  · have hr : cutR s n = (empty, empty, 2) := by simp [cutR, hp, hsh]
    rw [hr]
    clear hr
    have HS := Lib.hid hsh
    clear hsh
    go_enter_defers Try.func55, Try.ntmps55
    go_wp2_with (go_at_call 86; refine (isPieceWidth_any _ _).mono ?_; rintro e w' ⟨rfl, rfl⟩)
    obtain ⟨F0, F1, F2, F3, FB⟩ := four w #[.string ⟨#[]⟩] #[.string ⟨#[]⟩] #[.int .i64 0] #[.string s] 9 9 37 123
    refine (piece_short _ s n _ F3 hn1 hs hn2 HS.out).mono ?_
    rintro e w1 ⟨rfl, hgb⟩
    have G0 := F0.grown hgb (by simp; omega)
    have G1 := F1.grown hgb (by simp)
    have G2 := F2.grown hgb (by simp)
    have GB := FB.grown hgb (by simp; omega) (by intro k hk; simp at hk; omega)
    clear F0 F1 F2 F3 FB hgb HS hmf
    refine leaves_cons (f := 87) (args := #[.pointer (some ⟨w.heap.size, 0, none⟩), .pointer (some ⟨w.heap.size + 1, 0, none⟩), .pointer (some ⟨w.heap.size + 1 + 1, 0, none⟩)]) (by simp) (by simp [go_sem]) ?_
    refine (cutLater_panicking w.heap.size w1 _ _ _ G0 G1 G2).mono ?_
    rintro e u' w2 ⟨rfl, hset, K0, K1, K2, KB⟩
    change Leaves _ _ _ _ [] (settle u') w2
    rw [hset]
    exact ⟨_, by simp [results, Try.results55, go_sem, K0.cell1, K1.cell1, K2.cell1], rfl, GB.trans (KB.mono (Nat.le_refl _))⟩
  · have hr : cutR s n = ((s.extract n.toNat s.size).extract 0 (numOf (s.extract 0 n.toNat)), (s.extract n.toNat s.size).extract (numOf (s.extract 0 n.toNat)) (s.size - n.toNat), 0) := by simp [cutR, hp, hsh]
    rw [hr]
    clear hr
    have HS := Lib.hid hsh
    clear hsh
    go_enter_defers Try.func55, Try.ntmps55
    go_wp2_with (go_at_call 86; refine (isPieceWidth_any _ _).mono ?_; rintro e w' ⟨rfl, rfl⟩)
    obtain ⟨F0, F1, F2, F3, FB⟩ := four w #[.string ⟨#[]⟩] #[.string ⟨#[]⟩] #[.int .i64 0] #[.string s] 9 9 37 123
    refine (piece_ok _ s n _ F3 hn1 (by have := HS.out; omega) hs hn2 (by have := HS.out; omega)).mono ?_
    rintro e w1 ⟨rfl, hgb, G3⟩
    have G0 := F0.grown hgb (by simp; omega)
    have G1 := F1.grown hgb (by simp)
    have G2 := F2.grown hgb (by simp)
    have GB := Lib.hid (FB.grown hgb (by simp; omega) (by intro k hk; simp at hk; omega))
    have c0 := G0.cell1
    have c1 := G1.cell1
    have c2 := G2.cell1
    have c3 := G3.cell1
    have f0 := G0.frozen 0
    have f1 := G1.frozen 0
    have f2 := G2.frozen 0
    clear F0 F1 F2 F3 FB hgb HS G0 G1 G2 G3
    go_wp2_with fail
    go_region
    go_wp2_with fail
    refine leaves_cons (f := 87) (args := #[.pointer (some ⟨w.heap.size, 0, none⟩), .pointer (some ⟨w.heap.size + 1, 0, none⟩), .pointer (some ⟨w.heap.size + 1 + 1, 0, none⟩)]) (by simp) (by simp [go_sem]) ?_
    refine (cutLater_idle w.heap.size _).mono ?_
    rintro e u' w2 ⟨rfl, hset, rfl⟩
    change Leaves _ _ _ _ [] (settle u') _
    rw [hset]
    exact ⟨_, by simp [results, Try.results55, go_sem, c0, c1, c2], rfl, ((((GB.out.setCell (by simp) _).setCell (by simp) _).setCell (by simp) _).setCell (by simp; omega) _).drew⟩
end Go.Proofs.Ytdanncclnhkmgaa
