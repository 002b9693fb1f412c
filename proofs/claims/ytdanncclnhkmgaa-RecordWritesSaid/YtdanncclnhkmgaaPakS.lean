/- The packer's builder read as a string; Bytes. No statement of the seat is proved here. -/
import Derived.Test.YtdanncclnhkmgaaPakA
import Derived.Shelf.RegionOpenPlain
namespace Go.Proofs.Ytdanncclnhkmgaa
open Go.RowKit Go.Maps
section
variable {B b m c : Nat} {w w' : World} {v v' : Value} {l : List UInt8} {K : Kn}
theorem ustring_none (W : World) (q : Option Addr) : (Builtin.unsafeString_ #[116, 3] 9 #[.pointer q, .int .i64 0]).run Try.prog W = .ok (.string .empty) W :=
  Lib.run_unsafeString_none W _ _ _ q
/-- a part of the builder's row is frozen: a packer still -/
theorem Pk.froze {g cap : Nat} (h : Pk B w b m (.slice (some ⟨g, 0, none⟩) l.length cap) l K c) : Pk B (w.freeze ⟨g, 0, none⟩ l.length) b m (.slice (some ⟨g, 0, none⟩) l.length cap) l K c ∧ Kp b m (.slice (some ⟨g, 0, none⟩) l.length cap) (.slice (some ⟨g, 0, none⟩) l.length cap) w (w.freeze ⟨g, 0, none⟩ l.length) := by
  have hg0 : w.grownBy (w.freeze ⟨g, 0, none⟩ l.length) (some g) := by
    have hb := Lib.below_freeze (Below.refl g w) (p := ⟨g, 0, none⟩) (Nat.le_refl _) l.length
    refine ⟨hb.os, hb.tape, hb.output, hb.size, fun k _ hk => ?_⟩
    unfold World.freeze
    split
    · rfl
    · simp only [Array.getElem?_modify]
      rw [if_neg (fun e => hk (by rw [e]))]
  have hgb : g ≠ b := fun e => h.nv (by simp [Value.ownBlock, e])
  have hgm : g ≠ m := fun e => h.nmv (by simp [Value.ownBlock, e])
  obtain ⟨p, hp, hk⟩ := h.blk
  obtain ⟨D, n, h1, h2, h3⟩ := h.map
  refine ⟨⟨h.hb, h.hm, ⟨p, hp, ?_⟩, ?_, ⟨D, n, h1.kept hg0 (fun e => hgm (Option.some.inj e).symm), h2, h3⟩, h.nl⟩, .of_grown hg0 fun k hk => .inr (.inr (by simpa [Value.ownBlock] using hk))⟩
  · rw [hg0.block b h.blt (fun e => hgb (Option.some.inj e).symm)]; exact hk
  · refine ⟨h.row.1, ?_⟩
    rcases h.row.2 with ⟨hv, _⟩ | ⟨g', cap', cur, fz, hv, hbg, hgg, hfz, rest⟩
    · cases hv
    · injection hv with ha _ hcap
      injection ha with ha
      injection ha with he _ _
      subst he hcap
      obtain ⟨lo, hi⟩ := fz
      unfold World.freeze
      split
      · exact .inr ⟨g, _, cur, (lo, hi), rfl, hbg, hgg, hfz, rest⟩
      · refine .inr ⟨g, _, cur, (if lo == hi then (0, 0 + l.length) else (min lo 0, max hi (0 + l.length))), rfl, hbg, ?_, ?_, rest⟩
        · simp [Array.getElem?_modify, hgg]
        · simp only at hfz
          split <;> simp <;> omega

set_option maxHeartbeats 1000000 in
set_option maxRecDepth 100000 in
theorem bstring_some (h : Pk B w b m v l K c) (h0 : l ≠ []) :
    Calls Try.prog 51 #[.pointer (some ⟨b, 0, none⟩)] w fun e w' => e = .returned (.string (mk l)) ∧ Pk B w' b m v l K c ∧ Kp b m v v w w' := by
  have hl0 : l.length ≠ 0 := by simpa using h0
  obtain ⟨g, cap, cur, fz, rfl, hbg, hg, hfz, hnc, hcm, hcs, htake⟩ : ∃ g cap cur fz, v = .slice (some ⟨g, 0, none⟩) l.length cap ∧ B ≤ g ∧ w.heap[g]? = some (.cells cur 5 fz) ∧ fz.2 ≤ l.length * 1 ∧ l.length ≤ cap ∧ cap ≤ maxLen ∧ cur.size = cap * 1 ∧ cur.toList.take (l.length * 1) = Lib.byteCells l := by
    rcases h.row.2 with ⟨_, hz⟩ | ⟨g, cap, cur, fz, hv, r⟩
    · exact absurd hz hl0
    · exact ⟨g, cap, cur, fz, hv, r⟩
  have c1 : w.drew.cell? ⟨b, 1, none⟩ = some (.slice (some ⟨g, 0, none⟩) l.length cap) := h.cell1
  have hSD : (Builtin.unsafeSliceData_ #[61] 116 #[.slice (some ⟨g, 0, none⟩) l.length cap]).run Try.prog w.drew = .ok (.pointer (some ⟨g, 0, none⟩)) w.drew :=
    Lib.run_unsafeSliceData_row _ _ _ _ _ _ (by omega)
  have hUS : (Builtin.unsafeString_ #[116, 3] 9 #[.pointer (some ⟨g, 0, none⟩), .int .i64 l.length]).run Try.prog w.drew = .ok (.string (mk l)) (w.drew.freeze ⟨g, 0, none⟩ l.length) := by
    refine Lib.run_unsafeString_row w.drew 116 3 9 5 Try.underlying116 byte_cells g cur.size (by have hg' : w.drew.heap[g]? = some (.cells cur 5 fz) := hg; simp [World.shape?, hg']) l h0 (by omega) (by unfold maxLen at hcm; omega) ?_
    intro j x hx
    exact h.row.cells (g := g) rfl j (.int .u8 x.toNat) (by simp [Lib.byteCells, hx])
  obtain ⟨hkeep, hkp⟩ := h.drew.froze
  have hkp' : Kp b m (.slice (some ⟨g, 0, none⟩) l.length cap) (.slice (some ⟨g, 0, none⟩) l.length cap) w (w.drew.freeze ⟨g, 0, none⟩ l.length) := (Kp.refl _ _ _ _).drew.trans hkp
  have HK := Lib.hid hkeep
  have HP := Lib.hid hkp'
  clear hkeep hkp hkp' h hcs htake hg hfz
  go_enter Try.func51, Try.ntmps51
  go_wp2
  have mixed : Try.prog.follows .mixedOrders = true := by kernel_rfl
  go_region_o
  all_goals (go_wp2; go_ret; exact ⟨rfl, HK.out, HP.out⟩)

set_option maxHeartbeats 1000000 in
set_option maxRecDepth 100000 in
theorem bstring_none (h : Pk B w b m v [] K c) :
    Calls Try.prog 51 #[.pointer (some ⟨b, 0, none⟩)] w fun e w' => e = .returned (.string (mk [])) ∧ Pk B w' b m v [] K c ∧ Kp b m v v w w' := by
  obtain rfl := h.nl rfl
  have hUS := ustring_none
  have c1 : w.drew.cell? ⟨b, 1, none⟩ = some (.slice none 0 0) := h.cell1
  have hSD : (Builtin.unsafeSliceData_ #[61] 116 #[.slice none 0 0]).run Try.prog w.drew = .ok (.pointer none) w.drew := rfl
  have HK := Lib.hid h.drew
  have HP := Lib.hid (Kp.refl b m (.slice none 0 0) w).drew
  clear h
  go_enter Try.func51, Try.ntmps51
  go_wp2
  have mixed : Try.prog.follows .mixedOrders = true := by kernel_rfl
  go_region_o
  all_goals (go_wp2; go_ret; exact ⟨rfl, HK.out, HP.out⟩)
theorem bstring_any (h : Pk B w b m v l K c) :
    Calls Try.prog 51 #[.pointer (some ⟨b, 0, none⟩)] w fun e w' => e = .returned (.string (mk l)) ∧ Pk B w' b m v l K c ∧ Kp b m v v w w' := by
  by_cases h0 : l = []
  · subst h0; exact bstring_none h
  · exact bstring_some h h0

theorem Bytes_any (h : Pk B w b m v l K c) :
    Calls Try.prog 21 #[pkP b] w fun e w' => e = .returned (.string (mk l)) ∧ Pk B w' b m v l K c ∧ Kp b m v v w w' := by
  have HH := Lib.hid h
  clear h
  go_enter Try.func21, Try.ntmps21
  go_wp2_with fail
  refine (bstring_any HH.out).mono ?_
  rintro e w1 ⟨rfl, h1, h2⟩
  go_wp2_with fail
  go_ret
  exact ⟨rfl, h1, h2⟩
end
end Go.Proofs.Ytdanncclnhkmgaa
