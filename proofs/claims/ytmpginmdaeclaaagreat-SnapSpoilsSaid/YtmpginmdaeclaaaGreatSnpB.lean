/- Parts of the proofs of the statements of image. No statement of the seat is proved here. -/
import Derived.Test.YtmpginmdaeclaaaGreatSnpA
set_option maxHeartbeats 32000000
set_option maxRecDepth 20000
namespace Go.Proofs.YtmpginmdaeclaaaGreat
open Go.RowKit Go.Maps Go.Sort
set_option maxRecDepth 20000
theorem stp_disc [Inhabited OwnP] {B d m g1 : Nat} {w0 : World} (hc : ∀ w', Kept B w0 w' -> w'.cell? ⟨g1, 0, none⟩ = some (dptr d)) : Stp B d m w0 ⟨92, #[], #[.pointer (some ⟨g1, 0, none⟩)], discS⟩ where
  enter := enters_of Tryz.func92 (by kernel_rfl) rfl
  call := by
    intro k M S w hK h hk hM
    have c0 := hc w hK
    have H := Ha h
    clear hc hK h; rw [Array.empty_append]
    go_enter Tryz.func92, Tryz.ntmps92
    go_wp2_with fail
    refine (discard_any H.out (by omega)).mono ?_
    rintro e w1 ⟨rfl, hL, hK⟩; have HL := Ha hL
    have HK := Ha hK
    clear hL hK; go_wp2_with fail
    go_ret
    exact ⟨rfl, HL.out.mono (by omega) (by omega), HK.out⟩
theorem stp_append [Inhabited OwnP] {B d g1 g2 : Nat} {w0 : World} (FR : ByteArray) (hf : FR.size <= 100000000) (hc : ∀ w', Kept B w0 w' -> w'.cell? ⟨g1, 0, none⟩ = some (dptr d)) (hc2 : ∀ w', Kept B w0 w' -> w'.cell? ⟨g2, 0, none⟩ = some (.string FR)) :
    Stp B d FR.size w0 ⟨94, #[], #[.pointer (some ⟨g1, 0, none⟩), .pointer (some ⟨g2, 0, none⟩)], fun S => appendS S itmN FR.data.toList⟩ where
  enter := enters_of Tryz.func94 (by kernel_rfl) rfl
  call := by
    intro k M S w hK h hk hM
    have c0 := hc w hK
    have c1 := hc2 w hK
    have h1 := live_Append h (by omega) (by omega) ⟨#[105, 109, 97, 103, 101, 45, 116, 109, 112]⟩ FR (by omega) (by decide)
    rw [show (⟨#[105, 109, 97, 103, 101, 45, 116, 109, 112]⟩ : ByteArray).data.toList = itmN from rfl] at h1
    have H := Ha h1
    clear hc hc2 hK h h1; rw [Array.empty_append]
    go_enter Tryz.func94, Tryz.ntmps94
    go_wp2_with fail
    refine H.out.mono ?_
    rintro e w1 ⟨rfl, hL, hK⟩; have HL := Ha hL
    have HK := Ha hK
    clear hL hK; go_wp2_with fail
    go_ret
    exact ⟨rfl, HL.out, HK.out⟩
theorem stp_sync [Inhabited OwnP] {B d m g1 : Nat} {w0 : World} (hc : ∀ w', Kept B w0 w' -> w'.cell? ⟨g1, 0, none⟩ = some (dptr d)) : Stp B d m w0 ⟨95, #[], #[.pointer (some ⟨g1, 0, none⟩)], fun S => syncS S itmN⟩ where
  enter := enters_of Tryz.func95 (by kernel_rfl) rfl
  call := by
    intro k M S w hK h hk hM
    have c0 := hc w hK
    have h1 := live_Sync h ⟨#[105, 109, 97, 103, 101, 45, 116, 109, 112]⟩
    rw [show (⟨#[105, 109, 97, 103, 101, 45, 116, 109, 112]⟩ : ByteArray).data.toList = itmN from rfl] at h1
    have H := Ha h1
    clear hc hK h h1; rw [Array.empty_append]
    go_enter Tryz.func95, Tryz.ntmps95
    go_wp2_with fail
    refine H.out.mono ?_
    rintro e w1 ⟨rfl, hL, hK⟩; have HL := Ha hL
    have HK := Ha hK
    clear hL hK; go_wp2_with fail
    go_ret
    exact ⟨rfl, HL.out.mono (by omega) (by omega), HK.out⟩
theorem stp_rename [Inhabited OwnP] {B d m g1 : Nat} {w0 : World} (hc : ∀ w', Kept B w0 w' -> w'.cell? ⟨g1, 0, none⟩ = some (dptr d)) : Stp B d m w0 ⟨97, #[], #[.pointer (some ⟨g1, 0, none⟩)], fun S => renameS S itmN imgN⟩ where
  enter := enters_of Tryz.func97 (by kernel_rfl) rfl
  call := by
    intro k M S w hK h hk hM
    have c0 := hc w hK
    have h1 := live_Rename h (by omega) ⟨#[105, 109, 97, 103, 101, 45, 116, 109, 112]⟩ ⟨#[105, 109, 97, 103, 101]⟩
    rw [show (⟨#[105, 109, 97, 103, 101, 45, 116, 109, 112]⟩ : ByteArray).data.toList = itmN from rfl, show (⟨#[105, 109, 97, 103, 101]⟩ : ByteArray).data.toList = imgN from rfl] at h1
    have H := Ha h1
    clear hc hK h h1; rw [Array.empty_append]
    go_enter Tryz.func97, Tryz.ntmps97
    go_wp2_with fail
    refine H.out.mono ?_
    rintro e w1 ⟨rfl, hL, hK⟩; have HL := Ha hL
    have HK := Ha hK
    clear hL hK; go_wp2_with fail
    go_ret
    exact ⟨rfl, HL.out.mono (by omega) (by omega), HK.out⟩
theorem stp_syncDir [Inhabited OwnP] {B d m : Nat} {w0 : World} : Stp B d m w0 ⟨99, #[dptr d], #[], syncDirS⟩ where
  enter := enters_of Tryz.func99 (by kernel_rfl) rfl
  call := by
    intro k M S w hK h hk hM
    rw [Array.append_empty]
    refine (live_SyncDir h (by omega)).mono ?_
    rintro e w1 ⟨rfl, hL, hK⟩; exact ⟨rfl, hL.mono (by omega) (by omega), hK⟩
theorem row_five {g t : Nat} {w : World} {v0 v1 v2 v3 v4 : Value} (h : Whole w g t #[v0, v1, v2, v3, v4]) :
    w.cell? ⟨g, 0, none⟩ = some v0 /\ w.cell? ⟨g, 1, none⟩ = some v1 /\ w.cell? ⟨g, 2, none⟩ = some v2 /\ w.cell? ⟨g, 3, none⟩ = some v3 /\ w.cell? ⟨g, 4, none⟩ = some v4 :=
  ⟨(h.cell 0).trans rfl, (h.cell 1).trans rfl, (h.cell 2).trans rfl, (h.cell 3).trans rfl, (h.cell 4).trans rfl⟩
def sevS (g1 g2 d : Nat) (FR : ByteArray) : List Stq :=
  [⟨92, #[], #[.pointer (some ⟨g1, 0, none⟩)], discS⟩, ⟨94, #[], #[.pointer (some ⟨g1, 0, none⟩), .pointer (some ⟨g2, 0, none⟩)], fun S => appendS S itmN FR.data.toList⟩,
   ⟨95, #[], #[.pointer (some ⟨g1, 0, none⟩)], fun S => syncS S itmN⟩, ⟨97, #[], #[.pointer (some ⟨g1, 0, none⟩)], fun S => renameS S itmN imgN⟩, ⟨99, #[dptr d], #[], syncDirS⟩]
def sevV (g1 g2 d : Nat) : Array Value := #[.func (.func 92) #[] #[.pointer (some ⟨g1, 0, none⟩)], .func (.func 94) #[] #[.pointer (some ⟨g1, 0, none⟩), .pointer (some ⟨g2, 0, none⟩)],
  .func (.func 95) #[] #[.pointer (some ⟨g1, 0, none⟩)], .func (.func 97) #[] #[.pointer (some ⟨g1, 0, none⟩)], .func (.func 99) #[dptr d] #[]]
theorem sev_carry [Inhabited OwnP] {B d k M g1 g2 g3 : Nat} {w : World} {S : St} (FR : ByteArray) (h : Live B w d k M S) (hk : k <= 30000) (hM : M <= 300000000) (hf : FR.size <= 10000000) (w1 : Whole w g1 39 #[dptr d]) (w2 : Whole w g2 9 #[.string FR]) (w3 : Whole w g3 128 (sevV g1 g2 d)) :
    Calls Tryz.prog 91 #[.slice (some ⟨g3, 0, none⟩) 5 5] w fun e w' => e = .returned (.int .i64 (runL (saveL FR.data.toList) S).2) /\ Live B w' d (k + 10) (M + 5 * FR.size) (runL (saveL FR.data.toList) S).1 /\ Kept B w w' := by
  have hc1 : ∀ w', Kept B w w' -> w'.cell? ⟨g1, 0, none⟩ = some (dptr d) := fun w' hK => (hK.whole w1 (by decide)).cell 0
  have hc2 : ∀ w', Kept B w w' -> w'.cell? ⟨g2, 0, none⟩ = some (.string FR) := fun w' hK => (hK.whole w2 (by decide)).cell 0
  refine carryOut_any (sevS g1 g2 d FR) (m := FR.size) rfl (by decide) h (by omega) (by omega) ?_ ?_
  · intro s hs
    unfold sevS at hs
    simp only [List.mem_cons, List.not_mem_nil, or_false] at hs
    rcases hs with rfl | rfl | rfl | rfl | rfl
    · exact stp_disc hc1
    · exact stp_append FR (by omega) hc1 hc2
    · exact stp_sync hc1
    · exact stp_rename hc1
    · exact stp_syncDir
  · intro w' hK i s hs
    obtain ⟨e0, e1, e2, e3, e4⟩ := row_five (hK.whole w3 (by decide))
    match i with
    | 0 => have := Option.some.inj hs; subst this; exact e0
    | 1 => have := Option.some.inj hs; subst this; exact e1
    | 2 => have := Option.some.inj hs; subst this; exact e2
    | 3 => have := Option.some.inj hs; subst this; exact e3
    | 4 => have := Option.some.inj hs; subst this; exact e4
    | i + 5 => cases hs
theorem replace_any [Inhabited OwnP] {B d k M : Nat} {w : World} {S : St} (h : Live B w d k M S) (hk : k <= 30000) (hM : M <= 300000000) (FR : ByteArray) (hf : FR.size <= 10000000) :
    Calls Tryz.prog 41 #[dptr d, .string FR] w fun e w' => e = .returned (.int .i64 (saveS S FR.data.toList).2) /\ Live B w' d (k + 12) (M + 5 * FR.size) (saveS S FR.data.toList).1 /\ Kept B w w' := by
  have hmf : ∀ (fn : Fn) (first cap : Array Value) (w : World), (Instr.makeFunc fn first cap).run Tryz.prog w = .ok (.func fn first cap) w := fun _ _ _ _ => rfl
  obtain ⟨W1, hW1⟩ : ∃ W1, W1 = w.alloc (.cells #[dptr d] 39) := ⟨_, rfl⟩
  obtain ⟨W2, hW2⟩ : ∃ W2, W2 = W1.alloc (.cells #[.string FR] 9) := ⟨_, rfl⟩
  obtain ⟨W3, hW3⟩ : ∃ W3, W3 = W2.alloc (.cells (sevV w.heap.size (w.heap.size + 1) d) 128) := ⟨_, rfl⟩
  have z1 : W1.heap.size = w.heap.size + 1 := by rw [hW1, World.size_alloc]
  have z2 : W2.heap.size = w.heap.size + 2 := by rw [hW2, World.size_alloc, z1]
  have b1 : Whole W1 w.heap.size 39 #[dptr d] := by rw [hW1]; exact Whole.new _ _ _
  have b2 : Whole W2 (w.heap.size + 1) 9 #[.string FR] := by rw [hW2, <-z1]; exact Whole.new _ _ _
  have b12 : Whole W2 w.heap.size 39 #[dptr d] := by rw [hW2]; exact b1.alloc _
  have c2 : W2.cell? ⟨w.heap.size, 0, none⟩ = some (dptr d) := b12.cell 0
  have hB : Below w.heap.size w W3 := by
    rw [hW3, hW2, hW1]
    exact (((Below.refl _ w).alloc (Nat.le_refl _) _).alloc (by simp) _).alloc (by simp; omega) _
  have hL3 := h.same hB
  have hK3 : Kept B w W3 := .of_below hB
  have hcar := sev_carry (g3 := w.heap.size + 2) FR hL3 hk hM hf (by rw [hW3]; exact b12.alloc _) (by rw [hW3]; exact b2.alloc _) (by rw [hW3, <-z2]; exact Whole.new _ _ _)
  have b3 : Whole W3 w.heap.size 39 #[dptr d] := by rw [hW3]; exact b12.alloc _
  have HC := Ha hcar
  have HK3 := Ha hK3
  have HB3 := Ha b3
  have HW3 := Ha hW3
  have Z2 := Ha z2
  have HW1 := Ha hW1
  have HW2 := Ha hW2
  unfold sevV at HW3
  obtain ⟨T, c, hr⟩ : ∃ T c, runL (saveL FR.data.toList) S = (T, c) := ⟨_, _, rfl⟩
  have HR := Ha hr
  have HD := Ha (fun (q : c = 4) => show saveS S FR.data.toList = ((discS T).1, 4) by unfold saveS; rw [hr, if_pos q])
  have HN := Ha (fun (q : ¬ c = 4) => show saveS S FR.data.toList = (T, c) by unfold saveS; rw [hr, if_neg q])
  clear hr h hL3 hK3 hcar b1 b2 b12 b3 hB z1 z2
  rw [hW2, hW1] at c2
  go_enter Tryz.func41, Tryz.ntmps41
  go_wp2_with fail
  rw [<-HW1.out, <-HW2.out]
  clear c2
  go_wp2_with fail
  rw [<-HW3.out]
  refine Calls.mono HC.out ?_
  rw [HR.out]
  rintro e w1 ⟨rfl, hL1, hK1⟩
  have hL1 : Live B w1 d (k + 10) (M + 5 * FR.size) T := hL1
  have HL1 := Ha hL1
  have HK1 := Ha (HK3.out.trans hK1)
  have hc := (hK1.whole HB3.out (by decide)).cell 0
  have hc : w1.cell? ⟨w.heap.size, 0, none⟩ = some (dptr d) := hc
  clear hL1 hK1
  by_cases q : c = 4
  · subst q
    have HDD := Ha (HD.out rfl)
    clear HD HN; go_wp2_with fail
    refine (discard_any HL1.out (by omega)).mono ?_
    rintro e w2 ⟨rfl, hL2, hK2⟩; have HL2 := Ha hL2
    have HK2 := Ha (HK1.out.trans hK2)
    clear hL2 hK2; go_wp2_with fail
    go_ret
    rw [HDD.out]
    exact ⟨rfl, HL2.out, HK2.out⟩
  · have g4 : (c == 4) = false := by rw [beq_eq_false_iff_ne]; exact q
    have HNN := Ha (HN.out q)
    clear q; go_wp2_with fail
    go_ret
    rw [HNN.out]
    exact ⟨rfl, HL1.out.mono (by omega) (Nat.le_refl _), HK1.out⟩
end Go.Proofs.YtmpginmdaeclaaaGreat
