/- Parts of the proofs of the statements of image. No statement of the seat is proved here. -/
import Derived.Test.YtmpginmdaeclaaaGreatDoorDkH
import Derived.Test.YtmpginmdaeclaaaGreatDoorFrA
import Derived.StillTailTactics
set_option maxHeartbeats 32000000
set_option maxRecDepth 20000
namespace Go.Proofs.YtmpginmdaeclaaaGreatDoor
def imgN : Bys := [105, 109, 97, 103, 101]
def itmN : Bys := [105, 109, 97, 103, 101, 45, 116, 109, 112]
theorem isN_img : isN imgN = true := by decide
theorem isN_itm : isN itmN = true := by decide
def runL : List (St -> St × Int) -> St -> St × Int
  | [], S => (S, 0)
  | f :: r, S => if (f S).2 = 0 then runL r (f S).1 else f S
theorem runL_cons (f : St -> St × Int) (r : List (St -> St × Int)) (S : St) : runL (f :: r) S = if (f S).2 = 0 then runL r (f S).1 else f S := rfl
theorem runL_snoc {fs : List (St -> St × Int)} {f : St -> St × Int} : ∀ {S S1 : St}, runL fs S = (S1, 0) -> runL (fs ++ [f]) S = f S1 := by
  induction fs with
  | nil => 
    intro S S1 h
    injection h with h
    subst h
    show (if (f S).2 = 0 then ((f S).1, (0 : Int)) else f S) = f S
    by_cases e : (f S).2 = 0
    · rw [if_pos e]
      exact Prod.ext rfl e.symm
    · rw [if_neg e]
  | cons g r ih =>
    intro S S1 h
    rw [List.cons_append, runL_cons]
    rw [runL_cons] at h
    by_cases e : (g S).2 = 0
    · rw [if_pos e] at h ⊢
      exact ih h
    · rw [if_neg e] at h
      rw [h] at e
      exact absurd rfl e
theorem runL_stop {fs gs : List (St -> St × Int)} : ∀ {S S1 : St} {e : Int}, runL fs S = (S1, e) -> e ≠ 0 -> runL (fs ++ gs) S = (S1, e) := by
  induction fs with
  | nil => 
    intro S S1 e h he
    injection h with h1 h2
    exact absurd h2.symm he
  | cons g r ih =>
    intro S S1 e h he
    rw [List.cons_append, runL_cons]
    rw [runL_cons] at h
    by_cases e0 : (g S).2 = 0
    · rw [if_pos e0] at h ⊢
      exact ih h he
    · rw [if_neg e0] at h ⊢
      exact h
def discS (S : St) : St × Int := ((removeS S itmN).1, if (removeS S itmN).2 = 6 then 0 else (removeS S itmN).2)
def saveL (fr : Bys) : List (St -> St × Int) := [discS, fun S => appendS S itmN fr, fun S => syncS S itmN, fun S => renameS S itmN imgN, syncDirS]
def saveS (S : St) (fr : Bys) : St × Int := if (runL (saveL fr) S).2 = 4 then ((discS (runL (saveL fr) S).1).1, 4) else runL (saveL fr) S
def sweepL (lg : Bys) (ns : List Bys) : List (St -> St × Int) := (ns.filter fun n => n != imgN && n != lg).map fun n S => removeS S n
def sweepS (S : St) (lg : Bys) : St × Int :=
  if S.down then (S, 5) else if sweepL lg (S.names.map (·.1)) = [] then (S, 0) else runL (sweepL lg (S.names.map (·.1)) ++ [syncDirS]) S
end Go.Proofs.YtmpginmdaeclaaaGreatDoor
set_option maxHeartbeats 32000000
set_option maxRecDepth 20000
namespace Go.Proofs.YtmpginmdaeclaaaGreatDoor
open Go.RowKit Go.Maps Go.Sort
set_option maxRecDepth 20000
structure Stq where
  fid : Nat
  fst : Array Value
  cap : Array Value
  f : St -> St × Int
def Stq.v (s : Stq) : Value := .func (.func s.fid) s.fst s.cap
structure Stp (B d m : Nat) (w0 : World) (s : Stq) : Prop where
  enter : ∀ (args : Array Value) (w : World), (callFunc s.fid args).run Tryz.prog w = .ok (.enter s.fid args) w
  call : ∀ k M S w, Kept B w0 w -> Live B w d k M S -> k <= 40000 -> M <= 400000000 -> Calls Tryz.prog s.fid (s.fst ++ s.cap) w fun e w' => e = .returned (.int .i64 (s.f S).2) /\ Live B w' d (k + 2) (M + m) (s.f S).1 /\ Kept B w w'
theorem carryOut_any {B d k M m g n c : Nat} {w : World} {S : St} (vs : List Stq) (hn : vs.length = n) (hn9 : n <= 10000) (h : Live B w d k M S) (hk : k + 2 * n <= 40000) (hM : M + n * m <= 400000000) (hs : ∀ s ∈ vs, Stp B d m w s)
    (hrow : ∀ w', Kept B w w' -> ∀ i s, vs[i]? = some s -> w'.cell? ⟨g, i, none⟩ = some s.v) :
    Calls Tryz.prog 52 #[.slice (some ⟨g, 0, none⟩) n c] w fun e w' => e = .returned (.int .i64 (runL (vs.map (·.f)) S).2) /\ Live B w' d (k + 2 * n) (M + n * m) (runL (vs.map (·.f)) S).1 /\ Kept B w w' := by
  have HN := Ha hn
  have HS := Ha hs
  have HR := Ha hrow
  have HH := Ha h
  have HM := Ha hM
  clear hn hs hrow h hM
  go_enter Tryz.func52, Tryz.ntmps52
  go_wp2_with fail
  go_loopw [8] (fun i wr => ∃ (j : Nat) (T : St), j <= n /\ i = .int .i64 j /\ runL ((vs.take j).map (·.f)) S = (T, 0) /\ Live B wr d (k + 2 * j) (M + j * m) T /\ Kept B w wr) (fun i _ => n - (intOf i).toNat)
  case atStart => exact ⟨0, S, Nat.zero_le _, rfl, rfl, by simpa using HH.out, Kept.refl _ _⟩
  case round =>
    obtain ⟨j, T, hj, rfl, hT, hL, hK⟩ := hrel
    have HT := Ha hT
    have HL := Ha hL
    have HK := Ha hK
    clear hT hL hK
    by_cases hlt : j < n
    · obtain ⟨s, hsj⟩ : ∃ s, vs[j]? = some s := ⟨_, List.getElem?_eq_getElem (by have := HN.out; omega)⟩
      have hc := HR.out wr HK.out j s hsj
      unfold Stq.v at hc
      have hmem : s ∈ vs := List.mem_of_getElem? hsj
      have hmj : M + j * m <= 400000000 := by
        have h1 : j * m <= n * m := Nat.mul_le_mul_right m (by omega)
        have := HM.out; omega
      have hcall := (HS.out s hmem).call (k + 2 * j) (M + j * m) T wr HK.out HL.out (by omega) hmj
      have hent := (HS.out s hmem).enter
      have htk : (vs.take (j + 1)).map (·.f) = (vs.take j).map (·.f) ++ [s.f] := by
        rw [List.take_add_one, hsj]; simp
      have HRUN := Ha (show runL ((vs.take (j + 1)).map (·.f)) S = s.f T by rw [htk]; exact runL_snoc HT.out)
      have HCALL := Ha hcall
      have HENT := Ha hent
      have HDR := Ha (show vs.map (·.f) = (vs.take (j + 1)).map (·.f) ++ (vs.drop (j + 1)).map (·.f) by rw [<-List.map_append, List.take_append_drop])
      clear hcall hent htk hmj hsj hmem; have hgj : (j : Int) < (n : Int) := by omega
      go_wp2_with fail
      rw [HENT.out, Oper.upon_enter]
      refine Calls.mono (by simpa using HCALL.out) ?_
      rintro e w1 ⟨rfl, hL1, hK1⟩; have HL1 := Ha hL1
      have HK1 := Ha (HK.out.trans hK1)
      clear hL1 hK1 hc; obtain ⟨T1, c1, hT1⟩ : ∃ T1 c1, s.f T = (T1, c1) := ⟨_, _, rfl⟩
      have HE := Ha hT1
      rw [hT1]
      by_cases h0 : c1 = 0
      · subst h0
        clear hT1; go_wp2_with fail
        go_roundw
        case rel => exact ⟨j + 1, T1, by omega, by go_num, HRUN.out.trans HE.out, by have := HL1.out; rw [HE.out] at this; exact this.mono (by omega) (by rw [Nat.succ_mul]; omega), HK1.out⟩
        case measure => simp [intOf]; omega
      · have g0 : (c1 != 0) = true := by rw [bne_iff_ne]; exact h0
        have HZ := Ha (show runL (vs.map (·.f)) S = (T1, c1) by rw [HDR.out]; exact runL_stop (HRUN.out.trans HE.out) h0)
        clear hT1 h0; go_wp2_with fail
        go_ret
        rw [HZ.out]
        refine ⟨rfl, ?_, HK1.out⟩
        have := HL1.out
        rw [HE.out] at this
        refine this.mono (by omega) ?_
        have h1 : (j + 1) * m <= n * m := Nat.mul_le_mul_right m (by omega)
        rw [Nat.succ_mul] at h1
        omega
    · obtain rfl : j = n := by omega
      have HZ := Ha (show runL (vs.map (·.f)) S = (T, 0) by have := HT.out; rwa [List.take_of_length_le (by have := HN.out; omega)] at this)
      have hgj : ¬ (j : Int) < (j : Int) := by omega
      go_wp2_with fail
      go_ret
      rw [HZ.out]
      exact ⟨rfl, HL.out, HK.out⟩
theorem discard_any {B d k M : Nat} {w : World} {S : St} (h : Live B w d k M S) (hk : k <= 50000) :
    Calls Tryz.prog 90 #[dptr d] w fun e w' => e = .returned (.int .i64 (discS S).2) /\ Live B w' d (k + 2) M (discS S).1 /\ Kept B w w' := by
  obtain ⟨T, c, e⟩ : ∃ T c, removeS S (⟨#[105, 109, 97, 103, 101, 45, 116, 109, 112]⟩ : ByteArray).data.toList = (T, c) := ⟨_, _, rfl⟩
  have h1 := live_Remove h hk ⟨#[105, 109, 97, 103, 101, 45, 116, 109, 112]⟩
  rw [e] at h1
  have hd : discS S = (T, if c = 6 then 0 else c) := by
    unfold discS; rw [show removeS S itmN = (T, c) from e]
  have H1 := Ha h1
  have HD := Ha hd
  clear h1 hd e h
  by_cases h6 : c = 6
  · subst h6
    go_enter Tryz.func90, Tryz.ntmps90
    go_wp2_with fail
    refine H1.out.mono ?_
    rintro e w1 ⟨rfl, hL, hK⟩; have HL := Ha hL
    have HK := Ha hK
    clear hL hK; go_wp2_with fail
    go_ret
    rw [HD.out]
    exact ⟨rfl, HL.out, HK.out⟩
  · have g6 : (c != 6) = true := by rw [bne_iff_ne]; exact h6
    have HD2 := Ha (show discS S = (T, c) by rw [HD.out, if_neg h6])
    clear h6; go_enter Tryz.func90, Tryz.ntmps90
    go_wp2_with fail
    refine H1.out.mono ?_
    rintro e w1 ⟨rfl, hL, hK⟩; have HL := Ha hL
    have HK := Ha hK
    clear hL hK; go_wp2_with fail
    go_ret
    rw [HD2.out]
    exact ⟨rfl, HL.out, HK.out⟩
end Go.Proofs.YtmpginmdaeclaaaGreatDoor
set_option maxHeartbeats 32000000
set_option maxRecDepth 20000
namespace Go.Proofs.YtmpginmdaeclaaaGreatDoor
open Go.RowKit Go.Maps Go.Sort
set_option maxRecDepth 20000
theorem stp_disc {B d m g1 : Nat} {w0 : World} (hc : ∀ w', Kept B w0 w' -> w'.cell? ⟨g1, 0, none⟩ = some (dptr d)) : Stp B d m w0 ⟨89, #[], #[.pointer (some ⟨g1, 0, none⟩)], discS⟩ where
  enter := enters_of Tryz.func89 (by kernel_rfl) rfl
  call := by
    intro k M S w hK h hk hM
    have c0 := hc w hK
    have H := Ha h
    clear hc hK h; rw [Array.empty_append]
    go_enter Tryz.func89, Tryz.ntmps89
    go_wp2_with fail
    refine (discard_any H.out (by omega)).mono ?_
    rintro e w1 ⟨rfl, hL, hK⟩; have HL := Ha hL
    have HK := Ha hK
    clear hL hK; go_wp2_with fail
    go_ret
    exact ⟨rfl, HL.out.mono (by omega) (by omega), HK.out⟩
theorem stp_append {B d g1 g2 : Nat} {w0 : World} (FR : ByteArray) (hf : FR.size <= 100000000) (hc : ∀ w', Kept B w0 w' -> w'.cell? ⟨g1, 0, none⟩ = some (dptr d)) (hc2 : ∀ w', Kept B w0 w' -> w'.cell? ⟨g2, 0, none⟩ = some (.string FR)) :
    Stp B d FR.size w0 ⟨91, #[], #[.pointer (some ⟨g1, 0, none⟩), .pointer (some ⟨g2, 0, none⟩)], fun S => appendS S itmN FR.data.toList⟩ where
  enter := enters_of Tryz.func91 (by kernel_rfl) rfl
  call := by
    intro k M S w hK h hk hM
    have c0 := hc w hK
    have c1 := hc2 w hK
    have h1 := live_Append h (by omega) (by omega) ⟨#[105, 109, 97, 103, 101, 45, 116, 109, 112]⟩ FR (by omega) (by decide)
    rw [show (⟨#[105, 109, 97, 103, 101, 45, 116, 109, 112]⟩ : ByteArray).data.toList = itmN from rfl] at h1
    have H := Ha h1
    clear hc hc2 hK h h1; rw [Array.empty_append]
    go_enter Tryz.func91, Tryz.ntmps91
    go_wp2_with fail
    refine H.out.mono ?_
    rintro e w1 ⟨rfl, hL, hK⟩; have HL := Ha hL
    have HK := Ha hK
    clear hL hK; go_wp2_with fail
    go_ret
    exact ⟨rfl, HL.out, HK.out⟩
theorem stp_sync {B d m g1 : Nat} {w0 : World} (hc : ∀ w', Kept B w0 w' -> w'.cell? ⟨g1, 0, none⟩ = some (dptr d)) : Stp B d m w0 ⟨92, #[], #[.pointer (some ⟨g1, 0, none⟩)], fun S => syncS S itmN⟩ where
  enter := enters_of Tryz.func92 (by kernel_rfl) rfl
  call := by
    intro k M S w hK h hk hM
    have c0 := hc w hK
    have h1 := live_Sync h ⟨#[105, 109, 97, 103, 101, 45, 116, 109, 112]⟩
    rw [show (⟨#[105, 109, 97, 103, 101, 45, 116, 109, 112]⟩ : ByteArray).data.toList = itmN from rfl] at h1
    have H := Ha h1
    clear hc hK h h1; rw [Array.empty_append]
    go_enter Tryz.func92, Tryz.ntmps92
    go_wp2_with fail
    refine H.out.mono ?_
    rintro e w1 ⟨rfl, hL, hK⟩; have HL := Ha hL
    have HK := Ha hK
    clear hL hK; go_wp2_with fail
    go_ret
    exact ⟨rfl, HL.out.mono (by omega) (by omega), HK.out⟩
theorem stp_rename {B d m g1 : Nat} {w0 : World} (hc : ∀ w', Kept B w0 w' -> w'.cell? ⟨g1, 0, none⟩ = some (dptr d)) : Stp B d m w0 ⟨94, #[], #[.pointer (some ⟨g1, 0, none⟩)], fun S => renameS S itmN imgN⟩ where
  enter := enters_of Tryz.func94 (by kernel_rfl) rfl
  call := by
    intro k M S w hK h hk hM
    have c0 := hc w hK
    have h1 := live_Rename h (by omega) ⟨#[105, 109, 97, 103, 101, 45, 116, 109, 112]⟩ ⟨#[105, 109, 97, 103, 101]⟩
    rw [show (⟨#[105, 109, 97, 103, 101, 45, 116, 109, 112]⟩ : ByteArray).data.toList = itmN from rfl, show (⟨#[105, 109, 97, 103, 101]⟩ : ByteArray).data.toList = imgN from rfl] at h1
    have H := Ha h1
    clear hc hK h h1; rw [Array.empty_append]
    go_enter Tryz.func94, Tryz.ntmps94
    go_wp2_with fail
    refine H.out.mono ?_
    rintro e w1 ⟨rfl, hL, hK⟩; have HL := Ha hL
    have HK := Ha hK
    clear hL hK; go_wp2_with fail
    go_ret
    exact ⟨rfl, HL.out.mono (by omega) (by omega), HK.out⟩
theorem stp_syncDir {B d m : Nat} {w0 : World} : Stp B d m w0 ⟨53, #[dptr d], #[], syncDirS⟩ where
  enter := enters_of Tryz.func53 (by kernel_rfl) rfl
  call := by
    intro k M S w hK h hk hM
    rw [Array.append_empty]
    refine (live_SyncDir h (by omega)).mono ?_
    rintro e w1 ⟨rfl, hL, hK⟩; exact ⟨rfl, hL.mono (by omega) (by omega), hK⟩
theorem row_five {g t : Nat} {w : World} {v0 v1 v2 v3 v4 : Value} (h : Whole w g t #[v0, v1, v2, v3, v4]) :
    w.cell? ⟨g, 0, none⟩ = some v0 /\ w.cell? ⟨g, 1, none⟩ = some v1 /\ w.cell? ⟨g, 2, none⟩ = some v2 /\ w.cell? ⟨g, 3, none⟩ = some v3 /\ w.cell? ⟨g, 4, none⟩ = some v4 :=
  ⟨(h.cell 0).trans rfl, (h.cell 1).trans rfl, (h.cell 2).trans rfl, (h.cell 3).trans rfl, (h.cell 4).trans rfl⟩
def sevS (g1 g2 d : Nat) (FR : ByteArray) : List Stq :=
  [⟨89, #[], #[.pointer (some ⟨g1, 0, none⟩)], discS⟩, ⟨91, #[], #[.pointer (some ⟨g1, 0, none⟩), .pointer (some ⟨g2, 0, none⟩)], fun S => appendS S itmN FR.data.toList⟩,
   ⟨92, #[], #[.pointer (some ⟨g1, 0, none⟩)], fun S => syncS S itmN⟩, ⟨94, #[], #[.pointer (some ⟨g1, 0, none⟩)], fun S => renameS S itmN imgN⟩, ⟨53, #[dptr d], #[], syncDirS⟩]
def sevV (g1 g2 d : Nat) : Array Value := #[.func (.func 89) #[] #[.pointer (some ⟨g1, 0, none⟩)], .func (.func 91) #[] #[.pointer (some ⟨g1, 0, none⟩), .pointer (some ⟨g2, 0, none⟩)],
  .func (.func 92) #[] #[.pointer (some ⟨g1, 0, none⟩)], .func (.func 94) #[] #[.pointer (some ⟨g1, 0, none⟩)], .func (.func 53) #[dptr d] #[]]
theorem sev_carry {B d k M g1 g2 g3 : Nat} {w : World} {S : St} (FR : ByteArray) (h : Live B w d k M S) (hk : k <= 30000) (hM : M <= 300000000) (hf : FR.size <= 10000000) (w1 : Whole w g1 31 #[dptr d]) (w2 : Whole w g2 9 #[.string FR]) (w3 : Whole w g3 109 (sevV g1 g2 d)) :
    Calls Tryz.prog 52 #[.slice (some ⟨g3, 0, none⟩) 5 5] w fun e w' => e = .returned (.int .i64 (runL (saveL FR.data.toList) S).2) /\ Live B w' d (k + 10) (M + 5 * FR.size) (runL (saveL FR.data.toList) S).1 /\ Kept B w w' := by
  have hc1 : ∀ w', Kept B w w' -> w'.cell? ⟨g1, 0, none⟩ = some (dptr d) := fun w' hK => (hK.whole w1 (by decide)).cell 0
  have hc2 : ∀ w', Kept B w w' -> w'.cell? ⟨g2, 0, none⟩ = some (.string FR) := fun w' hK => (hK.whole w2 (by decide)).cell 0
  refine carryOut_any (sevS g1 g2 d FR) (m := FR.size) rfl (by decide) h (by omega) (by omega) ?_ ?_
  · intro s hs
    unfold sevS at hs
    simp only [List.mem_cons, List.not_mem_nil, or_false] at hs
    rcases hs with rfl | rfl | rfl | rfl | rfl
    · exact stp_disc hc1
    · exact stp_append FR (by omega) hc1 hc2
    · exact stp_sync hc1
    · exact stp_rename hc1
    · exact stp_syncDir
  · intro w' hK i s hs
    obtain ⟨e0, e1, e2, e3, e4⟩ := row_five (hK.whole w3 (by decide))
    match i with
    | 0 => have := Option.some.inj hs; subst this; exact e0
    | 1 => have := Option.some.inj hs; subst this; exact e1
    | 2 => have := Option.some.inj hs; subst this; exact e2
    | 3 => have := Option.some.inj hs; subst this; exact e3
    | 4 => have := Option.some.inj hs; subst this; exact e4
    | i + 5 => cases hs
theorem replace_any {B d k M : Nat} {w : World} {S : St} (h : Live B w d k M S) (hk : k <= 30000) (hM : M <= 300000000) (FR : ByteArray) (hf : FR.size <= 10000000) :
    Calls Tryz.prog 33 #[dptr d, .string FR] w fun e w' => e = .returned (.int .i64 (saveS S FR.data.toList).2) /\ Live B w' d (k + 12) (M + 5 * FR.size) (saveS S FR.data.toList).1 /\ Kept B w w' := by
  have hmf : ∀ (fn : Fn) (first cap : Array Value) (w : World), (Instr.makeFunc fn first cap).run Tryz.prog w = .ok (.func fn first cap) w := fun _ _ _ _ => rfl
  obtain ⟨W1, hW1⟩ : ∃ W1, W1 = w.alloc (.cells #[dptr d] 31) := ⟨_, rfl⟩
  obtain ⟨W2, hW2⟩ : ∃ W2, W2 = W1.alloc (.cells #[.string FR] 9) := ⟨_, rfl⟩
  obtain ⟨W3, hW3⟩ : ∃ W3, W3 = W2.alloc (.cells (sevV w.heap.size (w.heap.size + 1) d) 109) := ⟨_, rfl⟩
  have z1 : W1.heap.size = w.heap.size + 1 := by rw [hW1, World.size_alloc]
  have z2 : W2.heap.size = w.heap.size + 2 := by rw [hW2, World.size_alloc, z1]
  have b1 : Whole W1 w.heap.size 31 #[dptr d] := by rw [hW1]; exact Whole.new _ _ _
  have b2 : Whole W2 (w.heap.size + 1) 9 #[.string FR] := by rw [hW2, <-z1]; exact Whole.new _ _ _
  have b12 : Whole W2 w.heap.size 31 #[dptr d] := by rw [hW2]; exact b1.alloc _
  have c2 : W2.cell? ⟨w.heap.size, 0, none⟩ = some (dptr d) := b12.cell 0
  have hB : Below w.heap.size w W3 := by
    rw [hW3, hW2, hW1]
    exact (((Below.refl _ w).alloc (Nat.le_refl _) _).alloc (by simp) _).alloc (by simp; omega) _
  have hL3 := h.same hB
  have hK3 : Kept B w W3 := .of_below hB
  have hcar := sev_carry (g3 := w.heap.size + 2) FR hL3 hk hM hf (by rw [hW3]; exact b12.alloc _) (by rw [hW3]; exact b2.alloc _) (by rw [hW3, <-z2]; exact Whole.new _ _ _)
  have b3 : Whole W3 w.heap.size 31 #[dptr d] := by rw [hW3]; exact b12.alloc _
  have HC := Ha hcar
  have HK3 := Ha hK3
  have HB3 := Ha b3
  have HW3 := Ha hW3
  have Z2 := Ha z2
  have HW1 := Ha hW1
  have HW2 := Ha hW2
  unfold sevV at HW3
  obtain ⟨T, c, hr⟩ : ∃ T c, runL (saveL FR.data.toList) S = (T, c) := ⟨_, _, rfl⟩
  have HR := Ha hr
  have HD := Ha (fun (q : c = 4) => show saveS S FR.data.toList = ((discS T).1, 4) by unfold saveS; rw [hr, if_pos q])
  have HN := Ha (fun (q : ¬ c = 4) => show saveS S FR.data.toList = (T, c) by unfold saveS; rw [hr, if_neg q])
  clear hr h hL3 hK3 hcar b1 b2 b12 b3 hB z1 z2
  rw [hW2, hW1] at c2
  go_enter Tryz.func33, Tryz.ntmps33
  go_wp2_with fail
  rw [<-HW1.out, <-HW2.out]
  clear c2
  go_wp2_with fail
  rw [<-HW3.out]
  refine Calls.mono HC.out ?_
  rw [HR.out]
  rintro e w1 ⟨rfl, hL1, hK1⟩
  have hL1 : Live B w1 d (k + 10) (M + 5 * FR.size) T := hL1
  have HL1 := Ha hL1
  have HK1 := Ha (HK3.out.trans hK1)
  have hc := (hK1.whole HB3.out (by decide)).cell 0
  have hc : w1.cell? ⟨w.heap.size, 0, none⟩ = some (dptr d) := hc
  clear hL1 hK1
  by_cases q : c = 4
  · subst q
    have HDD := Ha (HD.out rfl)
    clear HD HN; go_wp2_with fail
    refine (discard_any HL1.out (by omega)).mono ?_
    rintro e w2 ⟨rfl, hL2, hK2⟩; have HL2 := Ha hL2
    have HK2 := Ha (HK1.out.trans hK2)
    clear hL2 hK2; go_wp2_with fail
    go_ret
    rw [HDD.out]
    exact ⟨rfl, HL2.out, HK2.out⟩
  · have g4 : (c == 4) = false := by rw [beq_eq_false_iff_ne]; exact q
    have HNN := Ha (HN.out q)
    clear q; go_wp2_with fail
    go_ret
    rw [HNN.out]
    exact ⟨rfl, HL1.out.mono (by omega) (Nat.le_refl _), HK1.out⟩
end Go.Proofs.YtmpginmdaeclaaaGreatDoor
