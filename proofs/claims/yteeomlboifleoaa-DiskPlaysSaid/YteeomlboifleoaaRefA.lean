/- The reference's lists of names: find, without. No statement of the seat is proved here. -/
import Derived.Test.YteeomlboifleoaaDsg
namespace Go.Proofs.Yteeomlboifleoaa
open Go.RowKit Go.Maps Go.Sort

def ncells (N : Nms) : List Value := N.flatMap fun p => [Value.string (strB p.1), .int .i64 (p.2 : Nat)]
theorem ncells_len (N : Nms) : (ncells N).length = N.length * 2 := by
  unfold ncells
  induction N with
  | nil => rfl
  | cons p r ih => simp only [List.flatMap_cons, List.length_append, List.length_cons, List.length_nil, ih]; omega
theorem ncells_snoc (N : Nms) (p : Bys × Nat) : ncells (N ++ [p]) = ncells N ++ [Value.string (strB p.1), .int .i64 (p.2 : Nat)] := by simp [ncells]
theorem ncells_at : ∀ (N : Nms) (k : Nat) (p : Bys × Nat), N[k]? = some p → (ncells N)[k * 2]? = some (.string (strB p.1)) ∧ (ncells N)[k * 2 + 1]? = some (.int .i64 (p.2 : Nat))
  | [], k, p, h => by simp at h
  | x :: r, 0, p, h => by
    simp only [List.getElem?_cons_zero, Option.some.injEq] at h
    subst h
    exact ⟨rfl, rfl⟩
  | x :: r, k + 1, p, h => by
    simp only [List.getElem?_cons_succ] at h
    obtain ⟨h0, h1⟩ := ncells_at r k p h
    have e : ncells (x :: r) = [Value.string (strB x.1), .int .i64 (x.2 : Nat)] ++ ncells r := rfl
    rw [e]
    refine ⟨?_, ?_⟩
    · rw [List.getElem?_append_right (by simp; omega)]; simpa [show (k + 1) * 2 - 2 = k * 2 by omega] using h0
    · rw [List.getElem?_append_right (by simp; omega)]; simpa [show (k + 1) * 2 + 1 - 2 = k * 2 + 1 by omega] using h1
/-- a row of names -/
def RowN (w : World) (b : Nat) (v : Value) (N : Nms) : Prop := w.ownsRow b 70 2 v N.length (ncells N)
theorem RowN.shape {w : World} {b : Nat} {v : Value} {N : Nms} (h : RowN w b v N) : ∃ A c, v = .slice A N.length c := by
  rcases h.2 with ⟨rfl, hz⟩ | ⟨g, cap, cur, rfl, _⟩
  · exact ⟨none, 0, by rw [hz]⟩
  · exact ⟨_, cap, rfl⟩
theorem RowN.at {w : World} {b : Nat} {A : Option Addr} {n c : Nat} {N : Nms} (h : RowN w b (.slice A n c) N) {k : Nat} (hk : k < N.length) :
    ∃ g p, A = some ⟨g, 0, none⟩ ∧ N[k]? = some p ∧ g < w.heap.size ∧ w.cell? ⟨g, k * 2, none⟩ = some (.string (strB p.1)) ∧ w.cell? ⟨g, k * 2 + 1, none⟩ = some (.int .i64 (p.2 : Nat)) := by
  have h0 := h
  rcases h.2 with ⟨_, hz⟩ | ⟨g, cap, cur, hv, _, hg, _⟩
  · omega
  · injection hv with e1 e2 e3
    subst e1
    have hp : N[k]? = some N[k] := List.getElem?_eq_getElem hk
    obtain ⟨c0, c1⟩ := ncells_at N k N[k] hp
    have hc := World.ownsRow.cells h0 (g := g) rfl
    have x0 := hc _ _ c0
    have x1 := hc _ _ c1
    rw [add0] at x0 x1
    exact ⟨g, N[k], rfl, hp, (Array.getElem?_eq_some_iff.1 hg).1, x0, x1⟩
theorem bytes_eq (x : Bys) (s : ByteArray) : (strB x).toList = s.toList ↔ x = s.data.toList := by
  rw [ByteArray.toList_eq, ByteArray.toList_eq]
  exact Iff.rfl
def findI (N : Nms) (s : Bys) : Int := match findN N s with | some i => (i : Nat) | none => -1
theorem findN_skip {N : Nms} {s : Bys} {k : Nat} (h : ∀ p ∈ N.take k, p.1 ≠ s) : findN N s = findN (N.drop k) s := by
  have e : N = N.take k ++ N.drop k := (List.take_append_drop k N).symm
  unfold findN
  rw [e, List.find?_append]
  have : (N.take k).find? (fun p => p.1 == s) = none := by
    rw [List.find?_eq_none]
    intro p hp
    simpa using h p hp
  rw [this]
  simp
theorem find_any {b : Nat} {v : Value} {N : Nms} {w : World} (h : RowN w b v N) (hn : N.length ≤ 1000000) (s : ByteArray) :
    Calls Try.prog 48 #[v, .string s] w fun e w' => e = .returned (.int .i64 (findI N s.data.toList)) ∧ w = w' := by
  obtain ⟨A, c, rfl⟩ := h.shape
  have HR := Lib.hid h
  have hnI : (N.length : Int) ≤ 1000000 := by omega
  clear h
  go_enter Try.func48, Try.ntmps48
  go_wp2
  go_loop [5] (fun i => ∃ k : Nat, k ≤ N.length ∧ i = .int .i64 k ∧ ∀ p ∈ N.take k, p.1 ≠ s.data.toList) (fun i => N.length - (intOf i).toNat)
  case atStart => exact ⟨0, Nat.zero_le _, rfl, by simp⟩
  case round =>
    obtain ⟨k, hk, rfl, hno⟩ := hrel
    have HNo := Lib.hid hno
    clear hno
    by_cases hlt : k < N.length
    · obtain ⟨g, p, rfl, hp, _, c0, c1⟩ := HR.out.at hlt
      obtain ⟨z, hz⟩ : ∃ z, z = strB p.1 := ⟨_, rfl⟩
      rw [← hz] at c0
      have hlk : (k : Int) < (N.length : Int) := by omega
      have hdrop : N.drop k = p :: N.drop (k + 1) := by rw [List.drop_eq_getElem_cons hlt]; congr 1; rw [List.getElem?_eq_getElem hlt] at hp; exact Option.some.inj hp
      by_cases he : z.toList = s.toList
      · have hps : p.1 = s.data.toList := (bytes_eq _ _).1 (by rw [← hz]; exact he)
        have hF : Hid (findI N s.data.toList = (p.2 : Nat)) := Lib.hid (by
          unfold findI
          rw [findN_skip HNo.out, hdrop]
          have : findN (p :: N.drop (k + 1)) s.data.toList = some p.2 := by simp [findN, hps]
          rw [this])
        clear hz hp hdrop hps
        go_wp2
        go_ret
        exact ⟨by rw [hF.out]; rfl, rfl⟩
      · have he2 : (z.toList == s.toList) = false := by simpa using he
        have hps : p.1 ≠ s.data.toList := fun e => he (by rw [hz]; exact (bytes_eq _ _).2 e)
        have hnext : Hid (∀ q ∈ N.take (k + 1), q.1 ≠ s.data.toList) := Lib.hid (by
          intro q hq
          rw [List.take_add_one, hp] at hq
          rcases List.mem_append.1 hq with hq | hq
          · exact HNo.out q hq
          · have : q = p := by simpa using hq
            rw [this]; exact hps)
        clear hz hp hdrop hps
        go_wp2
        go_round
        case rel => exact ⟨k + 1, by omega, by go_num, hnext.out⟩
        case measure => simp [intOf]; omega
    · obtain rfl : k = N.length := by omega
      have hF : Hid (findI N s.data.toList = -1) := Lib.hid (by
        unfold findI
        rw [findN_skip HNo.out, List.drop_length]
        rfl)
      go_wp2
      go_ret
      exact ⟨by rw [hF.out]; rfl, rfl⟩
theorem name_info : (Try.prog.info? 70).map (fun i => (i.zero, i.size, i.bytes)) = some (some (.agg #[.string ⟨#[]⟩, .int .i64 0]), 2, 24) := by kernel_rfl
theorem two1 (a b : Value) (ha : a.oneCell' = true) (hb : b.oneCell' = true) : ∀ u ∈ [a, b], u.oneCell' = true := by
  intro u hu
  simp only [List.mem_cons, List.not_mem_nil, or_false] at hu
  rcases hu with rfl | rfl
  · exact ha
  · exact hb
theorem delN_snoc (N : Nms) (p : Bys × Nat) (s : Bys) : delN (N ++ [p]) s = if p.1 = s then delN N s else delN N s ++ [p] := by
  unfold delN
  rw [List.filter_append]
  by_cases h : p.1 = s
  · simp [h]
  · simp [h]
set_option maxHeartbeats 1000000 in
theorem without_any {b : Nat} {v : Value} {N : Nms} {w : World} (h : RowN w b v N) (hn : N.length ≤ 1000000) (s : ByteArray) :
    Calls Try.prog 62 #[v, .string s] w fun e w' => ∃ v', e = .returned v' ∧ RowN w' w.heap.size v' (delN N s.data.toList) ∧ Below w.heap.size w w' := by
  obtain ⟨A, c, rfl⟩ := h.shape
  have HR := Lib.hid h
  have hnI : (N.length : Int) ≤ 1000000 := by omega
  clear h
  go_enter Try.func62, Try.ntmps62
  go_wp2
  go_loopw [5, 6] (fun u i wr => ∃ k : Nat, k ≤ N.length ∧ i = .int .i64 k ∧ RowN wr w.heap.size u (delN (N.take k) s.data.toList) ∧ Below w.heap.size w wr) (fun _ i _ => N.length - (intOf i).toNat)
  case atStart => exact ⟨0, Nat.zero_le _, rfl, World.ownsRow_nil _ _ _ _, Below.refl _ _⟩
  case round =>
    obtain ⟨k, hk, rfl, hO, hB⟩ := hrel
    have HO := Lib.hid hO
    have HB := Lib.hid hB
    clear hO hB
    by_cases hlt : k < N.length
    · obtain ⟨g, p, rfl, hp, hg, c0, c1⟩ := HR.out.at hlt
      obtain ⟨z, hz⟩ : ∃ z, z = strB p.1 := ⟨_, rfl⟩
      rw [← hz] at c0
      have hlk : (k : Int) < (N.length : Int) := by omega
      have y0 : wr.cell? ⟨g, k * 2, none⟩ = some (.string z) := (HB.out.cell hg).trans c0
      have y1 : wr.cell? ⟨g, k * 2 + 1, none⟩ = some (.int .i64 (p.2 : Nat)) := (HB.out.cell hg).trans c1
      have htk : N.take (k + 1) = N.take k ++ [p] := by rw [List.take_add_one, hp]; rfl
      by_cases he : z.toList = s.toList
      · have hps : p.1 = s.data.toList := (bytes_eq _ _).1 (by rw [← hz]; exact he)
        have hnext : Hid (delN (N.take (k + 1)) s.data.toList = delN (N.take k) s.data.toList) := Lib.hid (by rw [htk, delN_snoc, if_pos hps])
        clear hz hp htk hps c0 c1
        go_wp2
        go_roundw
        case rel => exact ⟨k + 1, by omega, by go_num, by rw [hnext.out]; exact HO.out, HB.out⟩
        case measure => simp [intOf]; omega
      · have he2 : (z.toList == s.toList) = false := by simpa using he
        have hps : p.1 ≠ s.data.toList := fun e => he (by rw [hz]; exact (bytes_eq _ _).2 e)
        have hnext : Hid (delN (N.take (k + 1)) s.data.toList = delN (N.take k) s.data.toList ++ [p]) := Lib.hid (by rw [htk, delN_snoc, if_neg hps])
        obtain ⟨i0, hi0, hz0, hz1, hz2⟩ := info_parts name_info
        have hlen : (delN (N.take k) s.data.toList).length ≤ 1000000 := by
          have h1 := length_delN (N.take k) s.data.toList
          have h2 : (N.take k).length ≤ N.length := by simp [List.length_take]; omega
          omega
        have H63 : Hid ((delN (N.take k) s.data.toList).length + 1 ≤ maxLen) := Lib.hid (by unfold maxLen; omega)
        have H47 : Hid (((delN (N.take k) s.data.toList).length + 1) * 24 ≤ 140737488355328) := Lib.hid (by omega)
        have HZ := Lib.hid hz
        clear hz hp htk hps c0 c1 hlen
        go_wp2_with (at_builtin; refine wpList_append_own _ rfl _ _ 30 rfl w.heap.size 70 i0 (.agg #[.string ⟨#[]⟩, .int .i64 0]) 2 24 Try.underlying30 hi0 hz0 hz1 hz2 rfl (by decide) _ _ _ rfl (HO.out.alloc _) ⟨wr.heap.size, 0, none⟩ 1 1 [.string z, .int .i64 (p.2 : Nat)] rfl rfl (World.news_of_block (cs := #[.string z, .int .i64 (p.2 : Nat)]) (t := 70) (fr := (0, 0)) (heap_alloc_new wr _)) (two1 _ _ rfl rfl) H63.out H47.out (Nat.le_trans HB.out.size (by simp)) ?_; intro v2 w2 hown2 hgrow2 _)
        have hO2 : RowN w2 w.heap.size v2 (delN (N.take (k + 1)) s.data.toList) := by
          unfold RowN
          rw [hnext.out, List.length_append, ncells_snoc, ← HZ.out]
          exact hown2
        have HO2 := Lib.hid hO2
        have HB2 := Lib.hid ((HB.out.alloc HB.out.size _).grown hgrow2 (Nat.le_trans HB.out.size (by simp)) (fun j hj => (HO.out.lt j hj).1))
        clear hO2 hown2 hgrow2
        go_roundw
        case rel => exact ⟨k + 1, by omega, by go_num, HO2.out, HB2.out⟩
        case measure => simp [intOf]; omega
    · obtain rfl : k = N.length := by omega
      go_wp2
      go_ret
      exact ⟨_, rfl, by have := HO.out; rwa [List.take_length] at this, HB.out⟩
end Go.Proofs.Yteeomlboifleoaa
