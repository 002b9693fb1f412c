/- octets.Split, with what is known of the answer's capacity. No statement of the seat is proved here. -/
import Derived.Test.YtokjmefleanjaaaGreatOcD
import Derived.Deep.RegionHeld3
import Derived.Deep.AppendLies
import Derived.Deep.RegionLaw
namespace Go.Proofs.YtokjmefleanjaaaGreat
open Go.RowKit

def SplitLeaves2 (s : ByteArray) (ws : List Int) (w : World) (e : Ending) (w' : World) : Prop :=
  ∃ A c, e = .returned (.tuple #[.slice A (splitR s ws).1.length c, .string (splitR s ws).2.1, .int .i64 (splitR s ws).2.2]) ∧
    Sees w' w'.heap.size A (splitR s ws).1.length (ints .u64 (splitR s ws).1) ∧ Below w.heap.size w w' ∧ (splitR s ws).1.length ≤ c
theorem own_cap {w : World} {base : Nat} {e : TypeId} {size n c : Nat} {A : Option Addr} {xs : List Value} (h : w.ownsRow base e size (.slice A n c) n xs) : n ≤ c := by
  rcases h.2 with ⟨_, h0⟩ | ⟨g, cap, cur, hv, _, _, h1, _⟩
  · omega
  · injection hv with _ _ hc
    rw [hc]; exact h1
/-- the way out where bytes are missing -/
theorem split_short_leaf2 (s : ByteArray) (ws : List Int) (w : World) (a : Act) (W : World) (v : Value)
    (hd : a.defers = [{ target := .fn (.func 86) #[.pointer (some ⟨w.heap.size, 0, none⟩), .pointer (some ⟨w.heap.size + 1, 0, none⟩), .pointer (some ⟨w.heap.size + 1 + 1, 0, none⟩)], args := #[] }])
    (h4 : a.tmps.getD 4 undef = .pointer (some ⟨w.heap.size, 0, none⟩)) (h5 : a.tmps.getD 5 undef = .pointer (some ⟨w.heap.size + 1, 0, none⟩)) (h6 : a.tmps.getD 6 undef = .pointer (some ⟨w.heap.size + 1 + 1, 0, none⟩))
    (G0 : Whole W w.heap.size 69 #[v]) (G1 : Whole W (w.heap.size + 1) 9 #[.string ⟨#[]⟩]) (G2 : Whole W (w.heap.size + 1 + 1) 29 #[.int .i64 0])
    (GB : Below w.heap.size w W) (hR : splitR s ws = ([], empty, 2)) :
    bodyPostD Tryz.prog Tryz.f63 (SplitLeaves2 s ws w) (.panic short) a W := by
  show Leaves Tryz.prog Tryz.f63 a.tmps _ a.defers (.panicking short) W
  rw [hd]
  refine leaves_cons (f := 86) (args := #[.pointer (some ⟨w.heap.size, 0, none⟩), .pointer (some ⟨w.heap.size + 1, 0, none⟩), .pointer (some ⟨w.heap.size + 1 + 1, 0, none⟩)]) (by simp) (by simp [go_sem]) ?_
  refine (splitLater_panicking w.heap.size W _ _ _ G0 G1 G2).mono ?_
  rintro e u' w2 ⟨rfl, hset, K0, K1, K2, KB⟩
  change Leaves _ _ _ _ [] (settle u') w2
  rw [hset]
  refine ⟨.tuple #[.slice none 0 0, .string empty, .int .i64 2], ?_, none, 0, ?_, ?_, GB.trans KB, by rw [hR]; exact Nat.le_refl _⟩
  · rw [Array.getD_eq_getD_getElem?] at h4 h5 h6
    simp [results, Tryz.results63, go_sem, h4, h5, h6, K0.cell1, K1.cell1, K2.cell1]
  · rw [hR]; rfl
  · rw [hR]; exact Sees.nil _ _ _

set_option maxHeartbeats 4000000 in
set_option maxRecDepth 20000 in
theorem Split_good2 (s : ByteArray) (A : Option Addr) (n c B : Nat) (ws : List Int) (w : World) (h : Sees w B A n (ints .i64 ws)) (hn : n ≤ 1073741824) (hB : B ≤ w.heap.size) (hs : s.size ≤ 1073741824) (hgood : ws.all wB = true) :
    Calls Tryz.prog 63 #[.string s, .slice A n c] w (SplitLeaves2 s ws w) := by
  have hmf : ∀ (fn : Fn) (first cap : Array Value) (w : World), (Instr.makeFunc fn first cap).run Tryz.prog w = .ok (.func fn first cap) w := fun _ _ _ _ => rfl
  have FB : Below B w (((w.alloc (.cells #[.slice none 0 0] 69)).alloc (.cells #[.string ⟨#[]⟩] 9)).alloc (.cells #[.int .i64 0] 29)) :=
    (((Below.refl _ _).alloc hB _).alloc (by simp; omega) _).alloc (by simp; omega) _
  have h' := h.below FB
  have HW := Lib.hid hgood
  have HL : Hid (ws.length = n) := Lib.hid (show ws.length = n by simpa [ints] using h.len)
  go_enter_defers Tryz.func63, Tryz.ntmps63
  go_wp2_with (go_at_call 71; refine (allWidths_any _ _ _ _ _ _ h' hn).mono ?_; rintro e w' ⟨rfl, rfl⟩)
  clear hgood h' FB
  obtain ⟨F0, F1, F2, F3, FB⟩ := four w #[.slice none 0 0] #[.string ⟨#[]⟩] #[.int .i64 0] #[.string s] 69 9 29 146
  have HS : SplitAt s ws w 0 _ := ⟨[], s, .slice none 0 0, Done.start s ws, rfl, Nat.le_refl _, World.ownsRow_nil _ _ _ _, F0, F1, F2, F3, FB⟩
  clear F0 F1 F2 F3 FB
  go_loopw [18] (fun i wr => ∃ k : Nat, k ≤ n ∧ i = .int .i64 k ∧ SplitAt s ws w k wr) (fun i _ => n - (intOf i).toNat)
  case atStart => exact ⟨0, Nat.zero_le _, rfl, HS⟩
  case round =>
    clear HS
    obtain ⟨k, hk, rfl, acc, t, v, hd, hacc, ht, hown, G0, G1, G2, G3, GB⟩ := hrel
    by_cases hlt : k < n
    · have hkw : k < ws.length := by have := HL.out; omega
      have hwb : wB ws[k] = true := List.all_eq_true.1 HW.out _ (List.getElem_mem hkw)
      obtain ⟨hw0, hw8⟩ : 0 < ws[k] ∧ ws[k] ≤ 8 := by have := wB_cases hwb; omega
      obtain ⟨b, off, rfl, hbB, hc⟩ := ints_at (h.below (GB.mono hB)) hlt
      rw [show ws.getD k 0 = ws[k] from by simp [List.getD, hkw]] at hc
      have HD : Hid (Done s ws acc t (ws[k] :: ws.drop (k + 1))) := Lib.hid (by rw [drop_at hkw] at hd; exact hd)
      have HA := Lib.hid hacc
      have c0 := G0.cell1
      have f0 := G0.frozen 0
      have c3 := G3.cell1
      clear hwb hd hacc
      obtain ⟨x, hx⟩ : ∃ x, x = ws[k] := ⟨_, rfl⟩
      rw [← hx] at hw0 hw8 hc HD
      clear hx
      by_cases hsh : (t.size : Int) < x
      · have hR := splitR_none HW.out (HD.out.fails hsh)
        have leaf := fun a hd h4 h5 h6 => split_short_leaf2 s ws w a wr.drew v hd h4 h5 h6 G0.drew G1.drew G2.drew GB.drew hR
        have LEAF := Lib.hid leaf
        clear leaf hR
        go_wp2_with fail
        refine wp_region_any (by kernel_rfl) ?_
        change wpAny _ _ _ _ _ _ _ (World.drew _)
        refine wpAny_ready (rs := [0, 1]) (by kernel_rfl) (by simp) ?_
        refine AllReady.cons rfl (fun K hK => ?_) (AllReady.cons rfl (fun K hK => ?_) AllReady.nil)
        · go_simp
          refine hK _ _ ?_; clear hK K
          refine wpAny_ready (rs := [1]) (by kernel_rfl) (by simp) ?_
          refine AllReady.cons rfl (fun K hK => ?_) AllReady.nil
          go_simp
          refine hK _ _ ?_; clear hK K
          refine wpAny_ready (rs := [2]) (by kernel_rfl) (by simp) ?_
          refine AllReady.cons rfl (fun K hK => ?_) AllReady.nil
          go_simp
          refine (integer_short _ t _ _ (Whole.drew G3) (by omega) hsh (by omega) hw8).mono ?_
          rintro e w1 ⟨rfl, rfl⟩
          exact LEAF.out _ rfl rfl rfl rfl
        · go_simp
          refine hK _ _ ?_; clear hK K
          refine wpAny_ready (rs := [0, 2]) (by kernel_rfl) (by simp) ?_
          refine AllReady.cons rfl (fun K hK => ?_) (AllReady.cons rfl (fun K hK => ?_) AllReady.nil)
          · go_simp
            refine hK _ _ ?_; clear hK K
            refine wpAny_ready (rs := [2]) (by kernel_rfl) (by simp) ?_
            refine AllReady.cons rfl (fun K hK => ?_) AllReady.nil
            go_simp
            refine (integer_short _ t _ _ (Whole.drew G3) (by omega) hsh (by omega) hw8).mono ?_
            rintro e w1 ⟨rfl, rfl⟩
            exact LEAF.out _ rfl rfl rfl rfl
          · go_simp
            refine (integer_short _ t _ _ (Whole.drew G3) (by omega) hsh (by omega) hw8).mono ?_
            rintro e w1 ⟨rfl, rfl⟩
            exact LEAF.out _ rfl rfl rfl rfl
      · have hle : x ≤ (t.size : Int) := by omega
        clear hsh
        obtain ⟨i0, hi0, hz0, hz1, hz2⟩ := info_parts u64_info
        have n0 := own_apart hown G0 (by decide)
        have n3 := own_apart hown G3 (by decide)
        have hcellA : ∀ w1, wr.drew.grownBy w1 (some (w.heap.size + 1 + 1 + 1)) → Whole w1 w.heap.size 69 #[v] := fun w1 hg => Whole.grown (Whole.drew G0) hg (by simp; omega)
        have hownA : ∀ w1, wr.drew.grownBy w1 (some (w.heap.size + 1 + 1 + 1)) → w1.ownsRow w.heap.size 74 1 v acc.length (ints .u64 acc) :=
          fun w1 hg => World.ownsRow.kept (w := wr.drew) hown hg (.inr n3)
        have hsA : ∀ w1, wr.drew.grownBy w1 (some (w.heap.size + 1 + 1 + 1)) → w.heap.size ≤ w1.heap.size := fun w1 hg => Nat.le_trans GB.size hg.size
        have hb63 : acc.length + 1 ≤ maxLen := by have := HA.out; unfold maxLen; omega
        have hb47 : (acc.length + 1) * 8 ≤ 140737488355328 := by have := HA.out; omega
        have HcA := Lib.hid hcellA
        have HoA := Lib.hid hownA
        have HsA := Lib.hid hsA
        have H63 := Lib.hid hb63
        have H47 := Lib.hid hb47
        have N0 := Lib.hid n0
        clear hcellA hownA hsA hb63 hb47 n0 n3
        clear hkw
        go_wp2_with fail
        refine wp_region_noPanic ?_
        go_region_law (first | (refine step_append_lies _ (by rfl) _ _ _ (by rfl) w.heap.size 74 i0 (.int .u64 0) 1 8 Tryz.underlying69 hi0 hz0 hz1 hz2 rfl (by omega) v acc.length (ints .u64 acc) (by rfl) ((HoA.out w1 hgb).alloc _) ⟨w1.heap.size, 0, none⟩ 1 1 [.int .u64 (numOf (t.extract 0 x.toNat))] (by rfl) (by rfl) (World.news_of_block (cs := #[.int .u64 (numOf (t.extract 0 x.toNat))]) (t := 74) (fr := (0, 0)) (heap_alloc_new w1 _)) (by simp [Value.oneCell']) (by omega) H63.out H47.out (by have := HsA.out w1 hgb; simp; omega) (w1.heap.size + 1) (by simp) ?_; intro gg cap w2 hown2 hgrow hat hlt2; have q0 := ((HcA.out w1 hgb).alloc _).grown hgrow (Ne.symm N0.out); have c2 := q0.cell1; have f2 := q0.frozen 0) | (go_simp; go_at_call 87; refine (integer_ok _ t _ _ (Whole.drew G3) hw0 hle (by omega) hw8).mono ?_; rintro e w1 ⟨rfl, hgb, G3'⟩; have c1 := (HcA.out w1 hgb).cell1; have c1a := fun o => ((HcA.out w1 hgb).alloc o).cell1))
        all_goals
          refine NoPanic.normal ?_
          have HX := Lib.hid (split_step s ws w k wr w1 w2 acc t v x _ gg cap _ rfl HD.out hle HA.out ht hown G0 G1 G2 G3 GB hgb G3' hown2 hgrow)
          clear hat hlt2 q0 c2 f2 c1 c1a hown2 hgrow G3' hgb c0 f0 c3 hc
          go_wp2_with fail
          go_roundw
          case rel => exact ⟨k + 1, by omega, by go_num, HX.out⟩
          case measure => simp [intOf]; omega
    · obtain rfl : k = n := by omega
      have hnil : ws.drop k = [] := List.drop_of_length_le (by have := HL.out; omega)
      have HR : Hid (splitR s ws = (acc, t, 0)) := Lib.hid (splitR_some HW.out (by rw [hnil] at hd; exact hd.ends))
      obtain ⟨A', c', rfl, hsee⟩ := Sees.own hown
      have HCAP := Lib.hid (own_cap hown)
      have n0 := Lib.hid (own_apart hown G0 (by decide))
      have n1 := Lib.hid (own_apart hown G1 (by decide))
      have n2 := Lib.hid (own_apart hown G2 (by decide))
      have c0 := G0.cell1
      have c1 := G1.cell1
      have c2 := G2.cell1
      have c3 := G3.cell1
      have f0 := G0.frozen 0
      have f1 := G1.frozen 0
      have f2 := G2.frozen 0
      clear hnil hd hacc
      go_wp2_with fail
      go_region
      go_wp2_with fail
      refine leaves_cons (f := 86) (args := #[.pointer (some ⟨w.heap.size, 0, none⟩), .pointer (some ⟨w.heap.size + 1, 0, none⟩), .pointer (some ⟨w.heap.size + 1 + 1, 0, none⟩)]) (by simp) (by simp [go_sem]) ?_
      refine (splitLater_idle w.heap.size _).mono ?_
      rintro e u' w2 ⟨rfl, hset, rfl⟩
      change Leaves _ _ _ _ [] (settle u') _
      rw [hset]
      refine ⟨.tuple #[.slice A' acc.length c', .string t, .int .i64 0], by simp [results, Tryz.results63, go_sem, c0, c1, c2], ?_⟩
      have hB2 := (((GB.setCell (p := ⟨w.heap.size, 0, none⟩) (Nat.le_refl _) (.slice A' acc.length c')).setCell (p := ⟨w.heap.size + 1, 0, none⟩) (by simp) (.string t)).setCell (p := ⟨w.heap.size + 1 + 1, 0, none⟩) (by simp; omega) (.int .i64 0)).drew
      refine ⟨A', c', by rw [HR.out], ?_, hB2, by rw [HR.out]; exact HCAP.out⟩
      rw [HR.out]
      have o0 := ownsRow_setCell_other hown (a := ⟨w.heap.size, 0, none⟩) n0.out (.slice A' acc.length c')
      have o1 := ownsRow_setCell_other o0 (a := ⟨w.heap.size + 1, 0, none⟩) n1.out (.string t)
      have o2 := ownsRow_setCell_other o1 (a := ⟨w.heap.size + 1 + 1, 0, none⟩) n2.out (.int .i64 0)
      obtain ⟨A2, c2, e2, hs2⟩ := Sees.own o2
      injection e2 with e3 e4 e5
      subst e3
      exact hs2

end Go.Proofs.YtokjmefleanjaaaGreat
