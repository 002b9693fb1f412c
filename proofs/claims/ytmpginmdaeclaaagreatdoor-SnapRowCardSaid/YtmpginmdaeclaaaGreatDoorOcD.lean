/- Parts of the proofs of the statements of image. No statement of the seat is proved here. -/
import Derived.Test.YtmpginmdaeclaaaGreatDoorOcA
import Derived.Deep.RegionHeld3
import Derived.Deep.AppendLies
import Derived.Deep.RegionLaw
set_option maxHeartbeats 32000000
set_option maxRecDepth 20000
namespace Go.Proofs.YtmpginmdaeclaaaGreatDoor
open Go.RowKit
theorem splitLater_panicking (b : Nat) (w : World) (x y z : Value) (hp : Whole w b 157 #[x]) (hq : Whole w (b + 1) 9 #[y]) (hr : Whole w (b + 1 + 1) 32 #[z]) :
    CallsD Tryz.prog 160 #[.pointer (some ⟨b, 0, none⟩), .pointer (some ⟨b + 1, 0, none⟩), .pointer (some ⟨b + 1 + 1, 0, none⟩)] (.panicking short) w fun e u' w' =>
      e = .returned (.tuple #[]) /\ settle u' = .returning /\ Whole w' b 157 #[(.slice none 0 0)] /\ Whole w' (b + 1) 9 #[.string empty] /\ Whole w' (b + 1 + 1) 32 #[.int .i64 2] /\ Below b w w' := by
  have hta := is_short
  have k0 := (hp.alloc (.cells #[] 202)).cell1
  have k1 := (hq.alloc (.cells #[] 202)).cell1
  have k2 := (hr.alloc (.cells #[] 202)).cell1
  have f0 := (hp.alloc (.cells #[] 202)).frozen 0
  have f1 := (hq.alloc (.cells #[] 202)).frozen 0
  have f2 := (hr.alloc (.cells #[] 202)).frozen 0
  have hB : Below b w ((((w.alloc (.cells #[] 202)).setCell ⟨b, 0, none⟩ (.slice none 0 0)).setCell ⟨b + 1, 0, none⟩ (.string empty)).setCell ⟨b + 1 + 1, 0, none⟩ (.int .i64 2)) := ((((Below.refl b w).alloc (Nat.le_of_lt hp.lt) _).setCell (Nat.le_refl _) _).setCell (by simp) _).setCell (by simp; omega) _
  have hP : Whole ((((w.alloc (.cells #[] 202)).setCell ⟨b, 0, none⟩ (.slice none 0 0)).setCell ⟨b + 1, 0, none⟩ (.string empty)).setCell ⟨b + 1 + 1, 0, none⟩ (.int .i64 2)) b 157 #[(.slice none 0 0)] := (((hp.alloc _).put1 _).far (by simp) _).far (by simp; omega) _
  have hQ : Whole ((((w.alloc (.cells #[] 202)).setCell ⟨b, 0, none⟩ (.slice none 0 0)).setCell ⟨b + 1, 0, none⟩ (.string empty)).setCell ⟨b + 1 + 1, 0, none⟩ (.int .i64 2)) (b + 1) 9 #[.string empty] := (((hq.alloc _).far (by simp) _).put1 _).far (by simp) _
  have hR : Whole ((((w.alloc (.cells #[] 202)).setCell ⟨b, 0, none⟩ (.slice none 0 0)).setCell ⟨b + 1, 0, none⟩ (.string empty)).setCell ⟨b + 1 + 1, 0, none⟩ (.int .i64 2)) (b + 1 + 1) 32 #[.int .i64 2] := (((hr.alloc _).far (by simp; omega) _).far (by simp) _).put1 _
  have HB := Ha hB
  have HP := Ha hP
  have HQ := Ha hQ
  have HR := Ha hR
  clear hp hq hr hB hP hQ hR
  refine callsD_of_wpS Tryz.func160 rfl fun c₀ cs hu => ?_
  apply wpS_seq
  apply wpS_region
  simp [wpOpsS, go_sem, recoverD, hu, Tryz.ntmps160, Exit.thenS, short, zero9]
  refine wpS_of_wp ?_
  go_wp2
  exact ⟨rfl, _, rfl, .tuple #[], by simp [results, Tryz.results160, Sem.run_pure], rfl, rfl, HP.out, HQ.out, HR.out, HB.out⟩
theorem splitLater_idle (b : Nat) (w : World) :
    CallsD Tryz.prog 160 #[.pointer (some ⟨b, 0, none⟩), .pointer (some ⟨b + 1, 0, none⟩), .pointer (some ⟨b + 1 + 1, 0, none⟩)] .returning w fun e u' w' =>
      e = .returned (.tuple #[]) /\ settle u' = .returning /\ w' = w := by
  refine callsD_of_wpS Tryz.func160 rfl fun c₀ cs hu => ?_
  apply wpS_seq
  apply wpS_region
  simp [wpOpsS, go_sem, recoverD, hu, Tryz.ntmps160, Exit.thenS, zero9]
  refine wpS_of_wp ?_
  go_wp2
  refine ⟨rfl, c₀.mode, rfl, .tuple #[], by simp [results, Tryz.results160, Sem.run_pure], rfl, by rw [hu]; rfl, rfl⟩
theorem Split_bad (s : ByteArray) (A : Option Addr) (n c B : Nat) (ws : List Int) (w : World) (h : Sees w B A n (ints .i64 ws)) (hn : n <= 1073741824) (hB : B <= w.heap.size) (hbad : ws.all wB = false) :
    Calls Tryz.prog 110 #[.string s, .slice A n c] w (SplitLeaves s ws w) := by
  have FB : Below B w (((w.alloc (.cells #[.slice none 0 0] 157)).alloc (.cells #[.string ⟨#[]⟩] 9)).alloc (.cells #[.int .i64 0] 32)) :=
    (((Below.refl _ _).alloc hB _).alloc (by simp; omega) _).alloc (by simp; omega) _
  have h' := h.below FB
  go_enter_defers Tryz.func110, Tryz.ntmps110
  go_wp2_with (go_at_call 159; refine (allWidths_any _ _ _ _ _ _ h' hn).mono ?_; rintro e w' ⟨rfl, rfl⟩)
  simp [bodyPostD, Leaves, results, Tryz.results110, go_sem]
  refine ⟨none, 0, ?_, ?_, ?_⟩
  · rw [splitR_bad hbad]; rfl
  · rw [splitR_bad hbad]; exact Sees.nil _ _ _
  · exact (((Below.refl _ _).alloc (by simp) _).alloc (by simp) _).alloc (by simp; omega) _
def SplitAt (s : ByteArray) (ws : List Int) (w : World) (k : Nat) (wr : World) : Prop :=
  ∃ acc t v, Done s ws acc t (ws.drop k) /\ acc.length = k /\ t.size <= s.size /\ wr.ownsRow w.heap.size 44 1 v acc.length (ints .u64 acc) /\ Whole wr w.heap.size 157 #[v] /\
    Whole wr (w.heap.size + 1) 9 #[.string ⟨#[]⟩] /\ Whole wr (w.heap.size + 1 + 1) 32 #[.int .i64 0] /\ Whole wr (w.heap.size + 1 + 1 + 1) 204 #[.string t] /\ Below w.heap.size w wr
theorem split_short_leaf (s : ByteArray) (ws : List Int) (w : World) (a : Act) (W : World) (v : Value)
    (hd : a.defers = [{ target := .fn (.func 160) #[.pointer (some ⟨w.heap.size, 0, none⟩), .pointer (some ⟨w.heap.size + 1, 0, none⟩), .pointer (some ⟨w.heap.size + 1 + 1, 0, none⟩)], args := #[] }])
    (h4 : a.tmps.getD 4 undef = .pointer (some ⟨w.heap.size, 0, none⟩)) (h5 : a.tmps.getD 5 undef = .pointer (some ⟨w.heap.size + 1, 0, none⟩)) (h6 : a.tmps.getD 6 undef = .pointer (some ⟨w.heap.size + 1 + 1, 0, none⟩))
    (G0 : Whole W w.heap.size 157 #[v]) (G1 : Whole W (w.heap.size + 1) 9 #[.string ⟨#[]⟩]) (G2 : Whole W (w.heap.size + 1 + 1) 32 #[.int .i64 0])
    (GB : Below w.heap.size w W) (hR : splitR s ws = ([], empty, 2)) :
    bodyPostD Tryz.prog Tryz.f110 (SplitLeaves s ws w) (.panic short) a W := by
  show Leaves Tryz.prog Tryz.f110 a.tmps _ a.defers (.panicking short) W
  rw [hd]
  refine leaves_cons (f := 160) (args := #[.pointer (some ⟨w.heap.size, 0, none⟩), .pointer (some ⟨w.heap.size + 1, 0, none⟩), .pointer (some ⟨w.heap.size + 1 + 1, 0, none⟩)]) (by simp) (by simp [go_sem]) ?_
  refine (splitLater_panicking w.heap.size W _ _ _ G0 G1 G2).mono ?_
  rintro e u' w2 ⟨rfl, hset, K0, K1, K2, KB⟩
  change Leaves _ _ _ _ [] (settle u') w2
  rw [hset]
  refine ⟨.tuple #[.slice none 0 0, .string empty, .int .i64 2], ?_, none, 0, ?_, ?_, GB.trans KB⟩
  · rw [Array.getD_eq_getD_getElem?] at h4 h5 h6
    simp [results, Tryz.results110, go_sem, h4, h5, h6, K0.cell1, K1.cell1, K2.cell1]
  · rw [hR]; rfl
  · rw [hR]; exact Sees.nil _ _ _
theorem split_step (s : ByteArray) (ws : List Int) (w : World) (k : Nat) (wr w1 w2 : World) (acc : List Int) (t : ByteArray) (v : Value) (x : Int) (rest : List Int) (gg cap : Nat) (o : Obj)
    (hrest : rest = ws.drop (k + 1)) (HD : Done s ws acc t (x :: rest)) (hx : x <= (t.size : Int)) (hacc : acc.length = k) (ht : t.size <= s.size)
    (hown : wr.ownsRow w.heap.size 44 1 v acc.length (ints .u64 acc))
    (G0 : Whole wr w.heap.size 157 #[v]) (G1 : Whole wr (w.heap.size + 1) 9 #[.string ⟨#[]⟩]) (G2 : Whole wr (w.heap.size + 1 + 1) 32 #[.int .i64 0]) (G3 : Whole wr (w.heap.size + 1 + 1 + 1) 204 #[.string t])
    (GB : Below w.heap.size w wr) (hgb : wr.drew.grownBy w1 (some (w.heap.size + 1 + 1 + 1))) (G3' : Whole w1 (w.heap.size + 1 + 1 + 1) 204 #[.string (t.extract x.toNat t.size)])
    (hown2 : w2.ownsRow w.heap.size 44 1 (.slice (some ⟨gg, 0, none⟩) (acc.length + 1) cap) (acc.length + 1) (ints .u64 acc ++ [.int .u64 (numOf (t.extract 0 x.toNat))]))
    (hgrow : (w1.alloc o).grownBy w2 v.ownBlock) :
    SplitAt s ws w (k + 1) (w2.setCell ⟨w.heap.size, 0, none⟩ (.slice (some ⟨gg, 0, none⟩) (acc.length + 1) cap)) := by
  subst hrest
  have n0 : v.ownBlock ≠ some w.heap.size := own_apart hown G0 (by decide)
  have n1 : v.ownBlock ≠ some (w.heap.size + 1) := own_apart hown G1 (by decide)
  have n2 : v.ownBlock ≠ some (w.heap.size + 1 + 1) := own_apart hown G2 (by decide)
  have n3 : v.ownBlock ≠ some (w.heap.size + 1 + 1 + 1) := own_apart hown G3 (by decide)
  have g0 : Whole w2 w.heap.size 157 #[v] := ((Whole.grown (Whole.drew G0) hgb (by simp; omega)).alloc o).grown hgrow (Ne.symm n0)
  have g1 := ((Whole.grown (Whole.drew G1) hgb (by simp)).alloc o).grown hgrow (Ne.symm n1)
  have g2 := ((Whole.grown (Whole.drew G2) hgb (by simp)).alloc o).grown hgrow (Ne.symm n2)
  have g3 := (G3'.alloc o).grown hgrow (Ne.symm n3)
  have hbB : Below w.heap.size w w2 :=
    (((GB.drew).grown hgb GB.size (by intro j hj; simp at hj; omega)).alloc (Nat.le_trans GB.size hgb.size) o).grown hgrow (by have := GB.size; have := hgb.size; simp at *; omega)
      (fun j hj => ((hown.lt) j hj).1)
  refine ⟨acc ++ [(numOf (t.extract 0 x.toNat) : Int)], t.extract x.toNat t.size, _, HD.step hx, by simp [hacc], by simp; omega, ?_, g0.put1 _, g1.far (by simp) _, g2.far (by simp; omega) _, g3.far (by simp; omega) _, hbB.setCell (Nat.le_refl _) _⟩
  have hne : (Value.slice (some ⟨gg, 0, none⟩) (acc.length + 1) cap).ownBlock ≠ some w.heap.size := own_apart hown2 g0 (by decide)
  have := hown2.kept (w' := w2.setCell ⟨w.heap.size, 0, none⟩ (.slice (some ⟨gg, 0, none⟩) (acc.length + 1) cap)) (row := some w.heap.size)
    (grown_setCell (World.grownBy.refl w2 _) _) (.inr hne)
  simpa [ints] using this
theorem Split_good (s : ByteArray) (A : Option Addr) (n c B : Nat) (ws : List Int) (w : World) (h : Sees w B A n (ints .i64 ws)) (hn : n <= 1073741824) (hB : B <= w.heap.size) (hs : s.size <= 1073741824) (hgood : ws.all wB = true) :
    Calls Tryz.prog 110 #[.string s, .slice A n c] w (SplitLeaves s ws w) := by
  have hmf : ∀ (fn : Fn) (first cap : Array Value) (w : World), (Instr.makeFunc fn first cap).run Tryz.prog w = .ok (.func fn first cap) w := fun _ _ _ _ => rfl
  have FB : Below B w (((w.alloc (.cells #[.slice none 0 0] 157)).alloc (.cells #[.string ⟨#[]⟩] 9)).alloc (.cells #[.int .i64 0] 32)) :=
    (((Below.refl _ _).alloc hB _).alloc (by simp; omega) _).alloc (by simp; omega) _
  have h' := h.below FB
  have HW := Ha hgood
  have HL : Hid (ws.length = n) := Ha (show ws.length = n by simpa [ints] using h.len)
  go_enter_defers Tryz.func110, Tryz.ntmps110
  go_wp2_with (go_at_call 159; refine (allWidths_any _ _ _ _ _ _ h' hn).mono ?_; rintro e w' ⟨rfl, rfl⟩)
  clear hgood h' FB
  obtain ⟨F0, F1, F2, F3, FB⟩ := four w #[.slice none 0 0] #[.string ⟨#[]⟩] #[.int .i64 0] #[.string s] 157 9 32 204
  have HS : SplitAt s ws w 0 _ := ⟨[], s, .slice none 0 0, Done.start s ws, rfl, Nat.le_refl _, World.ownsRow_nil _ _ _ _, F0, F1, F2, F3, FB⟩
  clear F0 F1 F2 F3 FB
  go_loopw [18] (fun i wr => ∃ k : Nat, k <= n /\ i = .int .i64 k /\ SplitAt s ws w k wr) (fun i _ => n - (intOf i).toNat)
  case atStart => exact ⟨0, Nat.zero_le _, rfl, HS⟩
  case round =>
    clear HS; obtain ⟨k, hk, rfl, acc, t, v, hd, hacc, ht, hown, G0, G1, G2, G3, GB⟩ := hrel
    by_cases hlt : k < n
    · have hkw : k < ws.length := by have := HL.out; omega
      have hwb : wB ws[k] = true := List.all_eq_true.1 HW.out _ (List.getElem_mem hkw)
      obtain ⟨hw0, hw8⟩ : 0 < ws[k] /\ ws[k] <= 8 := by have := wB_cases hwb; omega
      obtain ⟨b, off, rfl, hbB, hc⟩ := ints_at (h.below (GB.mono hB)) hlt
      rw [show ws.getD k 0 = ws[k] from by simp [List.getD, hkw]] at hc
      have HD : Hid (Done s ws acc t (ws[k] :: ws.drop (k + 1))) := Ha (by rw [drop_at hkw] at hd; exact hd)
      have HA := Ha hacc
      have c0 := G0.cell1
      have f0 := G0.frozen 0
      have c3 := G3.cell1
      clear hwb hd hacc; obtain ⟨x, hx⟩ : ∃ x, x = ws[k] := ⟨_, rfl⟩
      rw [<-hx] at hw0 hw8 hc HD
      clear hx
      by_cases hsh : (t.size : Int) < x
      · have hR := splitR_none HW.out (HD.out.fails hsh)
        have leaf := fun a hd h4 h5 h6 => split_short_leaf s ws w a wr.drew v hd h4 h5 h6 G0.drew G1.drew G2.drew GB.drew hR
        have LEAF := Ha leaf
        clear leaf hR; go_wp2_with fail
        refine wp_region_any (by kernel_rfl) ?_
        change wpAny _ _ _ _ _ _ _ (World.drew _)
        refine wpAny_ready (rs := [0, 1]) (by kernel_rfl) (by simp) ?_
        refine AllReady.cons rfl (fun K hK => ?_) (AllReady.cons rfl (fun K hK => ?_) AllReady.nil)
        · go_simp
          refine hK _ _ ?_; clear hK K; refine wpAny_ready (rs := [1]) (by kernel_rfl) (by simp) ?_
          refine AllReady.cons rfl (fun K hK => ?_) AllReady.nil
          go_simp
          refine hK _ _ ?_; clear hK K; refine wpAny_ready (rs := [2]) (by kernel_rfl) (by simp) ?_
          refine AllReady.cons rfl (fun K hK => ?_) AllReady.nil
          go_simp
          refine (integer_short _ t _ _ (Whole.drew G3) (by omega) hsh (by omega) hw8).mono ?_
          rintro e w1 ⟨rfl, rfl⟩; exact LEAF.out _ rfl rfl rfl rfl
        · go_simp
          refine hK _ _ ?_; clear hK K; refine wpAny_ready (rs := [0, 2]) (by kernel_rfl) (by simp) ?_
          refine AllReady.cons rfl (fun K hK => ?_) (AllReady.cons rfl (fun K hK => ?_) AllReady.nil)
          · go_simp
            refine hK _ _ ?_; clear hK K; refine wpAny_ready (rs := [2]) (by kernel_rfl) (by simp) ?_
            refine AllReady.cons rfl (fun K hK => ?_) AllReady.nil
            go_simp
            refine (integer_short _ t _ _ (Whole.drew G3) (by omega) hsh (by omega) hw8).mono ?_
            rintro e w1 ⟨rfl, rfl⟩; exact LEAF.out _ rfl rfl rfl rfl
          · go_simp
            refine (integer_short _ t _ _ (Whole.drew G3) (by omega) hsh (by omega) hw8).mono ?_
            rintro e w1 ⟨rfl, rfl⟩; exact LEAF.out _ rfl rfl rfl rfl
      · have hle : x <= (t.size : Int) := by omega
        clear hsh; obtain ⟨i0, hi0, hz0, hz1, hz2⟩ := info_parts u64_info
        have n0 := own_apart hown G0 (by decide)
        have n3 := own_apart hown G3 (by decide)
        have hcellA : ∀ w1, wr.drew.grownBy w1 (some (w.heap.size + 1 + 1 + 1)) -> Whole w1 w.heap.size 157 #[v] := fun w1 hg => Whole.grown (Whole.drew G0) hg (by simp; omega)
        have hownA : ∀ w1, wr.drew.grownBy w1 (some (w.heap.size + 1 + 1 + 1)) -> w1.ownsRow w.heap.size 44 1 v acc.length (ints .u64 acc) :=
          fun w1 hg => World.ownsRow.kept (w := wr.drew) hown hg (.inr n3)
        have hsA : ∀ w1, wr.drew.grownBy w1 (some (w.heap.size + 1 + 1 + 1)) -> w.heap.size <= w1.heap.size := fun w1 hg => Nat.le_trans GB.size hg.size
        have hb63 : acc.length + 1 <= maxLen := by have := HA.out; unfold maxLen; omega
        have hb47 : (acc.length + 1) * 8 <= 140737488355328 := by have := HA.out; omega
        have HcA := Ha hcellA
        have HoA := Ha hownA
        have HsA := Ha hsA
        have H63 := Ha hb63
        have H47 := Ha hb47
        have N0 := Ha n0
        clear hcellA hownA hsA hb63 hb47 n0 n3; clear hkw; go_wp2_with fail
        refine wp_region_noPanic ?_
        go_region_law (first | (refine step_append_lies _ (by rfl) _ _ _ (by rfl) w.heap.size 44 i0 (.int .u64 0) 1 8 Tryz.underlying157 hi0 hz0 hz1 hz2 rfl (by omega) v acc.length (ints .u64 acc) (by rfl) ((HoA.out w1 hgb).alloc _) ⟨w1.heap.size, 0, none⟩ 1 1 [.int .u64 (numOf (t.extract 0 x.toNat))] (by rfl) (by rfl) (World.news_of_block (cs := #[.int .u64 (numOf (t.extract 0 x.toNat))]) (t := 44) (fr := (0, 0)) (heap_alloc_new w1 _)) (by simp [Value.oneCell']) (by omega) H63.out H47.out (by have := HsA.out w1 hgb; simp; omega) (w1.heap.size + 1) (by simp) ?_; intro gg cap w2 hown2 hgrow hat hlt2; have q0 := ((HcA.out w1 hgb).alloc _).grown hgrow (Ne.symm N0.out); have c2 := q0.cell1; have f2 := q0.frozen 0) | (go_simp; go_at_call 161; refine (integer_ok _ t _ _ (Whole.drew G3) hw0 hle (by omega) hw8).mono ?_; rintro e w1 ⟨rfl, hgb, G3'⟩; have c1 := (HcA.out w1 hgb).cell1; have c1a := fun o => ((HcA.out w1 hgb).alloc o).cell1))
        all_goals
          refine NoPanic.normal ?_
          have HX := Ha (split_step s ws w k wr w1 w2 acc t v x _ gg cap _ rfl HD.out hle HA.out ht hown G0 G1 G2 G3 GB hgb G3' hown2 hgrow)
          clear hat hlt2 q0 c2 f2 c1 c1a hown2 hgrow G3' hgb c0 f0 c3 hc; go_wp2_with fail
          go_roundw
          case rel => exact ⟨k + 1, by omega, by go_num, HX.out⟩
          case measure => simp [intOf]; omega
    · obtain rfl : k = n := by omega
      have hnil : ws.drop k = [] := List.drop_of_length_le (by have := HL.out; omega)
      have HR : Hid (splitR s ws = (acc, t, 0)) := Ha (splitR_some HW.out (by rw [hnil] at hd; exact hd.ends))
      obtain ⟨A', c', rfl, hsee⟩ := Sees.own hown
      have n0 := Ha (own_apart hown G0 (by decide))
      have n1 := Ha (own_apart hown G1 (by decide))
      have n2 := Ha (own_apart hown G2 (by decide))
      have c0 := G0.cell1
      have c1 := G1.cell1
      have c2 := G2.cell1
      have c3 := G3.cell1
      have f0 := G0.frozen 0
      have f1 := G1.frozen 0
      have f2 := G2.frozen 0
      clear hnil hd hacc; go_wp2_with fail
      go_region
      go_wp2_with fail
      refine leaves_cons (f := 160) (args := #[.pointer (some ⟨w.heap.size, 0, none⟩), .pointer (some ⟨w.heap.size + 1, 0, none⟩), .pointer (some ⟨w.heap.size + 1 + 1, 0, none⟩)]) (by simp) (by simp [go_sem]) ?_
      refine (splitLater_idle w.heap.size _).mono ?_
      rintro e u' w2 ⟨rfl, hset, rfl⟩
      change Leaves _ _ _ _ [] (settle u') _
      rw [hset]
      refine ⟨.tuple #[.slice A' acc.length c', .string t, .int .i64 0], by simp [results, Tryz.results110, go_sem, c0, c1, c2], ?_⟩
      have hB2 := (((GB.setCell (p := ⟨w.heap.size, 0, none⟩) (Nat.le_refl _) (.slice A' acc.length c')).setCell (p := ⟨w.heap.size + 1, 0, none⟩) (by simp) (.string t)).setCell (p := ⟨w.heap.size + 1 + 1, 0, none⟩) (by simp; omega) (.int .i64 0)).drew
      refine ⟨A', c', by rw [HR.out], ?_, hB2⟩
      rw [HR.out]
      have o0 := ownsRow_setCell_other hown (a := ⟨w.heap.size, 0, none⟩) n0.out (.slice A' acc.length c')
      have o1 := ownsRow_setCell_other o0 (a := ⟨w.heap.size + 1, 0, none⟩) n1.out (.string t)
      have o2 := ownsRow_setCell_other o1 (a := ⟨w.heap.size + 1 + 1, 0, none⟩) n2.out (.int .i64 0)
      obtain ⟨A2, c2, e2, hs2⟩ := Sees.own o2
      injection e2 with e3 e4 e5
      subst e3; exact hs2
theorem Split_any (s : ByteArray) (A : Option Addr) (n c B : Nat) (ws : List Int) (w : World) (h : Sees w B A n (ints .i64 ws)) (hn : n <= 1073741824) (hB : B <= w.heap.size) (hs : s.size <= 1073741824) :
    Calls Tryz.prog 110 #[.string s, .slice A n c] w (SplitLeaves s ws w) := by
  cases hw : ws.all wB
  · exact Split_bad s A n c B ws w h hn hB hw
  · exact Split_good s A n c B ws w h hn hB hs hw
end Go.Proofs.YtmpginmdaeclaaaGreatDoor
namespace Go.Proofs.YtmpginmdaeclaaaGreatDoor
open Go.RowKit
theorem ext_head (s : ByteArray) (a k : Nat) (h : a + k <= s.size) : (s.extract a s.size).extract 0 k = s.extract a (a + k) := by
  apply ByteArray.ext
  simp only [ByteArray.data_extract, Array.extract_extract]
  rw [Nat.add_zero, Nat.min_eq_left h]
theorem ext_tail (s : ByteArray) (a k : Nat) (h : a <= s.size) : (s.extract a s.size).extract k (s.size - a) = s.extract (a + k) s.size := by
  apply ByteArray.ext
  simp only [ByteArray.data_extract, Array.extract_extract]
  rw [Nat.add_sub_cancel' h, Nat.min_self]
theorem RefCut_any (s : ByteArray) (n : Int) (w : World) (hs : s.size <= 1073741824) :
    Calls Tryz.prog 115 #[.string s, .int .i64 n] w fun e w' =>
      e = .returned (.tuple #[.string (cutR s n).1, .string (cutR s n).2.1, .int .i64 (cutR s n).2.2]) /\ ∃ m, w' = w.drewN m := by
  cases hp : pB n
  · have hr : cutR s n = (empty, empty, 1) := by simp [cutR, hp]
    rw [hr]
    clear hr
    cases hw : wB n
    · go_enter Tryz.func115, Tryz.ntmps115
      go_wp2_with (go_at_call 167; refine (Width_any _ _).mono ?_; rintro e w' ⟨rfl, rfl⟩); go_ret3
      exact ⟨rfl, 0, rfl⟩
    · obtain rfl : n = 8 := by simp [pB] at hp; simp [wB] at hw; omega
      go_enter Tryz.func115, Tryz.ntmps115
      go_wp2_with (go_at_call 167; refine (Width_any _ _).mono ?_; rintro e w' ⟨rfl, rfl⟩); go_ret3
      exact ⟨rfl, 0, rfl⟩
  have hw : wB n = true := by rcases pB_cases hp with rfl | rfl | rfl <;> rfl
  have h8 : (n == 8) = false := by rcases pB_cases hp with rfl | rfl | rfl <;> rfl
  obtain ⟨hn1, hn2⟩ : 0 < n /\ n <= 8 := by have := pB_cases hp; omega
  by_cases h1 : (s.size : Int) < n
  · have hr : cutR s n = (empty, empty, 2) := by simp [cutR, hp, h1]
    rw [hr]
    clear hr; go_enter Tryz.func115, Tryz.ntmps115
    go_wp2_with (go_at_call 167; refine (Width_any _ _).mono ?_; rintro e w' ⟨rfl, rfl⟩); go_ret3
    exact ⟨rfl, 0, rfl⟩
  obtain ⟨a, rfl⟩ := Int.eq_ofNat_of_zero_le (show 0 <= n by omega)
  have ha : a <= s.size := by omega
  have ha8 : a <= 8 := by omega
  by_cases h2 : s.size - a < numOf (s.extract 0 a)
  · have hr : cutR s a = (empty, empty, 2) := by simp [cutR, hp, h2]
    rw [hr]
    clear hr; go_enter Tryz.func115, Tryz.ntmps115
    go_wp2_with (first
      | (go_at_call 167; refine (Width_any _ _).mono ?_; rintro e w' ⟨rfl, rfl⟩)
      | (go_at_call 117; refine (Number_any _ _ (by simp; omega)).mono ?_; rintro e w' ⟨rfl, rfl⟩))
    go_ret3
    exact ⟨rfl, 0, rfl⟩
  have hk : a + numOf (s.extract 0 a) <= s.size := by omega
  have hr : cutR s a = (s.extract a (a + numOf (s.extract 0 a)), s.extract (a + numOf (s.extract 0 a)) s.size, 0) := by
    have e1 : ¬ ((s.size : Int) < a \/ s.size - a < numOf (s.extract 0 a)) := by omega
    simp only [cutR, hp, if_true, Int.toNat_natCast]
    rw [if_neg e1]
    rw [ext_head s a _ hk, ext_tail s a _ ha]
  rw [hr]
  clear hr
  obtain ⟨k, hkk⟩ : ∃ k, k = numOf (s.extract 0 a) := ⟨_, rfl⟩
  have HK := Ha hkk
  rw [<-hkk] at hk h2 ⊢
  clear hkk
  have hki : (k : Int) <= 1073741824 := by omega
  have haki : (a : Int) + (k : Int) <= (s.size : Int) := by omega
  go_enter Tryz.func115, Tryz.ntmps115
  go_wp2_with (first
    | (go_at_call 167; refine (Width_any _ _).mono ?_; rintro e w' ⟨rfl, rfl⟩)
    | (go_at_call 117; refine (Number_any _ _ (by simp; omega)).mono ?_; rw [<-HK.out]; rintro e w' ⟨rfl, rfl⟩))
  go_quiet (fail)
  go_wp2_with fail
  go_ret3
  exact ⟨rfl, _, rfl⟩
def PiecesLeaves (s : ByteArray) (n : Int) (w : World) (e : Ending) (w' : World) : Prop :=
  ∃ A c, e = .returned (.tuple #[.slice A (piecesR s n).1.length c, .int .i64 (piecesR s n).2]) /\ Sees w' w'.heap.size A (piecesR s n).1.length (texts (piecesR s n).1) /\ Below w.heap.size w w'
theorem text_infoG : (Tryz.prog.info? 9).map (fun i => (i.zero, i.size, i.bytes)) = some (some (.string ⟨#[]⟩), 1, 16) := by kernel_rfl
def sizeOfText : Value -> Nat | .string s => s.size | _ => 0
def CutsAt (s : ByteArray) (n : Int) (w : World) (t : ByteArray) (v : Value) (wr : World) : Prop :=
  ∃ acc, Cuts s n acc t /\ acc.length + t.size <= s.size /\ wr.ownsRow w.heap.size 9 1 v acc.length (texts acc) /\ Below w.heap.size w wr
theorem Pieces_any (s : ByteArray) (n : Int) (w : World) (hs : s.size <= 1073741824) :
    Calls Tryz.prog 165 #[.string s, .int .i64 n] w (PiecesLeaves s n w) := by
  cases hp : pB n
  · have HR : Hid (piecesR s n = ([], 1)) := Ha (by simp [piecesR, hp])
    go_enter Tryz.func165, Tryz.ntmps165
    go_wp2_with (go_at_call 162; refine (isPieceWidth_any _ _).mono ?_; rintro e w' ⟨rfl, rfl⟩); go_ret2
    exact ⟨none, 0, by rw [HR.out]; rfl, by rw [HR.out]; exact Sees.nil _ _ _, Below.refl _ _⟩
  go_enter Tryz.func165, Tryz.ntmps165
  go_wp2_with (go_at_call 162; refine (isPieceWidth_any _ _).mono ?_; rintro e w' ⟨rfl, rfl⟩)
  have HP := Ha hp
  clear hp
  go_loopw [0, 6] (fun b v wr => ∃ t, b = .string t /\ CutsAt s n w t v wr) (fun b _ _ => sizeOfText b)
  case atStart => exact ⟨s, rfl, [], Cuts.start s n, by simp, World.ownsRow_nil _ _ _ _, Below.refl _ _⟩
  case round =>
    obtain ⟨t, rfl, acc, hd, hsz, hown, GB⟩ := hrel
    by_cases h0 : t.size = 0
    · have ht : t = ⟨#[]⟩ := ByteArray.ext (Array.eq_empty_of_size_eq_zero h0)
      subst ht; have HR : Hid (piecesR s n = (acc, 0)) := Ha (piecesR_some HP.out (hd.ends rfl))
      obtain ⟨A', c', rfl, hsee⟩ := Sees.own hown
      clear hd h0 hsz; go_wp2_with fail
      go_ret2
      exact ⟨A', c', by rw [HR.out]; rfl, by rw [HR.out]; exact hsee, GB⟩
    · have hne := not_empty h0
      have hpos : 0 < t.size := by omega
      rcases cutR_code t n HP.out with hcode | ⟨hcode, hless⟩
      · have HR : Hid (piecesR s n = ([], 2)) := Ha (piecesR_none HP.out (hd.fails h0 hcode))
        clear hd h0; go_wp2_with (go_at_call 112; refine (Cut_any t n _ (by omega)).mono ?_; rintro e w1 ⟨rfl, hB1⟩)
        go_ret2
        exact ⟨none, 0, by rw [HR.out]; rfl, by rw [HR.out]; exact Sees.nil _ _ _, GB.trans (hB1.mono GB.size)⟩
      · have HD := Ha (hd.step h0 hcode hless)
        obtain ⟨p, r, hC⟩ : ∃ p r, cutR t n = (p, r, 0) := ⟨(cutR t n).1, (cutR t n).2.1, by rw [<-hcode]⟩
        rw [hC] at HD hless
        have HC := Ha hC
        have hr : r.size + 1 <= t.size := hless
        have HD' : Hid (Cuts s n (acc ++ [p]) r) := HD
        obtain ⟨i0, hi0, hz0, hz1, hz2⟩ := info_parts text_infoG
        have H63 : Hid (acc.length + 1 <= maxLen) := Ha (by unfold maxLen; omega)
        have H47 : Hid ((acc.length + 1) * 16 <= 140737488355328) := Ha (by omega)
        have HO := Ha hown
        clear hd h0 hown hcode hC HD hless; go_wp2_with (first
          | (go_at_call 112; refine (Cut_any t n _ (by omega)).mono ?_; rw [HC.out]; rintro e w1 ⟨rfl, hB1⟩)
          | (at_builtin; refine wpList_append_own _ rfl _ _ 68 rfl w.heap.size 9 i0 (.string ⟨#[]⟩) 1 16 Tryz.underlying68 hi0 hz0 hz1 hz2 rfl (by decide) _ _ _ rfl ((own_below HO.out hB1).alloc _) ⟨w1.heap.size, 0, none⟩ 1 1 [.string p] rfl rfl (news1 _ _ _) (one1 _ rfl) H63.out H47.out (by have := GB.size; have := hB1.size; simp; omega) ?_; intro v2 w2 hown2 hgrow _))
        have hown3 : w2.ownsRow w.heap.size 9 1 v2 (acc ++ [p]).length (texts (acc ++ [p])) := by simpa [texts] using hown2
        have HO3 := Ha hown3
        have HB2 := Ha (((GB.trans (hB1.mono GB.size)).alloc (Nat.le_trans GB.size hB1.size) _).grown hgrow (by have := GB.size; have := hB1.size; simp; omega) (fun j hj => (HO.out.lt j hj).1))
        clear hown2 hown3 hgrow hB1; go_roundw
        case rel => exact ⟨r, rfl, _, HD'.out, by simp; omega, HO3.out, HB2.out⟩
        case measure => simp [sizeOfText]; omega
theorem RefPieces_any (s : ByteArray) (n : Int) (w : World) (hs : s.size <= 1073741824) :
    Calls Tryz.prog 168 #[.string s, .int .i64 n] w (PiecesLeaves s n w) := by
  cases hp : pB n
  · have HR : Hid (piecesR s n = ([], 1)) := Ha (by simp [piecesR, hp])
    cases hw : wB n
    · go_enter Tryz.func168, Tryz.ntmps168
      go_wp2_with (go_at_call 167; refine (Width_any _ _).mono ?_; rintro e w' ⟨rfl, rfl⟩); go_ret2
      exact ⟨none, 0, by rw [HR.out]; rfl, by rw [HR.out]; exact Sees.nil _ _ _, Below.refl _ _⟩
    · obtain rfl : n = 8 := by simp [pB] at hp; simp [wB] at hw; omega
      go_enter Tryz.func168, Tryz.ntmps168
      go_wp2_with (go_at_call 167; refine (Width_any _ _).mono ?_; rintro e w' ⟨rfl, rfl⟩); go_ret2
      exact ⟨none, 0, by rw [HR.out]; rfl, by rw [HR.out]; exact Sees.nil _ _ _, Below.refl _ _⟩
  have hw : wB n = true := by rcases pB_cases hp with rfl | rfl | rfl <;> rfl
  have h8 : (n == 8) = false := by rcases pB_cases hp with rfl | rfl | rfl <;> rfl
  go_enter Tryz.func168, Tryz.ntmps168
  go_wp2_with (go_at_call 167; refine (Width_any _ _).mono ?_; rintro e w' ⟨rfl, rfl⟩)
  have HP := Ha hp
  clear hp
  go_loopw [0, 6] (fun b v wr => ∃ t, b = .string t /\ CutsAt s n w t v wr) (fun b _ _ => sizeOfText b)
  case atStart => exact ⟨s, rfl, [], Cuts.start s n, by simp, World.ownsRow_nil _ _ _ _, Below.refl _ _⟩
  case round =>
    obtain ⟨t, rfl, acc, hd, hsz, hown, GB⟩ := hrel
    by_cases h0 : t.size = 0
    · have ht : t = ⟨#[]⟩ := ByteArray.ext (Array.eq_empty_of_size_eq_zero h0)
      subst ht; have HR : Hid (piecesR s n = (acc, 0)) := Ha (piecesR_some HP.out (hd.ends rfl))
      obtain ⟨A', c', rfl, hsee⟩ := Sees.own hown
      clear hd h0 hsz; go_wp2_with fail
      go_ret2
      exact ⟨A', c', by rw [HR.out]; rfl, by rw [HR.out]; exact hsee, GB⟩
    · have hne := not_empty h0
      have hpos : 0 < t.size := by omega
      rcases cutR_code t n HP.out with hcode | ⟨hcode, hless⟩
      · have HR : Hid (piecesR s n = ([], 2)) := Ha (piecesR_none HP.out (hd.fails h0 hcode))
        clear hd h0; go_wp2_with (go_at_call 115; refine (RefCut_any t n _ (by omega)).mono ?_; rintro e w1 ⟨rfl, m1, rfl⟩)
        go_ret2
        exact ⟨none, 0, by rw [HR.out]; rfl, by rw [HR.out]; exact Sees.nil _ _ _, below_drewN GB m1⟩
      · have HD := Ha (hd.step h0 hcode hless)
        obtain ⟨p, r, hC⟩ : ∃ p r, cutR t n = (p, r, 0) := ⟨(cutR t n).1, (cutR t n).2.1, by rw [<-hcode]⟩
        rw [hC] at HD hless
        have HC := Ha hC
        have hr : r.size + 1 <= t.size := hless
        have HD' : Hid (Cuts s n (acc ++ [p]) r) := HD
        obtain ⟨i0, hi0, hz0, hz1, hz2⟩ := info_parts text_infoG
        have H63 : Hid (acc.length + 1 <= maxLen) := Ha (by unfold maxLen; omega)
        have H47 : Hid ((acc.length + 1) * 16 <= 140737488355328) := Ha (by omega)
        have HO := Ha hown
        clear hd h0 hown hcode hC HD hless; go_wp2_with (first
          | (go_at_call 115; refine (RefCut_any t n _ (by omega)).mono ?_; rw [HC.out]; rintro e w1 ⟨rfl, m1, rfl⟩; have hB1 := below_drewN (Below.refl wr.heap.size wr) m1)
          | (at_builtin; refine wpList_append_own _ rfl _ _ 68 rfl w.heap.size 9 i0 (.string ⟨#[]⟩) 1 16 Tryz.underlying68 hi0 hz0 hz1 hz2 rfl (by decide) _ _ _ rfl ((own_below HO.out hB1).alloc _) ⟨wr.heap.size, 0, none⟩ 1 1 [.string p] rfl rfl (news1 _ _ _) (one1 _ rfl) H63.out H47.out (by have := GB.size; simp; omega) ?_; intro v2 w2 hown2 hgrow _))
        have hown3 : w2.ownsRow w.heap.size 9 1 v2 (acc ++ [p]).length (texts (acc ++ [p])) := by simpa [texts] using hown2
        have HO3 := Ha hown3
        have HB2 := Ha (((GB.trans (hB1.mono GB.size)).alloc (Nat.le_trans GB.size hB1.size) _).grown hgrow (by have := GB.size; have := hB1.size; simp; omega) (fun j hj => (HO.out.lt j hj).1))
        clear hown2 hown3 hgrow hB1; go_roundw
        case rel => exact ⟨r, rfl, _, HD'.out, by simp; omega, HO3.out, HB2.out⟩
        case measure => simp [sizeOfText]; omega
end Go.Proofs.YtmpginmdaeclaaaGreatDoor
