/- DiskSafe walked. No statement of the seat is proved here. -/
import Derived.Test.YteeomlboifleoaaDsf
namespace Go.Proofs.Yteeomlboifleoaa
open Go.RowKit Go.Maps Go.Sort

theorem At.row {B d : Nat} {m : Mem} {S : St} {w w' : World} {r : Option Nat} (h : At B w d m S) (hg : w.grownBy w' r) (ht : ∀ g, r = some g → typ w.heap[g]? = 9) : At B w' d m S :=
  ⟨h.dB, h.nB, h.sB, h.ne, h.disk.keepT hg (fun x hx => by rw [ht x hx]; decide), map_keepT h.names hg (fun x hx => by rw [ht x hx]; decide), map_keepT h.safe hg (fun x hx => by rw [ht x hx]; decide),
    own_keepT h.pend hg (fun x hx => by rw [ht x hx]; decide), h.files.keep hg (fun x hx => by rw [ht x hx]; decide)⟩
theorem Live.row {B d k M : Nat} {S : St} {w w' : World} {r : Option Nat} (h : Live B w d k M S) (hg : w.grownBy w' r) (ht : ∀ g, r = some g → typ w.heap[g]? = 9) : Live B w' d k M S := by
  obtain ⟨⟨m, hm⟩, h2, h3, h4, h5⟩ := h
  exact ⟨⟨m, hm.row hg ht⟩, h2, h3, Nat.le_trans h4 hg.size, h5⟩
theorem live_List {B d k M : Nat} {w : World} {S : St} (h : Live B w d k M S) (hk : k ≤ 50000) (hd : S.down = false) :
    Calls Try.prog 17 #[dptr d] w fun e w' => ∃ v, e = .returned (.tuple #[v, .int .i64 0]) ∧ w'.ownsRow w.heap.size 9 1 v (S.names.map (·.1)).length ((S.names.map (·.1)).map Go.Proofs.encStr) ∧ Below w.heap.size w w' := by
  have := List_any h.disk h.fit hk
  unfold listL listE at this
  rw [if_neg (by simp [hd]), if_neg (by simp [hd])] at this
  exact this
theorem live_names {B d k M : Nat} {w : World} {S : St} (h : Live B w d k M S) (hz : Nz S) : ∀ x ∈ S.names.map (·.1), isN x = true ∧ ∃ i, findN S.names x = some i ∧ i < S.files.length := by
  intro x hx
  obtain ⟨p, hp, rfl⟩ := List.mem_map.1 hx
  obtain ⟨m, hm⟩ := h.disk
  have h1 := h.fit.idn p hp
  have h2 := Nz.names hz h.fit h.re p hp
  refine ⟨?_, p.2, find_mem (distinct_of hm.names) hp, h1.1⟩
  have h3 : 1 ≤ p.1.length := by
    cases hc : p.1 with
    | nil => exact absurd hc h2
    | cons a r => simp
  have h4 := h1.2
  unfold isN
  simp
  omega
/-- a row of names is seen -/
theorem row_at {w : World} {b0 : Nat} {A : Option Addr} {n c : Nat} {l : List Bys} (h : w.ownsRow b0 9 1 (.slice A n c) l.length (l.map Go.Proofs.encStr)) {j : Nat} (hj : j < l.length) :
    ∃ g, A = some ⟨g, 0, none⟩ ∧ ∃ x, l[j]? = some x ∧ w.cell? ⟨g, j, none⟩ = some (.string (strB x)) := by
  have h0 := h
  rcases h.2 with ⟨_, hz⟩ | ⟨g, cap, cur, hv, _⟩
  · omega
  · injection hv with e1 e2 e3
    subst e1
    refine ⟨g, rfl, l[j], List.getElem?_eq_getElem hj, ?_⟩
    have := h0.cells (g := g) rfl j (.string (strB l[j])) (by rw [List.getElem?_map, List.getElem?_eq_getElem hj]; rfl)
    rwa [add0] at this
theorem row_cell {w : World} {b0 g n c j : Nat} {l : List Bys} {x : Bys} (h : w.ownsRow b0 9 1 (.slice (some ⟨g, 0, none⟩) n c) l.length (l.map Go.Proofs.encStr)) (hx : l[j]? = some x) : w.cell? ⟨g, j, none⟩ = some (.string (strB x)) := by
  have := h.cells (g := g) rfl j (.string (strB x)) (by rw [List.getElem?_map, hx]; rfl)
  rwa [add0] at this
theorem text_info : (Try.prog.info? 9).map (fun i => (i.zero, i.size, i.bytes)) = some (some (.string ⟨#[]⟩), 1, 16) := by kernel_rfl
theorem row_len {w : World} {b0 : Nat} {A : Option Addr} {n c m : Nat} {xs : List Value} (h : w.ownsRow b0 9 1 (.slice A n c) m xs) : n = m := by
  rcases h.2 with ⟨hv, hz⟩ | ⟨g, cap, cur, hv, _⟩
  · injection hv with _ e _; omega
  · injection hv
/-- the loop that reads and syncs: what is read so far and what is still to come -/
def SynAt (w : World) (B d k M bh : Nat) (nv : Value) (keys : List Bys) (R : St × List Bys) (j : Nat) (v : Value) (wr : World) : Prop :=
  ∃ S hd hr, Live B wr d k M S ∧ (∀ x ∈ keys, isN x = true ∧ ∃ i, findN S.names x = some i) ∧ syn S (keys.drop j) = (R.1, hr) ∧ hd ++ hr = R.2 ∧ hd.length = j ∧ wr.ownsRow bh 9 1 v hd.length (hd.map Go.Proofs.encStr) ∧ wr.ownsRow 0 9 1 nv keys.length (keys.map Go.Proofs.encStr) ∧ Below w.heap.size w wr ∧ bh ≤ wr.heap.size
theorem syn_append {B d k M bh g8 n c j : Nat} {w w6 w7 : World} {S : St} {keys hd : List Bys} {v v2 : Value} {rd x : Bys} (hL : Live B w6 d k M S) (hO : w6.ownsRow bh 9 1 v hd.length (hd.map Go.Proofs.encStr))
    (hR : w6.ownsRow 0 9 1 (.slice (some ⟨g8, 0, none⟩) n c) keys.length (keys.map Go.Proofs.encStr)) (hx : keys[j]? = some x) (hg8 : g8 < bh) (hB : Below w.heap.size w w6) (hwb : w.heap.size ≤ bh) (hbh : bh ≤ w6.heap.size)
    (hown : w7.ownsRow bh 9 1 v2 (hd.length + 1) (hd.map Go.Proofs.encStr ++ [.string (strB rd)])) (hg : (w6.alloc (.cells #[.string (strB rd)] 9)).grownBy w7 v.ownBlock) :
    Live B w7 d k M S ∧ w7.ownsRow bh 9 1 v2 (hd ++ [rd]).length ((hd ++ [rd]).map Go.Proofs.encStr) ∧ w7.ownsRow 0 9 1 (.slice (some ⟨g8, 0, none⟩) n c) keys.length (keys.map Go.Proofs.encStr) ∧ w7.cell? ⟨g8, j, none⟩ = some (.string (strB x)) ∧ Below w.heap.size w w7 ∧ bh ≤ w7.heap.size := by
  have hO1 := hO.alloc (.cells #[.string (strB rd)] 9)
  have hR1 := (hR.alloc (.cells #[.string (strB rd)] 9)).kept hg (.inr (fun e => by
    have h1 := (hO1.lt g8 e.symm).1
    omega))
  have hB1 := hB.alloc hB.size (.cells #[.string (strB rd)] 9)
  refine ⟨(hL.same ((Below.refl _ _).alloc (Nat.le_refl _) (.cells #[.string (strB rd)] 9))).row hg (fun g hg => own_typ hO1 hg), ?_, hR1, row_cell hR1 hx, hB1.grown hg (Nat.le_trans hB.size (by simp)) (fun g hg => Nat.le_trans hwb (hO1.lt g hg).1), Nat.le_trans hbh (Nat.le_trans (by simp) hg.size)⟩
  rw [List.length_append, List.map_append]
  exact hown
theorem sync_names (S : St) (x : Bys) : (syncS S x).1.names = S.names := by
  unfold syncS
  split
  · exact count_names _
  · rfl
theorem safe_all {k M k' M' : Nat} {S T : St} {keys H : List Bys} (_F : Fit k M S) (hk : keys = S.names.map (·.1)) (hp : S.names.Pairwise fun p q => p.1 ≠ q.1) (hl : ∀ x ∈ keys, isN x = true ∧ ∃ i, findN S.names x = some i ∧ i < S.files.length)
    (hs : syn S keys = (T, H)) (FT : Fit k' M' T) (hr : Re T) (hd : (syncDirS T).1.down = false) (ch : Bys) :
    (restartS (syncDirS T).1 ch).names = S.names ∧ (restartS (syncDirS T).1 ch).down = false ∧ ∀ (j : Nat) (x : Bys), keys[j]? = some x → H[j]? = some (readS (restartS (syncDirS T).1 ch) x).1 := by
  have hd0 : T.down = false := by
    cases h : T.down
    · rfl
    · unfold syncDirS at hd
      rw [if_pos h, h] at hd
      cases hd
  obtain ⟨_, h2, h3, h4⟩ := syn_spec keys hl (by rw [hs]; exact hd0)
  rw [hs] at h2 h3 h4
  simp only at h2 h3 h4
  have hfull : ∀ p ∈ T.names, (fileAt T p.2).2 = (fileAt T p.2).1.length := by
    intro p hp'
    rw [h2.names] at hp'
    exact h3 p.1 (by rw [hk]; exact List.mem_map.2 ⟨p, hp', rfl⟩) p.2 (find_mem hp hp')
  obtain ⟨z1, z2, z3⟩ := safe_restart FT hr hfull hd ch
  refine ⟨z1.trans h2.names, z2, fun j x hx => ?_⟩
  obtain ⟨hn, i, hf, _⟩ := hl x (List.mem_of_getElem? hx)
  rw [read_there z2 hn (by rw [z1, h2.names]; exact hf), h4, List.getElem?_map, hx, Option.map_some, hf]
  congr 1
  have e : fileAt (restartS (syncDirS T).1 ch) i = fileAt T i := by unfold fileAt; rw [z3]
  show (fileAt S i).1 = (fileAt (restartS (syncDirS T).1 ch) i).1
  rw [e, h2.cont]
set_option maxRecDepth 20000 in
set_option maxHeartbeats 4000000 in
theorem DiskSafe_walk (A : Option Addr) (n c : Nat) (cs : List CallV) (ch : ByteArray) (w : World) (hl : SeesC w w.heap.size A n cs) :
    Calls Try.prog 4 #[.slice A n c, .string ch] w fun e w' => e = .returned (.bool true) ∧ Below w.heap.size w w' := by
  have hlen := hl.1
  by_cases hgo : fewB cs = true ∧ (ch.size : Int) ≤ 100
  rotate_left
  · have HL := Lib.hid hl
    clear hl
    go_enter Try.func4, Try.ntmps4
    go_wp2_with fail
    refine (awake_any w).mono ?_
    rintro e w1 ⟨rfl, hB1⟩
    have hl1 : SeesC w1 w1.heap.size A n cs := by
      obtain ⟨h1, h2, h3⟩ := HL.out
      refine ⟨h1, h2, fun hn => ?_⟩
      obtain ⟨b, off, e, hb, hc⟩ := h3 hn
      refine ⟨b, off, e, Nat.lt_of_lt_of_le hb hB1.size, fun j z hz => ?_⟩
      obtain ⟨x0, x1, x2, x3⟩ := hc j z hz
      exact ⟨(hB1.cell hb).trans x0, (hB1.cell hb).trans x1, (hB1.cell hb).trans x2, (hB1.cell hb).trans x3⟩
    have HB1 := Lib.hid hB1
    have hfw := few_any A n c cs w1 hl1
    clear hB1 hl1
    cases hfe : fewB cs
    · rw [hfe] at hfw
      clear hgo hfe
      go_wp2_with fail
      refine hfw.mono ?_
      rintro e w2 ⟨rfl, rfl⟩
      clear hfw
      go_wp2_with fail
      refine (awake_any w1).mono ?_
      rintro e w2 ⟨rfl, hB2⟩
      have HB2 := Lib.hid (HB1.out.trans (hB2.mono HB1.out.size))
      clear hB2
      go_wp2
      go_ret
      exact ⟨rfl, HB2.out⟩
    · rw [hfe] at hfw
      have hbig : (100 : Int) < (ch.size : Int) := by
        have : ¬ (ch.size : Int) ≤ 100 := fun h => hgo ⟨hfe, h⟩
        omega
      clear hgo hfe
      go_wp2_with fail
      refine hfw.mono ?_
      rintro e w2 ⟨rfl, rfl⟩
      clear hfw
      go_wp2_with fail
      refine (awake_any w1).mono ?_
      rintro e w2 ⟨rfl, hB2⟩
      have HB2 := Lib.hid (HB1.out.trans (hB2.mono HB1.out.size))
      clear hB2
      go_wp2
      go_ret
      exact ⟨rfl, HB2.out⟩
  · obtain ⟨hfe, hch⟩ := hgo
    have hF2 : cs.length ≤ 60 ∧ ∀ z ∈ cs, z.a.size ≤ 70 ∧ z.b.size ≤ 300 := by
      unfold fewB at hfe
      simp only [Bool.and_eq_true, decide_eq_true_eq, List.all_eq_true, okC] at hfe
      exact hfe
    have hn60 : (n : Int) ≤ 60 := by have := hF2.1; omega
    have HF2 := Lib.hid hF2
    have HL := Lib.hid hl
    clear hl hF2
    go_enter Try.func4, Try.ntmps4
    go_wp2_with fail
    refine (awake_any w).mono ?_
    rintro e w1 ⟨rfl, hB1⟩
    have hl1 : SeesC w1 w.heap.size A n cs := by
      obtain ⟨h1, h2, h3⟩ := HL.out
      refine ⟨h1, h2, fun hn => ?_⟩
      obtain ⟨b, off, e, hb, hc⟩ := h3 hn
      refine ⟨b, off, e, hb, fun j z hz => ?_⟩
      obtain ⟨x0, x1, x2, x3⟩ := hc j z hz
      exact ⟨(hB1.cell hb).trans x0, (hB1.cell hb).trans x1, (hB1.cell hb).trans x2, (hB1.cell hb).trans x3⟩
    have HB1 := Lib.hid hB1
    have hfw := few_any A n c cs w1 ⟨hl1.1, hl1.2.1, fun hn => by
      obtain ⟨b, off, e, hb, hc⟩ := hl1.2.2 hn
      exact ⟨b, off, e, Nat.lt_of_lt_of_le hb hB1.size, hc⟩⟩
    rw [hfe] at hfw
    clear hB1 hl1 hfe
    go_wp2_with fail
    refine hfw.mono ?_
    rintro e w2 ⟨rfl, rfl⟩
    clear hfw
    go_wp2_with fail
    refine (live_New 5000 w1 (by decide)).mono ?_
    rintro e w2 ⟨d, rfl, hL2, hB2⟩
    have HL2 := Lib.hid hL2
    have HB2 := Lib.hid (HB1.out.trans (hB2.mono HB1.out.size))
    have HBB := Lib.hid HB1.out.size
    clear hL2 hB2
    go_wp2_with fail
    go_loopw [7] (fun i wr => ∃ k : Nat, k ≤ n ∧ i = .int .i64 k ∧ ∃ S, Live w1.heap.size wr d (2 * k) (300 * k) S ∧ Nz S ∧ Below w.heap.size w wr) (fun i _ => n - (intOf i).toNat)
    case atStart => exact ⟨0, Nat.zero_le _, rfl, _, HL2.out, Nz.new _, HB2.out⟩
    case round =>
      obtain ⟨k, hk, rfl, S, hLv, hnz, hB⟩ := hrel
      have HLv := Lib.hid hLv
      have HNz := Lib.hid hnz
      have HBw := Lib.hid hB
      clear hLv hnz hB
      by_cases hlt : k < n
      · obtain ⟨b, off, z, rfl, hb, hz, hfit, x0, x1, x2, x3⟩ := HL.out.at hlt
        have hz2 := HF2.out.2 z (List.mem_of_getElem? hz)
        have y0 : wr.cell? ⟨b, off + k * 4, none⟩ = some (.int .u8 (z.kind : Nat)) := (HBw.out.cell hb).trans x0
        have y1 : wr.cell? ⟨b, off + k * 4 + 1, none⟩ = some (.string z.a) := (HBw.out.cell hb).trans x1
        have y2 : wr.cell? ⟨b, off + k * 4 + 2, none⟩ = some (.string z.b) := (HBw.out.cell hb).trans x2
        have y3 : wr.cell? ⟨b, off + k * 4 + 3, none⟩ = some (.int .i64 z.n) := (HBw.out.cell hb).trans x3
        have hlk : (k : Int) < (n : Int) := by omega
        have hdo := do_any HLv.out (by omega) (by omega) z hfit hz2.1 hz2.2
        unfold CallV.val at hdo
        have HDo := Lib.hid hdo
        clear x0 x1 x2 x3 hz hfit hz2 hdo
        go_wp2_with fail
        refine Calls.mono HDo.out ?_
        rintro e w3 ⟨rfl, hL3, hK3⟩
        have HL3 := Lib.hid hL3
        have HB3 := Lib.hid (HBw.out.trans ((hK3.below HLv.out.base).mono HBB.out))
        clear hL3 hK3 y0 y1 y2 y3
        go_wp2_with fail
        go_roundw
        case rel => exact ⟨k + 1, by omega, by go_num, _, HL3.out.mono (by omega) (by omega), HNz.out.doS HLv.out.fit z, HB3.out⟩
        case measure => simp [intOf]; omega
      · obtain rfl : k = n := by omega
        have hdn := Lib.hid (live_Down HLv.out)
        have hLm := HLv.out.mono (k' := 200) (M' := 20000) (by omega) (by omega)
        have hrs := live_Restart HLv.out (by omega) (by omega) ⟨#[]⟩
        have HRs := Lib.hid hrs
        have HLm := Lib.hid hLm
        clear hLm hrs
        rcases (by cases S.down <;> simp : S.down = true ∨ S.down = false) with hd | hd
        case' inl =>
          rw [hd] at hdn
          clear hd
          go_wp2_with fail
          refine (show Calls _ _ _ _ _ from hdn.out).mono ?_
          rintro e w3 ⟨rfl, rfl⟩
          go_wp2_with fail
          refine (show Calls _ _ _ _ _ from HRs.out).mono ?_
          rintro e w4 ⟨rfl, hL4, hK4⟩
          obtain ⟨Sx, hSx⟩ : ∃ Sx, Sx = restartS S (⟨#[]⟩ : ByteArray).data.toList := ⟨_, rfl⟩
          have HNx : Hid (Nz Sx) := Lib.hid (by rw [hSx]; exact HNz.out.restart HLv.out.fit _)
          have HDx : Hid (Sx.down = false) := Lib.hid (by rw [hSx]; rfl)
          rw [← hSx] at hL4
          have HLx := Lib.hid (hL4.mono (k' := 200) (M' := 20000) (by omega) (by omega))
          have HBx := Lib.hid (HBw.out.trans ((hK4.below HLv.out.base).mono HBB.out))
          clear hL4 hK4 hSx hdn HRs HLm
        case' inr =>
          have HDx := Lib.hid hd
          rw [hd] at hdn
          clear hd
          go_wp2_with fail
          refine (show Calls _ _ _ _ _ from hdn.out).mono ?_
          rintro e w3 ⟨rfl, rfl⟩
          obtain ⟨Sx, hSx⟩ : ∃ Sx, Sx = S := ⟨_, rfl⟩
          subst hSx
          have HLx := HLm
          have HNx := HNz
          have HBx := HBw
          clear hdn HRs
        all_goals
          go_wp2_with fail
          refine (live_List HLx.out (by omega) HDx.out).mono ?_
          rintro e w5 ⟨v, rfl, hrow, hB5⟩
          obtain ⟨A8, c8, rfl, _⟩ := Sees.own hrow
          obtain ⟨keys, hkeys⟩ : ∃ keys, keys = Sx.names.map (·.1) := ⟨_, rfl⟩
          rw [← hkeys] at hrow ⊢
          have hkl : (keys.length : Int) ≤ 200 := by rw [hkeys]; have := HLx.out.fit.nn; simp; omega
          have HL5 := Lib.hid (HLx.out.same hB5)
          have HB5 := Lib.hid (HBx.out.trans (hB5.mono HBx.out.size))
          have HG8 : Hid (∀ g, (Value.slice A8 keys.length c8).ownBlock = some g → g < w5.heap.size) := Lib.hid fun g hg => (hrow.lt g hg).2
          have HR5 := Lib.hid (own_base hrow (Nat.zero_le _))
          have HKn : Hid (∀ x ∈ keys, isN x = true ∧ ∃ i, findN Sx.names x = some i ∧ i < Sx.files.length) := Lib.hid (by rw [hkeys]; exact live_names HLx.out HNx.out)
          obtain ⟨R, hR⟩ : ∃ R, R = syn Sx keys := ⟨_, rfl⟩
          have HKy := Lib.hid hkeys
          have HRR := Lib.hid hR
          clear hrow hB5 hkeys hR
          go_wp2_with fail
          go_loopw [10, 11] (fun u i wr => ∃ j : Nat, j ≤ keys.length ∧ i = .int .i64 j ∧ SynAt w w1.heap.size d 200 20000 w5.heap.size (.slice A8 keys.length c8) keys R j u wr) (fun _ i _ => keys.length - (intOf i).toNat)
          case atStart => exact ⟨0, Nat.zero_le _, rfl, Sx, [], R.2, HL5.out, fun x hx => ⟨(HKn.out x hx).1, (HKn.out x hx).2.imp fun i hi => hi.1⟩, by rw [List.drop_zero, ← HRR.out], rfl, rfl, World.ownsRow_nil _ _ _ _, HR5.out, HB5.out, Nat.le_refl _⟩
          case round =>
            obtain ⟨j, hj, rfl, Sj, hd, hr, hLv, hkn, hsy, hcat, hlenj, hown, hrow, hB, hbh⟩ := hrel
            have HLj := Lib.hid hLv
            have HKj := Lib.hid hkn
            have HBj := Lib.hid hB
            have HBh := Lib.hid hbh
            by_cases hlt : j < keys.length
            · obtain ⟨g8, hA8, x, hx, hcx⟩ := row_at hrow hlt
              subst hA8
              have hdrop : keys.drop j = x :: keys.drop (j + 1) := by rw [List.drop_eq_getElem_cons hlt]; congr 1; rw [List.getElem?_eq_getElem hlt] at hx; exact Option.some.inj hx
              rw [hdrop] at hsy
              have hsy' : ((syn (syncS Sj x).1 (keys.drop (j + 1))).1, (readS Sj x).1 :: (syn (syncS Sj x).1 (keys.drop (j + 1))).2) = (R.1, hr) := hsy
              injection hsy' with q1 q2
              have Q1 := Lib.hid q1
              have Q2 := Lib.hid q2
              have Q3 := Lib.hid hcat
              have Q4 := Lib.hid hlenj
              have hxk := HKj.out x (List.mem_of_getElem? hx)
              have HXk := Lib.hid hxk
              have HX := Lib.hid hx
              have HG9 : Hid (g8 < w5.heap.size) := Lib.hid (HG8.out g8 rfl)
              have hrd : Calls Try.prog 18 #[dptr d, .string (strB x)] wr fun e w' => e = .returned (.tuple #[.string (strB (readS Sj x).1), .int .i64 (readS Sj x).2]) ∧ Below wr.heap.size wr w' := live_Read hLv (strB x)
              obtain ⟨rd, hrdd⟩ : ∃ rd, rd = (readS Sj x).1 := ⟨_, rfl⟩
              rw [← hrdd] at hrd
              have HRdd := Lib.hid hrdd
              have HRd := Lib.hid hrd
              have HOwn := Lib.hid hown
              have HRow := Lib.hid hrow
              have hlk : (j : Int) < (keys.length : Int) := by omega
              have hcx' : wr.cell? ⟨g8, j, none⟩ = some (.string (strB x)) := hcx
              obtain ⟨i0, hi0, hz0, hz1, hz2⟩ := info_parts text_info
              have H63 : Hid (hd.length + 1 ≤ maxLen) := Lib.hid (by unfold maxLen; omega)
              have H47 : Hid ((hd.length + 1) * 16 ≤ 140737488355328) := Lib.hid (by omega)
              clear hLv hkn hcat hlenj hown hrow hB hbh q1 q2 hxk hrd hrdd hcx hdrop hx
              go_wp2_with fail
              refine Calls.mono HRd.out ?_
              rintro e w6 ⟨rfl, hB6⟩
              have HL6 := Lib.hid (HLj.out.same hB6)
              have HO6 := Lib.hid (own_below HOwn.out hB6)
              have HR6 := Lib.hid (own_below HRow.out hB6)
              have HB6 := Lib.hid (HBj.out.trans (hB6.mono HBj.out.size))
              have HBh6 := Lib.hid (Nat.le_trans HBh.out hB6.size)
              clear hB6 hcx'
              go_wp2_with (at_builtin; refine wpList_append_own _ rfl _ _ 44 rfl w5.heap.size 9 i0 (.string ⟨#[]⟩) 1 16 Try.underlying44 hi0 hz0 hz1 hz2 rfl (by decide) _ _ _ rfl (HO6.out.alloc _) ⟨w6.heap.size, 0, none⟩ 1 1 [.string (strB rd)] rfl rfl (news1 _ _ _) (one1 _ rfl) H63.out H47.out (Nat.le_trans HBh6.out (by simp)) ?_; intro v2 w7 hown7 hgrow7 _; obtain ⟨l7, o7, r7, hc7, b7, bh7⟩ := syn_append HL6.out HO6.out HR6.out HX.out HG9.out HB6.out HB5.out.size HBh6.out hown7 hgrow7; have HL7 := Lib.hid l7; have HO7 := Lib.hid o7; have HR7 := Lib.hid r7; have HB7 := Lib.hid b7; have HBh7 := Lib.hid bh7; clear l7 o7 r7 b7 bh7 hown7 hgrow7)
              have hsn : Calls Try.prog 19 #[dptr d, .string (strB x)] w7 fun e w' => e = .returned (.int .i64 (syncS Sj x).2) ∧ Live w1.heap.size w' d 200 20000 (syncS Sj x).1 ∧ Kept w1.heap.size w7 w' := live_Sync HL7.out (strB x)
              have hrel : Hid (∀ w8 : World, Live w1.heap.size w8 d 200 20000 (syncS Sj x).1 → Kept w1.heap.size w7 w8 → SynAt w w1.heap.size d 200 20000 w5.heap.size (.slice (some ⟨g8, 0, none⟩) keys.length c8) keys R (j + 1) v2 w8) := Lib.hid (fun w8 hL8 hK8 => by
                refine ⟨_, hd ++ [rd], (syn (syncS Sj x).1 (keys.drop (j + 1))).2, hL8, fun y hy => ?_, ?_, ?_, ?_, hK8.own HO7.out (by decide), hK8.own HR7.out (by decide), HB7.out.trans ((hK8.below HL7.out.base).mono HBB.out), Nat.le_trans HBh7.out hK8.size⟩
                · rw [sync_names]; exact HKj.out y hy
                · rw [← Q1.out]
                · rw [← Q3.out, ← Q2.out, HRdd.out, List.append_assoc]; rfl
                · rw [List.length_append, Q4.out]; rfl)
              clear hc7
              rcases (by cases Sj.down <;> simp : Sj.down = true ∨ Sj.down = false) with hdj | hdj
              · have e5 : syncS Sj x = (Sj, 5) := sync_down hdj x
                have hdd : (syncS Sj x).1.down = true := by rw [e5]; exact hdj
                rw [show (syncS Sj x).2 = 5 by rw [e5]] at hsn
                have HSn := Lib.hid hsn
                have HDd := Lib.hid hdd
                clear hsn hdd e5 hdj
                refine Calls.mono HSn.out ?_
                rintro e w8 ⟨rfl, hL8, hK8⟩
                have hdw := live_Down hL8
                rw [HDd.out] at hdw
                have HS8 := Lib.hid (hrel.out w8 hL8 hK8)
                clear hL8 hK8
                go_wp2_with fail
                refine hdw.mono ?_
                rintro e w9 ⟨rfl, rfl⟩
                clear hdw
                go_wp2_with fail
                go_roundw
                case rel => exact ⟨j + 1, by omega, by go_num, HS8.out⟩
                case measure => simp [intOf]; omega
              · obtain ⟨hn, i, hf⟩ := HXk.out
                have e0 := sync_there hdj hn hf
                rw [show (syncS Sj x).2 = 0 by rw [e0]] at hsn
                have HSn := Lib.hid hsn
                clear hsn e0 hdj hn hf
                refine Calls.mono HSn.out ?_
                rintro e w8 ⟨rfl, hL8, hK8⟩
                have HS8 := Lib.hid (hrel.out w8 hL8 hK8)
                clear hL8 hK8
                go_wp2_with fail
                go_roundw
                case rel => exact ⟨j + 1, by omega, by go_num, HS8.out⟩
                case measure => simp [intOf]; omega
            · obtain rfl : j = keys.length := by omega
              have hz : syn Sj (keys.drop keys.length) = (Sj, []) := by rw [List.drop_length]; rfl
              rw [hz] at hsy
              injection hsy with q1 q2
              rw [← q2, List.append_nil] at hcat
              have HSy : Hid (syn Sx keys = (Sj, hd)) := Lib.hid (by rw [← HRR.out, q1, hcat])
              obtain ⟨A10, c10, rfl, _⟩ := Sees.own hown
              have HOwn := Lib.hid hown
              have HRow := Lib.hid hrow
              have HLe := Lib.hid hlenj
              clear hLv hkn hz hcat hlenj hown hrow hB hbh q1 q2
              go_wp2_with fail
              refine (live_SyncDir HLj.out (by omega)).mono ?_
              rintro e w6 ⟨rfl, hL6, hK6⟩
              have HL6 := Lib.hid hL6
              have HO6 := Lib.hid (hK6.own HOwn.out (by decide))
              have HR6 := Lib.hid (hK6.own HRow.out (by decide))
              have HB6 := Lib.hid (HBj.out.trans ((hK6.below HLj.out.base).mono HBB.out))
              have hdw := live_Down hL6
              clear hL6 hK6
              rcases (by cases (syncDirS Sj).1.down <;> simp : (syncDirS Sj).1.down = true ∨ (syncDirS Sj).1.down = false) with hdd | hdd
              · rw [hdd] at hdw
                clear hdd
                go_wp2_with fail
                refine hdw.mono ?_
                rintro e w7 ⟨rfl, rfl⟩
                clear hdw
                go_wp2
                go_ret
                exact ⟨rfl, HB6.out⟩
              · rw [hdd] at hdw
                have HZ := Lib.hid (safe_all HLx.out.fit HKy.out (by obtain ⟨m, hm⟩ := HLx.out.disk; exact distinct_of hm.names) HKn.out HSy.out HLj.out.fit HLj.out.re hdd ch.data.toList)
                clear hdd
                go_wp2_with fail
                refine hdw.mono ?_
                rintro e w7 ⟨rfl, rfl⟩
                clear hdw
                go_wp2_with fail
                refine (live_Restart HL6.out (by omega) (by omega) ch).mono ?_
                rintro e w7 ⟨rfl, hL7, hK7⟩
                obtain ⟨Z, hZ⟩ : ∃ Z, Z = restartS (syncDirS Sj).1 ch.data.toList := ⟨_, rfl⟩
                rw [← hZ] at hL7 HZ
                have HL7 := Lib.hid hL7
                have HO7 := Lib.hid (hK7.own HO6.out (by decide))
                have HR7 := Lib.hid (hK7.own HR6.out (by decide))
                have HB7 := Lib.hid (HB6.out.trans ((hK7.below HL6.out.base).mono HBB.out))
                clear hL7 hK7 hZ
                go_wp2_with fail
                have hli := live_List HL7.out (by omega) HZ.out.2.1
                rw [HZ.out.1, ← HKy.out] at hli
                refine hli.mono ?_
                rintro e w8 ⟨v8, rfl, hrow8, hB8⟩
                obtain ⟨A9, c9, rfl, _⟩ := Sees.own hrow8
                have HL8 := Lib.hid (HL7.out.same hB8)
                have HN8 := Lib.hid hrow8
                have HO8 := Lib.hid (own_below HO7.out hB8)
                have HR8 := Lib.hid (own_below HR7.out hB8)
                have HB8 := Lib.hid (HB7.out.trans (hB8.mono HB7.out.size))
                clear hrow8 hB8 hli
                go_wp2_with fail
                go_loopw [16] (fun i wr => ∃ j : Nat, j ≤ keys.length ∧ i = .int .i64 j ∧ Live w1.heap.size wr d 200 20000 Z ∧ wr.ownsRow w7.heap.size 9 1 (.slice A9 keys.length c9) keys.length (keys.map Go.Proofs.encStr) ∧ wr.ownsRow w5.heap.size 9 1 (.slice A10 hd.length c10) hd.length (hd.map Go.Proofs.encStr) ∧ wr.ownsRow 0 9 1 (.slice A8 keys.length c8) keys.length (keys.map Go.Proofs.encStr) ∧ Below w.heap.size w wr) (fun i _ => keys.length - (intOf i).toNat)
                case atStart => exact ⟨0, Nat.zero_le _, rfl, HL8.out, HN8.out, HO8.out, HR8.out, HB8.out⟩
                case round =>
                  obtain ⟨j, hj, rfl, hL, hN, hO, hR, hB⟩ := hrel
                  have HL := Lib.hid hL
                  have HN := Lib.hid hN
                  have HO := Lib.hid hO
                  have HR := Lib.hid hR
                  have HB := Lib.hid hB
                  by_cases hlt : j < keys.length
                  · obtain ⟨g1, e1, x, hx, cx⟩ := row_at hN hlt
                    obtain ⟨g2, e2, y, hy, cy⟩ := row_at hR hlt
                    obtain ⟨g3, e3, z, hz, cz⟩ := row_at (j := j) hO (by have := HLe.out; omega)
                    subst e1 e2 e3
                    have hyx : y = x := by rw [hx] at hy; exact (Option.some.inj hy).symm
                    have hzx : (readS Z x).1 = z := by have := HZ.out.2.2 j x hx; rw [hz] at this; exact (Option.some.inj this).symm
                    rw [hyx] at cy
                    have hrd : Calls Try.prog 18 #[dptr d, .string (strB x)] wr fun e w' => e = .returned (.tuple #[.string (strB (readS Z x).1), .int .i64 (readS Z x).2]) ∧ Below wr.heap.size wr w' := live_Read hL (strB x)
                    rw [hzx] at hrd
                    have HRd := Lib.hid hrd
                    have hlk : (j : Int) < (keys.length : Int) := by omega
                    have hlk2 : (j : Int) < (hd.length : Int) := by have := HLe.out; omega
                    clear hL hN hO hR hB hx hy hz hyx hzx hrd
                    go_wp2_with fail
                    refine Calls.mono HRd.out ?_
                    rintro e w9 ⟨rfl, hB9⟩
                    have cx' : w9.cell? ⟨g1, j, none⟩ = some (.string (strB x)) := (hB9.cell (p := ⟨g1, j, none⟩) (World.block_lt_of_cell? wr _ cx)).trans cx
                    have cy' : w9.cell? ⟨g2, j, none⟩ = some (.string (strB x)) := (hB9.cell (p := ⟨g2, j, none⟩) (World.block_lt_of_cell? wr _ cy)).trans cy
                    have cz' : w9.cell? ⟨g3, j, none⟩ = some (.string (strB z)) := (hB9.cell (p := ⟨g3, j, none⟩) (World.block_lt_of_cell? wr _ cz)).trans cz
                    have HB9 := Lib.hid hB9
                    clear hB9 cx cy cz
                    go_wp2_with fail
                    go_quiet (fail)
                    have hq : Hid (Below w9.heap.size w9 (w9.drewN nq)) := Lib.hid (below_drewN (Below.refl _ _) nq)
                    clear cx' cy' cz'
                    go_wp2_with fail
                    go_roundw
                    case rel => exact ⟨j + 1, by omega, by go_num, (HL.out.same HB9.out).same hq.out, own_below (own_below HN.out HB9.out) hq.out, own_below (own_below HO.out HB9.out) hq.out, own_below (own_below HR.out HB9.out) hq.out, below_drewN (HB.out.trans (HB9.out.mono HB.out.size)) nq⟩
                    case measure => simp [intOf]; omega
                  · obtain rfl : j = keys.length := by omega
                    clear hL hN hO hR hB
                    go_wp2_with fail
                    go_ret
                    exact ⟨rfl, HB.out⟩
end Go.Proofs.Yteeomlboifleoaa
