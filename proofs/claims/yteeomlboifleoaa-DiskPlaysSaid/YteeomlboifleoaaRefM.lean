/- The reference's Restart: its first loop. No statement of the seat is proved here. -/
import Derived.Test.YteeomlboifleoaaRefL
import Derived.Test.YteeomlboifleoaaDsg
import Derived.StillTailTactics
namespace Go.Proofs.Yteeomlboifleoaa
open Go.RowKit Go.Maps Go.Sort

theorem ccells_at : ∀ (l : List Chg) (k : Nat) (c : Chg), l[k]? = some c → (ccells l)[k * 4]? = some (.int .i64 (kindC c)) ∧ (ccells l)[k * 4 + 1]? = some (.string (strB (fromC c))) ∧ (ccells l)[k * 4 + 2]? = some (.string (strB (toC c))) ∧ (ccells l)[k * 4 + 3]? = some (.int .i64 (fileC c : Nat))
  | [], _, _, h => by simp at h
  | d :: r, 0, c, h => by
    obtain rfl : d = c := by simpa using h
    exact ⟨rfl, rfl, rfl, rfl⟩
  | d :: r, k + 1, c, h => by
    have ih := ccells_at r k c (by simpa using h)
    have e : ccells (d :: r) = Value.int .i64 (kindC d) :: Value.string (strB (fromC d)) :: Value.string (strB (toC d)) :: Value.int .i64 (fileC d : Nat) :: ccells r := rfl
    rw [e, show (k + 1) * 4 = k * 4 + 1 + 1 + 1 + 1 by omega]
    exact ih
theorem RowP.at {w : World} {b : Nat} {A : Option Addr} {n c : Nat} {l : List Chg} (h : RowP w b (.slice A n c) l) {k : Nat} (hk : k < l.length) :
    ∃ g d, A = some ⟨g, 0, none⟩ ∧ l[k]? = some d ∧ w.cell? ⟨g, k * 4, none⟩ = some (.int .i64 (kindC d)) ∧ w.cell? ⟨g, k * 4 + 1, none⟩ = some (.string (strB (fromC d))) ∧
      w.cell? ⟨g, k * 4 + 2, none⟩ = some (.string (strB (toC d))) ∧ w.cell? ⟨g, k * 4 + 3, none⟩ = some (.int .i64 (fileC d : Nat)) := by
  have h0 := h
  rcases h.2 with ⟨_, hz⟩ | ⟨g, cap, cur, hv, _, hg, _⟩
  · omega
  · injection hv with e1 e2 e3
    subst e1
    have hp : l[k]? = some l[k] := List.getElem?_eq_getElem hk
    obtain ⟨c0, c1, c2, c3⟩ := ccells_at l k l[k] hp
    have hc := World.ownsRow.cells h0 (g := g) rfl
    have x0 := hc _ _ c0
    have x1 := hc _ _ c1
    have x2 := hc _ _ c2
    have x3 := hc _ _ c3
    rw [add0] at x0 x1 x2 x3
    exact ⟨g, l[k], rfl, hp, x0, x1, x2, x3⟩

/-- what waits was renamed from a name that was there, at its place in the row of changes -/
def Cons (S : St) : Prop := ∀ j c, S.pend[j]? = some c → c.src ≠ [] → ∀ i, c.f = some i → findN (runs (S.pend.take j) S.safe) c.src = some i
theorem Nz.runs {k M : Nat} {S : St} (h : Nz S) (F : Fit k M S) (n : Nat) : ∀ p ∈ Yteeomlboifleoaa.runs (S.pend.take n) S.safe, p.1 ≠ [] := h.settle F n
theorem runs_succ {S : St} {i : Nat} {c : Chg} (h : S.pend[i]? = some c) : runs (S.pend.take (i + 1)) S.safe = c.app (runs (S.pend.take i) S.safe) := by
  rw [List.take_add_one, h]
  exact runs_snoc _ _ _
theorem rem_mod (c n : Nat) : (c : Int) % ((n : Int) + 1) = ((c % (n + 1) : Nat) : Int) := by
  rw [Int.natCast_emod]; rfl
theorem loses_names : ∀ (N : Nms) (S : St) (ch : Bys), (loses S N ch).names = S.names ∧ (loses S N ch).pend = S.pend
  | [], _, _ => ⟨rfl, rfl⟩
  | p :: r, S, ch => loses_names r (lose S p.2 (head ch)) ch.tail

theorem quiet_call {f : FuncId} {args : Array Value} {w : World} {n : Nat} {v : Value} (h : ∀ W, Calls Try.prog f args W fun e w' => e = .returned v ∧ W = w') :
    Calls Try.prog f args (w.drewN n) fun e w' => e = .returned v ∧ ∃ m, w' = w.drewN m := by
  refine (h _).mono ?_
  rintro e w' ⟨he, rfl⟩
  exact ⟨he, n, rfl⟩
set_option maxHeartbeats 4000000 in
set_option maxRecDepth 20000 in
theorem Restart_ref {w : World} {S : St} {k M : Nat} (L : Ls) (q l : Int) (dn : Bool) (h : RAt w L q l dn S) (F : Fit k M S) (hk : k ≤ 50000) (hM : M ≤ 500000000) (hz : Nz S) (hc : Cons S) (T : ByteArray) :
    Calls Try.prog 34 #[rv L q l dn, .string T] w fun e w' => ∃ V, e = .returned V ∧ Has V w' (restartS S T.data.toList) ∧ Below w.heap.size w w' := by
  obtain ⟨af, nf, cf, an, nn, cn, as_, ns, cs, ap, np, cp⟩ := L
  have HH := Lib.hid h
  have HFF := Lib.hid F
  have HZ := Lib.hid hz
  have HC := Lib.hid hc
  have hnp : np = S.pend.length := row_lenG h.pend
  have HNP := Lib.hid hnp
  have hnpb : np ≤ 50000 := by have := F.np; omega
  have x0 := Lib.hid (new1 w #[.int .i64 q, .slice af nf cf, .slice an nn cn, .slice as_ ns cs, .slice ap np cp, .int .i64 l, .bool dn] #[.int .i64 0, .slice none 0 0, .slice none 0 0, .slice none 0 0, .slice none 0 0, .int .i64 0, .bool false] 33 33)
  have x1 := Lib.hid (new2 w (.cells #[.int .i64 q, .slice af nf cf, .slice an nn cn, .slice as_ ns cs, .slice ap np cp, .int .i64 l, .bool dn] 33) 33 #[.int .i64 0, .slice none 0 0, .slice none 0 0, .slice none 0 0, .slice none 0 0, .int .i64 0, .bool false])
  have hB := Lib.hid (below2 w (.cells #[.int .i64 q, .slice af nf cf, .slice an nn cn, .slice as_ ns cs, .slice ap np cp, .int .i64 l, .bool dn] 33) (.cells #[.int .i64 0, .slice none 0 0, .slice none 0 0, .slice none 0 0, .slice none 0 0, .int .i64 0, .bool false] 33))
  obtain ⟨a0, a1, a2, a3, a4, a5, a6⟩ := disk_facts x0.out
  have hwr : IntKind.i64.wrap ((np : Int) + 1) = (np : Int) + 1 := wrap_in _ (by omega)
  have hnz : ((np : Int) + 1 == 0) = false := by rw [beq_eq_false_iff_ne]; omega
  obtain ⟨c0, hc0⟩ : ∃ c0, c0 = head T.data.toList := ⟨_, rfl⟩
  have hch : ∀ W, Calls Try.prog 53 #[.string T, .int .i64 0] W fun e w' => e = .returned (.int .i64 (c0 : Nat)) ∧ W = w' := fun W => by
    have := choice_ref W T 0 (by decide)
    rw [List.drop_zero, ← hc0] at this
    exact this
  have hc0b : c0 ≤ 255 := by rw [hc0]; exact head_le _
  have hrm := Lib.hid (rem_mod c0 np)
  have HC0 := Lib.hid hc0
  have HCH := Lib.hid hch
  clear h F hz hc hnp hc0 hch
  unfold rv
  go_enter Try.func34, Try.ntmps34
  go_upto_region 3 with (fail)
  go_quiet ((go_at_call 53; exact quiet_call HCH.out))
  go_wp2_with fail
  rw [hrm.out]
  have t0 := x0.out.drewN nq
  have t1 := x1.out.drewN nq
  have tB := below_drewN hB.out nq
  generalize World.drewN _ nq = W1 at t0 t1 tB ⊢
  have hnlt : c0 % (np + 1) ≤ np := by have := Nat.mod_lt c0 (show 0 < np + 1 by omega); omega
  obtain ⟨n1, hn1⟩ : ∃ n1, n1 = c0 % (np + 1) := ⟨_, rfl⟩
  rw [← hn1] at hnlt ⊢
  have HN1 := Lib.hid hn1
  have HT0 := Lib.hid t0
  have HT1 := Lib.hid t1
  have HTB := Lib.hid tB
  clear hn1 t0 t1 tB a0 a1 a2 a3 a4 a5 a6 hwr hnz
  go_loopw [6, 8] (fun v i wr => ∃ (j : Nat) (A : Option Addr) (m c : Nat), j ≤ n1 ∧ i = .int .i64 j ∧ v = .slice A m c ∧ RowN wr 0 (.slice A m c) (runs (S.pend.take j) S.safe) ∧
      Whole wr w.heap.size 33 #[.int .i64 q, .slice af nf cf, .slice an nn cn, .slice as_ ns cs, .slice ap np cp, .int .i64 l, .bool dn] ∧
      Whole wr (w.heap.size + 1) 33 #[.int .i64 0, .slice none 0 0, .slice none 0 0, .slice none 0 0, .slice none 0 0, .int .i64 0, .bool false] ∧ Below w.heap.size w wr) (fun _ i _ => n1 - (intOf i).toNat)
  case atStart => exact ⟨0, as_, ns, cs, Nat.zero_le _, rfl, rfl, own_below HH.out.safe HTB.out, HT0.out, HT1.out, HTB.out⟩
  case round =>
    clear HT0 HT1 HTB
    obtain ⟨j, A, m, c, hj, rfl, rfl, hrow, t0, t1, tB⟩ := hrel
    have HROW := Lib.hid hrow
    have HT0 := Lib.hid t0
    have HT1 := Lib.hid t1
    have HTB := Lib.hid tB
    have hPr := (HH.out.same tB).pend
    obtain ⟨a0, a1, a2, a3, a4, a5, a6⟩ := disk_facts t0
    clear hrow t0 t1 tB
    by_cases hlt : j < n1
    · obtain ⟨g, d, hA, hd, p0, p1, p2, p3⟩ := RowP.at hPr (show j < S.pend.length by have := HNP.out; omega)
      subst hA
      have hjn : (j : Int) < (np : Int) := by omega
      have hmk := make_ref HROW.out (by have := HFF.out.nr j; omega) d (HZ.out.runs HFF.out j) (fun h1 i h2 => HC.out j d hd h1 i h2)
      unfold chgV at hmk
      have HMK := Lib.hid hmk
      have HD := Lib.hid hd
      have hfz : (0 : Int) ≤ (fileC d : Nat) := by omega
      generalize kindC d = x0' at p0 HMK
      generalize strB (fromC d) = x1' at p1 HMK
      generalize strB (toC d) = x2' at p2 HMK
      generalize fileC d = x3' at p3 HMK hfz
      clear hPr hd hmk
      go_wp2_with fail
      refine Calls.mono HMK.out ?_
      rintro e w2 ⟨v2, rfl, hr2, hB2⟩
      rw [← runs_succ HD.out] at hr2
      obtain ⟨A2, c2, rfl⟩ := RowN.shape hr2
      have hr3 := hr2
      have HR3 := Lib.hid hr3
      have HB2 := Lib.hid (HTB.out.trans (hB2.mono HTB.out.size))
      have HU0 := Lib.hid (HT0.out.below hB2 HT0.out.lt)
      have HU1 := Lib.hid (HT1.out.below hB2 HT1.out.lt)
      clear hr2 hr3 hB2 a0 a1 a2 a3 a4 a5 a6 p0 p1 p2 p3
      go_wp2_with fail
      go_roundw
      case rel => exact ⟨j + 1, _, _, _, by omega, by go_num, rfl, HR3.out, HU0.out, HU1.out, HB2.out⟩
      case measure => simp [intOf]; omega
    · obtain rfl : j = n1 := by omega
      go_wp2_with fail
      have hS2 : Hid ((restart2 S T.data.toList).names = runs (S.pend.take j) S.safe ∧ (restart2 S T.data.toList).files = S.files ∧ (restart2 S T.data.toList).quota = S.quota ∧ (restart2 S T.data.toList).safe = runs (S.pend.take j) S.safe ∧ (restart2 S T.data.toList).pend = []) := Lib.hid (by
        rw [HN1.out, HC0.out, HNP.out]
        exact ⟨rfl, rfl, rfl, rfl, rfl⟩)
      have HF2 : Hid (Fit k M (restart2 S T.data.toList)) := Lib.hid (HFF.out.restart2 _)
      obtain ⟨S2, hs2⟩ : ∃ S2, S2 = restart2 S T.data.toList := ⟨_, rfl⟩
      obtain ⟨N, hN⟩ : ∃ N, N = runs (S.pend.take j) S.safe := ⟨_, rfl⟩
      rw [← hs2, ← hN] at hS2
      rw [← hs2] at HF2
      rw [← hN] at HROW
      have HS2 := Lib.hid hs2
      have HNL : Hid (m = N.length) := Lib.hid (row_lenG HROW.out)
      have hnb : N.length ≤ 50000 := by have := HF2.out.nn; rw [hS2.out.1] at this; omega
      have hmb : m ≤ 50000 := by have := HNL.out; omega
      clear hs2 hN hPr a0 a1 a2 a3 a4 a5 a6 x0 x1 hB HCH HC HZ HNP HN1 HC0
      go_loopw [5, 9] (fun v i wr => ∃ (j : Nat) (A2 : Option Addr) (n2 c2 : Nat) (R : St), j ≤ m ∧ i = .int .i64 j ∧ v = .int .i64 ((j : Int) + 1) ∧ RowN wr 0 (.slice A m c) N ∧ RowF wr 0 (.slice A2 n2 c2) R.files ∧
          Whole wr w.heap.size 33 #[.int .i64 q, .slice A2 n2 c2, .slice an nn cn, .slice as_ ns cs, .slice ap np cp, .int .i64 l, .bool dn] ∧
          Whole wr (w.heap.size + 1) 33 #[.int .i64 0, .slice none 0 0, .slice none 0 0, .slice none 0 0, .slice none 0 0, .int .i64 0, .bool false] ∧ Below w.heap.size w wr ∧
          Fit k M R ∧ R.files.length = S.files.length ∧ R.quota = S.quota ∧ R.names = N ∧ R.safe = N ∧ R.pend = [] ∧ loses R (N.drop j) (T.data.toList.drop (j + 1)) = loses S2 N T.data.toList.tail) (fun _ i _ => m - (intOf i).toNat)
      case atStart => exact ⟨0, af, nf, cf, S2, Nat.zero_le _, rfl, rfl, HROW.out, by rw [hS2.out.2.1]; exact own_below HH.out.files HTB.out, HT0.out, HT1.out, HTB.out, HF2.out, by rw [hS2.out.2.1], hS2.out.2.2.1, hS2.out.1, hS2.out.2.2.2.1, hS2.out.2.2.2.2, by simp⟩
      case round =>
        clear HROW HT0 HT1 HTB
        obtain ⟨i, A2, n2, c2, R, hi, rfl, rfl, hrn, hrf, t0, t1, tB, hRF, hRl, hRq, hRn, hRs, hRp, hls⟩ := hrel
        have HT0 := Lib.hid t0
        have HT1 := Lib.hid t1
        have HTB := Lib.hid tB
        have HRF := Lib.hid hRF
        have HRX := Lib.hid (⟨hRq, hRn, hRs, hRp⟩ : R.quota = S.quota ∧ R.names = N ∧ R.safe = N ∧ R.pend = [])
        have HRN := Lib.hid hrn
        have HRW := Lib.hid hrf
        have HLS := Lib.hid hls
        have HRL := Lib.hid hRl
        obtain ⟨a0, a1, a2, a3, a4, a5, a6⟩ := disk_facts t0
        clear t0 t1 tB hRF hRl hrn hrf hls hRq hRn hRs hRp
        by_cases hil : i < m
        · have hiN : i < N.length := by have := HNL.out; omega
          obtain ⟨g1, p, hA, hp, hg1, n0, n1'⟩ := RowN.at HRN.out hiN
          subst hA
          have hfl : p.2 < R.files.length := by
            have := (HF2.out.idn p (by rw [hS2.out.1]; exact List.mem_of_getElem? hp)).1
            rw [hS2.out.2.1] at this
            rw [HRL.out]; exact this
          obtain ⟨g2, x, hA, hx, hg2, f0, f1⟩ := RowF.at HRW.out hfl
          subst hA
          have hn2 : n2 = R.files.length := row_lenG HRW.out
          have hfI : ((p.2 : Nat) : Int) < (n2 : Int) := by omega
          have hiI : (i : Int) < (m : Int) := by omega
          have hxl := HRF.out.fl x (List.mem_of_getElem? hx)
          have hzs : (strB x.1).size = x.1.length := strB_size _
          have HX := Lib.hid hx
          have HP := Lib.hid hp
          have HXL := Lib.hid hxl
          have HHN2 := Lib.hid hn2
          have HFL := Lib.hid hfl
          obtain ⟨f, hf⟩ : ∃ f, f = p.2 := ⟨_, rfl⟩
          obtain ⟨z, hz⟩ : ∃ z, z = strB x.1 := ⟨_, rfl⟩
          obtain ⟨s, hs⟩ : ∃ s, s = x.2 := ⟨_, rfl⟩
          rw [← hf] at n1' f0 f1 hfI
          rw [← hz] at f0 hzs
          rw [← hs] at f1
          have hzb : z.size ≤ 500000000 := by rw [hzs]; exact Nat.le_trans hxl.1 hM
          have hsz : s ≤ z.size := by rw [hs, hzs]; exact hxl.2
          have HF := Lib.hid hf
          have HZZ := Lib.hid hz
          have HSS := Lib.hid hs
          have l0 := HT0.out.lt
          clear hf hz hs hzs hxl hx hp hn2 hfl n0 hiN
          go_upto_region 12 with (fail)
          go_region_held3 (fun w' => w'.cell? ⟨w.heap.size, 1, none⟩ = some (.slice (some ⟨g2, 0, none⟩) n2 c2) ∧ w'.cell? ⟨g1, i * 2 + 1, none⟩ = some (.int .i64 (f : Nat)) ∧ w'.cell? ⟨g2, f * 2, none⟩ = some (.string z) ∧ w'.cell? ⟨g2, f * 2 + 1, none⟩ = some (.int .i64 (s : Nat))) (go_keep) (first | fail)
          all_goals
            have tB := HTB.out
            have hW := (Whole.new wr 72 #[.string z, .int .i64 (s : Nat)]).drew
            have hBn : Below wr.heap.size wr (wr.alloc (.cells #[.string z, .int .i64 (s : Nat)] 72)).drew := ⟨rfl, rfl, rfl, by simp [World.drew], fun k hk => by rw [heap_drew]; exact heap_alloc_old _ _ _ hk⟩
            have hsz2 : wr.heap.size < (wr.alloc (.cells #[.string z, .int .i64 (s : Nat)] 72)).drew.heap.size := by rw [heap_drew]; simp
            obtain ⟨r, hr⟩ : ∃ r, r = wr.heap.size := ⟨_, rfl⟩
            have hr0 : w.heap.size < r := by rw [hr]; exact l0
            have hr1 : w.heap.size + 1 < r := by rw [hr]; exact HT1.out.lt
            rw [← hr] at hW hsz2 ⊢
            have hgr : Hid (¬ (g2 = r)) := Lib.hid (by omega)
            replace hr := Lib.hid hr
            have t0 := HT0.out.below hBn HT0.out.lt
            have t1 := HT1.out.below hBn HT1.out.lt
            have tN : RowN _ 0 _ N := own_below HRN.out hBn
            have tF : RowF _ 0 _ R.files := own_below HRW.out hBn
            have tB := tB.trans (hBn.mono tB.size)
            generalize (wr.alloc (.cells #[.string z, .int .i64 (s : Nat)] 72)).drew = W2 at hW hsz2 t0 t1 tN tF tB ⊢
            clear hBn a0 a1 a2 a3 a4 a5 a6 n1' f0 f1 hg1 hg2 l0
            have b0 := (hW.cell 0).trans (rfl : _ = some (Value.string z))
            have b1 := (hW.cell 1).trans (rfl : _ = some (Value.int .i64 (s : Nat)))
            have hszI : (s : Int) ≤ (z.size : Int) := by omega
            have hzbI : (z.size : Int) ≤ 500000000 := by omega
            go_upto_region 14 with (fail)
            obtain ⟨ρ, hρ⟩ : ∃ ρ, ρ = z.size - s := ⟨_, rfl⟩
            rw [show (z.size : Int) - (s : Int) = (ρ : Nat) from by omega]
            obtain ⟨cc, hcc⟩ : ∃ cc, cc = head (T.data.toList.drop (i + 1)) := ⟨_, rfl⟩
            have hch : ∀ W, Calls Try.prog 53 #[.string T, .int .i64 ((i : Int) + 1)] W fun e w' => e = .returned (.int .i64 (cc : Nat)) ∧ w' = W := fun W => by
              have := choice_ref W T (i + 1) (by omega)
              rw [← hcc, show ((i + 1 : Nat) : Int) = (i : Int) + 1 from by omega] at this
              exact this.mono fun _ _ h => ⟨h.1, h.2.symm⟩
            have hcb : cc ≤ 255 := by rw [hcc]; exact head_le _
            obtain ⟨P, hP⟩ : ∃ P, P = cc * (ρ + 1) := ⟨_, rfl⟩
            have hPb : P ≤ 255 * 500000001 := by rw [hP]; exact Nat.mul_le_mul hcb (by omega)
            obtain ⟨Q, hQ⟩ : ∃ Q, Q = P / 256 := ⟨_, rfl⟩
            have hQb : Q ≤ ρ := by rw [hQ, hP]; exact lose_le hcb
            obtain ⟨K, hK⟩ : ∃ K, K = s + Q := ⟨_, rfl⟩
            have e1 : IntKind.i64.wrap ((ρ : Int) + 1) = (ρ : Int) + 1 := wrap_in _ (by omega)
            have e2 : IntKind.i64.wrap ((cc : Int) * ((ρ : Int) + 1)) = (P : Int) := by
              rw [show (cc : Int) * ((ρ : Int) + 1) = (P : Int) from by rw [hP, Int.natCast_mul]; rfl]
              exact wrap_in _ (by omega)
            have e3 : (P : Int).tdiv 256 = (Q : Int) := by rw [Int.tdiv_eq_ediv_of_nonneg (by omega)]; omega
            have e3' : IntKind.i64.wrap (Q : Int) = (Q : Int) := wrap_in _ (by omega)
            have e4 : IntKind.i64.wrap ((s : Int) + (Q : Int)) = (K : Int) := by rw [hK]; exact wrap_in _ (by omega)
            have k1 : (0 : Int) ≤ (K : Nat) := by omega
            have k2 : (K : Int) ≤ (z.size : Int) := by omega
            have HCC := Lib.hid hcc
            have HPQ := Lib.hid (⟨hP, hQ, hK, hρ⟩ : P = cc * (ρ + 1) ∧ Q = P / 256 ∧ K = s + Q ∧ ρ = z.size - s)
            have HCL := Lib.hid hch
            clear hcc hP hQ hK hρ hch b0 b1
            refine wp_region_still_tail 14 (by kernel_rfl) (by kernel_rfl) ?_
            have hW3 : Whole ({ W2 with drawn := W2.drawn + 1 } : World) r 72 #[.string z, .int .i64 (s : Nat)] := hW.drew
            have t0' : Whole ({ W2 with drawn := W2.drawn + 1 } : World) _ _ _ := t0.drew
            have t1' : Whole ({ W2 with drawn := W2.drawn + 1 } : World) _ _ _ := t1.drew
            have hBd : Below W2.heap.size W2 ({ W2 with drawn := W2.drawn + 1 } : World) := ⟨rfl, rfl, rfl, Nat.le_refl _, fun _ _ => rfl⟩
            have tN' : RowN _ 0 _ N := own_below tN hBd
            have tF' : RowF _ 0 _ R.files := own_below tF hBd
            have tB' := tB.trans (hBd.mono tB.size)
            have hsz3 : r < ({ W2 with drawn := W2.drawn + 1 } : World).heap.size := hsz2
            clear hBd hW t0 t1 tN tF tB hsz2
            generalize ({ W2 with drawn := W2.drawn + 1 } : World) = W3 at hW3 t0' t1' tN' tF' tB' hsz3 ⊢
            simp only [List.take_succ_cons, List.take_zero, List.drop_succ_cons, List.drop_zero]
            have b0 := (hW3.cell 0).trans (rfl : _ = some (Value.string z))
            have b1 := (hW3.cell 1).trans (rfl : _ = some (Value.int .i64 (s : Nat)))
            have b2 := hW3.frozen 0
            repeat still_step
            still_call (HCL.out _)
            repeat still_step
            refine wpStill_nil ?_
            go_upto_region 15 with (fail)
            obtain ⟨z2, hz2⟩ : ∃ z2, z2 = z.extract 0 K := ⟨_, rfl⟩
            rw [← hz2]
            have hz2s : z2.size = K := by rw [hz2, ByteArray.size_extract]; omega
            replace hz2 := Lib.hid hz2
            have hW4 := hW3.put 0 (.string z2)
            rw [show (#[Value.string z, Value.int .i64 (s : Nat)] : Array Value).setIfInBounds 0 (.string z2) = #[Value.string z2, Value.int .i64 (s : Nat)] from rfl] at hW4
            have hg := gset W3 ⟨r, 0, none⟩ (.string z2)
            have t0 := t0'.grown hg (by simp; omega)
            have t1 := t1'.grown hg (by simp; omega)
            have tN : RowN _ 0 _ N := own_keepT tN' hg (by rintro x ⟨⟩; rw [whole_typ hW3]; decide)
            have tF : RowF _ 0 _ R.files := World.ownsRow.kept tF' hg (.inr (fun e => hgr.out (Option.some.inj e)))
            have tB := tB'.setCell (p := ⟨r, 0, none⟩) (by show w.heap.size ≤ r; omega) (.string z2)
            have hsz4 : r < (W3.setCell ⟨r, 0, none⟩ (.string z2)).heap.size := by rw [size_put]; exact hsz3
            clear b0 b1 b2 hg hW3 t0' t1' tN' tF' tB' hsz3 e1 e2 e3 e3' e4
            generalize W3.setCell ⟨r, 0, none⟩ (.string z2) = W4 at hW4 t0 t1 tN tF tB hsz4 ⊢
            have b0 := (hW4.cell 0).trans (rfl : _ = some (Value.string z2))
            have b1 := (hW4.cell 1).trans (rfl : _ = some (Value.int .i64 (s : Nat)))
            have b2 := hW4.frozen 1
            go_upto_region 17 with (fail)
            have hW5 := hW4.put 1 (.int .i64 (K : Nat))
            rw [show (#[Value.string z2, Value.int .i64 (s : Nat)] : Array Value).setIfInBounds 1 (.int .i64 (K : Nat)) = #[Value.string z2, Value.int .i64 (K : Nat)] from rfl] at hW5
            have hg := gset W4 ⟨r, 1, none⟩ (.int .i64 (K : Nat))
            have t0' := t0.grown hg (by simp; omega)
            have t1' := t1.grown hg (by simp; omega)
            have tN' : RowN _ 0 _ N := own_keepT tN hg (by rintro x ⟨⟩; rw [whole_typ hW4]; decide)
            have tF' : RowF _ 0 _ R.files := World.ownsRow.kept tF hg (.inr (fun e => hgr.out (Option.some.inj e)))
            have tB' := tB.setCell (p := ⟨r, 1, none⟩) (by show w.heap.size ≤ r; omega) (.int .i64 (K : Nat))
            clear b0 b1 b2 hg hW4 t0 t1 tN tF tB hsz4
            generalize W4.setCell ⟨r, 1, none⟩ (.int .i64 (K : Nat)) = W5 at hW5 t0' t1' tN' tF' tB' ⊢
            refine wp_region_still_tail 7 (by kernel_rfl) (by kernel_rfl) ?_
            have hBd : Below W5.heap.size W5 ({ W5 with drawn := W5.drawn + 1 } : World) := ⟨rfl, rfl, rfl, Nat.le_refl _, fun _ _ => rfl⟩
            have hW6 : Whole ({ W5 with drawn := W5.drawn + 1 } : World) r 72 #[.string z2, .int .i64 (K : Nat)] := hW5.drew
            have t0 : Whole ({ W5 with drawn := W5.drawn + 1 } : World) _ _ _ := t0'.drew
            have t1 : Whole ({ W5 with drawn := W5.drawn + 1 } : World) _ _ _ := t1'.drew
            have tN : RowN _ 0 _ N := own_below tN' hBd
            have tF : RowF _ 0 _ R.files := own_below tF' hBd
            have tB := tB'.trans (hBd.mono tB'.size)
            clear hBd hW5 t0' t1' tN' tF' tB'
            generalize ({ W5 with drawn := W5.drawn + 1 } : World) = W6 at hW6 t0 t1 tN tF tB ⊢
            simp only [List.take_succ_cons, List.take_zero, List.drop_succ_cons, List.drop_zero]
            have b0 := (hW6.cell 0).trans (rfl : _ = some (Value.string z2))
            have b1 := (hW6.cell 1).trans (rfl : _ = some (Value.int .i64 (K : Nat)))
            obtain ⟨a0, a1, a2, a3, a4, a5, a6⟩ := disk_facts t0
            obtain ⟨g1', p', hA', hp', _, n0', n1'⟩ := RowN.at tN (show i < N.length by have := HNL.out; omega)
            obtain rfl : g1 = g1' := by simpa using hA'
            obtain rfl : p = p' := by rw [HP.out] at hp'; exact Option.some.inj hp'
            rw [← HF.out] at n1'
            repeat still_step
            refine wpStill_nil ?_
            have hput := put_ref ⟨some ⟨g2, 0, none⟩, n2, c2, an, nn, cn, as_, ns, cs, ap, np, cp⟩ q l dn tF (by have := HRF.out.nf; omega) f (by rw [HF.out]; exact HFL.out) z2 K
            unfold rv at hput
            have HPUT := Lib.hid hput
            clear hput n0' hp' hA'
            go_wp2_with fail
            refine Calls.mono HPUT.out ?_
            rintro e w7 ⟨A3, n3, c3, rfl, hF3, hB3⟩
            have t0' := t0.below hB3 t0.lt
            have t1' := t1.below hB3 t1.lt
            have tN' : RowN _ 0 _ N := own_below tN hB3
            have tB' := tB.trans (hB3.mono tB.size)
            clear a0 a1 a2 a3 a4 a5 a6 b0 b1 n1' t0 t1 tN tF tB hB3 hW6
            obtain ⟨a0, a1, a2, a3, a4, a5, a6⟩ := disk_facts t0'
            have f0 := t0'.frozen 0
            have f1 := t0'.frozen 1
            have f2 := t0'.frozen 2
            have f3 := t0'.frozen 3
            have f4 := t0'.frozen 4
            have f5 := t0'.frozen 5
            have f6 := t0'.frozen 6
            have tg := seven_grown w7 w.heap.size (.int .i64 q) (.slice A3 n3 c3) (.slice an nn cn) (.slice as_ ns cs) (.slice ap np cp) (.int .i64 l) (.bool dn)
            have u0 := Lib.hid (seven_put t0' (.int .i64 q) (.slice A3 n3 c3) (.slice an nn cn) (.slice as_ ns cs) (.slice ap np cp) (.int .i64 l) (.bool dn))
            have u1 := Lib.hid (t1'.grown tg (by simp))
            have uN := Lib.hid (show RowN _ 0 _ N from own_keepT tN' tg (by rintro x ⟨⟩; rw [whole_typ t0']; decide))
            have uF := Lib.hid (show RowF _ 0 _ (R.files.set f (z2.data.toList, K)) from own_keepT hF3 tg (by rintro x ⟨⟩; rw [whole_typ t0']; decide))
            have uB := Lib.hid (seven_below tB' (Nat.le_refl _) (.int .i64 q) (.slice A3 n3 c3) (.slice an nn cn) (.slice as_ ns cs) (.slice ap np cp) (.int .i64 l) (.bool dn))
            have hx1 : Hid (fileAt R p.2 = x) := Lib.hid (by unfold fileAt; rw [List.getD_eq_getElem?_getD, HX.out]; rfl)
            have hlo : Hid ((lose R p.2 cc).files = R.files.set f (z2.data.toList, K)) := Lib.hid (by
              have e1 : K = x.2 + cc * (x.1.length - x.2 + 1) / 256 := by
                rw [HPQ.out.2.2.1, HPQ.out.2.1, HPQ.out.1, HPQ.out.2.2.2, HSS.out, HZZ.out, strB_size]
              have e2 : z2.data.toList = x.1.take K := by
                rw [hz2.out, HZZ.out, ByteArray.data_extract]
                simp [strB]
              unfold lose setF
              rw [hx1.out, ← e1, HF.out, e2])
            have hls2 : Hid (loses (lose R p.2 cc) (N.drop (i + 1)) (T.data.toList.drop (i + 1 + 1)) = loses S2 N T.data.toList.tail) := Lib.hid (by
              rw [← HLS.out]
              have hiN : i < N.length := by have := HNL.out; omega
              have e : N[i] = p := by have h1 := HP.out; rw [List.getElem?_eq_getElem hiN] at h1; exact Option.some.inj h1
              rw [List.drop_eq_getElem_cons hiN, e]
              show _ = loses (lose R p.2 (head (T.data.toList.drop (i + 1)))) (N.drop (i + 1)) (T.data.toList.drop (i + 1)).tail
              rw [← HCC.out, List.tail_drop])
            clear t0' t1' tN' tB' hF3 tg hz2s
            go_wp2_with fail
            go_roundw
            case rel => exact ⟨i + 1, A3, n3, c3, lose R p.2 cc, by omega, by go_num, by go_num, uN.out, by rw [hlo.out]; exact uF.out, u0.out, u1.out, uB.out, HRF.out.lose _ hcb, by rw [hlo.out, List.length_set]; exact HRL.out, HRX.out.1, HRX.out.2.1, HRX.out.2.2.1, HRX.out.2.2.2, hls2.out⟩
            case measure => simp [intOf]; omega
        · obtain rfl : i = m := by omega
          have hend : R = loses S2 N T.data.toList.tail := by
            rw [← HLS.out, List.drop_of_length_le (by have := HNL.out; omega)]
            rfl
          have hres : Hid (restartS S T.data.toList = { R with left := 0, down := false }) := Lib.hid (by
            unfold restartS
            rw [← HS2.out, hS2.out.1, hend])
          have f2 := HT0.out.frozen 2
          have f3 := HT0.out.frozen 3
          have f4 := HT0.out.frozen 4
          have f5 := HT0.out.frozen 5
          have f6 := HT0.out.frozen 6
          clear hend
          go_upto_region 23 with (fail)
          have u0 := ((((HT0.out.put 2 (.slice A i c)).put 3 (.slice A i c)).put 4 (.slice none 0 0)).put 5 (.int .i64 (-1))).put 6 (.bool false)
          have hg : wr.grownBy (((((wr.setCell ⟨w.heap.size, 2, none⟩ (.slice A i c)).setCell ⟨w.heap.size, 3, none⟩ (.slice A i c)).setCell ⟨w.heap.size, 4, none⟩ (.slice none 0 0)).setCell ⟨w.heap.size, 5, none⟩ (.int .i64 (-1))).setCell ⟨w.heap.size, 6, none⟩ (.bool false)) (some w.heap.size) :=
            gstep (gstep (gstep (gstep (gset wr ⟨w.heap.size, 2, none⟩ (.slice A i c)) 3 _) 4 _) 5 _) 6 _
          have u1 := HT1.out.grown hg (by simp)
          have uN : RowN _ 0 _ N := own_keepT HRN.out hg (by rintro x ⟨⟩; rw [whole_typ HT0.out]; decide)
          have uF : RowF _ 0 _ R.files := own_keepT HRW.out hg (by rintro x ⟨⟩; rw [whole_typ HT0.out]; decide)
          have uB := ((((HTB.out.setCell (p := ⟨w.heap.size, 2, none⟩) (Nat.le_refl _) (.slice A i c)).setCell (p := ⟨w.heap.size, 3, none⟩) (Nat.le_refl _) (.slice A i c)).setCell (p := ⟨w.heap.size, 4, none⟩) (Nat.le_refl _) (.slice none 0 0)).setCell (p := ⟨w.heap.size, 5, none⟩) (Nat.le_refl _) (.int .i64 (-1))).setCell (p := ⟨w.heap.size, 6, none⟩) (Nat.le_refl _) (.bool false)
          simp only [List.setIfInBounds_toArray, List.set_cons_succ, List.set_cons_zero] at u0
          clear hg f2 f3 f4 f5 f6 a0 a1 a2 a3 a4 a5 a6 HT0 HT1 HTB HRN HRW
          generalize (((((wr.setCell ⟨w.heap.size, 2, none⟩ (.slice A i c)).setCell ⟨w.heap.size, 3, none⟩ (.slice A i c)).setCell ⟨w.heap.size, 4, none⟩ (.slice none 0 0)).setCell ⟨w.heap.size, 5, none⟩ (.int .i64 (-1))).setCell ⟨w.heap.size, 6, none⟩ (.bool false)) = W8 at u0 u1 uN uF uB ⊢
          obtain ⟨a0, a1, a2, a3, a4, a5, a6⟩ := disk_facts u0
          obtain ⟨⟨d0, d1, d2, d3, d4, d5, d6⟩, e0, e1, e2, e3, e4, e5, e6⟩ := zero_facts u1
          have U1 := Lib.hid u1
          have UN := Lib.hid uN
          have UF := Lib.hid uF
          have UB := Lib.hid uB
          clear u0 u1 uN uF uB
          go_wp2_with fail
          have tg := seven_grown W8 (w.heap.size + 1) (.int .i64 q) (.slice A2 n2 c2) (.slice A i c) (.slice A i c) (.slice none 0 0) (.int .i64 (-1)) (.bool false)
          refine ret7 rfl rfl rfl (seven_put U1.out _ _ _ _ _ _ _) ⟨_, rfl, ?_, seven_below UB.out (by omega) _ _ _ _ _ _ _⟩
          refine ⟨⟨A2, n2, c2, A, i, c, A, i, c, none, 0, 0⟩, q, -1, false, rfl, ?_⟩
          rw [hres.out]
          have vN : RowN _ 0 _ N := own_keepT UN.out tg (by rintro x ⟨⟩; rw [whole_typ U1.out]; decide)
          have vF : RowF _ 0 _ R.files := own_keepT UF.out tg (by rintro x ⟨⟩; rw [whole_typ U1.out]; decide)
          refine ⟨vF, ?_, ?_, ?_, ?_, rfl, by decide, rfl⟩
          · rw [← HRX.out.2.1] at vN; exact vN
          · rw [← HRX.out.2.2.1] at vN; exact vN
          · show RowP _ 0 _ R.pend
            rw [HRX.out.2.2.2]; exact World.ownsRow_nil _ _ _ _
          · show q = R.quota
            rw [HRX.out.1]; exact HH.out.eq
end Go.Proofs.Yteeomlboifleoaa
