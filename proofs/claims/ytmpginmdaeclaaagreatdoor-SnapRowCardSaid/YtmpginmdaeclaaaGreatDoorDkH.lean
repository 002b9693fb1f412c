/- Parts of the proofs of the statements of image. No statement of the seat is proved here. -/
import Derived.Test.YtmpginmdaeclaaaGreatDoorDkF
set_option maxHeartbeats 32000000
set_option maxRecDepth 20000
namespace Go.Proofs.YtmpginmdaeclaaaGreatDoor
open Go.RowKit Go.Maps Go.Sort
theorem At.other {B d g : Nat} {m : Mem} {S : St} {w w' : World} (h : At B w d m S) (hg : w.grownBy w' (some g)) (ht : typ w.heap[g]? = 9) : At B w' d m S :=
  ⟨h.dB, h.nB, h.sB, h.ne, h.disk.keepT hg (by rintro x ⟨⟩; rw [ht]; decide), map_keepT h.names hg (by rintro x ⟨⟩; rw [ht]; decide), map_keepT h.safe hg (by rintro x ⟨⟩; rw [ht]; decide),
    own_keepT h.pend hg (by rintro x ⟨⟩; rw [ht]; decide), h.files.keep hg (by rintro x ⟨⟩; rw [ht]; decide)⟩
theorem Fit.lose {k M : Nat} {S : St} (h : Fit k M S) (i : Nat) {c : Nat} (hc : c <= 255) : Fit k M (lose S i c) := by
  unfold YtmpginmdaeclaaaGreatDoor.lose YtmpginmdaeclaaaGreatDoor.setF
  refine ⟨h.nn, h.nr, h.np, by simpa using h.nf, fun x hx => ?_, fun p hp => by simpa using h.idn p hp, fun p hp => by simpa using h.ids p hp, fun c hc => by simpa using h.idp c hc, h.lf⟩
  by_cases hi : i < S.files.length
  · rcases List.mem_or_eq_of_mem_set hx with hx | rfl
    · exact h.fl x hx
    · have e : fileAt S i = S.files[i]'hi := by unfold fileAt; rw [List.getD_eq_getElem?_getD, List.getElem?_eq_getElem hi]; rfl
      have h1 := h.fl _ (List.getElem_mem hi)
      rw [<-e] at h1
      have h2 := lose_le (r := (fileAt S i).1.length - (fileAt S i).2) hc
      simp only [List.length_take]
      omega
  · rw [List.set_eq_of_length_le (by omega)] at hx
    exact h.fl x hx
theorem find_mem {N : Nms} {x : Bys} {f : Nat} (hp : N.Pairwise fun p q => p.1 ≠ q.1) (h : (x, f) ∈ N) : findN N x = some f := by
  unfold findN
  induction N with
  | nil => cases h
  | cons p r ih =>
    obtain ⟨p1, p2⟩ := List.pairwise_cons.1 hp
    rcases List.mem_cons.1 h with rfl | h
    · simp
    · have hne : (p.1 == x) = false := by simpa using p1 _ h
      rw [List.find?_cons, hne]
      exact ih p2 h
theorem Kept.new {B g : Nat} {a b c : World} (h : Kept B a b) (hg : b.grownBy c (some g)) (hn : a.heap.size <= g) : Kept B a c :=
  ⟨hg.os.trans h.os, hg.tape.trans h.tape, hg.output.trans h.output, Nat.le_trans h.size hg.size, fun k hk hm => (hg.block k (Nat.lt_of_lt_of_le hk h.size) (by rintro ⟨⟩; omega)).trans (h.block k hk hm)⟩
def RestAt (B d cb k M : Nat) (w : World) (v : Value) (N : Nms) (R : St) (j : Nat) (wr : World) : Prop :=
  ∃ m S T, At B wr d m S /\ Fit k M S /\ S.names = N /\ loses S (N.drop j) T.data.toList = R /\ Whole wr cb 9 #[.string T] /\ wr.ownsRow 0 9 1 v N.length ((N.map (·.1)).map Go.Proofs.encStr) /\ Kept B w wr
theorem own_base {w : World} {b b' e size n : Nat} {v : Value} {xs : List Value} (h : w.ownsRow b e size v n xs) (hb : b' <= b) : w.ownsRow b' e size v n xs := by
  obtain ⟨h1, h2⟩ := h
  refine ⟨h1, ?_⟩
  rcases h2 with h2 | ⟨g, cap, cur, hv, hg, r⟩
  · exact .inl h2
  · exact .inr ⟨g, cap, cur, hv, Nat.le_trans hb hg, r⟩
theorem Fit.settle {k M : Nat} {S : St} (h : Fit k M S) (n : Nat) : Fit k M (settle S n) := by
  refine ⟨h.nn, fun j => ?_, Nat.zero_le _, h.nf, h.fl, h.idn, ?_, fun c hc => by simp [YtmpginmdaeclaaaGreatDoor.settle] at hc, h.lf⟩
  · have h1 := h.nr n
    show (runs (List.take j []) (runs (S.pend.take n) S.safe)).length <= k
    rw [List.take_nil]
    exact h1
  · intro p hp
    rcases mem_runs hp with hp | ⟨c, hc, h1, h2⟩
    · exact h.ids p hp
    · have h3 := h.idp c (List.mem_of_mem_take hc)
      exact ⟨h3.2 _ h1, by rw [h2]; exact h3.1.2.2⟩
theorem Fit.restart2 {k M : Nat} {S : St} (h : Fit k M S) (ch : Bys) : Fit k M (restart2 S ch) := by
  have h1 := h.settle (head ch % (S.pend.length + 1))
  exact ⟨h1.ns, h1.nr, h1.np, h1.nf, h1.fl, h1.ids, h1.ids, h1.idp, h1.lf⟩
theorem Restart_any {B d : Nat} {S : St} {w : World} (h : DiskAt B w d S) (hB : B <= w.heap.size) {k M : Nat} (F : Fit k M S) (hk : k <= 50000) (hM : M <= 500000000) (T : ByteArray) :
    Calls Tryz.prog 15 #[dptr d, .string T] w fun e w' => e = .returned (.tuple #[]) /\ DiskAt B w' d (restartS S T.data.toList) /\ Kept B w w' := by
  obtain ⟨m, h⟩ := h
  have hmf : ∀ (fn : Fn) (first cap : Array Value) (w : World), (Instr.makeFunc fn first cap).run Tryz.prog w = .ok (.func fn first cap) w := fun _ _ _ _ => rfl
  obtain ⟨A, cc, hv, _⟩ := Sees.own3 h.pend
  have hA0 := h.alloc (.cells #[.string T] 9)
  have hW0 := Whole.new w 9 #[.string T]
  have c3 : (w.alloc (.cells #[.string T] 9)).cell? ⟨d, 3, none⟩ = some (.slice A S.pend.length cc) := by rw [hA0.disk.cell, <-hv]; rfl
  have hH := Ha hA0
  have hWH := Ha hW0.drew
  have hFF := Ha F
  have hV := Ha hv
  have hBB := Ha hB
  have hP : (S.pend.length : Int) <= 50000 := by have := F.np; omega
  clear h hA0 hW0 hv hB F
  obtain ⟨h0, hh0⟩ : ∃ h0, h0 = head T.data.toList := ⟨_, rfl⟩
  have hh1 : (h0 : Int) <= 255 := by rw [hh0]; unfold head; have := ((T.data.toList.headD 0)).toNat_lt; omega
  have hHd := Ha hh0
  clear hh0
  obtain ⟨n, hn⟩ : ∃ n, n = h0 % (S.pend.length + 1) := ⟨_, rfl⟩
  have hnl : Hid (n <= S.pend.length) := Ha (by have := Nat.mod_lt h0 (show 0 < S.pend.length + 1 by omega); omega)
  have hwr : IntKind.i64.wrap ((S.pend.length : Nat) + 1 : Int) = (S.pend.length : Nat) + 1 := wrap_in _ (by omega)
  have htm : ((h0 : Nat) : Int).tmod ((S.pend.length : Nat) + 1) = (n : Nat) := by rw [Int.tmod_eq_emod_of_nonneg (by omega), hn]; rfl
  have htm2 : ((h0 : Nat) : Int) % ((S.pend.length : Nat) + 1) = (n : Nat) := by rw [hn]; rfl
  have hnz : ¬ (((S.pend.length : Nat) : Int) + 1 = 0) := by omega
  have hN := Ha hn
  clear hn
  go_enter Tryz.func15, Tryz.ntmps15
  go_wp2_with fail
  have nd : Hid (some d ≠ some w.heap.size) := Ha (fun e => by
    have h1 := whole_typ hH.out.drew.disk
    have h2 := whole_typ hWH.out
    rw [Option.some.inj e, h2] at h1
    exact absurd h1 (by decide))
  have hTy : Hid (typ ((w.alloc (.cells #[.string T] 9)).drew).heap[w.heap.size]? = 9) := Ha (whole_typ hWH.out)
  refine Code.wp_mono (fun e a' w3 (hh : match e with | .normal => (a' = ⟨#[dptr d, .string T, undef, .pointer (some ⟨w.heap.size, 0, none⟩), .func (.func 40) #[] #[.pointer (some ⟨w.heap.size, 0, none⟩)], undef, undef, .func (.func 40) #[] #[.pointer (some ⟨w.heap.size, 0, none⟩)], dptr d, .func (.func 40) #[] #[.pointer (some ⟨w.heap.size, 0, none⟩)], .int .i64 h0, dptr d, dptr d, .pointer (some ⟨d, 3, none⟩), .slice A S.pend.length cc, .int .i64 S.pend.length, .int .i64 ((S.pend.length : Nat) + 1), .int .i64 n, .tuple #[], undef, undef, undef, undef, undef, undef, undef, undef, undef, undef, undef, undef, undef, undef, undef, undef, undef, undef, undef, undef, undef, undef, undef, undef, undef, undef, undef, undef, undef, undef, undef, undef, undef, undef, undef], []⟩ /\ ∃ (T' : ByteArray) (m3 : Mem), T'.data.toList = T.data.toList.tail /\ At B w3 d m3 (settle S n) /\ Whole w3 w.heap.size 9 #[.string T'] /\ Kept B w w3) | _ => False) => ?_) ?_
  rotate_left
  · go_region_with (first
        | (go_at_call 40; refine (choose_any _ T _ hWH.out).mono ?_; rw [<-hHd.out]; rintro e w2 ⟨rfl, T', hT', hW2, hg2⟩; have hA2 := hH.out.drew.other hg2 hTy.out; have c32 : w2.cell? ⟨d, 3, none⟩ = some (.slice A S.pend.length cc) := hg2.cell (a := ⟨d, 3, none⟩) c3 nd.out; have HT' := Ha hT'; have HW2 := Ha hW2; have HG2 := Ha hg2; have HA2 := Ha hA2; clear hT' hW2 hg2 hA2)
        | (go_at_call 41; refine Calls.mono (settle_any HA2.out hFF.out (by omega) n hnl.out) ?_; rintro e w3 ⟨rfl, ⟨m3, hA3, e1, e2, e3, e4⟩, hK3⟩;  have HA3 := Ha hA3; have HK3 := Ha hK3; have E1 := Ha e1; have E3 := Ha e3; have E4 := Ha e4; clear hA3 hK3 e1 e2 e3 e4 c32))
    all_goals exact ⟨rfl, T', m3, HT'.out, HA3.out, HK3.out.whole HW2.out (by decide), ((((Kept.refl B w).alloc _).drew.new HG2.out (Nat.le_refl _)).trans HK3.out)⟩
  cases e <;> try exact hh.elim
  obtain ⟨rfl, T', m3, hT', hA3, hW3, hK3⟩ := hh
  have HT' := Ha hT'
  have HA3 := Ha hA3
  have HW3 := Ha hW3
  have HK3 := Ha hK3
  clear hT' hA3 hW3 hK3 nd hTy
  have c2 : w3.cell? ⟨d, 2, none⟩ = some (.map (some m3.sm)) := (HA3.out.disk.cell 2).trans rfl
  clear c3 hwr htm htm2 hnz
  go_wp2_with fail
  refine (dkMaps_Clone_any m3.sm _ _ w3 HA3.out.safe).mono ?_
  rintro e w4 ⟨rfl, ho4, hB4⟩
  have hA4 := HA3.out.same hB4
  have c1 : w4.cell? ⟨d, 1, none⟩ = some (.map (some m3.nm)) := (hA4.disk.cell 1).trans rfl
  have f1 := hA4.disk.frozen 1
  have HA4 := Ha hA4
  have HO4 := Ha ho4
  have HB4 := Ha hB4
  clear hA4 ho4 hB4 c2
  go_wp2_with fail
  obtain ⟨hA5, hK5⟩ := HA4.out.newN (dkGset w4 ⟨d, 1, none⟩ (.map (some w3.heap.size))) (N := (settle S n).safe) (nm := w3.heap.size) (map_keepT HO4.out (dkGset _ _ _) (by rintro x ⟨⟩; rw [whole_typ HA4.out.disk]; decide)) (by exact Nat.le_trans hBB.out HK3.out.size) (by have := HA3.out.safe.lt; omega) (by
  have := HA4.out.disk.put 1 (.map (some w3.heap.size))
  simpa [dcells] using this)
  obtain ⟨S2, hS2⟩ : ∃ S2, S2 = restart2 S T.data.toList := ⟨_, rfl⟩
  have eS2 : { settle S n with names := (settle S n).safe } = S2 := by rw [hS2, hN.out, hHd.out]; rfl
  rw [eS2] at hA5
  have hF2 := hFF.out.restart2 T.data.toList
  rw [<-hS2] at hF2
  obtain ⟨cb, hcb⟩ : ∃ cb, cb = w.heap.size := ⟨_, rfl⟩
  have hW4 := HW3.out.below HB4.out HW3.out.lt
  have hne : cb ≠ d := by
    rintro rfl; have h1 := whole_typ hW4
    have h2 := whole_typ HA4.out.disk
    rw [<-hcb, h2] at h1
    exact absurd h1 (by decide)
  rw [<-hcb] at hW4
  have hW5 : Whole (w4.setCell ⟨d, 1, none⟩ (.map (some w3.heap.size))) cb 9 #[.string T'] := hW4.far (p := ⟨d, 1, none⟩) hne _
  have hKK5 := (HK3.out.trans (.of_below HB4.out)).trans hK5
  obtain ⟨m5, hm5⟩ : ∃ m5 : Mem, m5 = { m3 with nm := w3.heap.size } := ⟨_, rfl⟩
  rw [<-hm5] at hA5
  have hnm : w3.heap.size = m5.nm := by rw [hm5]
  rw [hnm] at hA5 hW5 hKK5 ⊢
  clear hm5 hK5 hW4 eS2 hne
  revert hA5 hW5 hKK5
  generalize w4.setCell ⟨d, 1, none⟩ (.map (some m5.nm)) = w5
  intro hKK5 hW5 hA5
  rw [<-hcb]
  have hCB : Hid (w.heap.size <= cb) := Ha (Nat.le_of_eq hcb.symm)
  have HS2 := Ha hS2
  have HF2 := Ha hF2
  have HA5 := Ha hA5
  have HW5 := Ha hW5
  have HK5 := Ha hKK5
  clear hA5 hW5 hKK5 c1 f1 hnm hcb hS2 hF2
  refine (maps_Keys_any _ _).mono ?_
  rintro e w6 ⟨rfl, rfl⟩
  go_wp2_with fail
  refine (slices_Sorted_any m5.nm _ m5.bs S2.names w5 HA5.out.names (by have := HF2.out.nn; omega)).mono ?_
  rintro e w7 ⟨v, rfl, hrow, hB7⟩
  obtain ⟨A7, c7, rfl, _⟩ := Sees.own hrow
  have HNE : Hid ((Value.slice A7 S2.names.length c7).ownBlock ≠ some cb) := Ha (fun e => by
    have h1 := (hrow.lt cb e).1
    have h2 := HW5.out.lt
    omega)
  have HA7 := Ha (HA5.out.same hB7)
  have HR7 := Ha (own_base hrow (Nat.zero_le _))
  have HW7 := Ha (HW5.out.below hB7 HW5.out.lt)
  have HK7 := Ha (HK5.out.trans (.of_below hB7))
  obtain ⟨N, hNm⟩ : ∃ N, N = S2.names := ⟨_, rfl⟩
  obtain ⟨R, hR⟩ : ∃ R, R = loses S2 S2.names T'.data.toList := ⟨_, rfl⟩
  rw [<-hNm] at HR7 HNE ⊢
  have hNl : (N.length : Int) <= 100000 := by rw [hNm]; have := HF2.out.nn; omega
  have HNm := Ha hNm
  have HR := Ha hR
  clear hrow hB7 hNm hR
  go_wp2_with fail
  go_loopw [34] (fun i wr => ∃ j : Nat, j <= N.length /\ i = .int .i64 j /\ RestAt B d cb k M w (.slice A7 N.length c7) N R j wr) (fun i _ => N.length - (intOf i).toNat)
  case atStart => exact ⟨0, Nat.zero_le _, rfl, m5, S2, T', HA7.out, HF2.out, HNm.out.symm, by rw [HR.out, List.drop_zero, HNm.out], HW7.out, HR7.out, HK7.out⟩
  case round =>
    obtain ⟨j, hj, rfl, mj, Sj, Tj, hA, hF, hn, hl, hW, hrow, hK⟩ := hrel
    by_cases hlt : j < N.length
    · obtain ⟨x, f, hx⟩ : ∃ x f, N[j]'hlt = (x, f) := ⟨_, _, rfl⟩
      have hmem : (x, f) ∈ Sj.names := by rw [hn, <-hx]; exact List.getElem_mem hlt
      have hfind := find_mem (distinct_of hA.names) hmem
      have hfl := (hF.idn _ hmem).1
      have hxl : x.length <= 64 := (hF.idn _ hmem).2
      have hdrop : N.drop j = (x, f) :: N.drop (j + 1) := by rw [List.drop_eq_getElem_cons hlt, hx]
      rw [hdrop] at hl
      obtain ⟨A', c', he, hsee⟩ := Sees.own hrow
      injection he with he1 he2 he3
      subst he1 he3
      obtain ⟨b, off, rfl, _, hc⟩ := hsee.addr (by omega)
      obtain ⟨s1, hs1⟩ : ∃ s : ByteArray, s = ⟨x.toArray⟩ := ⟨_, rfl⟩
      have hs1l : s1.data.toList = x := by rw [hs1]
      have hc1 : wr.cell? ⟨b, off + j, none⟩ = some (.string s1) := hc j _ (by rw [hs1, List.getElem?_map, List.getElem?_map, List.getElem?_eq_getElem hlt, hx]; rfl)
      have hsz : s1.size <= maxLen := by
        have : s1.size = x.length := by rw [<-size_len, hs1l]
        unfold maxLen; omega
      rw [<-hs1l] at hfind
      obtain ⟨h1, hh1'⟩ : ∃ h1, h1 = head Tj.data.toList := ⟨_, rfl⟩
      have hh2 : (h1 : Int) <= 255 := by rw [hh1']; unfold head; have := ((Tj.data.toList.headD 0)).toNat_lt; omega
      have c1 : wr.cell? ⟨d, 1, none⟩ = some (.map (some mj.nm)) := (hA.disk.cell 1).trans rfl
      have l1 := (look_some hA.drew.names s1 hsz hfind).2
      change _ = Result.ok (Value.pointer (some ⟨mj.b f, 0, none⟩)) wr.drew at l1
      have nd : Hid (some d ≠ some cb) := Ha (fun e => by
        have h1 := whole_typ hA.disk
        have h2 := whole_typ hW
        rw [Option.some.inj e, h2] at h1
        exact absurd h1 (by decide))
      have hlk : (j : Int) < (N.length : Int) := by omega
      have HA := Ha hA
      have HF := Ha hF
      have HN := Ha hn
      have HL := Ha hl
      have HW := Ha hW.drew
      have HRow := Ha hrow
      have HK := Ha hK.drew
      have HH := Ha hh1'
      have HFl := Ha hfl
      have HFd := Ha hfind
      have HSz := Ha hsz
      clear hA hF hn hl hW hrow hK hh1' hfl hfind hsz hx hmem hdrop hsee hc hxl hs1 hs1l; go_wp2_with fail
      go_region_held3 (fun w' => w'.cell? ⟨d, 1, none⟩ = some (.map (some mj.nm)) /\ (Instr.lookup 77 (.map (some mj.nm)) (.string s1) false).run Tryz.prog w' = .ok (.pointer (some ⟨mj.b f, 0, none⟩)) w') (go_keep)
        (first
          | (go_at_call 40; refine (choose_any cb Tj _ HW.out).mono ?_; rw [<-HH.out]; rintro e w8 ⟨rfl, T8, hT8, hW8, hg8⟩; have hA8 := HA.out.drew.other hg8 (whole_typ HW.out); have c18 : w8.cell? ⟨d, 1, none⟩ = some (.map (some mj.nm)) := (hA8.disk.cell 1).trans rfl; have l8 : (Instr.lookup 77 (.map (some mj.nm)) (.string s1) false).run Tryz.prog w8 = .ok (.pointer (some ⟨mj.b f, 0, none⟩)) w8 := (look_some hA8.names s1 HSz.out HFd.out).2; have HT8 := Ha hT8; have HW8 := Ha hW8; have HG8 := Ha hg8; have HA8 := Ha hA8; clear hT8 hW8 hg8 hA8)
          | (go_at_call 45; refine Calls.mono (lose_any HA8.out HF.out (by omega) HFl.out h1 (by omega)) ?_; rintro e w9 ⟨rfl, ⟨m9, hA9, e1, e2, e3⟩, hK9⟩; have c19 : w9.cell? ⟨d, 1, none⟩ = some (.map (some mj.nm)) := (by rw [<-e2]; exact (hA9.disk.cell 1).trans rfl); have l9 : (Instr.lookup 77 (.map (some mj.nm)) (.string s1) false).run Tryz.prog w9 = .ok (.pointer (some ⟨mj.b f, 0, none⟩)) w9 := (by have := (look_some hA9.names s1 HSz.out HFd.out).2; rw [e1, e2] at this; exact this); have HA9 := Ha hA9; have HK9 := Ha hK9; clear hA9 e1 e2 e3 hK9))
      all_goals
        clear c1 l1 c18 l8 c19 l9; go_wp2_with fail
        go_roundw
        case rel =>
          refine ⟨j + 1, by omega, by go_num, m9, lose Sj f h1, T8, HA9.out, HF.out.lose f (by omega), HN.out, ?_, HK9.out.whole HW8.out (by decide), HK9.out.own (World.ownsRow.kept (w := wr.drew) HRow.out HG8.out (.inr HNE.out)) (by decide), (HK.out.new HG8.out hCB.out).trans HK9.out⟩
          rw [HT8.out, HH.out]
          exact HL.out
        case measure => simp [intOf]; omega
    · obtain rfl : j = N.length := by omega
      rw [List.drop_length] at hl
      have c4 : wr.cell? ⟨d, 4, none⟩ = some (.int .i64 (Sj.left : Nat)) := (hA.disk.cell 4).trans rfl
      have c5 : wr.cell? ⟨d, 5, none⟩ = some (.bool Sj.down) := (hA.disk.cell 5).trans rfl
      have f4 := hA.disk.frozen 4
      have f5 := hA.disk.frozen 5
      obtain ⟨r1, r2⟩ := hA.put2 0 false 0 rfl
      have HR1 := Ha r1
      have HR2 := Ha (hK.trans r2)
      have HL : Hid (Sj = R) := Ha hl
      clear hA hF hn hl hW hrow hK r1 r2; go_wp2_with fail
      go_end0
      refine ⟨rfl, ⟨mj, ?_⟩, HR2.out⟩
      have e : restartS S T.data.toList = { Sj with left := 0, down := false } := by
        unfold restartS; rw [<-HS2.out, <-HT'.out, <-HR.out, HL.out]
      rw [e]
      exact HR1.out
end Go.Proofs.YtmpginmdaeclaaaGreatDoor
namespace Go.Proofs.YtmpginmdaeclaaaGreatDoor
open Go.RowKit Go.Maps Go.Sort
theorem Fit.setF {k M : Nat} {S : St} (h : Fit k M S) (i : Nat) {x : Bys × Nat} (hx : x.1.length <= M /\ x.2 <= x.1.length) : Fit k M (YtmpginmdaeclaaaGreatDoor.setF S i x) := by
  unfold YtmpginmdaeclaaaGreatDoor.setF
  refine ⟨h.nn, h.nr, h.np, by simpa using h.nf, fun y hy => ?_, fun p hp => by simpa using h.idn p hp, fun p hp => by simpa using h.ids p hp, fun c hc => by simpa using h.idp c hc, h.lf⟩
  rcases List.mem_or_eq_of_mem_set hy with hy | rfl
  · exact h.fl y hy
  · exact hx
theorem Fit.chg {k M : Nat} {S : St} (h : Fit k M S) (c : Chg) (hr : S.names = runs S.pend S.safe) (hw : c.wf) (hi : ∀ i, c.f = some i -> i < S.files.length) : Fit (k + 1) M (YtmpginmdaeclaaaGreatDoor.chg S c) := by
  unfold YtmpginmdaeclaaaGreatDoor.chg
  have hn := length_app c S.names
  refine ⟨Nat.le_trans hn (Nat.succ_le_succ h.nn), fun n => ?_, by simp; exact h.np, Nat.le_succ_of_le h.nf, h.fl, fun p hp => ?_, h.ids, fun d hd => ?_, h.lf⟩
  · by_cases hle : n <= S.pend.length
    · show (runs (List.take n (S.pend ++ [c])) S.safe).length <= _
      rw [List.take_append_of_le_length hle]
      exact Nat.le_succ_of_le (h.nr n)
    · show (runs (List.take n (S.pend ++ [c])) S.safe).length <= _
      rw [List.take_of_length_le (by simp; omega), runs_snoc, <-hr]
      exact Nat.le_trans hn (Nat.succ_le_succ h.nn)
  · rcases mem_app hp with hp | ⟨h1, h2⟩
    · exact h.idn p hp
    · exact ⟨hi _ h1, by rw [h2]; exact hw.2.2⟩
  · rcases List.mem_append.1 hd with hd | hd
    · exact h.idp d hd
    · rw [List.mem_singleton] at hd
      subst hd; exact ⟨hw, hi⟩
def Re (S : St) : Prop := S.names = runs S.pend S.safe
theorem Re.new (q : Int) : Re (St.new q) := rfl
theorem Re.count {S : St} (h : Re S) : Re (YtmpginmdaeclaaaGreatDoor.count S) := by unfold YtmpginmdaeclaaaGreatDoor.count; split <;> exact h
theorem Re.setF {S : St} (h : Re S) (i : Nat) (x : Bys × Nat) : Re (YtmpginmdaeclaaaGreatDoor.setF S i x) := h
theorem Re.addF {S : St} (h : Re S) : Re (YtmpginmdaeclaaaGreatDoor.addF S) := h
theorem Re.chg {S : St} (h : Re S) (c : Chg) : Re (YtmpginmdaeclaaaGreatDoor.chg S c) := by
  unfold Re YtmpginmdaeclaaaGreatDoor.chg
  simp only
  rw [runs_snoc, <-h]
theorem Re.loses : ∀ {N : Nms} {S : St} {ch : Bys}, Re S -> Re (YtmpginmdaeclaaaGreatDoor.loses S N ch)
  | [], _, _, h => h
  | p :: r, S, ch, h => Re.loses (N := r) (S := YtmpginmdaeclaaaGreatDoor.lose S p.2 (head ch)) (ch := ch.tail) h
theorem head_le (ch : Bys) : head ch <= 255 := by unfold head; have := (ch.headD 0).toNat_lt; omega
theorem Fit.loses {k M : Nat} : ∀ {N : Nms} {S : St} {ch : Bys}, Fit k M S -> Fit k M (YtmpginmdaeclaaaGreatDoor.loses S N ch)
  | [], _, _, h => h
  | p :: r, S, ch, h => Fit.loses (N := r) (S := YtmpginmdaeclaaaGreatDoor.lose S p.2 (head ch)) (ch := ch.tail) (h.lose p.2 (head_le ch))
theorem fileAt_fit {k M : Nat} {S : St} (h : Fit k M S) (i : Nat) : (fileAt S i).1.length <= M /\ (fileAt S i).2 <= (fileAt S i).1.length := by
  unfold fileAt
  by_cases hi : i < S.files.length
  · rw [List.getD_eq_getElem?_getD, List.getElem?_eq_getElem hi]
    exact h.fl _ (List.getElem_mem hi)
  · rw [List.getD_eq_getElem?_getD, List.getElem?_eq_none (by omega)]
    exact ⟨Nat.zero_le _, Nat.zero_le _⟩
theorem isN_len {s : Bys} (h : isN s = true) : 1 <= s.length /\ s.length <= 64 := by
  simpa [isN] using h
theorem Fit.append {k M : Nat} {S : St} (h : Fit k M S) (hr : Re S) (nm b : Bys) : Fit (k + 2) (M + b.length) (appendS S nm b).1 /\ Re (appendS S nm b).1 /\ (appendS S nm b).1.quota = S.quota := by
  unfold appendS
  split
  · exact ⟨h.mono (by omega) (by omega), hr, rfl⟩
  split
  · rename_i hn
    split
    · exact ⟨h.mono (by omega) (by omega), hr, rfl⟩
    · cases hf : findN S.names nm with
      | some i =>
        have h2 := fileAt_fit h i
        refine ⟨(Fit.setF (h.mono (k' := k + 2) (M' := M + b.length) (by omega) (by omega)) i ?_).count, (hr.setF _ _).count, ?_⟩
        · simp only [List.length_append]; omega
        · show (YtmpginmdaeclaaaGreatDoor.count _).quota = _
          unfold YtmpginmdaeclaaaGreatDoor.count
          split <;> rfl
      | none =>
        have h0 : Fit (k + 2) (M + b.length) (YtmpginmdaeclaaaGreatDoor.chg (YtmpginmdaeclaaaGreatDoor.addF S) ⟨[], nm, some S.files.length⟩) := ((h.addF).chg ⟨[], nm, some S.files.length⟩ hr ⟨⟨fun e => (by cases e), fun e => by have := (isN_len hn).1; rw [show nm = [] from e] at this; simp at this⟩, Nat.zero_le _, (isN_len hn).2⟩ (fun i hi => by cases hi; simp [YtmpginmdaeclaaaGreatDoor.addF])).mono (Nat.le_refl _) (by omega)
        have h2 : (fileAt (YtmpginmdaeclaaaGreatDoor.chg (YtmpginmdaeclaaaGreatDoor.addF S) ⟨[], nm, some S.files.length⟩) S.files.length) = ([], 0) := by
          unfold fileAt; exact (getD_snoc _ _ _ _).trans (if_pos rfl)
        refine ⟨(Fit.setF h0 S.files.length ?_).count, ((hr.addF.chg _).setF _ _).count, ?_⟩
        · rw [h2]
          simp
        · show (YtmpginmdaeclaaaGreatDoor.count _).quota = _
          unfold YtmpginmdaeclaaaGreatDoor.count
          split <;> rfl
  · exact ⟨h.mono (by omega) (by omega), hr, rfl⟩
theorem Fit.sync {k M : Nat} {S : St} (h : Fit k M S) (hr : Re S) (nm : Bys) : Fit k M (syncS S nm).1 /\ Re (syncS S nm).1 /\ (syncS S nm).1.quota = S.quota := by
  unfold syncS
  split
  · refine ⟨(h.setF _ ?_).count, (hr.setF _ _).count, ?_⟩
    · exact ⟨(fileAt_fit h _).1, Nat.le_refl _⟩
    · show (YtmpginmdaeclaaaGreatDoor.count _).quota = _
      unfold YtmpginmdaeclaaaGreatDoor.count
      split <;> rfl
  · exact ⟨h, hr, rfl⟩
theorem Fit.syncDir {k M : Nat} {S : St} (h : Fit k M S) (hr : Re S) : Fit k M (syncDirS S).1 /\ Re (syncDirS S).1 /\ (syncDirS S).1.quota = S.quota := by
  unfold syncDirS
  split
  · exact ⟨h, hr, rfl⟩
  · refine ⟨(h.settle _).count, Re.count ?_, ?_⟩
    · show S.names = runs [] (runs (S.pend.take S.pend.length) S.safe)
      rw [List.take_length, runs_nil, hr]
    · show (YtmpginmdaeclaaaGreatDoor.count _).quota = _
      unfold YtmpginmdaeclaaaGreatDoor.count
      split <;> rfl
theorem Fit.rename {k M : Nat} {S : St} (h : Fit k M S) (hr : Re S) (a b : Bys) : Fit (k + 2) M (renameS S a b).1 /\ Re (renameS S a b).1 /\ (renameS S a b).1.quota = S.quota := by
  unfold renameS
  split
  · rename_i he
    obtain ⟨_, hok, hf⟩ := openS_ok he
    simp only [Bool.and_eq_true] at hok
    refine ⟨((h.chg _ hr ⟨⟨fun e => (by cases e), fun e => by have := (isN_len hok.2).1; rw [show b = [] from e] at this; simp at this⟩, (isN_len hok.1).2, (isN_len hok.2).2⟩ (fun i hi => by cases hi; exact (h.idn _ (findN_mem hf)).1)).mono (by omega) (Nat.le_refl _)).count, (hr.chg _).count, ?_⟩
    show (YtmpginmdaeclaaaGreatDoor.count _).quota = _
    unfold YtmpginmdaeclaaaGreatDoor.count
    split <;> rfl
  · exact ⟨h.mono (by omega) (Nat.le_refl _), hr, rfl⟩
theorem Fit.remove {k M : Nat} {S : St} (h : Fit k M S) (hr : Re S) (a : Bys) : Fit (k + 2) M (removeS S a).1 /\ Re (removeS S a).1 /\ (removeS S a).1.quota = S.quota := by
  unfold removeS
  split
  · rename_i he
    obtain ⟨_, hok, hf⟩ := openS_ok he
    refine ⟨((h.chg _ hr ⟨⟨fun _ => rfl, fun _ => rfl⟩, (isN_len hok).2, Nat.zero_le _⟩ (fun i hi => by cases hi)).mono (by omega) (Nat.le_refl _)).count, (hr.chg _).count, ?_⟩
    show (YtmpginmdaeclaaaGreatDoor.count _).quota = _
    unfold YtmpginmdaeclaaaGreatDoor.count
    split <;> rfl
  · exact ⟨h.mono (by omega) (Nat.le_refl _), hr, rfl⟩
theorem loses_quota : ∀ (N : Nms) (S : St) (ch : Bys), (loses S N ch).quota = S.quota
  | [], _, _ => rfl
  | _ :: r, _, _ => loses_quota r _ _
theorem Fit.restart {k M : Nat} {S : St} (h : Fit k M S) (ch : Bys) : Fit k M (restartS S ch) /\ Re (restartS S ch) /\ (restartS S ch).quota = S.quota := by
  have h1 := Fit.loses (N := (YtmpginmdaeclaaaGreatDoor.restart2 S ch).names) (ch := ch.tail) (h.restart2 ch)
  refine ⟨⟨h1.nn, h1.nr, h1.np, h1.nf, h1.fl, h1.idn, h1.ids, h1.idp, by simp [restartS]⟩, ?_, ?_⟩
  · have h2 : Re (YtmpginmdaeclaaaGreatDoor.restart2 S ch) := rfl
    exact Re.loses (N := (YtmpginmdaeclaaaGreatDoor.restart2 S ch).names) (ch := ch.tail) h2
  · show (YtmpginmdaeclaaaGreatDoor.loses _ _ _).quota = _
    rw [loses_quota]
    rfl
structure Live (B : Nat) (w : World) (d k M : Nat) (S : St) : Prop where
  disk : DiskAt B w d S
  fit : Fit k M S
  re : Re S
  base : B <= w.heap.size
  quota : S.quota <= 1099511627776 /\ 0 <= S.quota
theorem Live.same {B d k M : Nat} {w w' : World} {S : St} (h : Live B w d k M S) (hb : Below w.heap.size w w') : Live B w' d k M S :=
  ⟨h.disk.same hb, h.fit, h.re, Nat.le_trans h.base hb.size, h.quota⟩
theorem Live.mono {B d k M k' M' : Nat} {w : World} {S : St} (h : Live B w d k M S) (hk : k <= k') (hM : M <= M') : Live B w d k' M' S :=
  ⟨h.disk, h.fit.mono hk hM, h.re, h.base, h.quota⟩
theorem live_New (q : Int) (w : World) (hq : qB q = true) : Calls Tryz.prog 9 #[.int .i64 q] w fun e w' => ∃ d, e = .returned (.tuple #[dptr d, .int .i64 0]) /\ Live w.heap.size w' d 0 0 (St.new q) /\ Below w.heap.size w w' := by
  refine (dkNew_any q w hq).mono ?_
  rintro e w' ⟨d, rfl, hd, hb⟩
  have h2 : 0 <= q /\ q <= 1099511627776 := by simpa [qB] using hq
  exact ⟨d, rfl, ⟨hd, Fit.new q, Re.new q, hb.size, ⟨h2.2, h2.1⟩⟩, hb⟩
theorem live_Append {B d k M : Nat} {w : World} {S : St} (h : Live B w d k M S) (hk : k <= 50000) (hM : M <= 500000000) (nm b : ByteArray) (hb : b.size <= 500000000) (hnm : nm.size <= 1000000000) :
    Calls Tryz.prog 19 #[dptr d, .string nm, .string b] w fun e w' => e = .returned (.int .i64 (appendS S nm.data.toList b.data.toList).2) /\ Live B w' d (k + 2) (M + b.size) (appendS S nm.data.toList b.data.toList).1 /\ Kept B w w' := by
  refine (Append_any h.disk h.base h.fit hk hM h.quota nm b hb hnm).mono ?_
  rintro e w' ⟨rfl, hd, hK⟩
  obtain ⟨f1, f2, f3⟩ := h.fit.append h.re nm.data.toList b.data.toList
  rw [size_len] at f1
  exact ⟨rfl, ⟨hd, f1, f2, Nat.le_trans h.base hK.size, by rw [f3]; exact h.quota⟩, hK⟩
theorem live_Sync {B d k M : Nat} {w : World} {S : St} (h : Live B w d k M S) (nm : ByteArray) :
    Calls Tryz.prog 93 #[dptr d, .string nm] w fun e w' => e = .returned (.int .i64 (syncS S nm.data.toList).2) /\ Live B w' d k M (syncS S nm.data.toList).1 /\ Kept B w w' := by
  refine (Sync_any h.disk h.fit nm).mono ?_
  rintro e w' ⟨rfl, hd, hK⟩
  obtain ⟨f1, f2, f3⟩ := h.fit.sync h.re nm.data.toList
  exact ⟨rfl, ⟨hd, f1, f2, Nat.le_trans h.base hK.size, by rw [f3]; exact h.quota⟩, hK⟩
theorem live_SyncDir {B d k M : Nat} {w : World} {S : St} (h : Live B w d k M S) (hk : k <= 50000) :
    Calls Tryz.prog 53 #[dptr d] w fun e w' => e = .returned (.int .i64 (syncDirS S).2) /\ Live B w' d k M (syncDirS S).1 /\ Kept B w w' := by
  refine (SyncDir_any h.disk h.fit hk).mono ?_
  rintro e w' ⟨rfl, hd, hK⟩
  obtain ⟨f1, f2, f3⟩ := h.fit.syncDir h.re
  exact ⟨rfl, ⟨hd, f1, f2, Nat.le_trans h.base hK.size, by rw [f3]; exact h.quota⟩, hK⟩
theorem live_Rename {B d k M : Nat} {w : World} {S : St} (h : Live B w d k M S) (hk : k <= 50000) (a b : ByteArray) :
    Calls Tryz.prog 95 #[dptr d, .string a, .string b] w fun e w' => e = .returned (.int .i64 (renameS S a.data.toList b.data.toList).2) /\ Live B w' d (k + 2) M (renameS S a.data.toList b.data.toList).1 /\ Kept B w w' := by
  refine (Rename_any h.disk h.base h.fit hk a b).mono ?_
  rintro e w' ⟨rfl, hd, hK⟩
  obtain ⟨f1, f2, f3⟩ := h.fit.rename h.re a.data.toList b.data.toList
  exact ⟨rfl, ⟨hd, f1, f2, Nat.le_trans h.base hK.size, by rw [f3]; exact h.quota⟩, hK⟩
theorem live_Remove {B d k M : Nat} {w : World} {S : St} (h : Live B w d k M S) (hk : k <= 50000) (a : ByteArray) :
    Calls Tryz.prog 51 #[dptr d, .string a] w fun e w' => e = .returned (.int .i64 (removeS S a.data.toList).2) /\ Live B w' d (k + 2) M (removeS S a.data.toList).1 /\ Kept B w w' := by
  refine (Remove_any h.disk h.base h.fit hk a).mono ?_
  rintro e w' ⟨rfl, hd, hK⟩
  obtain ⟨f1, f2, f3⟩ := h.fit.remove h.re a.data.toList
  exact ⟨rfl, ⟨hd, f1, f2, Nat.le_trans h.base hK.size, by rw [f3]; exact h.quota⟩, hK⟩
theorem live_Restart {B d k M : Nat} {w : World} {S : St} (h : Live B w d k M S) (hk : k <= 50000) (hM : M <= 500000000) (T : ByteArray) :
    Calls Tryz.prog 15 #[dptr d, .string T] w fun e w' => e = .returned (.tuple #[]) /\ Live B w' d k M (restartS S T.data.toList) /\ Kept B w w' := by
  refine (Restart_any h.disk h.base h.fit hk hM T).mono ?_
  rintro e w' ⟨rfl, hd, hK⟩
  obtain ⟨f1, f2, f3⟩ := h.fit.restart T.data.toList
  exact ⟨rfl, ⟨hd, f1, f2, Nat.le_trans h.base hK.size, by rw [f3]; exact h.quota⟩, hK⟩
theorem live_Read {B d k M : Nat} {w : World} {S : St} (h : Live B w d k M S) (a : ByteArray) :
    Calls Tryz.prog 64 #[dptr d, .string a] w fun e w' => e = .returned (.tuple #[.string ⟨(readS S a.data.toList).1.toArray⟩, .int .i64 (readS S a.data.toList).2]) /\ Below w.heap.size w w' :=
  Read_any h.disk h.fit a
end Go.Proofs.YtmpginmdaeclaaaGreatDoor
