/- Parts of the proofs of the statements of image. No statement of the seat is proved here. -/
import Derived.Test.YtmpginmdaeclaaaGreatDoorNaJ
import Derived.Test.YtmpginmdaeclaaaGreatDoorPaA
import Derived.Deep.RegionWith
set_option maxHeartbeats 32000000
set_option maxRecDepth 20000
namespace Go.Proofs.YtmpginmdaeclaaaGreatDoor
open Go.RowKit
theorem bytesV_snoc (l : List UInt8) (c : UInt8) : bytesV (l ++ [c]) = bytesV l ++ [.int .u8 (c.toNat : Nat)] := by simp [bytesV]
theorem lowS_take {s : List UInt8} {k : Nat} (h : k < s.length) : lowS (s.take (k + 1)) = lowS (s.take k) ++ [low s[k]] := by
  rw [List.take_succ_eq_append_getElem h]; simp only [lowS, List.map_append, List.map_cons, List.map_nil]
theorem low_up {c : UInt8} (h1 : 65 <= c.toNat) (h2 : c.toNat <= 90) : (low c).toNat = c.toNat + 32 := by
  unfold low; rw [if_pos ⟨h1, h2⟩, UInt8.toNat_ofNat']; omega
theorem low_not {c : UInt8} (h : ¬ (65 <= c.toNat /\ c.toNat <= 90)) : (low c).toNat = c.toNat := by unfold low; rw [if_neg h]
theorem lower_any (S : ByteArray) (s : List UInt8) (w : World) (hS : S = mk s) (hl : s.length <= 1000) :
    Calls Tryz.prog 234 #[.string S] w fun e w' => e = .returned (.string (mk (lowS s))) /\ Below w.heap.size w w' := by
  have hSz : S.size = s.length := by rw [hS, mk_size]
  have HS := Ha hS
  have HSZ := Ha hSz
  have hS1 : S.size <= 1000 := by omega
  clear hS hSz
  go_enter Tryz.func234, Tryz.ntmps234
  go_wp2_with fail
  go_loopw [3, 4] (fun v i wr => ∃ k : Nat, k <= S.size /\ i = .int .i64 k /\ wr.ownsRow w.heap.size 5 1 v k (bytesV (lowS (s.take k))) /\ Below w.heap.size w wr) (fun _ i _ => S.size - (intOf i).toNat)
  case atStart => exact ⟨0, Nat.zero_le _, rfl, World.ownsRow_nil _ _ _ _, Below.refl _ _⟩
  case round =>
    obtain ⟨k, hk, rfl, hown, GB⟩ := hrel
    by_cases hlt : k < S.size
    · have hks : k < s.length := by have := HSZ.out; omega
      obtain ⟨d, hd⟩ : ∃ d, d = s[k].toNat := ⟨_, rfl⟩
      have hc : (S[k]'hlt).toNat = d := by rw [mk_get HS.out hlt hks, hd]
      have hd255 : d <= 255 := by have := s[k].toNat_lt; omega
      have HD := Ha hd
      have HO := Ha hown
      have H63 : Hid (k + 1 <= maxLen) := Ha (by unfold maxLen; omega)
      have H47 : Hid ((k + 1) * 1 <= 140737488355328) := Ha (by omega)
      obtain ⟨i0, hi0, hz0, hz1, hz2⟩ := info_parts u8_info
      have HT := Ha (lowS_take hks)
      clear hd hown
      by_cases h1 : 65 <= d
      · have g1 : (65 : Int) <= (d : Int) := by omega
        by_cases h2 : d <= 90
        · have g2 : (d : Int) <= 90 := by omega
          have HV := Ha (low_up (c := s[k]) (by rw [<-HD.out]; exact h1) (by rw [<-HD.out]; exact h2))
          go_wp2_with (at_builtin; refine wpList_append_own _ rfl _ _ 115 rfl w.heap.size 5 i0 (.int .u8 0) 1 1 Tryz.underlying115 hi0 hz0 hz1 hz2 rfl (by decide) _ _ _ rfl (HO.out.alloc _) ⟨wr.heap.size, 0, none⟩ 1 1 [_] rfl rfl (news1 _ _ _) (one1 _ rfl) H63.out H47.out (by have := GB.size; simp; omega) ?_; intro v2 w2 hown2 hgrow _)
          have hown3 : w2.ownsRow w.heap.size 5 1 v2 (k + 1) (bytesV (lowS (s.take (k + 1)))) := by
            rw [HT.out, bytesV_snoc, HV.out, <-HD.out]; simpa using hown2
          have HO3 := Ha hown3
          have HB2 := Ha ((GB.alloc GB.size _).grown hgrow (by have := GB.size; simp; omega) (fun j hj => (HO.out.lt j hj).1))
          clear hown2 hown3 hgrow; go_roundw
          case rel => exact ⟨k + 1, by omega, by go_num, HO3.out, HB2.out⟩
          case measure => simp [intOf]; omega
        · have g2 : ¬ (d : Int) <= 90 := by omega
          have HV := Ha (low_not (c := s[k]) (by rw [<-HD.out]; omega))
          go_wp2_with (at_builtin; refine wpList_append_own _ rfl _ _ 115 rfl w.heap.size 5 i0 (.int .u8 0) 1 1 Tryz.underlying115 hi0 hz0 hz1 hz2 rfl (by decide) _ _ _ rfl (HO.out.alloc _) ⟨wr.heap.size, 0, none⟩ 1 1 [_] rfl rfl (news1 _ _ _) (one1 _ rfl) H63.out H47.out (by have := GB.size; simp; omega) ?_; intro v2 w2 hown2 hgrow _)
          have hown3 : w2.ownsRow w.heap.size 5 1 v2 (k + 1) (bytesV (lowS (s.take (k + 1)))) := by
            rw [HT.out, bytesV_snoc, HV.out, <-HD.out]; simpa using hown2
          have HO3 := Ha hown3
          have HB2 := Ha ((GB.alloc GB.size _).grown hgrow (by have := GB.size; simp; omega) (fun j hj => (HO.out.lt j hj).1))
          clear hown2 hown3 hgrow; go_roundw
          case rel => exact ⟨k + 1, by omega, by go_num, HO3.out, HB2.out⟩
          case measure => simp [intOf]; omega
      · have g1 : ¬ (65 : Int) <= (d : Int) := by omega
        have HV := Ha (low_not (c := s[k]) (by rw [<-HD.out]; omega))
        go_wp2_with (at_builtin; refine wpList_append_own _ rfl _ _ 115 rfl w.heap.size 5 i0 (.int .u8 0) 1 1 Tryz.underlying115 hi0 hz0 hz1 hz2 rfl (by decide) _ _ _ rfl (HO.out.alloc _) ⟨wr.heap.size, 0, none⟩ 1 1 [_] rfl rfl (news1 _ _ _) (one1 _ rfl) H63.out H47.out (by have := GB.size; simp; omega) ?_; intro v2 w2 hown2 hgrow _)
        have hown3 : w2.ownsRow w.heap.size 5 1 v2 (k + 1) (bytesV (lowS (s.take (k + 1)))) := by
          rw [HT.out, bytesV_snoc, HV.out, <-HD.out]; simpa using hown2
        have HO3 := Ha hown3
        have HB2 := Ha ((GB.alloc GB.size _).grown hgrow (by have := GB.size; simp; omega) (fun j hj => (HO.out.lt j hj).1))
        clear hown2 hown3 hgrow; go_roundw
        case rel => exact ⟨k + 1, by omega, by go_num, HO3.out, HB2.out⟩
        case measure => simp [intOf]; omega
    · obtain rfl : k = S.size := by omega
      rw [List.take_of_length_le (by have := HSZ.out; omega)] at hown
      have hcv := str_of_own hown
      go_wp2_with fail
      go_ret
      exact ⟨rfl, GB⟩
theorem u8_of (q : Nat) (hq : q < 256) : IntKind.u8.wrap (q : Int) = (q : Int) := by
  have e : IntKind.u8.wrap (q : Int) = (q : Int) % 256 := rfl
  rw [e]; omega
theorem byte_newW (q : Nat) (W : World) (hq : q < 256) :
    (convert 115 9 (.slice (some ⟨W.heap.size, 0, none⟩) 1 1)).run Tryz.prog (W.alloc (.cells #[.int .u8 (IntKind.u8.wrap (q : Int))] 5)) = .ok (.string ⟨#[UInt8.ofNat q]⟩) (W.alloc (.cells #[.int .u8 (IntKind.u8.wrap (q : Int))] 5)) := by
  rw [u8_of q hq]
  exact byte_str q _ _ _ hq (Whole.new W 5 #[_]).cell1
theorem byte_laterW (q : Nat) {W W' : World} (hq : q < 256) (hB : Below (W.alloc (.cells #[.int .u8 (IntKind.u8.wrap (q : Int))] 5)).drew.heap.size (W.alloc (.cells #[.int .u8 (IntKind.u8.wrap (q : Int))] 5)).drew W') :
    (convert 115 9 (.slice (some ⟨W.heap.size, 0, none⟩) 1 1)).run Tryz.prog W' = .ok (.string ⟨#[UInt8.ofNat q]⟩) W' := by
  rw [u8_of q hq] at hB
  exact byte_str q _ _ _ hq ((hB.cell (p := ⟨W.heap.size, 0, none⟩) (by show W.heap.size < (W.alloc _).heap.size; simp)).trans (Whole.new W 5 #[_]).cell1)
theorem RefFold_any (S : ByteArray) (s : List UInt8) (w : World) (hS : S = mk s) :
    Calls Tryz.prog 186 #[.string S] w fun e w' => e = .returned (.string (mk (foldL s))) /\ Below w.heap.size w w' := by
  have HS := Ha hS
  clear hS
  cases h : nameL s with
  | none =>
    rw [foldL_none h]
    have HN := Ha h
    clear h; go_enter Tryz.func186, Tryz.ntmps186
    go_wp2_with fail
    refine (RefLabels_no S s _ HS.out HN.out).mono ?_
    rintro e w1 ⟨v, rfl, hB1⟩; go_wp2_with fail
    go_ret
    exact ⟨rfl, hB1⟩
  | some L =>
    have hg := (nameL_is h).2.1
    have hn := name_few h
    obtain ⟨n, hLn⟩ : ∃ n, n = L.length := ⟨_, rfl⟩
    have hn255 : n <= 255 := by omega
    rw [(foldL_some h).2.1]
    have HN := Ha h
    have HL := Ha hLn
    have HG := Ha hg
    clear h hg hLn hn; go_enter Tryz.func186, Tryz.ntmps186
    go_wp2_with fail
    refine (RefLabels_yes S s L _ HS.out HN.out).mono ?_
    rintro e w1 ⟨v, rfl, hown, hB1⟩; obtain ⟨A, c, rfl, hs⟩ := Sees.own hown
    rw [<-HL.out] at hs ⊢
    clear hown; go_wp2_with fail
    go_loopw [5, 6] (fun s i wr => ∃ m T, m <= n /\ i = .int .i64 (m : Nat) /\ s = .string T /\ OfRef (L.map lowS) m T /\ Below w1.heap.size w1 wr) (fun _ i _ => n - (intOf i).toNat)
    case atStart => exact ⟨0, ⟨#[]⟩, Nat.zero_le _, rfl, rfl, OfRef.start _, Below.refl _ _⟩
    case round =>
      obtain ⟨m, T, hm, rfl, rfl, hR, GB⟩ := hrel
      have hTz : T.size <= 64000 := by have := hR.size; omega
      have HR := Ha hR
      clear hR
      by_cases hlt : m < n
      · have h2 : m < L.length := by have := HL.out; omega
        obtain ⟨b, off, rfl, hbB, hc⟩ := textL_at (hs.below GB) hlt h2
        obtain ⟨X, hX⟩ : ∃ X, X = mk L[m] := ⟨_, rfl⟩
        have hXs : X.size = L[m].length := by rw [hX, mk_size]
        have hXb : X.size <= 63 := by rw [hXs]; exact (HG.out _ (List.getElem_mem h2)).2
        obtain ⟨Y, hY⟩ : ∃ Y, Y = mk (lowS L[m]) := ⟨_, rfl⟩
        have hYs : Y.size = X.size := by rw [hY, mk_size, lowS_len, hXs]
        have hYb : Y.size <= 63 := by omega
        have hst := HR.out.step (by simpa using h2) (by rw [List.getElem_map, lowS_len, <-hXs]; exact hXb)
        rw [List.getElem_map, lowS_len, <-hY, <-hXs] at hst
        rw [<-hX] at hc
        have HST := Ha hst
        have HX := Ha hX
        have HXs := Ha hXs
        have HY := Ha hY
        have hcv : (convert 115 9 (.slice (some ⟨wr.heap.size, 0, none⟩) 1 1)).run Tryz.prog ((wr.alloc (.cells #[.int .u8 (IntKind.u8.wrap (X.size : Int))] 5)).drew) = .ok (.string ⟨#[UInt8.ofNat X.size]⟩) ((wr.alloc (.cells #[.int .u8 (IntKind.u8.wrap (X.size : Int))] 5)).drew) := byte_newW X.size wr.drew (by omega)
        have hbl : b < wr.heap.size := by have := GB.size; omega
        have hcd : wr.drew.cell? ⟨b, off + m, none⟩ = some (.string X) := hc
        have hcd2 : (wr.alloc (.cells #[.int .u8 (IntKind.u8.wrap (X.size : Int))] 5)).drew.cell? ⟨b, off + m, none⟩ = some (.string X) := (((Below.refl wr.heap.size wr).alloc (Nat.le_refl _) _).cell (p := ⟨b, off + m, none⟩) hbl).trans hc
        clear hst hX hXs hY hYs; go_wp2_with fail
        have hmx : Tryz.prog.follows .mixedOrders = true := by kernel_rfl
        go_region_with (go_at_call 234; (refine (lower_any X L[m] _ HX.out (by have := HXs.out; omega)).mono ?_; rw [<-HY.out]; rintro e w2 ⟨rfl, hB2⟩; have hcx := (hB2.cell (p := ⟨b, off + m, none⟩) (by first | exact hbl | (simp; omega))).trans (show _ = some (Value.string X) by assumption); have GB2 : Below w1.heap.size w1 w2 := (by first | exact GB.drew.trans (hB2.mono GB.size) | exact (GB.alloc GB.size _).drew.trans (hB2.mono (GB.alloc GB.size _).size)); have hcv2 := byte_newW X.size w2 (by omega); have hbl2 : b < w2.heap.size := (by have := hB2.size; first | omega | (simp at this; omega)); try have hcv3 := byte_laterW X.size (by omega) hB2))
        all_goals go_wp2_with fail
        all_goals go_roundw
        all_goals first
          | exact ⟨m + 1, _, by omega, by go_num, rfl, HST.out, GB2⟩
          | exact ⟨m + 1, _, by omega, by go_num, rfl, HST.out, GB2.alloc GB2.size _⟩
          | (simp [intOf]; omega)
      · obtain rfl : m = n := by omega
        have e : (L.map lowS).take m = L.map lowS := List.take_of_length_le (by rw [List.length_map]; have := HL.out; omega)
        have hT := HR.out.1
        rw [e] at hT
        have hT2 : T ++ ⟨#[0]⟩ = mk (enc (L.map lowS)) := by
          rw [hT]
          show mk _ ++ mk [0] = _
          rw [mk_append]
          rfl
        have HT2 := Ha hT2
        clear hT hT2; go_wp2_with fail
        go_ret
        exact ⟨by rw [<-HT2.out]; rfl, hB1.trans (GB.mono hB1.size)⟩
end Go.Proofs.YtmpginmdaeclaaaGreatDoor
namespace Go.Proofs.YtmpginmdaeclaaaGreatDoor
open Go.RowKit
theorem RefAlike_any (A B : ByteArray) (a b : List UInt8) (w : World) (hA : A = mk a) (hB : B = mk b) :
    Calls Tryz.prog 142 #[.string A, .string B] w fun e w' => e = .returned (.bool (alikeN a b)) /\ Below w.heap.size w w' := by
  have HA := Ha hA
  have HB := Ha hB
  clear hA hB
  cases h : nameL a with
  | none =>
    have h' : (nameL a).isSome = false := by rw [h]; rfl
    have hal : alikeN a b = false := by unfold alikeN; rw [h]
    rw [hal]
    clear h hal; go_enter Tryz.func142, Tryz.ntmps142
    go_wp2_with fail
    refine (RefRight_any A a _ HA.out).mono ?_
    rw [h']
    rintro e w1 ⟨rfl, hB1⟩; go_wp2_with fail
    go_ret
    exact ⟨rfl, hB1⟩
  | some L =>
    have h' : (nameL a).isSome = true := by rw [h]; rfl
    cases k : nameL b with
    | none =>
      have k' : (nameL b).isSome = false := by rw [k]; rfl
      have hal : alikeN a b = false := by unfold alikeN; rw [h, k]
      rw [hal]
      clear h k hal; go_enter Tryz.func142, Tryz.ntmps142
      go_wp2_with fail
      refine (RefRight_any A a _ HA.out).mono ?_
      rw [h']
      rintro e w1 ⟨rfl, hB1⟩; go_wp2_with fail
      refine (RefRight_any B b _ HB.out).mono ?_
      rw [k']
      rintro e w2 ⟨rfl, hB2⟩; go_wp2_with fail
      go_ret
      exact ⟨rfl, hB1.trans (hB2.mono hB1.size)⟩
    | some M =>
      have k' : (nameL b).isSome = true := by rw [k]; rfl
      have hal : ((mk (foldL a)).toList == (mk (foldL b)).toList) = alikeN a b := by rw [mk_beq, alike_fold a b h]
      clear h k; go_enter Tryz.func142, Tryz.ntmps142
      go_wp2_with fail
      refine (RefRight_any A a _ HA.out).mono ?_
      rw [h']
      rintro e w1 ⟨rfl, hB1⟩; go_wp2_with fail
      refine (RefRight_any B b _ HB.out).mono ?_
      rw [k']
      rintro e w2 ⟨rfl, hB2⟩; have GB2 := hB1.trans (hB2.mono hB1.size)
      go_wp2_with fail
      refine (RefFold_any A a _ HA.out).mono ?_
      rintro e w3 ⟨rfl, hB3⟩; have GB3 := GB2.trans (hB3.mono GB2.size)
      go_wp2_with fail
      refine (RefFold_any B b _ HB.out).mono ?_
      rintro e w4 ⟨rfl, hB4⟩; go_wp2_with fail
      go_ret
      exact ⟨rfl, GB3.trans (hB4.mono GB3.size)⟩
end Go.Proofs.YtmpginmdaeclaaaGreatDoor
