/- Parts of the proofs of the statements of image. No statement of the seat is proved here. -/
import Derived.Shelf.SlMaps.Clone
import Derived.Shelf.Pu.Clone
import Derived.Ground.SlmcProg
import Derived.Ground.MpProg
import Derived.Test.YtmpginmdaeclaaaGreatDoorProg
import Derived.Test.YtmpginmdaeclaaaGreatDoorNaA
import Derived.BigQuiet
import Derived.Laws.Cover1
import Derived.Deep.AppendSrc
import Derived.Deep.RegionWith
set_option maxHeartbeats 32000000
set_option maxRecDepth 20000
namespace Go.Proofs.YtmpginmdaeclaaaGreatDoor
open Go.Shelf
def cloneL_ren : Go.Shelf.Ren := ⟨fun | 5 => 277 | 7 => 101 | n => n, fun | 23 => 264 | 25 => 9 | 3 => 3 | 4 => 4 | 20 => 20 | n => n, fun | n => n⟩
theorem cloneL : Go.Proofs.SlLaysW.n5 Tryz.prog cloneL_ren := {
  mixed := by kernel_rfl
  f5 := ⟨Tryz.f277.name, by decide, Tryz.func277.trans (congrArg some (by kernel_rfl))⟩
  f7 := Tryz.func101.trans (congrArg some (by kernel_rfl))
  t4 := Tryz.underlying4
  a4 := Tryz.isAgg4
  z4 := Tryz.sizeOf4
  v4 := Tryz.zeroValue4
  t20 := Tryz.underlying20
  a20 := Tryz.isAgg20
  z20 := Tryz.sizeOf20
  v20 := Tryz.zeroValue20
  t23 := Tryz.underlying264
  a23 := Tryz.isAgg264
  z23 := Tryz.sizeOf264
  v23 := Tryz.zeroValue264 }
def dkCloneL_ren : Go.Shelf.Ren := ⟨fun | 5 => 42 | 7 => 101 | n => n, fun | 23 => 77 | 25 => 9 | 3 => 92 | 4 => 4 | 20 => 20 | n => n, fun | n => n⟩
theorem dkCloneL : Go.Proofs.SlLaysW.n5 Tryz.prog dkCloneL_ren := {
  mixed := by kernel_rfl
  f5 := ⟨Tryz.f42.name, by decide, Tryz.func42.trans (congrArg some (by kernel_rfl))⟩
  f7 := Tryz.func101.trans (congrArg some (by kernel_rfl))
  t4 := Tryz.underlying4
  a4 := Tryz.isAgg4
  z4 := Tryz.sizeOf4
  v4 := Tryz.zeroValue4
  t20 := Tryz.underlying20
  a20 := Tryz.isAgg20
  z20 := Tryz.sizeOf20
  v20 := Tryz.zeroValue20
  t23 := Tryz.underlying77
  a23 := Tryz.isAgg77
  z23 := Tryz.sizeOf77
  v23 := Tryz.zeroValue77 }
def scloneL_ren : Go.Shelf.Ren := ⟨fun | 25 => 158 | n => n, fun | 9 => 9 | 3 => 3 | 4 => 4 | 37 => 115 | 0 => 0 | 47 => 193 | 5 => 5 | n => n, fun | n => n⟩
theorem scloneL : Go.Proofs.LaysPu.n25 Tryz.prog scloneL_ren := {
  mixed := by kernel_rfl
  f25 := Tryz.func158.trans (congrArg some (by kernel_rfl))
  t0 := Tryz.underlying0
  a0 := Tryz.isAgg0
  z0 := Tryz.sizeOf0
  v0 := Tryz.zeroValue0
  i0 := by kernel_rfl
  t3 := Tryz.underlying3
  a3 := Tryz.isAgg3
  z3 := Tryz.sizeOf3
  v3 := Tryz.zeroValue3
  i3 := by kernel_rfl
  t4 := Tryz.underlying4
  a4 := Tryz.isAgg4
  z4 := Tryz.sizeOf4
  v4 := Tryz.zeroValue4
  i4 := by kernel_rfl
  t5 := Tryz.underlying5
  a5 := Tryz.isAgg5
  z5 := Tryz.sizeOf5
  v5 := Tryz.zeroValue5
  i5 := by kernel_rfl
  t9 := Tryz.underlying9
  a9 := Tryz.isAgg9
  z9 := Tryz.sizeOf9
  v9 := Tryz.zeroValue9
  i9 := by kernel_rfl
  t37 := Tryz.underlying115
  a37 := Tryz.isAgg115
  z37 := Tryz.sizeOf115
  v37 := Tryz.zeroValue115
  i37 := by kernel_rfl
  t47 := Tryz.underlying193
  a47 := Tryz.isAgg193
  z47 := Tryz.sizeOf193
  v47 := Tryz.zeroValue193
  i47 := by kernel_rfl }
end Go.Proofs.YtmpginmdaeclaaaGreatDoor
set_option maxHeartbeats 32000000
set_option maxRecDepth 20000
namespace Go.Proofs.YtmpginmdaeclaaaGreatDoor
open Go.RowKit
theorem mk_get {S : ByteArray} {s : List UInt8} (hS : S = mk s) {k : Nat} (h : k < S.size) (h' : k < s.length) : (S[k]'h).toNat = s[k].toNat := by subst hS; rfl
theorem textL_snoc (L : List (List UInt8)) (x : List UInt8) : textL (L ++ [x]) = textL L ++ [.string (mk x)] := by simp [textL, texts]
def RefNm (s : List UInt8) (k : Nat) (out : List (List UInt8)) : Prop := parse s = (parse (s.drop k)).map (out ++ ·) /\ out.length <= k
theorem RefNm.start (s : List UInt8) : RefNm s 0 [] := ⟨by simp, Nat.le_refl _⟩
theorem drop_cons {s : List UInt8} {k : Nat} (h : k < s.length) : s.drop k = s[k] :: s.drop (k + 1) := List.drop_eq_getElem_cons h
theorem RefNm.over {s : List UInt8} {k : Nat} {out : List (List UInt8)} (h : RefNm s k out) (hk : s.length <= k) : parse s = none := by
  rw [h.1, List.drop_of_length_le hk, parse_none rfl]; rfl
theorem RefNm.zero {s : List UInt8} {k : Nat} {out : List (List UInt8)} (h : RefNm s k out) (hk : k < s.length) (h0 : s[k].toNat = 0) : parse s = if k + 1 = s.length then some out else none := by
  have e : s[k] = 0 := UInt8.toNat_inj.1 (by simpa using h0)
  rw [h.1, drop_cons hk, e, parse_some (cut_zero _), if_pos rfl]
  by_cases hl : k + 1 = s.length
  · rw [if_pos hl, if_pos (List.drop_of_length_le (by omega))]; simp
  · rw [if_neg hl, if_neg (by intro e'; have := congrArg List.length e'; simp at this; omega)]; rfl
theorem RefNm.far {s : List UInt8} {k : Nat} {out : List (List UInt8)} (h : RefNm s k out) (hk : k < s.length) (hf : s.length < k + 1 + s[k].toNat) : parse s = none := by
  rw [h.1, drop_cons hk, parse_none]
  · rfl
  · simp only [cutL]; rw [if_pos (by simp; omega)]
theorem RefNm.long {s : List UInt8} {k : Nat} {out : List (List UInt8)} (h : RefNm s k out) (hk : k < s.length) (hf : 63 < s[k].toNat) : parse s = none := by
  by_cases hl : s.length < k + 1 + s[k].toNat
  · exact h.far hk hl
  · have hc : cutL (s.drop k) = some ((s.drop (k + 1)).take s[k].toNat, (s.drop (k + 1)).drop s[k].toNat) := by
      rw [drop_cons hk]; simp only [cutL]; rw [if_neg (by simp; omega)]
    have hlen : ((s.drop (k + 1)).take s[k].toNat).length = s[k].toNat := by simp; omega
    rw [h.1, parse_some hc, if_neg (by intro e; rw [e] at hlen; simp at hlen; omega), if_pos (by omega)]
    rfl
theorem RefNm.step {s : List UInt8} {k : Nat} {out : List (List UInt8)} (h : RefNm s k out) (hk : k < s.length) (h0 : 0 < s[k].toNat) (h63 : s[k].toNat <= 63) (hl : k + 1 + s[k].toNat <= s.length) :
    RefNm s (k + 1 + s[k].toNat) (out ++ [(s.take (k + 1 + s[k].toNat)).drop (k + 1)]) := by
  have hc : cutL (s.drop k) = some ((s.drop (k + 1)).take s[k].toNat, (s.drop (k + 1)).drop s[k].toNat) := by
    rw [drop_cons hk]; simp only [cutL]; rw [if_neg (by simp; omega)]
  have hlen : ((s.drop (k + 1)).take s[k].toNat).length = s[k].toNat := by simp; omega
  have e1 : (s.take (k + 1 + s[k].toNat)).drop (k + 1) = (s.drop (k + 1)).take s[k].toNat := by
    rw [List.drop_take]; congr 1; omega
  refine ⟨?_, by have := h.2; simp; omega⟩
  rw [h.1, parse_some hc, if_neg (by intro e; rw [e] at hlen; simp at hlen; omega), if_neg (by omega), e1, List.drop_drop, Option.map_map]
  congr 1
  funext L
  simp
def RefOut (s : List UInt8) (w : World) (e : Ending) (w' : World) : Prop :=
  ∃ v out ok, e = .returned (.tuple #[v, .bool ok]) /\ w'.ownsRow w.heap.size 9 1 v out.length (textL out) /\ ((ok = false /\ nameL s = none) \/ (ok = true /\ nameL s = some out)) /\ Below w.heap.size w w'
theorem RefLabels_short (S : ByteArray) (s : List UInt8) (w : World) (hS : S = mk s) (hl : s.length <= 255) :
    Calls Tryz.prog 136 #[.string S] w (RefOut s w) := by
  have hSz : S.size = s.length := by rw [hS, mk_size]
  have hle : ¬ (255 : Int) < (S.size : Int) := by omega
  have hN : nameL s = parse s := by unfold nameL; rw [if_neg (by omega)]
  have HS := Ha hS
  have HSZ := Ha hSz
  have HN := Ha hN
  have hS255 : S.size <= 255 := by omega
  clear hS hSz hN
  go_enter Tryz.func136, Tryz.ntmps136
  go_wp2_with fail
  go_loopw [4, 5] (fun v i wr => ∃ (k : Nat) (out : List (List UInt8)), k <= S.size /\ i = .int .i64 k /\ wr.ownsRow w.heap.size 9 1 v out.length (textL out) /\ RefNm s k out /\ Below w.heap.size w wr) (fun _ i _ => S.size - (intOf i).toNat)
  case atStart => exact ⟨0, [], Nat.zero_le _, rfl, World.ownsRow_nil _ _ _ _, RefNm.start s, Below.refl _ _⟩
  case round =>
    obtain ⟨k, out, hk, rfl, hown, hp, GB⟩ := hrel
    have HP := Ha hp
    have HO := Ha hown
    clear hp
    by_cases hlt : k < S.size
    · have hks : k < s.length := by have := HSZ.out; omega
      obtain ⟨d, hd⟩ : ∃ d, d = s[k].toNat := ⟨_, rfl⟩
      have hc : (S[k]'hlt).toNat = d := by rw [mk_get HS.out hlt hks, hd]
      have hd255 : d <= 255 := by have := s[k].toNat_lt; omega
      have HD := Ha hd
      clear hd
      by_cases h0 : d = 0
      · subst h0
        have hz := HP.out.zero hks HD.out.symm
        by_cases hend : k + 1 = S.size
        · have e0 : nameL s = some out := by rw [HN.out, hz, if_pos (by have := HSZ.out; omega)]
          have HE := Ha e0
          have g1 : ((k : Int) == (S.size : Int) - 1) = true := by rw [beq_iff_eq]; omega
          clear e0 hz hown hend; go_wp2_with fail
          go_quiet (fail)
          go_wp2_with fail
          go_ret2
          exact ⟨_, out, _, rfl, HO.out, .inr ⟨rfl, HE.out⟩, below_drewN GB _⟩
        · have e0 : nameL s = none := by rw [HN.out, hz, if_neg (by have := HSZ.out; omega)]
          have HE := Ha e0
          have g1 : ((k : Int) == (S.size : Int) - 1) = false := by rw [beq_eq_false_iff_ne]; omega
          clear e0 hz hown hend; go_wp2_with fail
          go_quiet (fail)
          go_wp2_with fail
          go_ret2
          exact ⟨_, out, _, rfl, HO.out, .inl ⟨rfl, HE.out⟩, below_drewN GB _⟩
      · have hd0 : (0 : Int) < (d : Int) := by omega
        by_cases h63 : 63 < d
        · have e0 : nameL s = none := by rw [HN.out, HP.out.long hks (by rw [<-HD.out]; exact h63)]
          have HE := Ha e0
          have g1 : (63 : Int) < (d : Int) := by omega
          clear e0 hown; go_wp2_with fail
          go_ret2
          exact ⟨_, [], _, rfl, World.ownsRow_nil _ _ _ _, .inl ⟨rfl, HE.out⟩, GB⟩
        · have g1 : ¬ (63 : Int) < (d : Int) := by omega
          by_cases hfar : S.size < k + 1 + d
          · have e0 : nameL s = none := by rw [HN.out, HP.out.far hks (by rw [<-HD.out]; have := HSZ.out; omega)]
            have HE := Ha e0
            have g2 : (S.size : Int) < (k : Int) + 1 + (d : Int) := by omega
            clear e0 hown; go_wp2_with fail
            go_ret2
            exact ⟨_, [], _, rfl, World.ownsRow_nil _ _ _ _, .inl ⟨rfl, HE.out⟩, GB⟩
          · have g2 : ¬ (S.size : Int) < (k : Int) + 1 + (d : Int) := by omega
            have hst := HP.out.step hks (by rw [<-HD.out]; omega) (by rw [<-HD.out]; omega) (by rw [<-HD.out]; have := HSZ.out; omega)
            rw [<-HD.out] at hst
            have hex : S.extract (k + 1) (k + 1 + d) = mk ((s.take (k + 1 + d)).drop (k + 1)) := by rw [HS.out, mk_extract]
            have hto : ((k : Int) + 1 + (d : Int)).toNat = k + 1 + d := by omega
            have HST := Ha hst
            have HEX := Ha hex
            have hol : out.length <= 255 := by have := HP.out.2; omega
            have H63 : Hid (out.length + 1 <= maxLen) := Ha (by unfold maxLen; omega)
            have H47 : Hid ((out.length + 1) * 16 <= 140737488355328) := Ha (by omega)
            obtain ⟨i0, hi0, hz0, hz1, hz2⟩ := info_parts text_info
            clear hst hex hown hol h0; go_wp2_with (at_builtin; refine wpList_append_own _ rfl _ _ 68 rfl w.heap.size 9 i0 (.string ⟨#[]⟩) 1 16 Tryz.underlying68 hi0 hz0 hz1 hz2 rfl (by decide) _ _ _ rfl (HO.out.alloc _) ⟨wr.heap.size, 0, none⟩ 1 1 [.string (S.extract (k + 1) (k + 1 + d))] rfl rfl (news1 _ _ _) (one1 _ rfl) H63.out H47.out (by have := GB.size; simp; omega) ?_; intro v2 w2 hown2 hgrow _)
            have hown3 : w2.ownsRow w.heap.size 9 1 v2 (out ++ [(s.take (k + 1 + d)).drop (k + 1)]).length (textL (out ++ [(s.take (k + 1 + d)).drop (k + 1)])) := by
              rw [textL_snoc, <-HEX.out]; simpa using hown2
            have HO3 := Ha hown3
            have HB2 := Ha ((GB.alloc GB.size _).grown hgrow (by have := GB.size; simp; omega) (fun j hj => (HO.out.lt j hj).1))
            clear hown2 hown3 hgrow; go_roundw
            case rel => exact ⟨k + 1 + d, _, by omega, by simp; omega, HO3.out, HST.out, HB2.out⟩
            case measure => simp [intOf]; omega
    · obtain rfl : k = S.size := by omega
      have e0 : nameL s = none := by rw [HN.out, HP.out.over (by have := HSZ.out; omega)]
      have HE := Ha e0
      have g1 : ((S.size : Int) == (S.size : Int) - 1) = false := by rw [beq_eq_false_iff_ne]; omega
      clear e0 hown; go_wp2_with fail
      go_quiet (fail)
      go_wp2_with fail
      go_ret2
      exact ⟨_, out, _, rfl, HO.out, .inl ⟨rfl, HE.out⟩, below_drewN GB _⟩
theorem RefLabels_any (S : ByteArray) (s : List UInt8) (w : World) (hS : S = mk s) :
    Calls Tryz.prog 136 #[.string S] w (RefOut s w) := by
  by_cases hl : s.length <= 255
  · exact RefLabels_short S s w hS hl
  · have hle : (255 : Int) < (S.size : Int) := by rw [hS, mk_size]; omega
    have hN : nameL s = none := by unfold nameL; rw [if_pos (by omega)]
    have HN := Ha hN
    clear hS hN; go_enter Tryz.func136, Tryz.ntmps136
    go_wp2_with fail
    go_ret2
    exact ⟨_, [], _, rfl, World.ownsRow_nil _ _ _ _, .inl ⟨rfl, HN.out⟩, Below.refl _ _⟩
theorem RefLabels_no (S : ByteArray) (s : List UInt8) (w : World) (hS : S = mk s) (h : nameL s = none) :
    Calls Tryz.prog 136 #[.string S] w fun e w' => ∃ v, e = .returned (.tuple #[v, .bool false]) /\ Below w.heap.size w w' := by
  refine (RefLabels_any S s w hS).mono ?_
  rintro e w' ⟨v, out, ok, rfl, _, ⟨rfl, _⟩ | ⟨_, h'⟩, hB⟩
  · exact ⟨v, rfl, hB⟩
  · rw [h] at h'; cases h'
theorem RefLabels_yes (S : ByteArray) (s : List UInt8) (L : List (List UInt8)) (w : World) (hS : S = mk s) (h : nameL s = some L) :
    Calls Tryz.prog 136 #[.string S] w fun e w' => ∃ v, e = .returned (.tuple #[v, .bool true]) /\ w'.ownsRow w.heap.size 9 1 v L.length (textL L) /\ Below w.heap.size w w' := by
  refine (RefLabels_any S s w hS).mono ?_
  rintro e w' ⟨v, out, ok, rfl, hown, ⟨_, h'⟩ | ⟨rfl, h'⟩, hB⟩
  · rw [h] at h'; cases h'
  · rw [h] at h'; injection h' with h'; subst h'; exact ⟨v, rfl, hown, hB⟩
theorem RefRight_any (S : ByteArray) (s : List UInt8) (w : World) (hS : S = mk s) :
    Calls Tryz.prog 79 #[.string S] w fun e w' => e = .returned (.bool (nameL s).isSome) /\ Below w.heap.size w w' := by
  have HS := Ha hS
  clear hS
  go_enter Tryz.func79, Tryz.ntmps79
  go_wp2_with fail
  refine (RefLabels_any S s _ HS.out).mono ?_
  rintro e w1 ⟨v, out, ok, rfl, _, hok, hB1⟩
  have ho : ok = (nameL s).isSome := by
    rcases hok with ⟨rfl, h⟩ | ⟨rfl, h⟩ <;> rw [h] <;> rfl
  have HO := Ha ho
  clear hok ho
  go_wp2_with fail
  go_ret
  exact ⟨by rw [<-HO.out]; rfl, hB1⟩
end Go.Proofs.YtmpginmdaeclaaaGreatDoor
