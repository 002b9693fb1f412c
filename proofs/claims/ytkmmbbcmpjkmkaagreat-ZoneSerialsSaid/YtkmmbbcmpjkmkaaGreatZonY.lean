/- ZoneSerials. No statement of the seat is proved here. (written by gen_y2.py) -/
import Derived.Test.YtkmmbbcmpjkmkaaGreatZonH
import Derived.Deep.RegionHeld3
namespace Go.Proofs.YtkmmbbcmpjkmkaaGreat
open Go.RowKit Go.Op
set_option linter.unusedVariables false

theorem u32_is {a : Int} (h : (Lit.int .u32 a).wf = true) : ∃ v : Nat, a = (v : Int) ∧ v < 4294967296 := by
  have h2 : 0 ≤ a ∧ a ≤ 4294967295 := by simpa [Lit.wf, IntKind.min, IntKind.max, IntKind.bits, IntKind.signed] using h
  exact ⟨a.toNat, by omega, by omega⟩
theorem ofC_set' {l : List Rrd} (h : SetL cX l) : ofC l = l := by
  have hs : Srt cX l := by
    refine List.Pairwise.imp ?_ h
    intro a b e
    have := cX_flip a b
    omega
  have hl : ∀ l : List Rrd, SetL cX l → lastX l = l := by
    intro l
    induction l with
    | nil => intro _; rfl
    | cons x l ih =>
      intro h
      cases l with
      | nil => rfl
      | cons y l =>
        obtain ⟨h1, h2⟩ := List.pairwise_cons.1 h
        have e := h1 y (by simp)
        rw [lastX, if_neg (by omega), ih h2]
  rw [← lastX_of hs (St.refl l), hl l h]
set_option maxHeartbeats 32000000 in
set_option maxRecDepth 20000 in
theorem ZoneSerials_walk (N : ByteArray) (A : Option Addr) (n c : Nat) (xs : List Rrd) (by0 : Int) (w : World) (hx : SeesR w w.heap.size A n xs) (h63 : n ≤ 9223372036854775807) (hby : (Lit.int .u32 by0).wf = true) :
    Calls Tryz.prog 5 #[.string N, .slice A n c, .int .u32 by0] w fun e w' => e = .returned (.bool true) ∧ Below w.heap.size w w' := by
  obtain ⟨nv, rfl, hnv⟩ := u32_is hby
  clear hby
  obtain ⟨nn, hnn⟩ : ∃ nn, N = mk nn := ⟨_, (mk_toList N).symm⟩
  have HN := Lib.hid hnn
  have HX := Lib.hid hx
  have HLX := Lib.hid hx.1
  clear hx hnn
  cases hf : fewL xs with
  | false =>
    have HF := Lib.hid hf
    clear hf
    go_enter Tryz.func5, Tryz.ntmps5
    go_wp2_with fail
    refine (zawake_any _).mono ?_
    rintro e w1 ⟨rfl, hB⟩
    have HB1 := Lib.hid hB
    have HX1 := Lib.hid ((HX.out.keep hB).more hB.size)
    clear hB
    go_wp2_with fail
    refine (Few_any A n c xs _ HX1.out h63).mono ?_
    rw [HF.out]
    rintro e w2 ⟨rfl, hB⟩
    have HB2 := Lib.hid (HB1.out.trans (hB.mono HB1.out.size))
    have HX2 := Lib.hid ((HX1.out.keep hB).more hB.size)
    clear hB
    go_wp2_with fail
    refine (zawake_any _).mono ?_
    rintro e w3 ⟨rfl, hB⟩
    have HB3 := Lib.hid (HB2.out.trans (hB.mono HB2.out.size))
    have HX3 := Lib.hid ((HX2.out.keep hB).more hB.size)
    clear hB
    go_wp2_with fail
    go_ret
    exact ⟨rfl, HB3.out⟩
  | true =>
    obtain ⟨h30, hlow⟩ := fewL_is hf
    have hn30 : n ≤ 30 := by have := HLX.out; omega
    have HLOW := Lib.hid hlow
    have HF := Lib.hid hf
    clear hf hlow h30
    go_enter Tryz.func5, Tryz.ntmps5
    go_wp2_with fail
    refine (zawake_any _).mono ?_
    rintro e w1 ⟨rfl, hB⟩
    have HB1 := Lib.hid hB
    have HX1 := Lib.hid ((HX.out.keep hB).more hB.size)
    clear hB
    go_wp2_with fail
    refine (Few_any A n c xs _ HX1.out h63).mono ?_
    rw [HF.out]
    rintro e w2 ⟨rfl, hB⟩
    have HB2 := Lib.hid (HB1.out.trans (hB.mono HB1.out.size))
    have HX2 := Lib.hid ((HX1.out.keep hB).more hB.size)
    clear hB
    go_wp2_with fail
    refine (ZNew_any A n c N nn xs _ HN.out HX2.out (by omega) HLOW.out).mono ?_
    rintro e w3 ⟨h, hB⟩
    have HB3 := Lib.hid (HB2.out.trans (hB.mono HB2.out.size))
    have HX3 := Lib.hid ((HX2.out.keep hB).more hB.size)
    clear hB
    rcases h with ⟨hc, rfl⟩ | ⟨hc, rfl⟩ | ⟨hc, z, rfl, hz⟩
    · have HC := Lib.hid hc
      have hb4 : Below w3.heap.size w3 (w3.alloc (.cells #[.string ⟨#[]⟩, .slice none 0 0, .string ⟨#[]⟩, .int .i64 0, .int .i64 0, .int .i64 0, .string ⟨#[]⟩] zoT)) := (Below.refl _ _).alloc (Nat.le_refl _) _
      have HB4 := Lib.hid (HB3.out.trans (hb4.mono HB3.out.size))
      have HX4 := Lib.hid ((HX3.out.keep hb4).more hb4.size)
      clear hb4
      clear hc
      unfold zeroZ
      go_wp2_with fail
      refine (RefNew_any A n c N nn xs _ HN.out HX4.out (by omega) HLOW.out).mono ?_
      rintro e w5 ⟨h, hB⟩
      have HB5 := Lib.hid (HB4.out.trans (hB.mono HB4.out.size))
      clear hB
      rcases h with ⟨hc, rfl⟩ | ⟨hc, rfl⟩ | ⟨hc, z, rfl, hz⟩
      · clear hc
        go_wp2_with fail
        go_ret
        exact ⟨rfl, HB5.out.alloc HB5.out.size _⟩
      · rw [HC.out] at hc; cases hc
      · rw [HC.out] at hc; cases hc
    · have HC := Lib.hid hc
      have hb4 : Below w3.heap.size w3 (w3.alloc (.cells #[.string ⟨#[]⟩, .slice none 0 0, .string ⟨#[]⟩, .int .i64 0, .int .i64 0, .int .i64 0, .string ⟨#[]⟩] zoT)) := (Below.refl _ _).alloc (Nat.le_refl _) _
      have HB4 := Lib.hid (HB3.out.trans (hb4.mono HB3.out.size))
      have HX4 := Lib.hid ((HX3.out.keep hb4).more hb4.size)
      clear hb4
      clear hc
      unfold zeroZ
      go_wp2_with fail
      refine (RefNew_any A n c N nn xs _ HN.out HX4.out (by omega) HLOW.out).mono ?_
      rintro e w5 ⟨h, hB⟩
      have HB5 := Lib.hid (HB4.out.trans (hB.mono HB4.out.size))
      clear hB
      rcases h with ⟨hc, rfl⟩ | ⟨hc, rfl⟩ | ⟨hc, z, rfl, hz⟩
      · rw [HC.out] at hc; cases hc
      · clear hc
        go_wp2_with fail
        go_ret
        exact ⟨rfl, HB5.out.alloc HB5.out.size _⟩
      · rw [HC.out] at hc; cases hc
    · have HC := Lib.hid hc
      obtain ⟨hname, hall, hisz⟩ := codeZ_zero hc
      have hok := HLOW.out.ok hall
      obtain ⟨D, hD⟩ : ∃ D, D = ofC xs := ⟨_, rfl⟩
      have hset : SetL cX D := by rw [hD]; exact ofC_set xs
      have hokD : OkL D := by rw [hD]; exact hok.ofC
      have hDl : D.length ≤ 30 := by rw [hD]; have := ofC_len xs; have := HLX.out; omega
      rw [← hD] at hz hisz
      have HDE := Lib.hid hD
      have HNAME := Lib.hid hname
      have HISZ := Lib.hid hisz
      have HSET := Lib.hid hset
      have HKD := Lib.hid hset.keys
      have HOKD := Lib.hid hokD
      have HZ3 := Lib.hid hz
      obtain ⟨A3, c3, s3, rfl, _, _, hsoa⟩ := hz
      have HSOA := Lib.hid hsoa
      clear hc hname hall hisz hok hD hset hokD hsoa
      have hw0 := Whole.new w3 zoT #[.string N, .slice A3 D.length c3, .string s3.s, .int .i64 s3.t, .int .i64 s3.c, .int .i64 s3.l, .string s3.d]
      have hB0 : Below w3.heap.size w3 (w3.alloc (.cells #[.string N, .slice A3 D.length c3, .string s3.s, .int .i64 s3.t, .int .i64 s3.c, .int .i64 s3.l, .string s3.d] zoT)) := (Below.refl _ _).alloc (Nat.le_refl _) _
      have HZ4 := Lib.hid (HZ3.out.later hB0)
      have HWZ4 := Lib.hid hw0
      have HX4 := Lib.hid ((HX3.out.keep hB0).more hB0.size)
      have HB4 := Lib.hid (HB3.out.trans (hB0.mono HB3.out.size))
      clear hw0 hB0
      go_wp2_with fail
      refine (RefNew_any A n c N nn xs _ HN.out HX4.out (by omega) HLOW.out).mono ?_
      rintro e w5 ⟨h, hB⟩
      have HZ5 := Lib.hid (HZ4.out.later hB)
      have HWZ5 := Lib.hid (HWZ4.out.below hB HWZ4.out.lt)
      have HB5 := Lib.hid (HB4.out.trans (hB.mono HB4.out.size))
      clear hB
      rcases h with ⟨hc, _⟩ | ⟨hc, _⟩ | ⟨_, r5, rfl, hr5⟩
      · rw [HC.out] at hc; cases hc
      · rw [HC.out] at hc; cases hc
      · rw [← HDE.out] at hr5
        have HR5 := Lib.hid hr5
        obtain ⟨A5, c5, rfl, hs5, _⟩ := hr5
        have hw0 := Whole.new w5 rzT #[.string N, .slice A5 D.length c5]
        have hB0 : Below w5.heap.size w5 (w5.alloc (.cells #[.string N, .slice A5 D.length c5] rzT)) := (Below.refl _ _).alloc (Nat.le_refl _) _
        obtain ⟨W6, hW6⟩ : ∃ W, W = w5.alloc (.cells #[.string N, .slice A5 D.length c5] rzT) := ⟨_, rfl⟩
        rw [← hW6] at hw0 hB0
        have HZ6 := Lib.hid (HZ5.out.later hB0)
        have HWZ6 := Lib.hid (HWZ5.out.below hB0 HWZ5.out.lt)
        have HR6 := Lib.hid (HR5.out.later hB0)
        have HS6 := Lib.hid ((hs5.keep hB0).more hB0.size)
        have HWR6 := Lib.hid hw0
        have HB6 := Lib.hid (HB5.out.trans (hB0.mono HB5.out.size))
        have HW6 := Lib.hid hW6
        obtain ⟨gz, hgz⟩ : ∃ g, g = w3.heap.size := ⟨_, rfl⟩
        obtain ⟨gw, hgw⟩ : ∃ g, g = w5.heap.size := ⟨_, rfl⟩
        rw [← hgz] at HWZ6
        rw [← hgw] at HWR6
        have HGZ := Lib.hid hgz
        have HGW := Lib.hid hgw
        clear hw0 hB0 hs5 hW6 hgz hgw
        obtain ⟨e1, e6, emem, hsl, m7, r7, a7, b7, k7, d7, f7, h7⟩ := soa_of HISZ.out HOKD.out HSOA.out
        have oks3 := HOKD.out s3 emem
        have H7 := Lib.hid h7
        obtain ⟨s1, hs1⟩ : ∃ s1, s1 = withD s3 (serD m7 r7 nv b7 k7 d7 f7) := ⟨_, rfl⟩
        have ok1 : OkX s1 := by rw [hs1]; exact ser_ok oks3 e1 e6 h7 nv
        obtain ⟨D1, hO1⟩ := other_of HISZ.out HSET.out HOKD.out HSOA.out (show OkX (withD s3 (serD m7 r7 nv b7 k7 d7 f7)) by rw [← hs1]; exact ok1)
        rw [← hs1] at hO1
        have h71 : Soa7 s1.toRec.d m7 r7 (be nv 4) b7 k7 d7 f7 := by rw [hs1, (withD_rec s3 _).1]; exact ser_soa h7 nv
        have hsl1 : s1.toRec.d.length ≤ 65535 := by have := ok1.data; omega
        have hback : withD s1 (serD m7 r7 (num a7) b7 k7 d7 f7) = s3 := by
          rw [ser_self h7]
          have h0 := withD_self s3
          rw [hs1]
          exact h0
        have hD1l : D1.length ≤ 30 := by rw [hO1.len]; exact hDl
        have hO2 : Other nn D1 s1 D (withD s1 (serD m7 r7 (num a7) b7 k7 d7 f7)) := by
          obtain ⟨D2, h2⟩ := other_of hO1.zone hO1.set hO1.ok hO1.typ (show OkX (withD s1 (serD m7 r7 (num a7) b7 k7 d7 f7)) by rw [hback]; exact oks3)
          have e2 : D2 = D := by
            have := h2.put
            rw [hback, hO1.back] at this
            exact this.symm
          rw [e2] at h2
          exact h2
        have hcmp : SetL cmpX D := (SetL_c HOKD.out).2 HSET.out
        have hcmp1 : SetL cmpX D1 := (SetL_c hO1.ok).2 hO1.set
        obtain ⟨n0, hn0⟩ : ∃ k, k = num a7 := ⟨_, rfl⟩
        have hn0l : n0 < 4294967296 := by rw [hn0]; exact num_lt4 h7.four.1
        rw [← hn0] at hO2 hback
        have hcap3 : InCap A3 D.length c3 := by
          obtain ⟨A', c', s', e, _, h, _⟩ := HZ6.out
          simp only [Value.agg.injEq, Array.mk.injEq, List.cons.injEq, Value.slice.injEq, true_and, and_true] at e
          obtain ⟨⟨rfl, rfl⟩, _⟩ := e
          exact h
        have hcap5 : InCap A5 D.length c5 := by
          obtain ⟨A', c', e, _, h⟩ := HR6.out
          simp only [Value.agg.injEq, Array.mk.injEq, List.cons.injEq, Value.slice.injEq, true_and, and_true] at e
          obtain ⟨rfl, rfl⟩ := e
          exact h
        have hsz3 : SeesR W6 W6.heap.size A3 D.length D := by
          obtain ⟨A', c', s', e, h, _, _⟩ := HZ6.out
          simp only [Value.agg.injEq, Array.mk.injEq, List.cons.injEq, Value.slice.injEq, true_and, and_true] at e
          obtain ⟨⟨rfl, rfl⟩, _⟩ := e
          exact h
        have HSZ6 := Lib.hid hsz3
        have HO1 := Lib.hid hO1
        have HO2 := Lib.hid hO2
        have H71 := Lib.hid h71
        have HOK1 := Lib.hid ok1
        have HOK3 := Lib.hid oks3
        have HS1 := Lib.hid hs1
        have HBK := Lib.hid hback
        have HCM := Lib.hid hcmp
        have HCM1 := Lib.hid hcmp1
        have HC3 := Lib.hid hcap3
        have HC5 := Lib.hid hcap5
        obtain ⟨M, hM⟩ : ∃ M, M = mk m7 := ⟨_, rfl⟩
        obtain ⟨R, hR⟩ : ∃ R, R = mk r7 := ⟨_, rfl⟩
        obtain ⟨n1, hn1⟩ : ∃ k, k = num b7 := ⟨_, rfl⟩
        obtain ⟨n2, hn2⟩ : ∃ k, k = num k7 := ⟨_, rfl⟩
        obtain ⟨n3, hn3⟩ : ∃ k, k = num d7 := ⟨_, rfl⟩
        obtain ⟨n4, hn4⟩ : ∃ k, k = num f7 := ⟨_, rfl⟩
        have HAG := Lib.hid (show agg7 m7 r7 (num a7) (num b7) (num k7) (num d7) (num f7) = #[.string M, .string R, .int .u32 (n0 : Nat), .int .u32 (n1 : Nat), .int .u32 (n2 : Nat), .int .u32 (n3 : Nat), .int .u32 (n4 : Nat)] by rw [hM, hR, hn0, hn1, hn2, hn3, hn4]; rfl)
        have HAG1 := Lib.hid (show agg7 m7 r7 (num (be nv 4)) (num b7) (num k7) (num d7) (num f7) = #[.string M, .string R, .int .u32 (nv : Nat), .int .u32 (n1 : Nat), .int .u32 (n2 : Nat), .int .u32 (n3 : Nat), .int .u32 (n4 : Nat)] by rw [hM, hR, hn1, hn2, hn3, hn4, num_four hnv]; rfl)
        clear h7 hM hR hn0 hn1 hn2 hn3 hn4 e1 e6 emem oks3 hs1 ok1 hO1 hO2 h71 hback hcmp hcmp1 hcap3 hcap5 hsz3
        have hwz := HWZ6.out
        rw [HW6.out, HGZ.out] at hwz
        obtain ⟨c0, c1, c2, c3', c4, c5', c6⟩ := zo_facts hwz
        clear hwz
        go_wp2_with fail
        rw [← HW6.out, ← HGZ.out, ← HGW.out]
        refine (ZSoa_any N D A3 c3 s3 m7 r7 a7 b7 k7 d7 f7 _ H7.out hsl).mono ?_
        rw [HAG.out]
        rintro en w7 ⟨rfl, hB⟩
        have hv := Whole.new w7 26 #[.string s3.s, .int .i64 s3.t, .int .i64 s3.c, .int .i64 s3.l, .string s3.d]
        have hBv : Below w7.heap.size w7 (w7.alloc (.cells #[.string s3.s, .int .i64 s3.t, .int .i64 s3.c, .int .i64 s3.l, .string s3.d] 26)) := (Below.refl _ _).alloc (Nat.le_refl _) _
        obtain ⟨V8, hV8⟩ : ∃ V, V = w7.alloc (.cells #[.string s3.s, .int .i64 s3.t, .int .i64 s3.c, .int .i64 s3.l, .string s3.d] 26) := ⟨_, rfl⟩
        rw [← hV8] at hv hBv
        have hu := Whole.new V8 soT #[.string M, .string R, .int .u32 (n0 : Nat), .int .u32 (n1 : Nat), .int .u32 (n2 : Nat), .int .u32 (n3 : Nat), .int .u32 (n4 : Nat)]
        have hBu : Below V8.heap.size V8 (V8.alloc (.cells #[.string M, .string R, .int .u32 (n0 : Nat), .int .u32 (n1 : Nat), .int .u32 (n2 : Nat), .int .u32 (n3 : Nat), .int .u32 (n4 : Nat)] soT)) := (Below.refl _ _).alloc (Nat.le_refl _) _
        obtain ⟨W8, hW8⟩ : ∃ V, V = V8.alloc (.cells #[.string M, .string R, .int .u32 (n0 : Nat), .int .u32 (n1 : Nat), .int .u32 (n2 : Nat), .int .u32 (n3 : Nat), .int .u32 (n4 : Nat)] soT) := ⟨_, rfl⟩
        rw [← hW8] at hu hBu
        have sv8 : V8.heap.size = w7.heap.size + 1 := by rw [hV8]; simp
        rw [sv8] at hu
        obtain ⟨gr, hgr⟩ : ∃ g, g = w7.heap.size := ⟨_, rfl⟩
        rw [← hgr] at hu
        have hBB := hB.trans ((hBv.trans (hBu.mono hBv.size)).mono hB.size)
        have HSO_gr_8 := Lib.hid hu
        have HB8 := Lib.hid (HB6.out.trans (hBB.mono HB6.out.size))
        have HVV8 := Lib.hid hV8
        have HWW8 := Lib.hid hW8
        have HG_gr := Lib.hid hgr
        have HWZ8 := Lib.hid (HWZ6.out.below hBB HWZ6.out.lt)
        have HWR8 := Lib.hid (HWR6.out.below hBB HWR6.out.lt)
        have HZ8 := Lib.hid (HZ6.out.later hBB)
        have HR8 := Lib.hid (HR6.out.later hBB)
        have HS8 := Lib.hid ((HS6.out.keep hBB).more hBB.size)
        have HSZ8 := Lib.hid ((HSZ6.out.keep hBB).more hBB.size)
        clear hv hBv hV8 hu hBu hW8 sv8 hgr hBB hB
        have hwz := HWZ8.out
        rw [HWW8.out, HVV8.out] at hwz
        obtain ⟨c0, c1, c2, c3', c4, c5', c6⟩ := zo_facts hwz
        clear hwz
        go_wp2_with fail
        rw [← HVV8.out, ← HWW8.out, ← HG_gr.out]
        refine (ZSer_any nn N D A3 c3 s3 m7 r7 a7 b7 k7 d7 f7 nv D1 _ H7.out hsl hnv HSZ8.out HC3.out (by rw [← HS1.out]; exact HO1.out) HOKD.out HCM.out HOK3.out (by rw [← HS1.out]; exact HOK1.out) (by omega)).mono ?_
        rintro en w9 ⟨⟨v9, rfl, hz9⟩, hB⟩
        have HX9 := Lib.hid hz9
        obtain ⟨A9, c9, s9, rfl, hs9, hcap9, hsoa9⟩ := hz9
        obtain rfl : s1 = s9 := by
          have := HO1.out.typ
          rw [hsoa9] at this
          simpa using this.symm
        have hx := Whole.new w9 zoT #[.string N, .slice A9 D1.length c9, .string s1.s, .int .i64 s1.t, .int .i64 s1.c, .int .i64 s1.l, .string s1.d]
        have hBx : Below w9.heap.size w9 (w9.alloc (.cells #[.string N, .slice A9 D1.length c9, .string s1.s, .int .i64 s1.t, .int .i64 s1.c, .int .i64 s1.l, .string s1.d] zoT)) := (Below.refl _ _).alloc (Nat.le_refl _) _
        obtain ⟨W10, hW10⟩ : ∃ V, V = w9.alloc (.cells #[.string N, .slice A9 D1.length c9, .string s1.s, .int .i64 s1.t, .int .i64 s1.c, .int .i64 s1.l, .string s1.d] zoT) := ⟨_, rfl⟩
        rw [← hW10] at hx hBx
        obtain ⟨gx, hgx⟩ : ∃ g, g = w9.heap.size := ⟨_, rfl⟩
        rw [← hgx] at hx
        have hBB := hB.trans (hBx.mono hB.size)
        have HB10 := Lib.hid (HB8.out.trans (hBB.mono HB8.out.size))
        have HXA10 := Lib.hid (HX9.out.later hBx)
        have HSX10 := Lib.hid ((hs9.keep hBx).more hBx.size)
        have HC9 := Lib.hid hcap9
        have HWX10 := Lib.hid hx
        have HSO_gr_10 := Lib.hid (HSO_gr_8.out.below hBB HSO_gr_8.out.lt)
        have HW10' := Lib.hid hW10
        have HG_gx := Lib.hid hgx
        have HWZ10 := Lib.hid (HWZ8.out.below hBB HWZ8.out.lt)
        have HWR10 := Lib.hid (HWR8.out.below hBB HWR8.out.lt)
        have HZ10 := Lib.hid (HZ8.out.later hBB)
        have HR10 := Lib.hid (HR8.out.later hBB)
        have HS10 := Lib.hid ((HS8.out.keep hBB).more hBB.size)
        have HSZ10 := Lib.hid ((HSZ8.out.keep hBB).more hBB.size)
        clear hx hBx hW10 hgx hBB hB hs9 hcap9 hsoa9 c0 c1 c2 c3' c4 c5' c6
        have hwx := HWX10.out
        rw [HW10'.out, HG_gx.out] at hwx
        obtain ⟨c0, c1, c2, c3', c4, c5', c6⟩ := zo_facts hwx
        clear hwx
        go_wp2_with fail
        rw [← HW10'.out, ← HG_gx.out]
        refine (ZSoa_any N D1 A9 c9 s1 m7 r7 (be nv 4) b7 k7 d7 f7 _ H71.out hsl1).mono ?_
        rw [HAG1.out]
        rintro en w11 ⟨rfl, hB⟩
        have HSO_gr_12 := Lib.hid (HSO_gr_10.out.below hB HSO_gr_10.out.lt)
        clear HSO_gr_12
        have hv := Whole.new w11 26 #[.string s1.s, .int .i64 s1.t, .int .i64 s1.c, .int .i64 s1.l, .string s1.d]
        have hBv : Below w11.heap.size w11 (w11.alloc (.cells #[.string s1.s, .int .i64 s1.t, .int .i64 s1.c, .int .i64 s1.l, .string s1.d] 26)) := (Below.refl _ _).alloc (Nat.le_refl _) _
        obtain ⟨V12, hV12⟩ : ∃ V, V = w11.alloc (.cells #[.string s1.s, .int .i64 s1.t, .int .i64 s1.c, .int .i64 s1.l, .string s1.d] 26) := ⟨_, rfl⟩
        rw [← hV12] at hv hBv
        have hu := Whole.new V12 soT #[.string M, .string R, .int .u32 (nv : Nat), .int .u32 (n1 : Nat), .int .u32 (n2 : Nat), .int .u32 (n3 : Nat), .int .u32 (n4 : Nat)]
        have hBu : Below V12.heap.size V12 (V12.alloc (.cells #[.string M, .string R, .int .u32 (nv : Nat), .int .u32 (n1 : Nat), .int .u32 (n2 : Nat), .int .u32 (n3 : Nat), .int .u32 (n4 : Nat)] soT)) := (Below.refl _ _).alloc (Nat.le_refl _) _
        obtain ⟨W12, hW12⟩ : ∃ V, V = V12.alloc (.cells #[.string M, .string R, .int .u32 (nv : Nat), .int .u32 (n1 : Nat), .int .u32 (n2 : Nat), .int .u32 (n3 : Nat), .int .u32 (n4 : Nat)] soT) := ⟨_, rfl⟩
        rw [← hW12] at hu hBu
        have sv12 : V12.heap.size = w11.heap.size + 1 := by rw [hV12]; simp
        rw [sv12] at hu
        obtain ⟨gs, hgs⟩ : ∃ g, g = w11.heap.size := ⟨_, rfl⟩
        rw [← hgs] at hu
        have hBB := hB.trans ((hBv.trans (hBu.mono hBv.size)).mono hB.size)
        have HSO_gs_12 := Lib.hid hu
        have HB12 := Lib.hid (HB10.out.trans (hBB.mono HB10.out.size))
        have HVV12 := Lib.hid hV12
        have HWW12 := Lib.hid hW12
        have HG_gs := Lib.hid hgs
        have HWZ12 := Lib.hid (HWZ10.out.below hBB HWZ10.out.lt)
        have HWR12 := Lib.hid (HWR10.out.below hBB HWR10.out.lt)
        have HZ12 := Lib.hid (HZ10.out.later hBB)
        have HR12 := Lib.hid (HR10.out.later hBB)
        have HS12 := Lib.hid ((HS10.out.keep hBB).more hBB.size)
        have HSZ12 := Lib.hid ((HSZ10.out.keep hBB).more hBB.size)
        have HWX12 := Lib.hid (HWX10.out.below hBB HWX10.out.lt)
        have HXA12 := Lib.hid (HXA10.out.later hBB)
        have HSX12 := Lib.hid ((HSX10.out.keep hBB).more hBB.size)
        have HSO_gr_12 := Lib.hid (HSO_gr_10.out.below hBB HSO_gr_10.out.lt)
        clear hv hBv hV12 hu hBu hW12 sv12 hgs hBB hB
        have hwx := HWX12.out
        rw [HWW12.out, HVV12.out] at hwx
        obtain ⟨c0, c1, c2, c3', c4, c5', c6⟩ := zo_facts hwx
        clear hwx
        go_wp2_with fail
        rw [← HVV12.out, ← HWW12.out, ← HG_gs.out]
        refine (All_any N D1 _ _ HXA12.out (by omega)).mono ?_
        rintro en w13 ⟨u13, rfl, ho13, hB⟩
        obtain ⟨A13, c13, rfl, hs13, _⟩ := own_sees ho13
        have HSA13 := Lib.hid hs13
        have HB13 := Lib.hid (HB12.out.trans (hB.mono HB12.out.size))
        have HWZ13 := Lib.hid (HWZ12.out.below hB HWZ12.out.lt)
        have HWR13 := Lib.hid (HWR12.out.below hB HWR12.out.lt)
        have HZ13 := Lib.hid (HZ12.out.later hB)
        have HR13 := Lib.hid (HR12.out.later hB)
        have HS13 := Lib.hid ((HS12.out.keep hB).more hB.size)
        have HSZ13 := Lib.hid ((HSZ12.out.keep hB).more hB.size)
        have HWX13 := Lib.hid (HWX12.out.below hB HWX12.out.lt)
        have HXA13 := Lib.hid (HXA12.out.later hB)
        have HSX13 := Lib.hid ((HSX12.out.keep hB).more hB.size)
        have HSO_gr_13 := Lib.hid (HSO_gr_12.out.below hB HSO_gr_12.out.lt)
        have HSO_gs_13 := Lib.hid (HSO_gs_12.out.below hB HSO_gs_12.out.lt)
        clear hB ho13 hs13 c0 c1 c2 c3' c4 c5' c6
        go_wp2_with fail
        refine (ZNew_any A13 D1.length c13 N nn D1 _ HN.out (HSA13.out) (by omega) HO1.out.ok.low).mono ?_
        rintro en w14 ⟨h, hB⟩
        have hc1 : codeZ nn D1 = 0 := by unfold codeZ; rw [HNAME.out, HO1.out.ok.all, ofC_set' HO1.out.set, HO1.out.zone]; rfl
        rcases h with ⟨hc, _⟩ | ⟨hc, _⟩ | ⟨_, v14, rfl, hz14⟩
        · rw [hc1] at hc; cases hc
        · rw [hc1] at hc; cases hc
        · rw [ofC_set' HO1.out.set] at hz14
          have HY14 := Lib.hid hz14
          obtain ⟨A14, c14, s14, rfl, _, _, _⟩ := hz14
          have hy := Whole.new w14 zoT #[.string N, .slice A14 D1.length c14, .string s14.s, .int .i64 s14.t, .int .i64 s14.c, .int .i64 s14.l, .string s14.d]
          have hBy : Below w14.heap.size w14 (w14.alloc (.cells #[.string N, .slice A14 D1.length c14, .string s14.s, .int .i64 s14.t, .int .i64 s14.c, .int .i64 s14.l, .string s14.d] zoT)) := (Below.refl _ _).alloc (Nat.le_refl _) _
          obtain ⟨W15, hW15⟩ : ∃ V, V = w14.alloc (.cells #[.string N, .slice A14 D1.length c14, .string s14.s, .int .i64 s14.t, .int .i64 s14.c, .int .i64 s14.l, .string s14.d] zoT) := ⟨_, rfl⟩
          rw [← hW15] at hy hBy
          obtain ⟨gy, hgy⟩ : ∃ g, g = w14.heap.size := ⟨_, rfl⟩
          rw [← hgy] at hy
          have hBB := hB.trans (hBy.mono hB.size)
          have HB15 := Lib.hid (HB13.out.trans (hBB.mono HB13.out.size))
          have HYA15 := Lib.hid (HY14.out.later hBy)
          have HWY15 := Lib.hid hy
          have HW15' := Lib.hid hW15
          have HG_gy := Lib.hid hgy
          have HWZ15 := Lib.hid (HWZ13.out.below hBB HWZ13.out.lt)
          have HWR15 := Lib.hid (HWR13.out.below hBB HWR13.out.lt)
          have HZ15 := Lib.hid (HZ13.out.later hBB)
          have HR15 := Lib.hid (HR13.out.later hBB)
          have HS15 := Lib.hid ((HS13.out.keep hBB).more hBB.size)
          have HSZ15 := Lib.hid ((HSZ13.out.keep hBB).more hBB.size)
          have HWX15 := Lib.hid (HWX13.out.below hBB HWX13.out.lt)
          have HXA15 := Lib.hid (HXA13.out.later hBB)
          have HSX15 := Lib.hid ((HSX13.out.keep hBB).more hBB.size)
          have HSO_gr_15 := Lib.hid (HSO_gr_13.out.below hBB HSO_gr_13.out.lt)
          have HSO_gs_15 := Lib.hid (HSO_gs_13.out.below hBB HSO_gs_13.out.lt)
          clear hy hBy hW15 hgy hBB hB hc1
          go_wp2_with fail
          rw [← HW15'.out, ← HG_gy.out]
          have za0 : ∀ w' : World, Below W15.heap.size W15 w' → w'.cell? ⟨gz, 0, none⟩ = some (.string N) := fun w' h => (h.cell (HWZ15.out.lt)).trans ((HWZ15.out.cell 0).trans rfl)
          have za1 : ∀ w' : World, Below W15.heap.size W15 w' → w'.cell? ⟨gz, 1, none⟩ = some (.slice A3 D.length c3) := fun w' h => (h.cell (HWZ15.out.lt)).trans ((HWZ15.out.cell 1).trans rfl)
          have za2 : ∀ w' : World, Below W15.heap.size W15 w' → w'.cell? ⟨gz, 2, none⟩ = some (.string s3.s) := fun w' h => (h.cell (HWZ15.out.lt)).trans ((HWZ15.out.cell 2).trans rfl)
          have za3 : ∀ w' : World, Below W15.heap.size W15 w' → w'.cell? ⟨gz, 3, none⟩ = some (.int .i64 s3.t) := fun w' h => (h.cell (HWZ15.out.lt)).trans ((HWZ15.out.cell 3).trans rfl)
          have za4 : ∀ w' : World, Below W15.heap.size W15 w' → w'.cell? ⟨gz, 4, none⟩ = some (.int .i64 s3.c) := fun w' h => (h.cell (HWZ15.out.lt)).trans ((HWZ15.out.cell 4).trans rfl)
          have za5 : ∀ w' : World, Below W15.heap.size W15 w' → w'.cell? ⟨gz, 5, none⟩ = some (.int .i64 s3.l) := fun w' h => (h.cell (HWZ15.out.lt)).trans ((HWZ15.out.cell 5).trans rfl)
          have za6 : ∀ w' : World, Below W15.heap.size W15 w' → w'.cell? ⟨gz, 6, none⟩ = some (.string s3.d) := fun w' h => (h.cell (HWZ15.out.lt)).trans ((HWZ15.out.cell 6).trans rfl)
          have xa0 : ∀ w' : World, Below W15.heap.size W15 w' → w'.cell? ⟨gx, 0, none⟩ = some (.string N) := fun w' h => (h.cell (HWX15.out.lt)).trans ((HWX15.out.cell 0).trans rfl)
          have xa1 : ∀ w' : World, Below W15.heap.size W15 w' → w'.cell? ⟨gx, 1, none⟩ = some (.slice A9 D1.length c9) := fun w' h => (h.cell (HWX15.out.lt)).trans ((HWX15.out.cell 1).trans rfl)
          have xa2 : ∀ w' : World, Below W15.heap.size W15 w' → w'.cell? ⟨gx, 2, none⟩ = some (.string s1.s) := fun w' h => (h.cell (HWX15.out.lt)).trans ((HWX15.out.cell 2).trans rfl)
          have xa3 : ∀ w' : World, Below W15.heap.size W15 w' → w'.cell? ⟨gx, 3, none⟩ = some (.int .i64 s1.t) := fun w' h => (h.cell (HWX15.out.lt)).trans ((HWX15.out.cell 3).trans rfl)
          have xa4 : ∀ w' : World, Below W15.heap.size W15 w' → w'.cell? ⟨gx, 4, none⟩ = some (.int .i64 s1.c) := fun w' h => (h.cell (HWX15.out.lt)).trans ((HWX15.out.cell 4).trans rfl)
          have xa5 : ∀ w' : World, Below W15.heap.size W15 w' → w'.cell? ⟨gx, 5, none⟩ = some (.int .i64 s1.l) := fun w' h => (h.cell (HWX15.out.lt)).trans ((HWX15.out.cell 5).trans rfl)
          have xa6 : ∀ w' : World, Below W15.heap.size W15 w' → w'.cell? ⟨gx, 6, none⟩ = some (.string s1.d) := fun w' h => (h.cell (HWX15.out.lt)).trans ((HWX15.out.cell 6).trans rfl)
          have ya0 : ∀ w' : World, Below W15.heap.size W15 w' → w'.cell? ⟨gy, 0, none⟩ = some (.string N) := fun w' h => (h.cell (HWY15.out.lt)).trans ((HWY15.out.cell 0).trans rfl)
          have ya1 : ∀ w' : World, Below W15.heap.size W15 w' → w'.cell? ⟨gy, 1, none⟩ = some (.slice A14 D1.length c14) := fun w' h => (h.cell (HWY15.out.lt)).trans ((HWY15.out.cell 1).trans rfl)
          have ya2 : ∀ w' : World, Below W15.heap.size W15 w' → w'.cell? ⟨gy, 2, none⟩ = some (.string s14.s) := fun w' h => (h.cell (HWY15.out.lt)).trans ((HWY15.out.cell 2).trans rfl)
          have ya3 : ∀ w' : World, Below W15.heap.size W15 w' → w'.cell? ⟨gy, 3, none⟩ = some (.int .i64 s14.t) := fun w' h => (h.cell (HWY15.out.lt)).trans ((HWY15.out.cell 3).trans rfl)
          have ya4 : ∀ w' : World, Below W15.heap.size W15 w' → w'.cell? ⟨gy, 4, none⟩ = some (.int .i64 s14.c) := fun w' h => (h.cell (HWY15.out.lt)).trans ((HWY15.out.cell 4).trans rfl)
          have ya5 : ∀ w' : World, Below W15.heap.size W15 w' → w'.cell? ⟨gy, 5, none⟩ = some (.int .i64 s14.l) := fun w' h => (h.cell (HWY15.out.lt)).trans ((HWY15.out.cell 5).trans rfl)
          have ya6 : ∀ w' : World, Below W15.heap.size W15 w' → w'.cell? ⟨gy, 6, none⟩ = some (.string s14.d) := fun w' h => (h.cell (HWY15.out.lt)).trans ((HWY15.out.cell 6).trans rfl)
          have wa0 : ∀ w' : World, Below W15.heap.size W15 w' → w'.cell? ⟨gw, 0, none⟩ = some (.string N) := fun w' h => (h.cell (HWR15.out.lt)).trans ((HWR15.out.cell 0).trans rfl)
          have wa1 : ∀ w' : World, Below W15.heap.size W15 w' → w'.cell? ⟨gw, 1, none⟩ = some (.slice A5 D.length c5) := fun w' h => (h.cell (HWR15.out.lt)).trans ((HWR15.out.cell 1).trans rfl)
          have sa2 : ∀ w' : World, Below W15.heap.size W15 w' → w'.cell? ⟨gr + 1, 2, none⟩ = some (.int .u32 (n0 : Nat)) := fun w' h => (h.cell (HSO_gr_15.out.lt)).trans ((HSO_gr_15.out.cell 2).trans rfl)
          have ta2 : ∀ w' : World, Below W15.heap.size W15 w' → w'.cell? ⟨gs + 1, 2, none⟩ = some (.int .u32 (nv : Nat)) := fun w' h => (h.cell (HSO_gs_15.out.lt)).trans ((HSO_gs_15.out.cell 2).trans rfl)
          have HSM := Lib.hid (show sameX D D = true from sameX_is.2 rfl)
          have HSM1 := Lib.hid (show sameX D1 D1 = true from sameX_is.2 rfl)
          have hnn : ((nv : Int) == (nv : Int)) = true := by simp
          have hfl : ∀ (A : Option Addr) (l c : Nat) (w : World), (Instr.field 33 (.agg #[.string N, .slice A l c]) 1).run Tryz.prog w = .ok (.slice A l c) w := fun A l c w => rz_field N A l c w
          have hb0 : Below W15.heap.size W15 W15 := Below.refl _ _
          have hb1 : Below W15.heap.size W15 W15.drew := (Below.refl _ _).drew
          go_wp2_with fail
          go_region_held3 (fun w' => Below W15.heap.size W15 w') (go_keep) (first
            | (go_at_call 13; (refine (Same_any A31 A5 D.length c31 D.length c5 D D _ hs31 ((HS15.out.keep hT31).more hT31.size) (by omega)).mono ?_; rw [HSM.out]; rintro e w32 ⟨rfl, hB32⟩; have hT32 : Below W15.heap.size W15 w32 := hT31.trans (hB32.mono hT31.size)))
            | (go_at_call 14; (refine (All_any N D _ _ (HZ15.out.later hT30) (by omega)).mono ?_; rintro e w31 ⟨u31, rfl, ho31, hB31⟩; obtain ⟨A31, c31, rfl, hs31, _⟩ := own_sees ho31; have hT31 : Below W15.heap.size W15 w31 := hT30.trans (hB31.mono hT30.size)))
            | (go_at_call 13; (refine (Same_any A28 A29 D.length c28 D.length c29 D D _ ((hs28.keep hB29).more hB29.size) hs29 (by omega)).mono ?_; rw [HSM.out]; rintro e w30 ⟨rfl, hB30⟩; have hT30 : Below W15.heap.size W15 w30 := hT29.trans (hB30.mono hT29.size)))
            | (go_at_call 14; (refine (All_any N D _ _ (HZ15.out.later hT28) (by omega)).mono ?_; rintro e w29 ⟨u29, rfl, ho29, hB29⟩; obtain ⟨A29, c29, rfl, hs29, _⟩ := own_sees ho29; have hT29 : Below W15.heap.size W15 w29 := hT28.trans (hB29.mono hT28.size)))
            | (go_at_call 14; (refine (All_any N D _ _ hzz27 (by omega)).mono ?_; rintro e w28 ⟨u28, rfl, ho28, hB28⟩; obtain ⟨A28, c28, rfl, hs28, _⟩ := own_sees ho28; have hT28 : Below W15.heap.size W15 w28 := hT27.trans (hB28.mono hT27.size)))
            | (go_at_call 26; (refine (ZSer_any nn N D1 A9 c9 s1 m7 r7 (be nv 4) b7 k7 d7 f7 n0 D _ H71.out hsl1 hn0l ((HSX15.out.keep hT26).more hT26.size) HC9.out HO2.out HO1.out.ok HCM1.out HOK1.out (by rw [HBK.out]; exact HOK3.out) (by omega)).mono ?_; rintro e w27 ⟨⟨v27, rfl, hz27⟩, hB27⟩; have hzz27 := hz27; obtain ⟨A27, c27, s27, rfl, _, _, _⟩ := hz27; have hT27 : Below W15.heap.size W15 w27 := hT26.trans (hB27.mono hT26.size)))
            | (go_at_call 13; (refine (Same_any A24 A25 D1.length c24 D1.length c25 D1 D1 _ ((hs24.keep hB25).more hB25.size) hs25 (by omega)).mono ?_; rw [HSM1.out]; rintro e w26 ⟨rfl, hB26⟩; have hT26 : Below W15.heap.size W15 w26 := hT25.trans (hB26.mono hT25.size)))
            | (go_at_call 14; (refine (All_any N D1 _ _ (HXA15.out.later hT24) (by omega)).mono ?_; rintro e w25 ⟨u25, rfl, ho25, hB25⟩; obtain ⟨A25, c25, rfl, hs25, _⟩ := own_sees ho25; have hT25 : Below W15.heap.size W15 w25 := hT24.trans (hB25.mono hT24.size)))
            | (go_at_call 14; (refine (All_any N D1 _ _ (HYA15.out.later hT23) (by omega)).mono ?_; rintro e w24 ⟨u24, rfl, ho24, hB24⟩; obtain ⟨A24, c24, rfl, hs24, _⟩ := own_sees ho24; have hT24 : Below W15.heap.size W15 w24 := hT23.trans (hB24.mono hT23.size)))
            | (go_at_call 13; (refine (Same_any A21 A22 D1.length c21 D1.length c22 D1 D1 _ ((hs21.keep hB22).more hB22.size) hs22 (by omega)).mono ?_; rw [HSM1.out]; rintro e w23 ⟨rfl, hB23⟩; have hT23 : Below W15.heap.size W15 w23 := hT22.trans (hB23.mono hT22.size)))
            | (go_at_call 27; (refine (RSer_any nn N D A5 c5 s3 m7 r7 a7 b7 k7 d7 f7 nv D1 _ H7.out hsl hnv ((HS15.out.keep hT21).more hT21.size) HC5.out (by rw [← HS1.out]; exact HO1.out) HOKD.out HCM.out HOK3.out (by rw [← HS1.out]; exact HOK1.out) (by omega) HSOA.out).mono ?_; rintro e w22 ⟨⟨A22, c22, rfl, hs22⟩, hB22⟩; have hT22 : Below W15.heap.size W15 w22 := hT21.trans (hB22.mono hT21.size)))
            | (go_at_call 14; (refine (All_any N D1 _ _ (HXA15.out.later hb1) (by omega)).mono ?_; rintro e w21 ⟨u21, rfl, ho21, hB21⟩; obtain ⟨A21, c21, rfl, hs21, _⟩ := own_sees ho21; have hT21 : Below W15.heap.size W15 w21 := hb1.trans (hB21.mono hb1.size))))
          all_goals (
            have HBF := Lib.hid (HB15.out.trans (hT32.mono HB15.out.size))
            clear za0 za1 za2 za3 za4 za5 za6 xa0 xa1 xa2 xa3 xa4 xa5 xa6 ya0 ya1 ya2 ya3 ya4 ya5 ya6 wa0 wa1 sa2 ta2 hfl
            go_wp2_with fail
            go_ret
            exact ⟨rfl, HBF.out⟩)
end Go.Proofs.YtkmmbbcmpjkmkaaGreat
