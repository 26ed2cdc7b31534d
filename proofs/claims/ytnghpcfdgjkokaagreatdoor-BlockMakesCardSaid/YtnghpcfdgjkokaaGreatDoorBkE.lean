/-
  CONTRACT of the program's block.Make. Conditions: at most 200 traces; of the library's tables: Ld.
-/
import Derived.Test.YtnghpcfdgjkokaaGreatDoorBkD
namespace Go.Proofs.YtnghpcfdgjkokaaGreatDoor
open Go.RowKit
set_option maxRecDepth 100000

/-- what Make tells -/
def MakeP (w w' : World) (id : Nat) (lv : Int) (l : List Tn) (s : Sz) (e : Ending) : Prop :=
  (¬ BkOk id lv l s ∧ e = .returned (.tuple #[.slice none 0 0, meV Me.zero, code 1])) ∨ (BkOk id lv l s ∧ ∃ x, e = .returned (.tuple #[x, meV (bkMe id lv l s), .nilIface]) ∧ ObS w' w.heap.size x (bkObs id lv l s))

abbrev meZ : Array Value := #[.int .u64 0, .int .i64 0, .int .i64 0, .int .i64 0, .int .i64 0, .int .i64 0]
/-- boxes that stay, of sizes and of a result -/
structure BxR (w : World) (g7 g9 : Nat) (C7 C9 : Array Value) (u : World) : Prop where
  b7 : Blk u g7 25 C7
  b9 : Blk u g9 30 C9
  bel : Below w.heap.size w u
  h9 : w.heap.size ≤ g9
section
variable {w u u' : World} {g7 g9 : Nat} {C7 C9 : Array Value}
theorem BxR.later (h : BxR w g7 g9 C7 C9 u) (hb : Below u.heap.size u u') : BxR w g7 g9 C7 C9 u' := ⟨h.b7.below hb h.b7.lt, h.b9.below hb h.b9.lt, h.bel.trans (hb.mono h.bel.size), h.h9⟩
theorem BxR.start (w : World) (C7 C9 : Array Value) : BxR w w.heap.size (w.heap.size + 1) C7 C9 ((w.alloc (.cells C7 25)).alloc (.cells C9 30)) :=
  ⟨(Blk.new w _ _).alloc _, by simpa using Blk.new (w.alloc (.cells C7 25)) 30 C9, ((Below.refl _ _).alloc (Nat.le_refl _) _).alloc (by simp) _, by omega⟩
end

set_option maxHeartbeats 12800000 in
theorem bmake_any (id : Nat) (lv : Int) (v : Value) (l : List Tn) (s : Sz) (w : World) (h : Ts w v l) (hid : id < 18446744073709551616) (hll : l.length ≤ 200) (hL : Ld w) :
    Calls Tryz.prog 8 #[.int .u64 (id : Int), .int .i64 lv, v, szV s] w fun e w' => MakeP w w' id lv l s e ∧ Below w.heap.size w w' := by
  obtain ⟨pg, sh, bi, hs'⟩ := s
  obtain ⟨A, c, rfl, hc1, hc2⟩ := h.form
  have H := Lib.hid h
  have HLD := Lib.hid hL
  have HI0 := Lib.hid (BxR.start w #[.int .i64 pg, .int .i64 sh, .int .i64 bi, .int .i64 hs'] meZ)
  have hMay := fun u => bmay_any ⟨pg, sh, bi, hs'⟩ u
  simp only [szV] at hMay ⊢
  clear h hL
  cases hS : szB ⟨pg, sh, bi, hs'⟩ with
  | false =>
    have HN : Hid (¬ BkOk id lv l ⟨pg, sh, bi, hs'⟩) := Lib.hid fun h => by rw [h.sz] at hS; cases hS
    rw [hS] at hMay
    clear hS
    go_enter Tryz.func8, Tryz.ntmps8
    go_wp2_with fail
    revert HI0
    generalize ((w.alloc (.cells #[.int .i64 pg, .int .i64 sh, .int .i64 bi, .int .i64 hs'] 25)).alloc (.cells meZ 30)) = w1
    intro HI0
    refine (hMay _).mono ?_
    rintro e w2 ⟨rfl, hb2⟩
    have HI2 := Lib.hid (HI0.out.later hb2)
    clear hb2 HI0 hMay
    have hfz := fun i => HI2.out.b9.frozen i
    have r0 := HI2.out.b9.cell 0
    have r1 := HI2.out.b9.cell 1
    have r2 := HI2.out.b9.cell 2
    have r3 := HI2.out.b9.cell 3
    have r4 := HI2.out.b9.cell 4
    have r5 := HI2.out.b9.cell 5
    simp at r0 r1 r2 r3 r4 r5
    go_wp2_with fail
    have hm2 := setall6 _ HI2.out.b9 (.int .u64 0) (.int .i64 0) (.int .i64 0) (.int .i64 0) (.int .i64 0) (.int .i64 0)
    have hg2 := gset6 w2 (w.heap.size + 1) (.int .u64 0) (.int .i64 0) (.int .i64 0) (.int .i64 0) (.int .i64 0) (.int .i64 0)
    refine bodyPost_ret (v := .tuple #[.slice none 0 0, meV Me.zero, code 1]) (by have c := hm2.cell; simp [results, go_sem, c]; try rfl) rfl ?_
    exact ⟨.inl ⟨HN.out, rfl⟩, HI2.out.bel.grown hg2 HI2.out.bel.size (by intro z hz; injection hz with hz; have := HI2.out.h9; omega)⟩
  | true =>
    rw [hS] at hMay
    have HS := Lib.hid hS
    clear hS
    by_cases hl0 : l = []
    · subst hl0
      have HN : Hid (¬ BkOk id lv [] ⟨pg, sh, bi, hs'⟩) := Lib.hid fun h => h.ne rfl
      simp only [List.length_nil] at H hc1 ⊢
      go_enter Tryz.func8, Tryz.ntmps8
      go_wp2_with fail
      revert HI0
      generalize ((w.alloc (.cells #[.int .i64 pg, .int .i64 sh, .int .i64 bi, .int .i64 hs'] 25)).alloc (.cells meZ 30)) = w1
      intro HI0
      refine (hMay _).mono ?_
      rintro e w2 ⟨rfl, hb2⟩
      have HI2 := Lib.hid (HI0.out.later hb2)
      clear hb2 HI0 hMay
      have hfz := fun i => HI2.out.b9.frozen i
      have r0 := HI2.out.b9.cell 0
      have r1 := HI2.out.b9.cell 1
      have r2 := HI2.out.b9.cell 2
      have r3 := HI2.out.b9.cell 3
      have r4 := HI2.out.b9.cell 4
      have r5 := HI2.out.b9.cell 5
      simp at r0 r1 r2 r3 r4 r5
      go_wp2_with fail
      have hm2 := setall6 _ HI2.out.b9 (.int .u64 0) (.int .i64 0) (.int .i64 0) (.int .i64 0) (.int .i64 0) (.int .i64 0)
      have hg2 := gset6 w2 (w.heap.size + 1) (.int .u64 0) (.int .i64 0) (.int .i64 0) (.int .i64 0) (.int .i64 0) (.int .i64 0)
      refine bodyPost_ret (v := .tuple #[.slice none 0 0, meV Me.zero, code 1]) (by have c := hm2.cell; simp [results, go_sem, c]; try rfl) rfl ?_
      exact ⟨.inl ⟨HN.out, rfl⟩, HI2.out.bel.grown hg2 HI2.out.bel.size (by intro z hz; injection hz with hz; have := HI2.out.h9; omega)⟩
    have hlp : 0 < l.length := List.length_pos_iff.2 hl0
    have kl : ((l.length : Int) == 0) = false := by rw [beq_eq_false_iff_ne]; omega
    by_cases hi0 : id = 0
    · subst hi0
      have HN : Hid (¬ BkOk 0 lv l ⟨pg, sh, bi, hs'⟩) := Lib.hid fun h => h.id0 rfl
      go_enter Tryz.func8, Tryz.ntmps8
      go_wp2_with fail
      revert HI0
      generalize ((w.alloc (.cells #[.int .i64 pg, .int .i64 sh, .int .i64 bi, .int .i64 hs'] 25)).alloc (.cells meZ 30)) = w1
      intro HI0
      refine (hMay _).mono ?_
      rintro e w2 ⟨rfl, hb2⟩
      have HI2 := Lib.hid (HI0.out.later hb2)
      clear hb2 HI0 hMay
      have hfz := fun i => HI2.out.b9.frozen i
      have r0 := HI2.out.b9.cell 0
      have r1 := HI2.out.b9.cell 1
      have r2 := HI2.out.b9.cell 2
      have r3 := HI2.out.b9.cell 3
      have r4 := HI2.out.b9.cell 4
      have r5 := HI2.out.b9.cell 5
      simp at r0 r1 r2 r3 r4 r5
      go_wp2_with fail
      have hm2 := setall6 _ HI2.out.b9 (.int .u64 0) (.int .i64 0) (.int .i64 0) (.int .i64 0) (.int .i64 0) (.int .i64 0)
      have hg2 := gset6 w2 (w.heap.size + 1) (.int .u64 0) (.int .i64 0) (.int .i64 0) (.int .i64 0) (.int .i64 0) (.int .i64 0)
      refine bodyPost_ret (v := .tuple #[.slice none 0 0, meV Me.zero, code 1]) (by have c := hm2.cell; simp [results, go_sem, c]; try rfl) rfl ?_
      exact ⟨.inl ⟨HN.out, rfl⟩, HI2.out.bel.grown hg2 HI2.out.bel.size (by intro z hz; injection hz with hz; have := HI2.out.h9; omega)⟩
    have ki : ((id : Int) == 0) = false := by rw [beq_eq_false_iff_ne]; omega
    have HL0 := Lib.hid hl0
    have HI00 := Lib.hid hi0
    clear hl0 hi0
    by_cases hlv : 0 ≤ lv ∧ lv ≤ 10
    · have kv : (decide (0 ≤ lv) && decide (lv ≤ 10)) = true := by simp [hlv]
      have HLV := Lib.hid hlv
      clear hlv
      go_enter Tryz.func8, Tryz.ntmps8
      go_wp2_with fail
      revert HI0
      generalize ((w.alloc (.cells #[.int .i64 pg, .int .i64 sh, .int .i64 bi, .int .i64 hs'] 25)).alloc (.cells meZ 30)) = w1
      intro HI0
      refine (hMay _).mono ?_
      rintro e w2 ⟨rfl, hb2⟩
      have HI2 := Lib.hid (HI0.out.later hb2)
      clear hb2 HI0 hMay
      go_wp2_with fail
      refine (bkAmong_any lv 0 10 _).mono ?_
      rw [kv]
      rintro e w3 ⟨rfl, rfl⟩
      have b0 := HI2.out.b7.cell 0
      simp at b0
      go_wp2_with fail
      refine (pcut_any _ l pg _ (H.out.below HI2.out.bel) (by omega)).mono ?_
      rintro e w3 ⟨x, er, rfl, hcut, hb3⟩
      have HI3 := Lib.hid (HI2.out.later hb3)
      clear b0 hb3 HI2
      obtain ⟨hr, hp1, hp2⟩ := szB_iff.1 HS.out
      by_cases hIs : IsT l
      · obtain ⟨rfl, hps⟩ := hcut.yes hIs hp1 hp2
        have HOK : Hid (BkOk id lv l ⟨pg, sh, bi, hs'⟩) := Lib.hid ⟨HS.out, HL0.out, hIs, HI00.out, HLV.out.1, HLV.out.2⟩
        have HPS : Hid (Sls TsV w3 x (pagesOf l ⟨pg, sh, bi, hs'⟩)) := Lib.hid hps
        clear hps hcut hr hp1 hp2
        obtain ⟨ps, hpse⟩ : ∃ ps, ps = pagesOf l ⟨pg, sh, bi, hs'⟩ := ⟨_, rfl⟩
        rw [← hpse] at HPS
        have HPE := Lib.hid hpse
        have hpl : ps.length ≤ 200 := by
          have := pages_len l ⟨pg, sh, bi, hs'⟩
          rw [hpse]
          omega
        clear hpse
        obtain ⟨Ap, cp, rfl, _, _⟩ := HPS.out.form
        go_wp2_with fail
        refine (told_any id lv _ l _ (H.out.below HI3.out.bel) hIs HL0.out).mono ?_
        rintro e w4 ⟨rfl, hb4⟩
        have HI4 := Lib.hid (HI3.out.later hb4)
        have HPS4 := Lib.hid (sls_ts_below HPS.out hb4)
        clear hb4 HI3 HPS hIs
        simp only [meV]
        obtain ⟨st, hst⟩ : ∃ x, x = stM (flatT l) := ⟨_, rfl⟩
        obtain ⟨en, hen⟩ : ∃ x, x = enM (flatT l) := ⟨_, rfl⟩
        rw [← hst, ← hen]
        have HME : Hid (bkMe id lv l ⟨pg, sh, bi, hs'⟩ = ⟨(id : Int), lv, st, en, (ps.length : Nat), (l.length : Nat)⟩) := Lib.hid (by rw [hst, hen, HPE.out]; rfl)
        clear hst hen
        go_wp2_with fail
        have HB5 : Hid (Blk (w4.alloc (.cells #[.int .u64 (id : Int), .int .i64 lv, .int .i64 st, .int .i64 en, .int .i64 (ps.length : Int), .int .i64 (l.length : Int)] 30)) w4.heap.size 30 #[.int .u64 (id : Int), .int .i64 lv, .int .i64 st, .int .i64 en, .int .i64 (ps.length : Int), .int .i64 (l.length : Int)]) := Lib.hid (Blk.new _ _ _)
        have hb5 : Below w4.heap.size w4 (w4.alloc (.cells #[.int .u64 (id : Int), .int .i64 lv, .int .i64 st, .int .i64 en, .int .i64 (ps.length : Int), .int .i64 (l.length : Int)] 30)) := (Below.refl _ _).alloc (Nat.le_refl _) _
        have HI5 := Lib.hid (HI4.out.later hb5)
        have HPS5 := Lib.hid (sls_ts_below HPS4.out hb5)
        have HG : Hid (w.heap.size + 1 < w4.heap.size ∧ w.heap.size < w4.heap.size) := Lib.hid ⟨HI4.out.b9.lt, HI4.out.b7.lt⟩
        clear hb5 HI4 HPS4
        revert HB5 HI5 HPS5
        generalize w4.alloc (.cells #[.int .u64 (id : Int), .int .i64 lv, .int .i64 st, .int .i64 en, .int .i64 (ps.length : Int), .int .i64 (l.length : Int)] 30) = w5
        intro HB5 HI5 HPS5
        have hcl : ∀ u, Apt (fun z => z = w.heap.size + 1) w5 u → (u.cell? ⟨w4.heap.size, 0, none⟩ = some (.int .u64 (id : Int)) ∧ u.cell? ⟨w4.heap.size, 1, none⟩ = some (.int .i64 lv) ∧ u.cell? ⟨w4.heap.size, 2, none⟩ = some (.int .i64 st) ∧ u.cell? ⟨w4.heap.size, 3, none⟩ = some (.int .i64 en) ∧ u.cell? ⟨w4.heap.size, 4, none⟩ = some (.int .i64 (ps.length : Int)) ∧ u.cell? ⟨w4.heap.size, 5, none⟩ = some (.int .i64 (l.length : Int))) ∧
            u.cell? ⟨w.heap.size, 0, none⟩ = some (.int .i64 pg) ∧ u.cell? ⟨w.heap.size, 1, none⟩ = some (.int .i64 sh) ∧ u.cell? ⟨w.heap.size, 2, none⟩ = some (.int .i64 bi) ∧ u.cell? ⟨w.heap.size, 3, none⟩ = some (.int .i64 hs') := fun u hu => by
          have h4 := (show Blk u w4.heap.size _ _ from (hu.block _ HB5.out.lt fun e => by have := HG.out.1; omega).trans HB5.out)
          have h7 := (show Blk u w.heap.size _ _ from (hu.block _ HI5.out.b7.lt fun e => by omega).trans HI5.out.b7)
          exact ⟨⟨by simpa using h4.cell 0, by simpa using h4.cell 1, by simpa using h4.cell 2, by simpa using h4.cell 3, by simpa using h4.cell 4, by simpa using h4.cell 5⟩, by simpa using h7.cell 0, by simpa using h7.cell 1, by simpa using h7.cell 2, by simpa using h7.cell 3⟩
        refine wp_region_mix [(0, false), (1, false), (2, false), (3, false), (5, false), (4, true), (6, true), (7, true), (8, true)] (fun u => Apt (fun z => z = w.heap.size + 1) w5 u) (by kernel_rfl) (by kernel_rfl) (by kernel_rfl) rfl (Apt.of_below (Below.refl _ _).drew) ?_
        repeat
          (refine mix_read (o := ⟨_, _, _, _, _, _⟩) (v := ?_) rfl (by rfl) (fun w' hS => ?_) ?_
           rotate_left
           obtain ⟨⟨j0, j1, j2, j3, j4, j5⟩, i0, i1, i2, i3⟩ := hcl w' hS
           go_simp
           with_reducible rfl
           try simp only [Act.put, List.setIfInBounds_toArray, List.set_cons_zero, List.set_cons_succ])
        have hme := bkMe_ok HOK.out hid (by rw [← HPE.out]; exact hpl) (by omega)
        rw [HME.out] at hme
        have hpb : pagesB ps = true := by rw [HPE.out]; exact pages_ok HOK.out.is _ (by rw [← HPE.out]; exact hpl)
        have hpg : ∀ p ∈ ps, pgB p = true := by rw [HPE.out]; exact pages_pgB HOK.out.is _
        have hfl : ps.flatten.length ≤ 100000000 := by rw [HPE.out, pages_flat]; omega
        have hC := objects_any id ⟨(id : Int), lv, st, en, (ps.length : Nat), (l.length : Nat)⟩ _ _ l ps ⟨pg, sh, bi, hs'⟩ w5.drew rfl hid hme.1 hme.2 (H.out.below HI5.out.bel.drew) (sls_ts_below HPS5.out (Below.refl _ _).drew) HS.out hpb hpg hpl hfl (HLD.out.below HI5.out.bel.drew)
        clear hpb hpg hfl hme
        have he : bkObs id lv l ⟨pg, sh, bi, hs'⟩ = obPages id ps ++ [⟨nmOf id [105] 0, bkIx ps⟩, ⟨nmOf id [102] 0, (bkFl l ⟨pg, sh, bi, hs'⟩).bytes⟩, ⟨nmOf id [109] 0, sealedOf (meRaw ⟨(id : Int), lv, st, en, (ps.length : Nat), (l.length : Nat)⟩)⟩] := by rw [bkObs, HME.out, HPE.out]
        rw [← he] at hC
        clear he
        obtain ⟨L, hLe⟩ : ∃ L, L = bkObs id lv l ⟨pg, sh, bi, hs'⟩ := ⟨_, rfl⟩
        rw [← hLe] at hC
        have HLE := Lib.hid hLe
        clear hLe
        simp only [meV, szV] at hC
        refine mix_step (o := ⟨_, _, _, _, _, _⟩) rfl (fun K hK => ?_)
        go_simp
        refine hC.mono ?_
        rintro e w6 ⟨x, rfl, hx, hb6⟩
        have h6 : Below w5.heap.size w5 w6 := (Below.refl _ w5).drew.trans hb6
        refine hK.out _ _ (Apt.of_below h6) ?_
        have HI6 := Lib.hid (HI5.out.later h6)
        have HX := Lib.hid (ObR.obs hx)
        have HG5 : Hid (w.heap.size + 1 < w5.drew.heap.size) := Lib.hid HI5.out.b9.lt
        obtain ⟨Ax, cx, rfl, _, _⟩ := hx.form
        clear hC hx hb6 hK K
        try simp only [Act.put, List.setIfInBounds_toArray, List.set_cons_zero, List.set_cons_succ]
        refine mix_step (o := ⟨_, _, _, _, _, _⟩) rfl (fun K hK => ?_)
        go_simp
        refine hK.out _ _ (Apt.of_below h6) ?_
        clear hK K
        try simp only [Act.put, List.setIfInBounds_toArray, List.set_cons_zero, List.set_cons_succ]
        have hfz := fun i => HI6.out.b9.frozen i
        have r0 := HI6.out.b9.cell 0
        have r1 := HI6.out.b9.cell 1
        have r2 := HI6.out.b9.cell 2
        have r3 := HI6.out.b9.cell 3
        have r4 := HI6.out.b9.cell 4
        have r5 := HI6.out.b9.cell 5
        simp at r0 r1 r2 r3 r4 r5
        have hm2 := setall6 _ HI6.out.b9 (.int .u64 (id : Int)) (.int .i64 lv) (.int .i64 st) (.int .i64 en) (.int .i64 (ps.length : Int)) (.int .i64 (l.length : Int))
        have hg2 := gset6 w6 (w.heap.size + 1) (.int .u64 (id : Int)) (.int .i64 lv) (.int .i64 st) (.int .i64 en) (.int .i64 (ps.length : Int)) (.int .i64 (l.length : Int))
        have h60 : Apt (fun z => z = w.heap.size + 1) w5 w6 := Apt.of_below h6
        have h7 := h60.trans (Apt.of_grown (bad := fun z => z = w.heap.size + 1) hg2 fun q hq => (Option.some.inj hq).symm)
        refine mix_step (o := ⟨_, _, _, _, _, _⟩) rfl (fun K hK => ?_)
        go_simp
        refine hK.out _ _ h7 ?_
        clear hK K
        try simp only [Act.put, List.setIfInBounds_toArray, List.set_cons_zero, List.set_cons_succ]
        refine mix_step (o := ⟨_, _, _, _, _, _⟩) rfl (fun K hK => ?_)
        go_simp
        refine hK.out _ _ h7 ?_
        clear hK K
        refine mix_done ?_
        go_wp2_with fail
        have hX2 := (HX.out.apt (bad := fun z => z = w.heap.size + 1) (Apt.of_grown hg2 fun q hq => (Option.some.inj hq).symm) fun q h1 _ e => by have := HG5.out; omega).lower (base' := w.heap.size) (by have := HG5.out; omega)
        rw [HLE.out] at hX2
        refine bodyPost_ret (v := .tuple #[.slice Ax L.length cx, .agg #[.int .u64 (id : Int), .int .i64 lv, .int .i64 st, .int .i64 en, .int .i64 (ps.length : Int), .int .i64 (l.length : Int)], .nilIface]) (by have c := hm2.cell; simp [results, go_sem, c]; try rfl) rfl ?_
        refine ⟨.inr ⟨HOK.out, _, by rw [HME.out]; rfl, ?_⟩, HI6.out.bel.grown hg2 HI6.out.bel.size (by intro z hz; have := Option.some.inj hz; omega)⟩
        rw [HLE.out]
        exact hX2
      · obtain ⟨rfl, rfl⟩ := hcut.no fun h => hIs h.1
        have HN : Hid (¬ BkOk id lv l ⟨pg, sh, bi, hs'⟩) := Lib.hid fun h => hIs h.is
        clear hcut hIs hr hp1 hp2
        have hfz := fun i => HI3.out.b9.frozen i
        have r0 := HI3.out.b9.cell 0
        have r1 := HI3.out.b9.cell 1
        have r2 := HI3.out.b9.cell 2
        have r3 := HI3.out.b9.cell 3
        have r4 := HI3.out.b9.cell 4
        have r5 := HI3.out.b9.cell 5
        simp at r0 r1 r2 r3 r4 r5
        go_wp2_with fail
        have hm2 := setall6 _ HI3.out.b9 (.int .u64 0) (.int .i64 0) (.int .i64 0) (.int .i64 0) (.int .i64 0) (.int .i64 0)
        have hg2 := gset6 w3 (w.heap.size + 1) (.int .u64 0) (.int .i64 0) (.int .i64 0) (.int .i64 0) (.int .i64 0) (.int .i64 0)
        refine bodyPost_ret (v := .tuple #[.slice none 0 0, meV Me.zero, code 1]) (by have c := hm2.cell; simp [results, go_sem, c]; try rfl) rfl ?_
        exact ⟨.inl ⟨HN.out, rfl⟩, HI3.out.bel.grown hg2 HI3.out.bel.size (by intro z hz; injection hz with hz; have := HI3.out.h9; omega)⟩
    · have kv : (decide (0 ≤ lv) && decide (lv ≤ 10)) = false := by
        rw [Bool.and_eq_false_iff, decide_eq_false_iff_not, decide_eq_false_iff_not]
        omega
      have HN : Hid (¬ BkOk id lv l ⟨pg, sh, bi, hs'⟩) := Lib.hid fun h => hlv ⟨h.lv0, h.lv1⟩
      clear hlv
      go_enter Tryz.func8, Tryz.ntmps8
      go_wp2_with fail
      revert HI0
      generalize ((w.alloc (.cells #[.int .i64 pg, .int .i64 sh, .int .i64 bi, .int .i64 hs'] 25)).alloc (.cells meZ 30)) = w1
      intro HI0
      refine (hMay _).mono ?_
      rintro e w2 ⟨rfl, hb2⟩
      have HI2 := Lib.hid (HI0.out.later hb2)
      clear hb2 HI0 hMay
      go_wp2_with fail
      refine (bkAmong_any lv 0 10 _).mono ?_
      rw [kv]
      rintro e w3 ⟨rfl, rfl⟩
      have hfz := fun i => HI2.out.b9.frozen i
      have r0 := HI2.out.b9.cell 0
      have r1 := HI2.out.b9.cell 1
      have r2 := HI2.out.b9.cell 2
      have r3 := HI2.out.b9.cell 3
      have r4 := HI2.out.b9.cell 4
      have r5 := HI2.out.b9.cell 5
      simp at r0 r1 r2 r3 r4 r5
      go_wp2_with fail
      have hm2 := setall6 _ HI2.out.b9 (.int .u64 0) (.int .i64 0) (.int .i64 0) (.int .i64 0) (.int .i64 0) (.int .i64 0)
      have hg2 := gset6 w2 (w.heap.size + 1) (.int .u64 0) (.int .i64 0) (.int .i64 0) (.int .i64 0) (.int .i64 0) (.int .i64 0)
      refine bodyPost_ret (v := .tuple #[.slice none 0 0, meV Me.zero, code 1]) (by have c := hm2.cell; simp [results, go_sem, c]; try rfl) rfl ?_
      exact ⟨.inl ⟨HN.out, rfl⟩, HI2.out.bel.grown hg2 HI2.out.bel.size (by intro z hz; injection hz with hz; have := HI2.out.h9; omega)⟩

end Go.Proofs.YtnghpcfdgjkokaaGreatDoor
