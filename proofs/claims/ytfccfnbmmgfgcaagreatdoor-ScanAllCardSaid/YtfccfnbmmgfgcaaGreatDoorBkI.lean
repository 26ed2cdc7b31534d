/-
  CONTRACT of the document's Make where a block may be made: its objects and its meta. Conditions: at most 200 traces, 10000000 spans.
-/
import Derived.Test.YtfccfnbmmgfgcaaGreatDoorBkF
namespace Go.Proofs.YtfccfnbmmgfgcaaGreatDoor
open Go.RowKit
set_option maxRecDepth 100000

set_option maxHeartbeats 12800000 in
theorem DMake_good (id : Nat) (lv : Int) (v : Value) (l : List Tn) (s : Sz) (w : World) (h : Ts w v l) (hid : id < 18446744073709551616) (hll : l.length ≤ 200) (hfl : (flatT l).length ≤ 10000000) (hok : BkOk id lv l s) :
    Calls Tryz.prog 40 #[.int .u64 (id : Int), .int .i64 lv, v, szV s] w fun e w' => DMakeP w w' id lv l s e ∧ Below w.heap.size w w' := by
  obtain ⟨pg, sh, bi, hs'⟩ := s
  obtain ⟨A, c, rfl, hc1, hc2⟩ := h.form
  have H := Lib.hid h
  have HI0 := Lib.hid (BxR.start w #[.int .i64 pg, .int .i64 sh, .int .i64 bi, .int .i64 hs'] meZ)
  have hSz := fun u => DSizes_any ⟨pg, sh, bi, hs'⟩ u
  have hIs := fun u (hu : Ts u (.slice A l.length c) l) => Is_any _ l u hu
  simp only [szV] at hSz ⊢
  clear h
  have HOK := Lib.hid hok
  have HS := Lib.hid hok.sz
  have hl0 := hok.ne
  have hI := hok.is
  have hi0 := hok.id0
  have hv0 : ¬ lv < 0 := by have := hok.lv0; omega
  have hv1 : ¬ 10 < lv := by have := hok.lv1; omega
  rw [hok.sz] at hSz
  rw [isB_true hI] at hIs
  have hlp : 0 < l.length := List.length_pos_iff.2 hl0
  have kl : ((l.length : Int) == 0) = false := by rw [beq_eq_false_iff_ne]; omega
  have ki : ((id : Int) == 0) = false := by rw [beq_eq_false_iff_ne]; omega
  clear hok
  obtain ⟨hr, hp1, hp2⟩ := szB_iff.1 HS.out
  simp only at hr hp1 hp2
  obtain ⟨r1, r2, r3, r4, r5, r6, r7⟩ := rightI_iff.1 hr
  obtain ⟨sh, rfl⟩ := nat_of (n := sh) (by omega)
  obtain ⟨bi, rfl⟩ := nat_of (n := bi) (by omega)
  obtain ⟨hh, rfl⟩ := nat_of (n := hs') (by omega)
  have HNW := Lib.hid (fun u : World => DNew_ok u hr)
  have HFB : Hid ((Bl.new sh bi hh).adds ((flatT l).map fun s => s.tr.toNat) = bkFl l ⟨pg, sh, bi, hh⟩) := Lib.hid (bkFl_flat HOK.out.sz hI)
  clear hr r1 r2 r3 r4 r5 r6 r7 hl0 hi0
  go_enter Tryz.func40, Tryz.ntmps40
  go_wp2_with fail
  revert HI0
  generalize ((w.alloc (.cells #[.int .i64 pg, .int .i64 sh, .int .i64 bi, .int .i64 hh] 25)).alloc (.cells meZ 62)) = w1
  intro HI0
  refine (hSz _).mono ?_
  rintro e w2 ⟨rfl, hb2⟩
  have HI2 := Lib.hid (HI0.out.later hb2)
  clear hb2 HI0 hSz
  go_wp2_with fail
  refine (hIs _ (H.out.below HI2.out.bel)).mono ?_
  rintro e w3 ⟨rfl, hb3⟩
  have HI3 := Lib.hid (HI2.out.later hb3)
  clear hb3 HI2 hIs
  have b0 := HI3.out.b7.cell 0
  simp at b0
  go_wp2_with fail
  refine (Cut_nat pg l.length _ l w3 w3 (H.out.below HI3.out.bel) (Below.refl _ _) hI (Nat.le_refl _) (by omega)).mono ?_
  rintro e w4 ⟨xp, xsp, rfl, hlvp, htwo, hb4⟩
  have HI4 := Lib.hid (HI3.out.later hb4)
  have HPS : Hid (Sls TsV w4 xp (pagesOf l ⟨pg, sh, bi, hh⟩)) := Lib.hid ⟨xsp, hlvp, htwo.mono fun a x hx => PaC.below hx hb4⟩
  clear b0 hb4 HI3 hlvp htwo
  obtain ⟨ps, hpse⟩ : ∃ ps, ps = pagesOf l ⟨pg, sh, bi, hh⟩ := ⟨_, rfl⟩
  rw [← hpse] at HPS
  have HPE := Lib.hid hpse
  have hpl : ps.length ≤ 200 := by
    have := pages_len l ⟨pg, sh, bi, hh⟩
    rw [hpse]
    omega
  clear hpse
  obtain ⟨Ap, cp, rfl, _, _⟩ := HPS.out.form
  have b1 := HI4.out.b7.cell 1
  have b2 := HI4.out.b7.cell 2
  have b3 := HI4.out.b7.cell 3
  simp at b1 b2 b3
  go_wp2_with fail
  refine (HNW.out _).mono ?_
  rintro e w5 ⟨gf, F, rfl, hD5, hb5, hF5⟩
  have HI5 := Lib.hid (HI4.out.later hb5)
  have HB45 := Lib.hid hb5
  have HD5 := Lib.hid hD5
  have HF5 := Lib.hid hF5
  have hF4 : w.heap.size + 1 < w4.heap.size := HI4.out.b9.lt
  have hb45 : w4.heap.size ≤ w5.heap.size := hb5.size
  clear hb5 hD5 hF5 b1 b2 b3
  go_wp2_with fail
  refine (Flat_any _ l _ (H.out.below HI5.out.bel) hfl (by omega)).mono ?_
  rintro e w6 ⟨va, rfl, hva, hb6⟩
  have HI6 := Lib.hid (HI5.out.later hb6)
  have HB46 := Lib.hid (HB45.out.trans (hb6.mono HB45.out.size))
  have HD6 := Lib.hid ((DB.thing gf _).keep HD5.out (Apt.of_below hb6))
  have HA6 := Lib.hid hva.spR
  have HFlt : Hid (∀ z, F z → z < w5.heap.size) := Lib.hid (fun z hz => (DB.thing gf _).lt HD5.out z hz)
  obtain ⟨t0, l', x0, rr, hl0', hs0', hf⟩ := isT_first hI HOK.out.ne
  have hfp : 0 < (flatT l).length := by rw [hf]; simp
  have hf0 : (flatT l)[0]? = some x0 := by rw [hf]; rfl
  have HSE : Hid (stM (flatT l) = stF x0.st (flatT l) ∧ enM (flatT l) = enF x0.en (flatT l)) := Lib.hid (by rw [hf]; exact ⟨rfl, rfl⟩)
  obtain ⟨ga, ca, rfl, _, _, hga5, hga6⟩ := HA6.out.form hfp
  obtain ⟨a0, a2, a3, _⟩ := HA6.out.cells hf0
  simp only [Nat.zero_mul, Nat.zero_add] at a0 a2 a3
  clear hva hb6 HI5 HB45 HD5 hl0' hs0' hf hf0 t0 l' rr
  obtain ⟨fl, hfle⟩ : ∃ fl, fl = flatT l := ⟨_, rfl⟩
  rw [← hfle] at HSE HA6 HFB hfl hfp ⊢
  have HFE := Lib.hid hfle
  clear hfle
  go_wp2_with fail
  have hcl : ∀ u, Below w6.heap.size w6 u → u.cell? ⟨ga, 2, none⟩ = some (.int .i64 x0.st) ∧ u.cell? ⟨ga, 3, none⟩ = some (.int .i64 x0.en) := fun u hu => ⟨(hu.cell (p := ⟨ga, 2, none⟩) hga6).trans a2, (hu.cell (p := ⟨ga, 3, none⟩) hga6).trans a3⟩
  have hfz0 : (0 : Int) < (fl.length : Int) := by omega
  refine wp_region_mix [(0, false), (1, false), (2, false), (3, false), (4, false), (5, false), (6, false), (7, false), (8, false), (9, false), (10, false), (11, false), (12, false), (13, false), (14, false), (15, true), (16, true)] (fun u => Below w6.heap.size w6 u) (by kernel_rfl) (by kernel_rfl) (by kernel_rfl) rfl (Below.refl _ _).drew ?_
  repeat
    (refine mix_read (o := ⟨_, _, _, _, _, _⟩) (v := ?_) rfl (by rfl) (fun w' hS => ?_) ?_
     rotate_left
     obtain ⟨j2, j3⟩ := hcl w' hS
     go_simp
     with_reducible rfl
     try simp only [Act.put, List.setIfInBounds_toArray, List.set_cons_zero, List.set_cons_succ])
  refine mix_step (o := ⟨_, _, _, _, _, _⟩) rfl (fun K hK => ?_)
  go_simp
  refine hK.out _ _ ((Below.refl _ w6).drew.alloc (Nat.le_refl _) _) ?_
  clear hK K
  try simp only [Act.put, List.setIfInBounds_toArray, List.set_cons_zero, List.set_cons_succ]
  refine mix_step (o := ⟨_, _, _, _, _, _⟩) rfl (fun K hK => ?_)
  go_simp
  refine hK.out _ _ ((Below.refl _ w6).drew.alloc (Nat.le_refl _) _) ?_
  clear hK K hcl hfz0
  refine mix_done ?_
  have hb7 : Below w6.heap.size w6 (w6.alloc (.cells #[.int .u64 (id : Int), .int .i64 lv, .int .i64 x0.st, .int .i64 x0.en, .int .i64 (ps.length : Int), .int .i64 (l.length : Int)] 62)).drew := ((Below.refl _ w6).alloc (Nat.le_refl _) _).drew
  have HFM7 : Hid (FilM (w6.alloc (.cells #[.int .u64 (id : Int), .int .i64 lv, .int .i64 x0.st, .int .i64 x0.en, .int .i64 (ps.length : Int), .int .i64 (l.length : Int)] 62)).drew F gf w6.heap.size (Bl.new sh bi hh) ⟨(id : Int), lv, x0.st, x0.en, (ps.length : Nat), (l.length : Nat)⟩ F (w6.alloc (.cells #[.int .u64 (id : Int), .int .i64 lv, .int .i64 x0.st, .int .i64 x0.en, .int .i64 (ps.length : Int), .int .i64 (l.length : Int)] 62)).drew) := Lib.hid
    ⟨(DB.thing gf _).keep HD6.out (Apt.of_below hb7), Blk.new w6 _ _, Goes.refl _ _, fun h => by have := HFlt.out _ h; omega⟩
  have HI7 := Lib.hid (HI6.out.later hb7)
  have HB47 := Lib.hid (HB46.out.trans (hb7.mono HB46.out.size))
  have HA7 := Lib.hid (HA6.out.below hb7)
  have hsz7 : (w6.alloc (.cells #[.int .u64 (id : Int), .int .i64 lv, .int .i64 x0.st, .int .i64 x0.en, .int .i64 (ps.length : Int), .int .i64 (l.length : Int)] 62)).drew.heap.size = w6.heap.size + 1 := by simp
  clear hb7 HI6 HB46 HD6 HA6 a0 a2 a3
  revert HFM7 HI7 HB47 HA7 hsz7
  generalize (w6.alloc (.cells #[.int .u64 (id : Int), .int .i64 lv, .int .i64 x0.st, .int .i64 x0.en, .int .i64 (ps.length : Int), .int .i64 (l.length : Int)] 62)).drew = w7
  obtain ⟨gm, hgm⟩ : ∃ n, n = w6.heap.size := ⟨_, rfl⟩
  rw [← hgm]
  intro HFM7 HI7 HB47 HA7 hsz7
  have HG : Hid (ga < gm ∧ w.heap.size + 1 < w4.heap.size ∧ w4.heap.size ≤ w5.heap.size ∧ w5.heap.size ≤ ga ∧ gm < w7.heap.size) := Lib.hid ⟨by omega, hF4, hb45, hga5, by omega⟩
  clear hga5 hga6 hF4 hgm hsz7 hb45
  go_wp2_with fail
  clear HNW
  go_loopg [17] fl.length (fun gk iv wr => ∃ (k : Nat) (Fk : Nat → Prop), k + gk = fl.length ∧ iv = .int .i64 (k : Int) ∧ Hid (FilM w7 F gf gm ((Bl.new sh bi hh).adds ((fl.take k).map fun s => s.tr.toNat)) ⟨(id : Int), lv, stF x0.st (fl.take k), enF x0.en (fl.take k), (ps.length : Nat), (l.length : Nat)⟩ Fk wr))
  case atStart => exact ⟨0, F, by omega, rfl, HFM7⟩
  case round =>
    obtain ⟨k, Fk, hk, rfl, HW⟩ := hrel
    clear HFM7
    by_cases hlt : k < fl.length
    · obtain ⟨gk1, hgk1⟩ : ∃ x, gk = x + 1 := ⟨gk - 1, by omega⟩
      obtain ⟨x, hkx⟩ : ∃ x, fl[k]? = some x := ⟨_, List.getElem?_eq_getElem hlt⟩
      have hxm : x ∈ fl := List.mem_of_getElem? hkx
      have hAr : SpR wr w5.heap.size (.slice (some ⟨ga, 0, none⟩) fl.length ca) fl := HA7.out.apt HW.out.goes.apt fun q hq => by
        have h1 := Option.some.inj (hq.symm.trans rfl)
        subst h1
        intro hbad
        rcases hbad with h | h
        · have := HFlt.out _ h
          have := HG.out
          omega
        · have := HG.out
          omega
      obtain ⟨c0, c2, c3, hok⟩ := hAr.cells hkx
      obtain ⟨tn, htn⟩ := nat_of hok.tr0
      rw [htn] at c0
      have htb : tn < 18446744073709551616 := by have := hok.tr1; omega
      have HT : Hid ((Bl.new sh bi hh).adds ((fl.take (k + 1)).map fun s => s.tr.toNat) = ((Bl.new sh bi hh).adds ((fl.take k).map fun s => s.tr.toNat)).add tn) := Lib.hid (by
        rw [take_snoc_at hkx, List.map_append, List.map_cons, List.map_nil, htn]
        exact Bl.adds_snoc _ _ _)
      have HST : Hid (stF x0.st (fl.take (k + 1)) = min (stF x0.st (fl.take k)) x.st) := Lib.hid (by rw [take_snoc_at hkx, stF_snoc])
      have HEN : Hid (enF x0.en (fl.take (k + 1)) = max (enF x0.en (fl.take k)) x.en) := Lib.hid (by rw [take_snoc_at hkx, enF_snoc])
      have q0 : (0 : Int) ≤ (k : Int) := by omega
      have q1 : (k : Int) < (fl.length : Int) := by omega
      have hA := DAdd_any tn HW.out.fil htb
      rw [← HT.out] at hA
      have HAR := Lib.hid hAr
      have HKX := Lib.hid hkx
      clear htn hkx hAr hok c2 c3 hxm
      go_wp2_with fail
      refine hA.mono ?_
      rintro e w8 ⟨rfl, F8, hP8, hG8⟩
      have HW8 := Lib.hid (HW.out.add hP8 hG8)
      have hne8 : ¬ Fk ga := fun e => by
        rcases HW.out.goes.new ga (.inl e) with h | h
        · rcases h with h | h
          · have := HFlt.out _ h
            have := HG.out
            omega
          · have := HG.out
            omega
        · have := HG.out
          omega
      have hA8 : SpR w8 w5.heap.size (.slice (some ⟨ga, 0, none⟩) fl.length ca) fl := HAR.out.apt hG8.apt fun q hq => by
        have h1 := Option.some.inj (hq.symm.trans rfl)
        subst h1
        exact hne8
      obtain ⟨_, c2, c3, _⟩ := hA8.cells HKX.out
      have hfz := fun i => HW8.out.m.frozen i
      have m2 := HW8.out.m.cell 2
      have m3 := HW8.out.m.cell 3
      simp [meC] at m2 m3
      clear hA hP8 hG8 hne8 hA8 c0 HW HAR
      obtain ⟨s0, hs0⟩ : ∃ z, z = stF x0.st (fl.take k) := ⟨_, rfl⟩
      obtain ⟨e0, he0⟩ : ∃ z, z = enF x0.en (fl.take k) := ⟨_, rfl⟩
      rw [← hs0, ← he0] at HW8
      rw [← hs0] at m2 HST
      rw [← he0] at m3 HEN
      clear hs0 he0
      by_cases h1 : x.st < s0
      · by_cases h2 : e0 < x.en
        · have HMN : Hid (stF x0.st (fl.take (k + 1)) = x.st ∧ enF x0.en (fl.take (k + 1)) = x.en) := Lib.hid ⟨HST.out.trans (by omega), HEN.out.trans (by omega)⟩
          go_wp2_with fail
          go_quiet (fail)
          go_wp2_with fail
          go_quiet (fail)
          go_wp2_with fail
          go_roundg gk1
          case measure => omega
          case rel =>
            refine ⟨k + 1, F8, by omega, by go_num, Lib.hid ?_⟩
            rw [HMN.out.1, HMN.out.2]
            exact (((HW8.out.drewN _).set2).drewN _).set3
        · have HMN : Hid (stF x0.st (fl.take (k + 1)) = x.st ∧ enF x0.en (fl.take (k + 1)) = e0) := Lib.hid ⟨HST.out.trans (by omega), HEN.out.trans (by omega)⟩
          go_wp2_with fail
          go_quiet (fail)
          go_wp2_with fail
          go_quiet (fail)
          go_wp2_with fail
          go_roundg gk1
          case measure => omega
          case rel =>
            refine ⟨k + 1, F8, by omega, by go_num, Lib.hid ?_⟩
            rw [HMN.out.1, HMN.out.2]
            exact ((HW8.out.drewN _).set2).drewN _
      · by_cases h2 : e0 < x.en
        · have HMN : Hid (stF x0.st (fl.take (k + 1)) = s0 ∧ enF x0.en (fl.take (k + 1)) = x.en) := Lib.hid ⟨HST.out.trans (by omega), HEN.out.trans (by omega)⟩
          go_wp2_with fail
          go_quiet (fail)
          go_wp2_with fail
          go_quiet (fail)
          go_wp2_with fail
          go_roundg gk1
          case measure => omega
          case rel =>
            refine ⟨k + 1, F8, by omega, by go_num, Lib.hid ?_⟩
            rw [HMN.out.1, HMN.out.2]
            exact (HW8.out.drewN _).set3
        · have HMN : Hid (stF x0.st (fl.take (k + 1)) = s0 ∧ enF x0.en (fl.take (k + 1)) = e0) := Lib.hid ⟨HST.out.trans (by omega), HEN.out.trans (by omega)⟩
          go_wp2_with fail
          go_quiet (fail)
          go_wp2_with fail
          go_quiet (fail)
          go_wp2_with fail
          go_roundg gk1
          case measure => omega
          case rel =>
            refine ⟨k + 1, F8, by omega, by go_num, Lib.hid ?_⟩
            rw [HMN.out.1, HMN.out.2]
            exact HW8.out.drewN _
    · have hkn : k = fl.length := by omega
      subst hkn
      have hW := HW.out
      rw [List.take_length, ← HSE.out.1, ← HSE.out.2, HFB.out] at hW
      have HB49 : Hid (Below w4.heap.size w4 wr) := Lib.hid (below_apt HB47.out hW.goes.apt (fun q hq => by
        rcases hq with h | h
        · exact HF5.out q h
        · have := HG.out
          omega) HB47.out.size)
      have HI9 := Lib.hid (HI4.out.later HB49.out)
      have HPS9 := Lib.hid (sls_ts_below HPS.out HB49.out)
      have HD9 := Lib.hid hW.fil
      have HME : Hid (bkMe id lv l ⟨pg, sh, bi, hh⟩ = ⟨(id : Int), lv, stM fl, enM fl, (ps.length : Nat), (l.length : Nat)⟩) := Lib.hid (by rw [HFE.out, HPE.out]; rfl)
      have HM9 : Hid (Blk wr gm 62 (meC (bkMe id lv l ⟨pg, sh, bi, hh⟩))) := Lib.hid (by rw [HME.out]; exact hW.m)
      clear hW HW HI4 HPS HB47 HB49 HI7 HA7 HF5 HFlt HSE HFB hk
      go_wp2_with fail
      revert HI9 HPS9 HD9 HM9
      generalize hw9 : wr = w9
      intro HI9 HPS9 HD9 HM9
      clear hw9
      obtain ⟨B, hB⟩ : ∃ B, B = w9.heap.size := ⟨_, rfl⟩
      have hOn : OwnL 2 w9 B 102 (.slice none 0 0) (((obPages id (ps.take 0)).map obC)) := OwnL.nil _ _ _ _
      have HOn := Lib.hid hOn
      have HBB := Lib.hid hB
      have HHP := Lib.hid (pages_pgB HOK.out.is ⟨pg, sh, bi, hh⟩)
      rw [← HPE.out] at HHP
      clear hOn hB
      go_loopg [18, 19] ps.length (fun gk ov iv wr => ∃ k : Nat, k + gk = ps.length ∧ iv = .int .i64 (k : Int) ∧ Hid (OwnL 2 wr B 102 ov ((obPages id (ps.take k)).map obC) ∧ Below B w9 wr ∧ B ≤ wr.heap.size))
      case atStart => exact ⟨0, by omega, rfl, Lib.hid ⟨HOn.out, Below.refl _ _, Nat.le_of_eq HBB.out⟩⟩
      case round =>
        obtain ⟨k, hk, rfl, HW⟩ := hrel
        clear HOn
        by_cases hlt2 : k < ps.length
        · obtain ⟨gk1, hgk1⟩ : ∃ x, gk = x + 1 := ⟨gk - 1, by omega⟩
          obtain ⟨p, hkp⟩ : ∃ p, ps[k]? = some p := ⟨_, List.getElem?_eq_getElem hlt2⟩
          obtain ⟨z, oz, dz, rfl, hz, c0, hd⟩ := HPS9.out.cell hkp
          have hzB : z < B := by rw [HBB.out]; exact hz
          have HD := Lib.hid ((show Ts w9 dz p from hd).below (by rw [← HBB.out]; exact HW.out.2.1))
          obtain ⟨Az, cz, rfl, _, _⟩ := Ts.form hd
          have HPP := Lib.hid (pgB_iff.1 (HHP.out p (List.mem_of_getElem? hkp)))
          have HN : Hid ((obPages id (ps.take (k + 1))).map obC = (obPages id (ps.take k)).map obC ++ [obC ⟨nmOf id [112] (k : Int), pgOf p⟩]) := Lib.hid (by
            rw [take_snoc_at hkp, obPages_snoc, List.length_take, Nat.min_eq_left (Nat.le_of_lt hlt2), List.map_append]
            rfl)
          have hsl : ∃ Av cv, u18 = .slice Av k cv := by
            obtain ⟨Av, cv, h1, _⟩ := HW.out.1.lv.form
            refine ⟨Av, cv, ?_⟩
            rw [h1, List.length_map, obPages_length, List.length_take, Nat.min_eq_left (Nat.le_of_lt hlt2)]
          obtain ⟨Av, cv, hav⟩ := hsl
          subst hav
          have HLO : Hid (((obPages id (ps.take k)).map obC).length = k) := Lib.hid (by rw [List.length_map, obPages_length, List.length_take, Nat.min_eq_left (Nat.le_of_lt hlt2)])
          have a0 : (0 : Int) ≤ (k : Int) := by omega
          have a1 : (k : Int) < (ps.length : Int) := by omega
          have hcl : ∀ u, Apt (fun q => (Value.slice Av k cv).ownBlock = some q) wr u → u.cell? ⟨z, oz + k, none⟩ = some (.slice Az p.length cz) := fun u hu => by
            have h1 : u.heap[z]? = wr.heap[z]? := hu.block z (Nat.lt_of_lt_of_le hzB HW.out.2.2) fun e => by have := HW.out.1.ge z e; omega
            have h2 : wr.heap[z]? = w9.heap[z]? := HW.out.2.1.block z hzB
            exact (World.cell?_of_block (h1.trans h2)).trans c0
          clear hkp c0 hd
          go_wp2_with fail
          refine wp_region_mix [(0, false), (1, false), (2, false), (4, false), (5, false), (6, false), (7, false), (3, true), (8, true), (9, true), (10, false), (11, true), (12, true), (13, true)] (fun u => Apt (fun q => (Value.slice Av k cv).ownBlock = some q) wr u) (by kernel_rfl) (by kernel_rfl) (by kernel_rfl) rfl (Apt.of_below (Below.refl _ _).drew) ?_
          repeat
            (refine mix_read (o := ⟨_, _, _, _, _, _⟩) (v := ?_) rfl (by rfl) (fun w' hS => ?_) ?_
             rotate_left
             have j0 := hcl w' hS
             go_simp
             with_reducible rfl
             try simp only [Act.put, List.setIfInBounds_toArray, List.set_cons_zero, List.set_cons_succ])
          refine mix_step (o := ⟨_, _, _, _, _, _⟩) rfl (fun K hK => ?_)
          go_simp
          refine (Name_any id [112] (k : Int) _ hid (by omega)).mono ?_
          rintro e y1 ⟨rfl, hy1⟩
          have g1 : Below wr.heap.size wr y1 := (Below.refl _ wr).drew.trans hy1
          refine hK.out _ _ (Apt.of_below g1) ?_
          clear hK K hy1
          try simp only [Act.put, List.setIfInBounds_toArray, List.set_cons_zero, List.set_cons_succ]
          refine mix_step (o := ⟨_, _, _, _, _, _⟩) rfl (fun K hK => ?_)
          go_simp
          refine (Page_any _ p _ (HD.out.below g1) HPP.out.2 (by have := HPP.out.1; omega)).mono ?_
          rintro e y2 ⟨xb, rfl, hxb, hy2⟩
          have g2 : Below wr.heap.size wr y2 := g1.trans (hy2.mono g1.size)
          have hst := strOf hxb.bs
          refine hK.out _ _ (Apt.of_below g2) ?_
          clear hK K hy2
          try simp only [Act.put, List.setIfInBounds_toArray, List.set_cons_zero, List.set_cons_succ]
          refine mix_step (o := ⟨_, _, _, _, _, _⟩) rfl (fun K hK => ?_)
          go_simp
          refine hK.out _ _ (Apt.of_below g2) ?_
          clear hK K hst hxb
          try simp only [Act.put, List.setIfInBounds_toArray, List.set_cons_zero, List.set_cons_succ]
          refine mix_read (o := ⟨_, _, _, _, _, _⟩) (v := ?_) rfl (by rfl) (fun w' hS => ?_) ?_
          rotate_left
          · go_simp
            with_reducible rfl
          try simp only [Act.put, List.setIfInBounds_toArray, List.set_cons_zero, List.set_cons_succ]
          have g3 : Below wr.heap.size wr (y2.alloc (.cells #[.string (Bstr (nmOf id [112] (k : Int))), .string (Bstr (pgOf p))] 102)) := g2.alloc g2.size _
          refine mix_step (o := ⟨_, _, _, _, _, _⟩) rfl (fun K hK => ?_)
          go_simp
          refine hK.out _ _ (Apt.of_below g3) ?_
          clear hK K
          try simp only [Act.put, List.setIfInBounds_toArray, List.set_cons_zero, List.set_cons_succ]
          refine mix_step (o := ⟨_, _, _, _, _, _⟩) rfl (fun K hK => ?_)
          refine step_append_elems objT rfl _ _ rfl rfl (HW.out.1.below g3) rfl (Lv.lit1 y2 (obC ⟨nmOf id [112] (k : Int), pgOf p⟩) 102) (by intro y hy; rw [List.mem_singleton] at hy; subst hy; simp [obC, Value.oneCell']) (by have := HLO.out; simp only [maxLen, List.length_singleton]; omega) (by have := HLO.out; simp only [List.length_singleton]; omega) (Nat.le_trans HW.out.2.2 g3.size) ?_
          intro v4 y4 ho4 hg4 _
          have g4 : Apt (fun q => (Value.slice Av k cv).ownBlock = some q) wr y4 := (Apt.of_below g3).trans (Apt.of_grown hg4 fun q hq => hq)
          have HW4 : Hid (OwnL 2 y4 B 102 v4 ((obPages id (ps.take (k + 1))).map obC) ∧ Below B w9 y4 ∧ B ≤ y4.heap.size) := Lib.hid ⟨by rw [HN.out]; exact ho4, (HW.out.2.1.trans (g3.mono HW.out.2.2)).grown hg4 (Nat.le_trans HW.out.2.2 g3.size) fun q hq => HW.out.1.ge q hq, Nat.le_trans HW.out.2.2 g4.size⟩
          refine hK.out _ _ g4 ?_
          clear hK K ho4 hg4 g3 g2 g1
          try simp only [Act.put, List.setIfInBounds_toArray, List.set_cons_zero, List.set_cons_succ]
          refine mix_step (o := ⟨_, _, _, _, _, _⟩) rfl (fun K hK => ?_)
          go_simp
          refine hK.out _ _ g4 ?_
          clear hK K g4 hcl HW HD HN
          refine mix_done ?_
          go_wp2_with fail
          go_roundg gk1
          case measure => omega
          case rel => exact ⟨k + 1, by omega, by go_num, HW4⟩
        · have hkn : k = ps.length := by omega
          subst hkn
          rw [List.take_length] at HW
          obtain ⟨X, hX⟩ : ∃ X, X = (obPages id ps).map obC := ⟨_, rfl⟩
          have HXL : Hid (X.length ≤ 200) := Lib.hid (by rw [hX, List.length_map, obPages_length]; exact hpl)
          have HXE : Hid ((bkObs id lv l ⟨pg, sh, bi, hh⟩).map obC = X ++ [obC ⟨nmOf id [105] 0, bkIx ps⟩] ++ [obC ⟨nmOf id [102] 0, (bkFl l ⟨pg, sh, bi, hh⟩).bytes⟩] ++ [obC ⟨nmOf id [109] 0, sealedOf (meRaw ⟨(id : Int), lv, stM fl, enM fl, (ps.length : Nat), (l.length : Nat)⟩)⟩]) := Lib.hid (by
            rw [bkObs, HME.out, ← HPE.out, hX]
            simp)
          have hpb : pagesB ps = true := by rw [HPE.out]; exact pages_ok HOK.out.is _ (by rw [← HPE.out]; exact hpl)
          have hpf : ps.flatten.length ≤ 200 := by rw [HPE.out, pages_flat]; exact hll
          have HIX : Hid (∀ x ∈ ps.map firstId, x < 18446744073709551616) := Lib.hid (Pgs.bound fun r hr t ht => (sls_ids HPS9.out r hr t ht).2)
          have hme := bkMe_ok HOK.out hid (by rw [← HPE.out]; exact hpl) (by omega)
          rw [HME.out] at hme
          have HMEO := Lib.hid hme
          rw [← hX] at HW
          clear hX hme
          have HBW : Hid (Below w9.heap.size w9 wr ∧ B ≤ wr.heap.size) := Lib.hid ⟨by rw [← HBB.out]; exact HW.out.2.1, HW.out.2.2⟩
          have HOW := Lib.hid HW.out.1
          have hOf := DOf_any _ ps _ (sls_ts_below HPS9.out HBW.out.1) (by omega) (by omega)
          rw [hpb] at hOf
          clear HW hk hpb hpf
          go_wp2_with fail
          refine hOf.mono ?_
          rintro e y1 ⟨y, rfl, hy, hb1⟩
          have HY1 := Lib.hid (hy trivial)
          obtain ⟨Ay, cy, hyv, _, _⟩ := (hy trivial).form
          rw [List.length_map] at hyv
          subst hyv
          have HB1 : Hid (Below w9.heap.size w9 y1 ∧ B ≤ y1.heap.size) := Lib.hid ⟨HBW.out.1.trans (hb1.mono HBW.out.1.size), Nat.le_trans HBW.out.2 hb1.size⟩
          have HO1 := Lib.hid (HOW.out.below hb1)
          clear hOf hy hb1 HOW HBW
          go_wp2_with fail
          refine (Name_any id [105] 0 _ hid (by omega)).mono ?_
          rintro e y2 ⟨rfl, hb2⟩
          have HB2 : Hid (Below w9.heap.size w9 y2 ∧ B ≤ y2.heap.size) := Lib.hid ⟨HB1.out.1.trans (hb2.mono HB1.out.1.size), Nat.le_trans HB1.out.2 hb2.size⟩
          have HO2 := Lib.hid (HO1.out.below hb2)
          have HY2 := Lib.hid (HY1.out.below hb2)
          clear hb2 HO1 HB1 HY1
          go_wp2_with fail
          refine (Index_any _ (ps.map firstId) _ HY2.out HIX.out (by rw [List.length_map]; omega)).mono ?_
          rintro e y3 ⟨xi, rfl, hxi, hb3⟩
          have hst := strOf hxi
          have HB3 : Hid (Below w9.heap.size w9 y3 ∧ B ≤ y3.heap.size) := Lib.hid ⟨HB2.out.1.trans (hb3.mono HB2.out.1.size), Nat.le_trans HB2.out.2 hb3.size⟩
          have HO3 := Lib.hid (HO2.out.below hb3)
          rw [show sealedOf (ixBytes (ps.map firstId)) = bkIx ps from rfl] at hst
          clear hb3 HO2 HB2 HY2 hxi
          have hbA : Below y3.heap.size y3 (y3.alloc (.cells #[.string (Bstr (nmOf id [105] 0)), .string (Bstr (bkIx ps))] 102)) := (Below.refl _ _).alloc (Nat.le_refl _) _
          have HOA := Lib.hid (HO3.out.below hbA)
          have HLA := Lib.hid (Lv.lit1 y3 (obC ⟨nmOf id [105] 0, bkIx ps⟩) 102)
          go_wp2_with (at_builtin; refine wpList_append_elems _ objT rfl _ _ rfl B _ _ rfl HOA.out _ _ rfl HLA.out (by intro y hy; rw [List.mem_singleton] at hy; subst hy; simp [obC, Value.oneCell']) (by have := HXL.out; simp only [maxLen, List.length_singleton]; omega) (by have := HXL.out; simp only [List.length_singleton]; omega) (Nat.le_trans HB3.out.2 hbA.size) ?_)
          intro v4 y4 ho4 hg4 _
          have HB4' : Hid (Below w9.heap.size w9 y4 ∧ B ≤ y4.heap.size) := Lib.hid ⟨(HB3.out.1.trans (hbA.mono HB3.out.1.size)).grown hg4 (Nat.le_trans HB3.out.1.size hbA.size) fun q hq => by have := HO3.out.ge q hq; have := HBB.out; omega, Nat.le_trans (Nat.le_trans HB3.out.2 hbA.size) hg4.size⟩
          have HO4 : Hid (OwnL 2 y4 B 102 v4 (X ++ [obC ⟨nmOf id [105] 0, bkIx ps⟩])) := Lib.hid ho4
          clear ho4 hg4 hbA HOA HLA HB3 HO3 hst
          go_wp2_with fail
          refine (Name_any id [102] 0 _ hid (by omega)).mono ?_
          rintro e y5 ⟨rfl, hb5⟩
          have HB5 : Hid (Below w9.heap.size w9 y5 ∧ B ≤ y5.heap.size) := Lib.hid ⟨HB4'.out.1.trans (hb5.mono HB4'.out.1.size), Nat.le_trans HB4'.out.2 hb5.size⟩
          have HO5 := Lib.hid (HO4.out.below hb5)
          clear hb5 HO4 HB4'
          go_wp2_with fail
          refine (DBytes_any ((DB.thing gf _).keep HD9.out (Apt.of_below HB5.out.1))).mono ?_
          rintro e y6 ⟨xf, rfl, hxf, hb6⟩
          have hst := strOf hxf.bs
          have HB6 : Hid (Below w9.heap.size w9 y6 ∧ B ≤ y6.heap.size) := Lib.hid ⟨HB5.out.1.trans (hb6.mono HB5.out.1.size), Nat.le_trans HB5.out.2 hb6.size⟩
          have HO6 := Lib.hid (HO5.out.below hb6)
          clear hb6 HO5 HB5 hxf
          have hbA : Below y6.heap.size y6 (y6.alloc (.cells #[.string (Bstr (nmOf id [102] 0)), .string (Bstr ((bkFl l ⟨pg, sh, bi, hh⟩).bytes))] 102)) := (Below.refl _ _).alloc (Nat.le_refl _) _
          have HOA := Lib.hid (HO6.out.below hbA)
          have HLA := Lib.hid (Lv.lit1 y6 (obC ⟨nmOf id [102] 0, (bkFl l ⟨pg, sh, bi, hh⟩).bytes⟩) 102)
          go_wp2_with (at_builtin; refine wpList_append_elems _ objT rfl _ _ rfl B _ _ rfl HOA.out _ _ rfl HLA.out (by intro y hy; rw [List.mem_singleton] at hy; subst hy; simp [obC, Value.oneCell']) (by have := HXL.out; simp only [maxLen, List.length_append, List.length_singleton]; omega) (by have := HXL.out; simp only [List.length_append, List.length_singleton]; omega) (Nat.le_trans HB6.out.2 hbA.size) ?_)
          intro v7 y7 ho7 hg7 _
          have HB7 : Hid (Below w9.heap.size w9 y7 ∧ B ≤ y7.heap.size) := Lib.hid ⟨(HB6.out.1.trans (hbA.mono HB6.out.1.size)).grown hg7 (Nat.le_trans HB6.out.1.size hbA.size) fun q hq => by have := HO6.out.ge q hq; have := HBB.out; omega, Nat.le_trans (Nat.le_trans HB6.out.2 hbA.size) hg7.size⟩
          have HO7 : Hid (OwnL 2 y7 B 102 v7 (X ++ [obC ⟨nmOf id [105] 0, bkIx ps⟩] ++ [obC ⟨nmOf id [102] 0, (bkFl l ⟨pg, sh, bi, hh⟩).bytes⟩])) := Lib.hid (by simpa using ho7)
          clear ho7 hg7 hbA HOA HLA HB6 HO6 hst
          go_wp2_with fail
          obtain ⟨s0, hs0⟩ : ∃ z, z = stM fl := ⟨_, rfl⟩
          obtain ⟨e0, he0⟩ : ∃ z, z = enM fl := ⟨_, rfl⟩
          rw [← hs0, ← he0] at HME HXE HMEO
          rw [HME.out] at HM9
          clear hs0 he0
          obtain ⟨Y, hY⟩ : ∃ Y, Y = X ++ [obC ⟨nmOf id [105] 0, bkIx ps⟩] ++ [obC ⟨nmOf id [102] 0, (bkFl l ⟨pg, sh, bi, hh⟩).bytes⟩] := ⟨_, rfl⟩
          have HYL : Hid (Y.length ≤ 202) := Lib.hid (by rw [hY]; have := HXL.out; simp only [List.length_append, List.length_singleton]; omega)
          rw [← hY] at HO7 HXE
          clear hY
          have HI7 := Lib.hid (HI9.out.later HB7.out.1)
          have HM7 := Lib.hid (HM9.out.below HB7.out.1 HM9.out.lt)
          have HNB : Hid (gm < B ∧ w.heap.size + 1 < B ∧ gm ≠ w.heap.size + 1) := Lib.hid ⟨by rw [HBB.out]; exact HM9.out.lt, by rw [HBB.out]; exact HI9.out.b9.lt, by have := HG.out; omega⟩
          have hcl : ∀ u, Apt (fun q => v7.ownBlock = some q ∨ q = w.heap.size + 1) y7 u → u.cell? ⟨gm, 0, none⟩ = some (.int .u64 (id : Int)) ∧ u.cell? ⟨gm, 1, none⟩ = some (.int .i64 lv) ∧ u.cell? ⟨gm, 2, none⟩ = some (.int .i64 s0) ∧ u.cell? ⟨gm, 3, none⟩ = some (.int .i64 e0) ∧ u.cell? ⟨gm, 4, none⟩ = some (.int .i64 (ps.length : Int)) ∧ u.cell? ⟨gm, 5, none⟩ = some (.int .i64 (l.length : Int)) := fun u hu => by
            have h4 := (show Blk u gm _ _ from (hu.block gm HM7.out.lt fun e => by
              rcases e with e | e
              · have := HO7.out.ge gm e
                have := HNB.out
                omega
              · exact HNB.out.2.2 e).trans HM7.out)
            exact ⟨by simpa [meC] using h4.cell 0, by simpa [meC] using h4.cell 1, by simpa [meC] using h4.cell 2, by simpa [meC] using h4.cell 3, by simpa [meC] using h4.cell 4, by simpa [meC] using h4.cell 5⟩
          have hPl := fun u => Plain_any ⟨(id : Int), lv, s0, e0, (ps.length : Nat), (l.length : Nat)⟩ HMEO.out.2 u HMEO.out.1
          simp only [meV] at hPl
          refine wp_region_mix [(0, false), (1, false), (3, false), (10, false), (2, true), (4, true), (5, true), (6, true), (7, false), (8, true), (9, true), (11, true), (12, true), (13, true)] (fun u => Apt (fun q => v7.ownBlock = some q ∨ q = w.heap.size + 1) y7 u) (by kernel_rfl) (by kernel_rfl) (by kernel_rfl) rfl (Apt.of_below (Below.refl _ _).drew) ?_
          repeat
            (refine mix_read (o := ⟨_, _, _, _, _, _⟩) (v := ?_) rfl (by rfl) (fun w' hS => ?_) ?_
             rotate_left
             obtain ⟨j0, j1, j2, j3, j4, j5⟩ := hcl w' hS
             go_simp
             with_reducible rfl
             try simp only [Act.put, List.setIfInBounds_toArray, List.set_cons_zero, List.set_cons_succ])
          refine mix_step (o := ⟨_, _, _, _, _, _⟩) rfl (fun K hK => ?_)
          go_simp
          refine (Name_any id [109] 0 _ hid (by omega)).mono ?_
          rintro e y8 ⟨rfl, hb8⟩
          have g8 : Below y7.heap.size y7 y8 := (Below.refl _ y7).drew.trans hb8
          refine hK.out _ _ (Apt.of_below g8) ?_
          clear hK K hb8 hcl
          try simp only [Act.put, List.setIfInBounds_toArray, List.set_cons_zero, List.set_cons_succ]
          refine mix_step (o := ⟨_, _, _, _, _, _⟩) rfl (fun K hK => ?_)
          go_simp
          refine (hPl _).mono ?_
          rintro e y9 ⟨xp9, rfl, hx9, hb9⟩
          have g9 : Below y7.heap.size y7 y9 := g8.trans (hb9.mono g8.size)
          refine hK.out _ _ (Apt.of_below g9) ?_
          clear hK K hb9 hPl
          try simp only [Act.put, List.setIfInBounds_toArray, List.set_cons_zero, List.set_cons_succ]
          refine mix_step (o := ⟨_, _, _, _, _, _⟩) rfl (fun K hK => ?_)
          go_simp
          refine (Seal_any _ _ _ (by rw [meRaw_length]; omega) hx9.bs).mono ?_
          rintro e y10 ⟨xs10, rfl, hx10, hb10⟩
          have hst := strOf hx10.bs
          have g10 : Below y7.heap.size y7 y10 := g9.trans (hb10.mono g9.size)
          refine hK.out _ _ (Apt.of_below g10) ?_
          clear hK K hb10 hx9 hx10
          try simp only [Act.put, List.setIfInBounds_toArray, List.set_cons_zero, List.set_cons_succ]
          refine mix_step (o := ⟨_, _, _, _, _, _⟩) rfl (fun K hK => ?_)
          go_simp
          refine hK.out _ _ (Apt.of_below g10) ?_
          clear hK K hst
          try simp only [Act.put, List.setIfInBounds_toArray, List.set_cons_zero, List.set_cons_succ]
          refine mix_read (o := ⟨_, _, _, _, _, _⟩) (v := ?_) rfl (by rfl) (fun w' hS => ?_) ?_
          rotate_left
          · go_simp
            with_reducible rfl
          try simp only [Act.put, List.setIfInBounds_toArray, List.set_cons_zero, List.set_cons_succ]
          have g11 : Below y7.heap.size y7 (y10.alloc (.cells #[.string (Bstr (nmOf id [109] 0)), .string (Bstr (sealedOf (meRaw ⟨(id : Int), lv, s0, e0, (ps.length : Nat), (l.length : Nat)⟩)))] 102)) := g10.alloc g10.size _
          refine mix_step (o := ⟨_, _, _, _, _, _⟩) rfl (fun K hK => ?_)
          go_simp
          refine hK.out _ _ (Apt.of_below g11) ?_
          clear hK K
          try simp only [Act.put, List.setIfInBounds_toArray, List.set_cons_zero, List.set_cons_succ]
          refine mix_step (o := ⟨_, _, _, _, _, _⟩) rfl (fun K hK => ?_)
          refine step_append_elems objT rfl _ _ rfl rfl (HO7.out.below g11) rfl (Lv.lit1 y10 (obC ⟨nmOf id [109] 0, sealedOf (meRaw ⟨(id : Int), lv, s0, e0, (ps.length : Nat), (l.length : Nat)⟩)⟩) 102) (by intro y hy; rw [List.mem_singleton] at hy; subst hy; simp [obC, Value.oneCell']) (by have := HYL.out; simp only [maxLen, List.length_singleton]; omega) (by have := HYL.out; simp only [List.length_singleton]; omega) (Nat.le_trans HB7.out.2 g11.size) ?_
          intro v12 y12 ho12 hg12 _
          have g12 : Apt (fun q => v7.ownBlock = some q ∨ q = w.heap.size + 1) y7 y12 := (Apt.of_below g11).trans (Apt.of_grown hg12 fun q hq => .inl hq)
          have hI11 := HI7.out.later g11
          have HI12 : Hid (BxR w w.heap.size (w.heap.size + 1) #[.int .i64 pg, .int .i64 (sh : Int), .int .i64 (bi : Int), .int .i64 (hh : Int)] meZ y12) := Lib.hid ⟨hI11.b7.grown hg12 fun e => by have := HO7.out.ge _ e.symm; have := HNB.out; omega, hI11.b9.grown hg12 fun e => by have := HO7.out.ge _ e.symm; have := HNB.out; omega, hI11.bel.grown hg12 hI11.bel.size fun q hq => by have := HO7.out.ge _ hq; have := HNB.out; omega, hI11.h9⟩
          have HO12 := Lib.hid ho12
          refine hK.out _ _ g12 ?_
          clear hK K ho12 hg12 g11 g10 g9 g8 hI11
          try simp only [Act.put, List.setIfInBounds_toArray, List.set_cons_zero, List.set_cons_succ]
          refine mix_step (o := ⟨_, _, _, _, _, _⟩) rfl (fun K hK => ?_)
          go_simp
          refine hK.out _ _ g12 ?_
          clear hK K
          try simp only [Act.put, List.setIfInBounds_toArray, List.set_cons_zero, List.set_cons_succ]
          have hfz := fun i => HI12.out.b9.frozen i
          have r0 := HI12.out.b9.cell 0
          have r1 := HI12.out.b9.cell 1
          have r2 := HI12.out.b9.cell 2
          have r3 := HI12.out.b9.cell 3
          have r4 := HI12.out.b9.cell 4
          have r5 := HI12.out.b9.cell 5
          simp at r0 r1 r2 r3 r4 r5
          have hm2 := setall6 _ HI12.out.b9 (.int .u64 (id : Int)) (.int .i64 lv) (.int .i64 s0) (.int .i64 e0) (.int .i64 (ps.length : Int)) (.int .i64 (l.length : Int))
          have hg2 := gset6 y12 (w.heap.size + 1) (.int .u64 (id : Int)) (.int .i64 lv) (.int .i64 s0) (.int .i64 e0) (.int .i64 (ps.length : Int)) (.int .i64 (l.length : Int))
          have h13 := g12.trans (Apt.of_grown (bad := fun q => v7.ownBlock = some q ∨ q = w.heap.size + 1) hg2 fun q hq => .inr (Option.some.inj hq).symm)
          refine mix_step (o := ⟨_, _, _, _, _, _⟩) rfl (fun K hK => ?_)
          go_simp
          refine hK.out _ _ h13 ?_
          clear hK K
          try simp only [Act.put, List.setIfInBounds_toArray, List.set_cons_zero, List.set_cons_succ]
          refine mix_step (o := ⟨_, _, _, _, _, _⟩) rfl (fun K hK => ?_)
          go_simp
          refine hK.out _ _ h13 ?_
          clear hK K
          refine mix_done ?_
          go_wp2_with fail
          have hO13 := (HO12.out.apt (bad := fun q => q = w.heap.size + 1) (Apt.of_grown hg2 fun q hq => (Option.some.inj hq).symm) fun q hq e => by have := HO12.out.ge q hq; have := HNB.out; omega).lower (base' := w.heap.size) (by have := HNB.out; omega)
          rw [← HXE.out] at hO13
          refine bodyPost_ret (v := .tuple #[v12, .agg #[.int .u64 (id : Int), .int .i64 lv, .int .i64 s0, .int .i64 e0, .int .i64 (ps.length : Int), .int .i64 (l.length : Int)], .int .i64 0]) (by have c := hm2.cell; simp [results, go_sem, c]; try rfl) rfl ?_
          exact ⟨.inr ⟨HOK.out, _, by rw [HME.out]; rfl, hO13⟩, HI12.out.bel.grown hg2 HI12.out.bel.size (by intro z hz; have := Option.some.inj hz; omega)⟩

end Go.Proofs.YtfccfnbmmgfgcaaGreatDoor
