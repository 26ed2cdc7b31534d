/-
  The head of layer 16's statements; ScanAll, walked over whatever scanner keeps ScanK. Conditions: what each says; of the library's tables: Ld.
-/
import Derived.Test.YtfccfnbmmgfgcaaGreatDoorScA
import Derived.Test.YtfccfnbmmgfgcaaGreatDoorRdE
namespace Go.Proofs.YtfccfnbmmgfgcaaGreatDoor
open Go.RowKit
set_option maxRecDepth 100000

section
variable {PSc : World → (Nat → Prop) → Nat → Nat → List Tn → Int → Sm → Bool → Prop} {PSq : World → (Nat → Prop) → Nat → Sm → Value → Nat → Prop}

set_option maxHeartbeats 3200000 in
theorem up16_any (hK : ScanK PSc PSq) (w : World) (hL : Ld w) : Calls Tryz.prog 5 #[] w fun e w' => e = .returned (.bool true) ∧ Below w.heap.size w w' := by
  have HLD := Lib.hid hL
  have eqc := eqCode
  clear hL
  go_enter Tryz.func5, Tryz.ntmps5
  go_wp2_with fail
  refine (snew_ok 100 _ (by omega) (by omega)).mono ?_
  rintro e w1 ⟨g, F, rfl, hP1, hb1, hF1⟩
  have hM := hK.open_no 1 hP1 (fine_start 100 (by omega) (by omega)) (by omega) (by omega) (Keep.of_old (w0 := w) (fun u hu => HLD.out.below hu) hb1 hF1) (by rw [meR_empty]; simp)
  rw [meR_empty] at hM
  simp only [errV_code (show (4 : Int) ≠ 0 by omega)] at hM
  have HB1 := Lib.hid hb1
  have HF1 := Lib.hid hF1
  clear hb1 hP1 hF1
  go_wp2_with fail
  refine hM.mono ?_
  rintro e w2 ⟨rfl, F2, hP2, hG2⟩
  have HB2 : Hid (Below w.heap.size w w2) := Lib.hid (below_apt HB1.out hG2.apt HF1.out HB1.out.size)
  clear hM hP2 hG2 HB1 HF1
  have hN := hK.open_nil 1 (by omega) (HLD.out.below HB2.out)
  go_wp2_with fail
  refine hN.mono ?_
  rintro e w4 ⟨rfl, hb4⟩
  have HB4 := Lib.hid (HB2.out.trans (hb4.mono HB2.out.size))
  clear hN hb4 HB2
  go_wp2_with fail
  go_ret
  exact ⟨rfl, HB4.out⟩

set_option maxHeartbeats 12800000 in
theorem scanAll_any (hK : ScanK PSc PSq) (id : Nat) (v : Value) (l : List Tn) (s : Sz) (tv : Value) (t : List De) (of_ : Nat) (w : World) (h : Ts w v l) (ht : Ds w tv t) (hid : id < 18446744073709551616) (hof : of_ < 18446744073709551616) (hll : l.length ≤ 140737488355328) (hL : Ld w) :
    Calls Tryz.prog 4 #[.int .u64 (id : Int), v, szV s, tv, .int .u64 (of_ : Int)] w fun e w' => e = .returned (.bool true) ∧ Below w.heap.size w w' := by
  obtain ⟨pg, sh, bi, hs⟩ := s
  have H := Lib.hid h
  have HT := Lib.hid ht
  have HLD := Lib.hid hL
  have HB0 : Hid (Below w.heap.size w (w.alloc (.cells #[.int .i64 pg, .int .i64 sh, .int .i64 bi, .int .i64 hs] 25))) := Lib.hid ((Below.refl _ _).alloc (Nat.le_refl _) _)
  have HS0 : Hid (Blk (w.alloc (.cells #[.int .i64 pg, .int .i64 sh, .int .i64 bi, .int .i64 hs] 25)) w.heap.size 25 #[.int .i64 pg, .int .i64 sh, .int .i64 bi, .int .i64 hs]) := Lib.hid (Blk.new _ _ _)
  have hTu := fun u (hu : Ts u v l) (hd : Ds u tv t) (hl : Ld u) => Turned_any id v l ⟨pg, sh, bi, hs⟩ tv t u hu hd hid hll hl
  simp only [szV] at hTu ⊢
  clear h ht hL
  go_enter Tryz.func4, Tryz.ntmps4
  go_wp2_with fail
  revert HB0 HS0
  generalize w.alloc (.cells #[.int .i64 pg, .int .i64 sh, .int .i64 bi, .int .i64 hs] 25) = w0
  intro HB0 HS0
  refine (up16_any hK _ (HLD.out.below HB0.out)).mono ?_
  rintro e w1 ⟨rfl, hb1⟩
  have HB1 := Lib.hid (HB0.out.trans (hb1.mono HB0.out.size))
  have HS1 := Lib.hid (HS0.out.below hb1 HS0.out.lt)
  clear hb1 HB0 HS0
  have b0 := HS1.out.cell 0
  have b1 := HS1.out.cell 1
  have b2 := HS1.out.cell 2
  have b3 := HS1.out.cell 3
  simp at b0 b1 b2 b3
  go_wp2_with fail
  refine (hTu _ (H.out.below HB1.out) (HT.out.below HB1.out) (HLD.out.below HB1.out)).mono ?_
  rintro e w2 hcase
  clear hTu b0 b1 b2 b3
  rcases hcase with ⟨g, rfl, hb2⟩ | ⟨g, gy, F, G, m, rfl, hfew, hmf, hleft, hW2⟩
  · have HB2 := Lib.hid (HB1.out.trans (hb2.mono HB1.out.size))
    clear hb2
    go_wp2_with fail
    go_ret
    exact ⟨rfl, HB2.out⟩
  have HW2 := Lib.hid hW2
  have HM := Lib.hid hmf
  have HLU : Hid (∀ u, Below w1.heap.size w1 u → Ld u) := Lib.hid fun u hu => HLD.out.below (HB1.out.trans (hu.mono HB1.out.size))
  have HFIN : Hid (∀ u, Below w1.heap.size w1 u → Below w.heap.size w u) := Lib.hid fun u hu => HB1.out.trans (hu.mono HB1.out.size)
  have HML := Lib.hid hleft
  clear hW2 hmf hfew hleft
  have hRA := rall_any (N := 300) of_ HW2.out.a HM.out (by omega) hof (Keep.of_old HLU.out HW2.out.below HW2.out.fge)
  have hk := alR_keep m of_
  have HTO : Hid (∀ tot, (alR m of_).1 = (0, tot) → (meR (alR m of_).2 of_).1 = 0 ∧ (tlR (alR m of_).2 of_).1 = (0, tot)) := Lib.hid fun tot h => al_to hk.1 HML.out (hk.2 HML.out) h
  generalize alR m of_ = ar at hRA HTO
  obtain ⟨⟨ac, all⟩, m5⟩ := ar
  simp only at hRA HTO
  clear hk HML
  go_wp2_with fail
  refine hRA.mono ?_
  rintro e w3 ⟨ty, F3, rfl, hP3, hM3, hK3, hG3⟩
  have HW3 : Hid (W2 (fun u => Ts u ty all) w1 w3 (stA g m5) F3 (stB gy gy m) G) := Lib.hid ((HW2.out.stepA (A' := stA g m5) (stA_thing _ _) (stB_thing _ _ _) hP3 hG3.apt hG3.new).say (hK3.less fun q hq => by
    rcases hq with h | h
    · exact .inl (.inr h)
    · exact .inl (.inl ((stB_thing _ _ _).lt HW2.out.b q h))))
  have HM3 := Lib.hid hM3
  clear hRA hP3 hM3 hK3 hG3 HW2 HM
  have hLd := Keep.of_old HLU.out HW3.out.below HW3.out.fge
  by_cases hac : ac = 0
  rotate_left
  · rw [errV_code hac]
    clear HTO
    by_cases hme : (meR m5 of_).1 = 0
    · have hOp := hK.open_ok of_ HW3.out.a HM3.out (by omega) hof hLd hme
      clear hLd hme
      go_wp2_with fail
      refine hOp.mono ?_
      rintro e w4 ⟨c, F4, rfl, _, hG4⟩
      have HB4 : Hid (Below w1.heap.size w1 w4) := Lib.hid (below_apt HW3.out.below hG4.apt HW3.out.fge HW3.out.below.size)
      clear hOp hG4
      go_wp2_with fail
      go_ret
      exact ⟨rfl, HFIN.out _ HB4.out⟩
    · have hOp := hK.open_no of_ HW3.out.a HM3.out (by omega) hof hLd hme
      clear hLd
      go_wp2_with fail
      refine hOp.mono ?_
      rintro e w4 ⟨rfl, F4, _, hG4⟩
      have HB4 : Hid (Below w1.heap.size w1 w4) := Lib.hid (below_apt HW3.out.below hG4.apt HW3.out.fge HW3.out.below.size)
      rw [errV_code hme]
      clear hOp hG4
      go_wp2_with fail
      go_ret
      exact ⟨rfl, HFIN.out _ HB4.out⟩
  subst hac
  obtain ⟨hme, htl⟩ := HTO.out all rfl
  have hOp := hK.open_ok of_ HW3.out.a HM3.out (by omega) hof hLd hme
  rw [htl] at hOp
  generalize (tlR m5 of_).2 = mf at hOp
  simp only [errV_zero]
  simp only at hOp
  clear hLd hme htl HTO
  go_wp2_with fail
  refine hOp.mono ?_
  rintro e w4 ⟨c, F4, rfl, hC4, hG4⟩
  have HW4 : Hid (W2 (fun u => Ts u ty all) w1 w4 (fun u F => PSc u F g c all 0 mf false) F4 (stB gy gy m) G) := Lib.hid (HW3.out.stepA (A' := fun u F => PSc u F g c all 0 mf false) (stA_thing _ _) (stB_thing _ _ _) hC4 hG4.apt hG4.new)
  clear hOp hC4 hG4 HW3 HM3
  obtain ⟨Aw, cw, hwy, hcw1, hcw2⟩ := HW4.out.x.form
  subst hwy
  go_wp2_with fail
  go_loopg [19] all.length (fun gk iv wr => ∃ (k : Nat) (Fk : Nat → Prop), k + gk = all.length ∧ iv = .int .i64 (k : Int) ∧ Hid (W2 (fun u => Ts u (.slice Aw all.length cw) all) w1 wr (fun u F => PSc u F g c (all.drop k) 0 mf false) Fk (stB gy gy m) G))
  case atStart => exact ⟨0, F4, by omega, rfl, HW4⟩
  case round =>
    obtain ⟨k, Fk, hk, rfl, HW⟩ := hrel
    clear HW4
    have hLd := Keep.of_old HLU.out HW.out.below HW.out.fge
    by_cases hlt : k < all.length
    · obtain ⟨gk1, hgk1⟩ : ∃ x, gk = x + 1 := ⟨gk - 1, by omega⟩
      obtain ⟨t, ht⟩ : ∃ t, all[k]? = some t := ⟨_, List.getElem?_eq_getElem hlt⟩
      have hdr : all.drop k = t :: all.drop (k + 1) := by rw [List.drop_eq_getElem_cons hlt, (List.getElem?_eq_some_iff.1 ht).2]
      have hNx := hK.next_on (by have := HW.out.a; simp only [hdr] at this; exact this) hLd
      have HTK := Lib.hid ht
      have a0 : (0 : Int) ≤ (k : Int) := by omega
      have a1 : (k : Int) < (all.length : Int) := by omega
      clear hLd hdr ht
      go_wp2_with fail
      refine hNx.mono ?_
      rintro e w5 ⟨d, F5, rfl, hC5, hS5k, _, hG5⟩
      have hS5 := hS5k.here
      have HW5 : Hid (W2 (fun u => Ts u (.slice Aw all.length cw) all) w1 w5 (fun u F => PSc u F g c (all.drop (k + 1)) 0 mf false) F5 (stB gy gy m) G) := Lib.hid (HW.out.stepA (A' := fun u F => PSc u F g c (all.drop (k + 1)) 0 mf false) (hK.thing _ _ _ _ _ _) (stB_thing _ _ _) hC5 hG5.apt hG5.new)
      obtain ⟨Ad, cd, rfl, _, _⟩ := hS5.form
      have HS5 := Lib.hid hS5
      have hb6 : Below w5.heap.size w5 (w5.alloc (.cells #[.int .u64 t.id, .slice Ad t.sp.length cd] 43)) := (Below.refl _ _).alloc (Nat.le_refl _) _
      have HX6 : Hid (Blk (w5.alloc (.cells #[.int .u64 t.id, .slice Ad t.sp.length cd] 43)) w5.heap.size 43 #[.int .u64 t.id, .slice Ad t.sp.length cd]) := Lib.hid (Blk.new _ _ _)
      have HW6 := Lib.hid (HW5.out.later (hK.thing _ _ _ _ _ _) (stB_thing _ _ _) hb6)
      have HS6 := Lib.hid (HS5.out.below hb6)
      clear hNx hC5 hS5 hS5k hG5 HW HW5 HS5 hb6
      go_wp2_with fail
      revert HX6 HW6 HS6
      generalize w5.alloc (.cells #[.int .u64 t.id, .slice Ad t.sp.length cd] 43) = w6
      generalize w5.heap.size = gx
      intro HX6 HW6 HS6
      obtain ⟨gz, pz, dz, hAz, hgz, z0, z1, hdz, _, _⟩ := Ts.cells HW6.out.x HTK.out
      subst hAz
      obtain ⟨Az, cz, rfl, _, _⟩ := hdz.form
      have hcl : ∀ u, Below w6.heap.size w6 u → u.cell? ⟨gz, pz + k * 2, none⟩ = some (.int .u64 t.id) ∧ u.cell? ⟨gz, pz + k * 2 + 1, none⟩ = some (.slice Az t.sp.length cz) ∧ u.cell? ⟨gx, 0, none⟩ = some (.int .u64 t.id) ∧ u.cell? ⟨gx, 1, none⟩ = some (.slice Ad t.sp.length cd) := fun u hu => by
        have h1 := HX6.out.below hu HX6.out.lt
        exact ⟨(hu.cell hgz).trans z0, (hu.cell hgz).trans z1, by simpa using h1.cell 0, by simpa using h1.cell 1⟩
      have hSp := fun u (hu : Below w6.heap.size w6 u) => Spans_same (.slice Ad t.sp.length cd) (.slice Az t.sp.length cz) t.sp u (HS6.out.below hu) (hdz.below hu)
      refine wp_region_mix [(0, false), (1, false), (2, false), (3, false), (4, false), (5, false), (6, false), (7, false), (8, false), (9, false), (10, false), (11, false), (12, false), (13, false), (14, false), (15, false), (16, false), (17, false), (18, false), (19, false), (20, false), (21, false), (22, false), (23, false), (24, true), (25, false), (26, false)] (fun u => Below w6.heap.size w6 u) (by kernel_rfl) (by kernel_rfl) (by kernel_rfl) rfl (Below.refl _ _).drew ?_
      iterate 24
        (first
          | (refine mix_read (o := ⟨_, _, _, _, _, _⟩) (v := ?_) rfl (by rfl) (fun w' hS => ?_) ?_
             rotate_left
             obtain ⟨c0, c1, c2, c3⟩ := hcl w' hS
             go_simp
             with_reducible rfl
             try simp only [Act.put, List.setIfInBounds_toArray, List.set_cons_zero, List.set_cons_succ])
          | (refine mix_read (o := ⟨_, _, _, _, _, _⟩) (v := .bool false) rfl (by rfl) (fun w' hS => by
               obtain ⟨c0, c1, c2, c3⟩ := hcl w' hS
               go_simp
               try simp) ?_
             try simp only [Act.put, List.setIfInBounds_toArray, List.set_cons_zero, List.set_cons_succ]))
      refine mix_step (o := ⟨_, _, _, _, _, _⟩) rfl (fun K hK2 => ?_)
      go_simp
      refine (hSp _ (Below.refl _ _).drew).mono ?_
      rintro e w7 ⟨rfl, hb7⟩
      have hS7 : Below w6.heap.size w6 w7 := (Below.refl w6.heap.size w6).drew.trans (hb7.mono (Below.refl w6.heap.size w6).drew.size)
      refine hK2.out _ _ hS7 ?_
      clear hK2 K
      try simp only [Act.put, List.setIfInBounds_toArray, List.set_cons_zero, List.set_cons_succ]
      iterate 2
        (first
          | (refine mix_read (o := ⟨_, _, _, _, _, _⟩) (v := ?_) rfl (by rfl) (fun w' hS => ?_) ?_
             rotate_left
             obtain ⟨c0, c1, c2, c3⟩ := hcl w' hS
             go_simp
             with_reducible rfl
             try simp only [Act.put, List.setIfInBounds_toArray, List.set_cons_zero, List.set_cons_succ])
          | (refine mix_read (o := ⟨_, _, _, _, _, _⟩) (v := .bool false) rfl (by rfl) (fun w' hS => by
               obtain ⟨c0, c1, c2, c3⟩ := hcl w' hS
               go_simp
               try simp) ?_
             try simp only [Act.put, List.setIfInBounds_toArray, List.set_cons_zero, List.set_cons_succ]))
      refine mix_done ?_
      have HW7 := Lib.hid (HW6.out.later (hK.thing _ _ _ _ _ _) (stB_thing _ _ _) hS7)
      clear hcl hSp hb7 hS7 HW6 HX6 HS6
      go_wp2_with fail
      go_roundg gk1
      case measure => omega
      case rel => exact ⟨k + 1, F5, by omega, by go_num, HW7⟩
    · have hkn : k = all.length := by omega
      have hdr : all.drop k = [] := by rw [hkn, List.drop_length]
      have hNx := hK.next_end (by have := HW.out.a; simp only [hdr] at this; exact this) hLd
      clear hLd hkn hdr
      go_wp2_with fail
      refine hNx.mono ?_
      rintro e w5 ⟨F5, rfl, hC5, hG5⟩
      have HW5 : Hid (W2 (fun u => Ts u (.slice Aw all.length cw) all) w1 w5 (fun u F => PSc u F g c [] 0 mf true) F5 (stB gy gy m) G) := Lib.hid (HW.out.stepA (A' := fun u F => PSc u F g c [] 0 mf true) (hK.thing _ _ _ _ _ _) (stB_thing _ _ _) hC5 hG5.apt hG5.new)
      have hb6 : Below w5.heap.size w5 (w5.alloc (.cells #[.int .u64 0, .slice none 0 0] 43)) := (Below.refl _ _).alloc (Nat.le_refl _) _
      have HW6 := Lib.hid (HW5.out.later (hK.thing _ _ _ _ _ _) (stB_thing _ _ _) hb6)
      simp only [errV_zero]
      clear hNx hC5 hG5 HW HW5 hb6
      go_wp2_with fail
      revert HW6
      generalize w5.alloc (.cells #[.int .u64 0, .slice none 0 0] 43) = w6
      intro HW6
      refine (hK.done_yes HW6.out.a).mono ?_
      rintro e w7 ⟨rfl, hb7⟩
      have HB7 := Lib.hid (HFIN.out _ (HW6.out.below.trans (hb7.mono HW6.out.below.size)))
      clear hb7 HW6
      go_wp2_with fail
      go_ret
      exact ⟨rfl, HB7.out⟩

theorem scanAll_int (hK : ScanK PSc PSq) (id : Int) (v : Value) (l : List Tn) (s : Sz) (tv : Value) (t : List De) (of_ : Int) (w : World) (h : Ts w v l) (ht : Ds w tv t) (hi0 : 0 ≤ id) (hi1 : id ≤ 18446744073709551615) (ho0 : 0 ≤ of_) (ho1 : of_ ≤ 18446744073709551615) (hll : l.length ≤ 140737488355328) (hL : Ld w) :
    Calls Tryz.prog 4 #[.int .u64 id, v, szV s, tv, .int .u64 of_] w fun e w' => e = .returned (.bool true) ∧ Below w.heap.size w w' := by
  obtain ⟨i, rfl⟩ := nat_of (n := id) hi0
  obtain ⟨o, rfl⟩ := nat_of (n := of_) ho0
  exact scanAll_any hK i v l s tv t o w h ht (by omega) (by omega) hll hL

end

end Go.Proofs.YtfccfnbmmgfgcaaGreatDoor
