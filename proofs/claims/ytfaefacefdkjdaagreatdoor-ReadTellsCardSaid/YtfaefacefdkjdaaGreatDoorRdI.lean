/-
  ReadTells, walked: what is read of a block, whatever became of its objects. Conditions: what each says; of the library's tables: Ld.
-/
import Derived.Test.YtfaefacefdkjdaaGreatDoorRdG
import Derived.Test.YtfaefacefdkjdaaGreatDoorRdE
namespace Go.Proofs.YtfaefacefdkjdaaGreatDoor
open Go.RowKit
set_option maxRecDepth 100000

set_option maxHeartbeats 12800000 in
theorem readTells_any (id : Nat) (v : Value) (l : List Tn) (s : Sz) (tv : Value) (t : List De) (of_ tr : Nat) (fails : Int) (w : World) (h : Ts w v l) (ht : Ds w tv t) (hid : id < 18446744073709551616) (hof : of_ < 18446744073709551616) (htr : tr < 18446744073709551616) (hf0 : -9223372036854775808 ≤ fails) (hf1 : fails ≤ 9223372036854775807) (hll : l.length ≤ 140737488355328) (hL : Ld w) :
    Calls Tryz.prog 3 #[.int .u64 (id : Int), v, szV s, tv, .int .u64 (of_ : Int), .int .u64 (tr : Int), .int .i64 fails] w fun e w' => e = .returned (.bool true) ∧ Below w.heap.size w w' := by
  obtain ⟨pg, sh, bi, hs⟩ := s
  have H := Lib.hid h
  have HT := Lib.hid ht
  have HLD := Lib.hid hL
  have HB0 : Hid (Below w.heap.size w (w.alloc (.cells #[.int .i64 pg, .int .i64 sh, .int .i64 bi, .int .i64 hs] 25))) := Lib.hid ((Below.refl _ _).alloc (Nat.le_refl _) _)
  have HS0 : Hid (Blk (w.alloc (.cells #[.int .i64 pg, .int .i64 sh, .int .i64 bi, .int .i64 hs] 25)) w.heap.size 25 #[.int .i64 pg, .int .i64 sh, .int .i64 bi, .int .i64 hs]) := Lib.hid (Blk.new _ _ _)
  have hTu := fun u (hu : Ts u v l) (hd : Ds u tv t) (hl : Ld u) => Turned_any id v l ⟨pg, sh, bi, hs⟩ tv t u hu hd hid hll hl
  simp only [szV] at hTu ⊢
  clear h ht hL
  go_enter Tryz.func3, Tryz.ntmps3
  go_wp2_with fail
  revert HB0 HS0
  generalize w.alloc (.cells #[.int .i64 pg, .int .i64 sh, .int .i64 bi, .int .i64 hs] 25) = w0
  intro HB0 HS0
  refine (up15_any _ (HLD.out.below HB0.out)).mono ?_
  rintro e w1 ⟨rfl, hb1⟩
  have HB1 := Lib.hid (HB0.out.trans (hb1.mono HB0.out.size))
  have HS1 := Lib.hid (HS0.out.below hb1 HS0.out.lt)
  clear hb1 HB0 HS0
  have b0 := HS1.out.cell 0
  have b1 := HS1.out.cell 1
  have b2 := HS1.out.cell 2
  have b3 := HS1.out.cell 3
  simp at b0 b1 b2 b3
  go_wp2_with fail
  refine (hTu _ (H.out.below HB1.out) (HT.out.below HB1.out) (HLD.out.below HB1.out)).mono ?_
  rintro e w2 hcase
  clear hTu b0 b1 b2 b3
  rcases hcase with ⟨g, rfl, hb2⟩ | ⟨g, gy, F, G, m, rfl, hfew, hmf, hW2⟩
  · have HB2 := Lib.hid (HB1.out.trans (hb2.mono HB1.out.size))
    clear hb2
    go_wp2_with fail
    go_ret
    exact ⟨rfl, HB2.out⟩
  have HW2 := Lib.hid hW2
  have HM := Lib.hid hmf
  have HLU : Hid (∀ u, Below w1.heap.size w1 u → Ld u) := Lib.hid fun u hu => HLD.out.below (HB1.out.trans (hu.mono HB1.out.size))
  have HFIN : Hid (∀ u, Below w1.heap.size w1 u → Below w.heap.size w u) := Lib.hid fun u hu => HB1.out.trans (hu.mono HB1.out.size)
  clear hW2 hmf hfew
  have hfl := sfail_any (n := fails) HW2.out.a hf0 hf1
  go_wp2_with fail
  refine hfl.mono ?_
  rintro e w3 ⟨rfl, hP3, hg3⟩
  have HW3 := Lib.hid (HW2.out.stepA (A' := stA g (failS m fails)) (stA_thing _ _) (stB_thing _ _ _) hP3 (Apt.of_grown hg3 fun q hq => by rw [← Option.some.inj hq]; exact hP3.Fg) fun q hq => .inl hq)
  clear hfl hP3 hg3 HW2
  obtain ⟨vy, hD3, hG3⟩ := HW3.out.b
  have hfl := Fail_any gy gy vy m fails w3 hD3
  go_wp2_with fail
  refine hfl.mono ?_
  rintro e w4 ⟨rfl, hD4, hg4⟩
  obtain ⟨m1, hm1⟩ : ∃ z, z = failS m fails := ⟨_, rfl⟩
  have HW4 : Hid (W2 (fun _ => True) w1 w4 (stA g m1) F (stB gy gy m1) G) := Lib.hid (by
    rw [hm1]
    exact HW3.out.stepB (B' := stB gy gy (failS m fails)) (stA_thing _ _) ⟨vy, hD4, hG3⟩ (Apt.of_grown hg4 fun q hq => by rw [hG3]; exact .inl (Option.some.inj hq).symm) fun q hq => .inl hq)
  have HM1 : Hid (m1.fine 300) := Lib.hid (by rw [hm1]; exact HM.out.fail fails hf1)
  clear hfl hD3 hG3 hD4 hg4 HW3 hm1 vy HM
  have hRM := rmeta_any of_ HW4.out.a HM1.out (by omega) hof (HLU.out _ HW4.out.below)
  have hDM := fun u (vs : Value) (hd : DS u gy gy vs m1) => DMeta_any of_ u hd (HM1.out.ok (by omega)) (by have := HM1.out.calls1; omega) hof
  have HMC : Hid (0 ≤ (meR m1 of_).1 ∧ (meR m1 of_).1 ≤ 10) := Lib.hid (meR_code m1 of_)
  generalize meR m1 of_ = mr at hRM hDM HMC
  obtain ⟨mc, mi, ml, ms, mn, mp, mt⟩ := mr
  simp only [meV] at hRM hDM HMC
  have HM2 : Hid ((callS m1).fine 301) := Lib.hid HM1.out.call
  go_wp2_with fail
  refine hRM.mono ?_
  rintro e w5 ⟨rfl, F5, hP5, hG5⟩
  have HW5 := Lib.hid (HW4.out.stepA (A' := stA g (callS m1)) (stA_thing _ _) (stB_thing _ _ _) hP5 hG5.apt hG5.new)
  have hb6 : Below w5.heap.size w5 (w5.alloc (.cells #[.int .u64 mi, .int .i64 ml, .int .i64 ms, .int .i64 mn, .int .i64 mp, .int .i64 mt] 34)) := (Below.refl _ _).alloc (Nat.le_refl _) _
  have HW6 : Hid (W2 (fun u => Blk u w5.heap.size 34 #[.int .u64 mi, .int .i64 ml, .int .i64 ms, .int .i64 mn, .int .i64 mp, .int .i64 mt]) w1 (w5.alloc (.cells #[.int .u64 mi, .int .i64 ml, .int .i64 ms, .int .i64 mn, .int .i64 mp, .int .i64 mt] 34)) (stA g (callS m1)) F5 (stB gy gy m1) G) := Lib.hid ((HW5.out.later (stA_thing _ _) (stB_thing _ _ _) hb6).say (keepBlk (Blk.new w5 _ _) fun hbad => by
      have := HW5.out.bad_lt (stA_thing _ _) (stB_thing _ _ _) _ hbad
      omega))
  clear hRM hP5 hG5 hb6 HW4 HW5
  go_wp2_with fail
  revert HW6
  generalize w5.alloc (.cells #[.int .u64 mi, .int .i64 ml, .int .i64 ms, .int .i64 mn, .int .i64 mp, .int .i64 mt] 34) = w6
  generalize w5.heap.size = g6
  intro HW6
  obtain ⟨vy, hD6, hG6⟩ := HW6.out.b
  refine (hDM w6 vy hD6).mono ?_
  rintro e w7 ⟨rfl, hD7, hA7⟩
  have HW7 := Lib.hid (HW6.out.stepB (B' := stB gy gy (callS m1)) (stA_thing _ _) ⟨vy, hD7, hG6⟩ (hA7.mono fun q _ hq => by rw [hG6]; exact .inl hq) fun q hq => .inl hq)
  clear hDM hD6 hG6 hD7 hA7 HW6 vy
  have hb8 : Below w7.heap.size w7 (w7.alloc (.cells #[.int .u64 mi, .int .i64 ml, .int .i64 ms, .int .i64 mn, .int .i64 mp, .int .i64 mt] 34)) := (Below.refl _ _).alloc (Nat.le_refl _) _
  have HW8a := Lib.hid (HW7.out.later (stA_thing _ _) (stB_thing _ _ _) hb8)
  have HW8 : Hid (W2 (fun u => Blk u g6 34 #[.int .u64 mi, .int .i64 ml, .int .i64 ms, .int .i64 mn, .int .i64 mp, .int .i64 mt] ∧ Blk u w7.heap.size 34 #[.int .u64 mi, .int .i64 ml, .int .i64 ms, .int .i64 mn, .int .i64 mp, .int .i64 mt]) w1 (w7.alloc (.cells #[.int .u64 mi, .int .i64 ml, .int .i64 ms, .int .i64 mn, .int .i64 mp, .int .i64 mt] 34)) (stA g (callS m1)) F5 (stB gy gy (callS m1)) G) := Lib.hid (HW8a.out.say (HW8a.out.kx.and (keepBlk (Blk.new w7 _ _) fun hbad => by
    have := HW7.out.bad_lt (stA_thing _ _) (stB_thing _ _ _) _ hbad
    omega)))
  have hlt7 := HW7.out.x.lt
  have p0 := HW7.out.x.cell 0
  have p1 := HW7.out.x.cell 1
  have p2 := HW7.out.x.cell 2
  have p3 := HW7.out.x.cell 3
  have p4 := HW7.out.x.cell 4
  have p5 := HW7.out.x.cell 5
  simp at p0 p1 p2 p3 p4 p5
  clear HW8a hb8 HW7
  have nec := neCode
  go_wp2_with fail
  revert HW8
  generalize w7.alloc (.cells #[.int .u64 mi, .int .i64 ml, .int .i64 ms, .int .i64 mn, .int .i64 mp, .int .i64 mt] 34) = w8
  generalize w7.heap.size = g8
  intro HW8
  clear p0 p1 p2 p3 p4 p5 hlt7
  refine (Code_err mc _ HMC.out).mono ?_
  rintro e w9 ⟨rfl, rfl⟩
  obtain ⟨m2, hm2⟩ : ∃ z, z = callS m1 := ⟨_, rfl⟩
  rw [← hm2] at HM2
  have HW9 : Hid (W2 (fun _ => True) w1 w8 (stA g m2) F5 (stB gy gy m2) G) := Lib.hid (by
    rw [hm2]
    exact HW8.out.say fun _ _ => trivial)
  clear HW8 HMC hm2 HM1
  have hRF := rfind_any (N := 301) of_ tr HW9.out.a HM2.out (by omega) hof htr (Keep.of_old HLU.out HW9.out.below HW9.out.fge)
  have hDF := fun u (vs : Value) (hd : DS u gy gy vs m2) => DFind14_any (N := 301) of_ tr u hd HM2.out (by omega) hof htr
  have HFC := Lib.hid (fiR_code m2 of_ tr)
  generalize fiR m2 of_ tr = fr at hRF hDF HFC
  obtain ⟨⟨fc, sp⟩, m3⟩ := fr
  simp only at hRF hDF HFC
  go_wp2_with fail
  refine hRF.mono ?_
  rintro e w10 ⟨y, F10, rfl, hP10, hM10, hK10, hG10⟩
  have HW10 : Hid (W2 (fun u => Ss u y sp) w1 w10 (stA g m3) F10 (stB gy gy m2) G) := Lib.hid ((HW9.out.stepA (A' := stA g m3) (stA_thing _ _) (stB_thing _ _ _) hP10 hG10.apt hG10.new).say (hK10.less fun q hq => by
    rcases hq with h | h
    · exact .inl (.inr h)
    · exact .inl (.inl ((stB_thing _ _ _).lt HW9.out.b q h))))
  have HM3 := Lib.hid hM10
  clear hRF hP10 hM10 hK10 hG10 HW9
  obtain ⟨vy, hD10, hG10⟩ := HW10.out.b
  go_wp2_with fail
  refine (hDF _ vy hD10).mono ?_
  rintro e w11 ⟨z, rfl, hD11, _, hS11, hA11⟩
  have HW11 := Lib.hid (HW10.out.stepB (B' := stB gy gy m3) (stA_thing _ _) ⟨vy, hD11, hG10⟩ (hA11.mono fun q _ hq => by rw [hG10]; exact .inl hq) fun q hq => .inl hq)
  have hSp := Spans_same y z sp w11 HW11.out.x hS11
  clear hDF hD10 hG10 hD11 hS11 hA11 HW10 vy
  go_wp2_with fail
  refine hSp.mono ?_
  rintro e w12 ⟨rfl, hb12⟩
  have HW12 := Lib.hid ((HW11.out.later (stA_thing _ _) (stB_thing _ _ _) hb12).say (X' := fun _ => True) fun _ _ => trivial)
  clear hSp hb12 HW11
  go_wp2_with fail
  refine (Code_err fc _ HFC.out).mono ?_
  rintro e w13 ⟨rfl, rfl⟩
  clear HFC HM2
  have hfl := sfail_any (n := fails) HW12.out.a hf0 hf1
  go_wp2_with fail
  refine hfl.mono ?_
  rintro e w14 ⟨rfl, hP14, hg14⟩
  have HW14 := Lib.hid (HW12.out.stepA (A' := stA g (failS m3 fails)) (stA_thing _ _) (stB_thing _ _ _) hP14 (Apt.of_grown hg14 fun q hq => by rw [← Option.some.inj hq]; exact hP14.Fg) fun q hq => .inl hq)
  clear hfl hP14 hg14 HW12
  obtain ⟨vy, hD14, hG14⟩ := HW14.out.b
  have hfl := Fail_any gy gy vy m3 fails w14 hD14
  go_wp2_with fail
  refine hfl.mono ?_
  rintro e w15 ⟨rfl, hD15, hg15⟩
  obtain ⟨m4, hm4⟩ : ∃ z, z = failS m3 fails := ⟨_, rfl⟩
  have HW15 : Hid (W2 (fun _ => True) w1 w15 (stA g m4) F10 (stB gy gy m4) G) := Lib.hid (by
    rw [hm4]
    exact HW14.out.stepB (B' := stB gy gy (failS m3 fails)) (stA_thing _ _) ⟨vy, hD15, hG14⟩ (Apt.of_grown hg15 fun q hq => by rw [hG14]; exact .inl (Option.some.inj hq).symm) fun q hq => .inl hq)
  have HM4 : Hid (m4.fine 304) := Lib.hid (by rw [hm4]; exact HM3.out.fail fails hf1)
  clear hfl hD14 hG14 hD15 hg15 HW14 hm4 vy HM3
  have hRA := rall_any (N := 304) of_ HW15.out.a HM4.out (by omega) hof (Keep.of_old HLU.out HW15.out.below HW15.out.fge)
  have hDA := fun u (vs : Value) (hd : DS u gy gy vs m4) => DAll_any (N := 304) of_ u hd HM4.out (by omega) hof
  have HAC := Lib.hid (alR_code m4 of_)
  generalize alR m4 of_ = ar at hRA hDA HAC
  obtain ⟨⟨ac, all⟩, m5⟩ := ar
  simp only at hRA hDA HAC
  go_wp2_with fail
  refine hRA.mono ?_
  rintro e w16 ⟨ty, F16, rfl, hP16, _, hK16, hG16⟩
  have HW16 : Hid (W2 (fun u => Ts u ty all) w1 w16 (stA g m5) F16 (stB gy gy m4) G) := Lib.hid ((HW15.out.stepA (A' := stA g m5) (stA_thing _ _) (stB_thing _ _ _) hP16 hG16.apt hG16.new).say (hK16.less fun q hq => by
    rcases hq with h | h
    · exact .inl (.inr h)
    · exact .inl (.inl ((stB_thing _ _ _).lt HW15.out.b q h))))
  clear hRA hP16 hK16 hG16 HW15
  obtain ⟨vy, hD16, hG16⟩ := HW16.out.b
  go_wp2_with fail
  refine (hDA _ vy hD16).mono ?_
  rintro e w17 ⟨tz, rfl, hD17, _, hT17, hA17⟩
  have HW17 := Lib.hid (HW16.out.stepB (B' := stB gy gy m5) (stA_thing _ _) ⟨vy, hD17, hG16⟩ (hA17.mono fun q _ hq => by rw [hG16]; exact .inl hq) fun q hq => .inl hq)
  have hcl : ∀ u, Below w17.heap.size w17 u → u.cell? ⟨gy, 2, none⟩ = some (.int .i64 m5.calls) := fun u hu => by
    obtain ⟨vz, hDz, _⟩ := HW17.out.b
    have h3 := hDz.blk.below hu hDz.blk.lt
    simpa using h3.cell 2
  have hTr := fun u (hu : Below w17.heap.size w17 u) => Traces_same ty tz all u (HW17.out.x.below hu) (hT17.below hu)
  have hCa := fun u (hu : Below w17.heap.size w17 u) => scalls_any (HW17.out.a.below hu)
  clear hDA hD16 hG16 hD17 hT17 hA17 HW16 vy
  go_wp2_with fail
  refine wp_region_mix [(0, false), (1, false), (2, false), (3, false), (4, true), (5, false), (6, false), (7, false), (9, false), (8, true), (10, false), (11, false), (12, false), (13, false), (15, false), (16, false), (17, false), (18, false), (14, true), (19, false), (20, false), (21, false)] (fun u => Below w17.heap.size w17 u) (by kernel_rfl) (by kernel_rfl) (by kernel_rfl) rfl (Below.refl _ _).drew ?_
  iterate 4
    (first
      | (refine mix_read (o := ⟨_, _, _, _, _, _⟩) (v := ?_) rfl (by rfl) (fun w' hS => ?_) ?_
         rotate_left
         have c2 := hcl w' hS
         go_simp
         with_reducible rfl
         try simp only [Act.put, List.setIfInBounds_toArray, List.set_cons_zero, List.set_cons_succ])
      | (refine mix_read (o := ⟨_, _, _, _, _, _⟩) (v := .bool true) rfl (by rfl) (fun w' hS => by
           have c2 := hcl w' hS
           go_simp
           try simp) ?_
         try simp only [Act.put, List.setIfInBounds_toArray, List.set_cons_zero, List.set_cons_succ]))
  refine mix_step (o := ⟨_, _, _, _, _, _⟩) rfl (fun K hK => ?_)
  go_simp
  refine (hTr _ (Below.refl _ _).drew).mono ?_
  rintro e w18 ⟨rfl, hb18⟩
  have hS18 : Below w17.heap.size w17 w18 := (Below.refl w17.heap.size w17).drew.trans (hb18.mono (Below.refl w17.heap.size w17).drew.size)
  refine hK.out _ _ hS18 ?_
  clear hK K
  try simp only [Act.put, List.setIfInBounds_toArray, List.set_cons_zero, List.set_cons_succ]
  iterate 4
    (first
      | (refine mix_read (o := ⟨_, _, _, _, _, _⟩) (v := ?_) rfl (by rfl) (fun w' hS => ?_) ?_
         rotate_left
         have c2 := hcl w' hS
         go_simp
         with_reducible rfl
         try simp only [Act.put, List.setIfInBounds_toArray, List.set_cons_zero, List.set_cons_succ])
      | (refine mix_read (o := ⟨_, _, _, _, _, _⟩) (v := .bool true) rfl (by rfl) (fun w' hS => by
           have c2 := hcl w' hS
           go_simp
           try simp) ?_
         try simp only [Act.put, List.setIfInBounds_toArray, List.set_cons_zero, List.set_cons_succ]))
  refine mix_step (o := ⟨_, _, _, _, _, _⟩) rfl (fun K hK => ?_)
  go_simp
  refine (Code_err ac _ HAC.out).mono ?_
  rintro e w18 ⟨rfl, rfl⟩
  refine hK.out _ _ (hS18) ?_
  clear hK K
  try simp only [Act.put, List.setIfInBounds_toArray, List.set_cons_zero, List.set_cons_succ]
  iterate 8
    (first
      | (refine mix_read (o := ⟨_, _, _, _, _, _⟩) (v := ?_) rfl (by rfl) (fun w' hS => ?_) ?_
         rotate_left
         have c2 := hcl w' hS
         go_simp
         with_reducible rfl
         try simp only [Act.put, List.setIfInBounds_toArray, List.set_cons_zero, List.set_cons_succ])
      | (refine mix_read (o := ⟨_, _, _, _, _, _⟩) (v := .bool true) rfl (by rfl) (fun w' hS => by
           have c2 := hcl w' hS
           go_simp
           try simp) ?_
         try simp only [Act.put, List.setIfInBounds_toArray, List.set_cons_zero, List.set_cons_succ]))
  refine mix_step (o := ⟨_, _, _, _, _, _⟩) rfl (fun K hK => ?_)
  go_simp
  refine (hCa _ hS18).mono ?_
  rintro e w18 ⟨rfl, rfl⟩
  refine hK.out _ _ (hS18) ?_
  clear hK K
  try simp only [Act.put, List.setIfInBounds_toArray, List.set_cons_zero, List.set_cons_succ]
  iterate 3
    (first
      | (refine mix_read (o := ⟨_, _, _, _, _, _⟩) (v := ?_) rfl (by rfl) (fun w' hS => ?_) ?_
         rotate_left
         have c2 := hcl w' hS
         go_simp
         with_reducible rfl
         try simp only [Act.put, List.setIfInBounds_toArray, List.set_cons_zero, List.set_cons_succ])
      | (refine mix_read (o := ⟨_, _, _, _, _, _⟩) (v := .bool true) rfl (by rfl) (fun w' hS => by
           have c2 := hcl w' hS
           go_simp
           try simp) ?_
         try simp only [Act.put, List.setIfInBounds_toArray, List.set_cons_zero, List.set_cons_succ]))
  refine mix_done ?_
  go_wp2_with fail
  go_ret
  exact ⟨rfl, HFIN.out _ (HW17.out.below.trans (hS18.mono HW17.out.below.size))⟩

theorem readTells_int (id : Int) (v : Value) (l : List Tn) (s : Sz) (tv : Value) (t : List De) (of_ tr fails : Int) (w : World) (h : Ts w v l) (ht : Ds w tv t) (hi0 : 0 ≤ id) (hi1 : id ≤ 18446744073709551615) (ho0 : 0 ≤ of_) (ho1 : of_ ≤ 18446744073709551615) (ht0 : 0 ≤ tr) (ht1 : tr ≤ 18446744073709551615) (hf0 : -9223372036854775808 ≤ fails) (hf1 : fails ≤ 9223372036854775807) (hll : l.length ≤ 140737488355328) (hL : Ld w) :
    Calls Tryz.prog 3 #[.int .u64 id, v, szV s, tv, .int .u64 of_, .int .u64 tr, .int .i64 fails] w fun e w' => e = .returned (.bool true) ∧ Below w.heap.size w w' := by
  obtain ⟨i, rfl⟩ := nat_of (n := id) hi0
  obtain ⟨o, rfl⟩ := nat_of (n := of_) ho0
  obtain ⟨r, rfl⟩ := nat_of (n := tr) ht0
  exact readTells_any i v l s tv t o r fails w h ht (by omega) (by omega) (by omega) hf0 hf1 hll hL

end Go.Proofs.YtfaefacefdkjdaaGreatDoor
