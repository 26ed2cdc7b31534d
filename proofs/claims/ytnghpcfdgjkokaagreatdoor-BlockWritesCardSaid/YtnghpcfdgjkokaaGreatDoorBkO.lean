/-
  BlockWrites, walked: what any traces come to in a store, with so much room, whatever call fails. Conditions: what each says; of the library's tables: Ld.
-/
import Derived.Test.YtnghpcfdgjkokaaGreatDoorBkL
namespace Go.Proofs.YtnghpcfdgjkokaaGreatDoor
open Go.RowKit
set_option maxRecDepth 100000

set_option maxHeartbeats 12800000 in
theorem blockWrites_any (room fails : Int) (id : Nat) (lv : Int) (v : Value) (l : List Tn) (s : Sz) (w : World) (h : Ts w v l) (hf0 : -9223372036854775808 ≤ fails) (hf1 : fails ≤ 9223372036854775807) (hid : id < 18446744073709551616) (hll : l.length ≤ 140737488355328) (hL : Ld w) :
    Calls Tryz.prog 4 #[.int .i64 room, .int .i64 fails, .int .u64 (id : Int), .int .i64 lv, v, szV s] w fun e w' => e = .returned (.bool true) ∧ Below w.heap.size w w' := by
  obtain ⟨pg, sh, bi, hs⟩ := s
  obtain ⟨A, c, rfl, hc1, hc2⟩ := h.form
  have H := Lib.hid h
  have HLD := Lib.hid hL
  have HB0 : Hid (Below w.heap.size w (w.alloc (.cells #[.int .i64 pg, .int .i64 sh, .int .i64 bi, .int .i64 hs] 25))) := Lib.hid ((Below.refl _ _).alloc (Nat.le_refl _) _)
  have HS0 : Hid (Blk (w.alloc (.cells #[.int .i64 pg, .int .i64 sh, .int .i64 bi, .int .i64 hs] 25)) w.heap.size 25 #[.int .i64 pg, .int .i64 sh, .int .i64 bi, .int .i64 hs]) := Lib.hid (Blk.new _ _ _)
  have hFew := fun u (hu : Ts u (.slice A l.length c) l) => FewTraces_any _ l 200 u hu hll
  simp only [szV]
  clear h hL
  go_enter Tryz.func4, Tryz.ntmps4
  go_wp2_with fail
  revert HB0 HS0
  generalize w.alloc (.cells #[.int .i64 pg, .int .i64 sh, .int .i64 bi, .int .i64 hs] 25) = w0
  intro HB0 HS0
  refine (up14_any _ (HLD.out.below HB0.out)).mono ?_
  rintro e w1 ⟨rfl, hb1⟩
  have HB1 := Lib.hid (HB0.out.trans (hb1.mono HB0.out.size))
  have HS1 := Lib.hid (HS0.out.below hb1 HS0.out.lt)
  clear hb1 HB0 HS0
  go_wp2_with fail
  refine (hFew _ (H.out.below HB1.out)).mono ?_
  rintro e w2 ⟨rfl, rfl⟩
  clear hFew
  by_cases hroom : 1 ≤ room ∧ room ≤ 1048576
  rotate_left
  · have hnew := snew_no room w1 (by omega)
    clear hroom
    generalize fewT l 200 = bb
    go_wp2_with fail
    refine hnew.mono ?_
    rintro e w3 ⟨rfl, hb3⟩
    have HB3 := Lib.hid (HB1.out.trans (hb3.mono HB1.out.size))
    clear hb3 hnew
    cases bb with
    | false =>
      go_wp2_with fail
      go_ret
      exact ⟨rfl, HB3.out⟩
    | true =>
      go_wp2_with fail
      go_ret
      exact ⟨rfl, HB3.out⟩
  have hnew := snew_ok room w1 hroom.1 hroom.2
  have HRM := Lib.hid hroom
  clear hroom
  cases hf : fewT l 200 with
  | false =>
    go_wp2_with fail
    refine hnew.mono ?_
    rintro e w3 ⟨g, F, rfl, _, hb3, _⟩
    have HB3 := Lib.hid (HB1.out.trans (hb3.mono HB1.out.size))
    clear hb3 hnew hf
    go_wp2_with fail
    go_ret
    exact ⟨rfl, HB3.out⟩
  | true =>
    obtain ⟨f1, f2, _⟩ := pfew (n := 200) hf
    clear hf
    go_wp2_with fail
    refine hnew.mono ?_
    rintro e w3 ⟨g, F, rfl, hP3, hb3, hF3⟩
    have HB3 := Lib.hid (HB1.out.trans (hb3.mono HB1.out.size))
    have HS3 := Lib.hid (HS1.out.below hb3 HS1.out.lt)
    have HP3 := Lib.hid hP3
    have HF3 : Hid (∀ q, F q → w1.heap.size ≤ q ∧ q < w3.heap.size) := Lib.hid fun q hq => ⟨hF3 q hq, hP3.lt q hq⟩
    have hs13 := hb3.size
    have hsw1 := HB1.out.size
    have hgs := HS1.out.lt
    have hb4 : Below w3.heap.size w3 (w3.alloc (.cells #[.int .i64 room, .int .i64 (-1), .int .i64 0, .slice none 0 0] 51)) := (Below.refl _ _).alloc (Nat.le_refl _) _
    have hyF : ∀ q, yF w3.heap.size (.slice none 0 0) q → q = w3.heap.size := fun q hq => hq.elim (fun h => h) fun h => by cases h
    have HW4 : Hid (W2 (fun u => Blk u w.heap.size 25 #[.int .i64 pg, .int .i64 sh, .int .i64 bi, .int .i64 hs]) w1 (w3.alloc (.cells #[.int .i64 room, .int .i64 (-1), .int .i64 0, .slice none 0 0] 51)) (stA g ⟨room, -1, 0, []⟩) F (stB w3.heap.size w3.heap.size ⟨room, -1, 0, []⟩) (yF w3.heap.size (.slice none 0 0))) := Lib.hid
      ⟨hb3.trans (hb4.mono hb3.size), HP3.out.below hb4, ⟨_, ⟨Blk.new w3 _ _, OwnL.nil _ _ _ _, by simp [Value.ownBlock], Nat.le_refl _⟩, rfl⟩, (fun q hq => (HF3.out q hq).1), (fun q hq => by
        rw [hyF q hq]
        omega), (fun q hq hG => by
        have := (HF3.out q hq).2
        have := hyF q hG
        omega), keepBlk (HS3.out.below hb4 HS3.out.lt) fun hbad => by
        rcases hbad with h | h
        · have := (HF3.out _ h).1
          omega
        · have := hyF _ h
          omega⟩
    clear hnew hP3 hb3 hF3 hb4 HP3 HF3 HS3 HS1 hyF
    go_wp2_with fail
    revert HW4
    generalize w3.alloc (.cells #[.int .i64 room, .int .i64 (-1), .int .i64 0, .slice none 0 0] 51) = w4
    obtain ⟨gy, hgy⟩ : ∃ n, n = w3.heap.size := ⟨_, rfl⟩
    rw [← hgy]
    generalize yF gy (.slice none 0 0) = G4
    intro HW4
    have HGY : Hid (w1.heap.size ≤ gy) := Lib.hid (by omega)
    clear hgy hs13
    have hfl := sfail_any (n := fails) HW4.out.a hf0 hf1
    refine hfl.mono ?_
    rintro e w5 ⟨rfl, hP5, hg5⟩
    have HW5 := Lib.hid (HW4.out.stepA (A' := stA g (failS ⟨room, -1, 0, []⟩ fails)) (stA_thing _ _) (stB_thing _ _ _) hP5 (Apt.of_grown hg5 fun q hq => by rw [← Option.some.inj hq]; exact hP5.Fg) fun q hq => .inl hq)
    clear hfl hP5 hg5 HW4
    obtain ⟨vy, hD5, hG5⟩ := HW5.out.b
    have hfl := Fail_any gy gy vy ⟨room, -1, 0, []⟩ fails w5 hD5
    go_wp2_with fail
    refine hfl.mono ?_
    rintro e w6 ⟨rfl, hD6, hg6⟩
    obtain ⟨m1, hm1⟩ : ∃ m, m = failS ⟨room, -1, 0, []⟩ fails := ⟨_, rfl⟩
    have HW6 : Hid (W2 (fun u => Blk u w.heap.size 25 #[.int .i64 pg, .int .i64 sh, .int .i64 bi, .int .i64 hs]) w1 w6 (stA g m1) F (stB gy gy m1) G4) := Lib.hid (by
      rw [hm1]
      exact HW5.out.stepB (B' := stB gy gy (failS ⟨room, -1, 0, []⟩ fails)) (stA_thing _ _) ⟨vy, hD6, hG5⟩ (Apt.of_grown hg6 fun q hq => by rw [hG5]; exact .inl (Option.some.inj hq).symm) fun q hq => .inl hq)
    have HK1 : Hid (Kept m1) := Lib.hid (by rw [hm1]; exact Kept.start room HRM.out.1 fails)
    have HN1 : Hid (m1.fine 0) := Lib.hid (by rw [hm1]; exact (fine_start room HRM.out.1 HRM.out.2).fail fails hf1)
    clear hfl hD5 hG5 hD6 hg6 HW5 hm1 vy
    have HTS : Hid (∀ u, Below w1.heap.size w1 u → Ts u (.slice A l.length c) l ∧ Ld u) := Lib.hid fun u hu => by
      have h1 := HB1.out.trans (hu.mono HB1.out.size)
      exact ⟨H.out.below h1, HLD.out.below h1⟩
    obtain ⟨M, hMe⟩ : ∃ z, z = wrM m1 id lv l ⟨pg, sh, bi, hs⟩ := ⟨_, rfl⟩
    obtain ⟨mr, hmr⟩ : ∃ z, z = (wrA m1 id lv l ⟨pg, sh, bi, hs⟩).1 := ⟨_, rfl⟩
    obtain ⟨cd, hcd⟩ : ∃ z, z = (wrA m1 id lv l ⟨pg, sh, bi, hs⟩).2 := ⟨_, rfl⟩
    have HKR : Hid (Kept mr) := Lib.hid (by rw [hmr]; exact HK1.out.wrA _ _ _ _)
    have HNR : Hid (mr.fine (0 + 203)) := Lib.hid (by rw [hmr]; exact wrA_fine HN1.out _ _ _ _ (by omega))
    have HCD : Hid (0 ≤ cd ∧ cd ≤ 10) := Lib.hid (by rw [hcd]; exact wrA_code _ _ _ _ _)
    have hWr := bwrite_any (N := 0) id lv _ l ⟨pg, sh, bi, hs⟩ w6 HW6.out.a HN1.out (by omega) (fun u hu => (HTS.out u (HW6.out.below.trans (hu.mono HW6.out.below.size))).1) hid (by omega) (HTS.out _ HW6.out.below).2
    have hDw := fun u (vs : Value) (hst : DS u gy gy vs m1) (hu : Ts u (.slice A l.length c) l) => DWrite_any (N := 0) id lv _ l ⟨pg, sh, bi, hs⟩ u hst HN1.out (by omega) hu hid (by omega) (by omega)
    have hNil := fun u => bwrite_nil (id : Int) lv (.slice A l.length c) ⟨pg, sh, bi, hs⟩ u
    rw [← hMe, ← hmr, ← hcd] at hWr
    rw [← hMe, ← hmr, ← hcd] at hDw
    clear hMe hmr hcd
    obtain ⟨mi, ml, ms, mn, mp, mt⟩ := M
    simp only [meV, szV, Me.zero] at hWr hDw hNil
    have b0 := HW6.out.x.cell 0
    have b1 := HW6.out.x.cell 1
    have b2 := HW6.out.x.cell 2
    have b3 := HW6.out.x.cell 3
    simp at b0 b1 b2 b3
    go_wp2_with fail
    refine hWr.mono ?_
    rintro e w7 ⟨rfl, F7, hP7, hG7⟩
    have HW7 := Lib.hid (HW6.out.stepA (A' := stA g mr) (stA_thing _ _) (stB_thing _ _ _) hP7 hG7.apt hG7.new)
    clear hWr hP7 hG7 HW6 b0 b1 b2 b3
    have hb8 : Below w7.heap.size w7 (w7.alloc (.cells #[.int .u64 mi, .int .i64 ml, .int .i64 ms, .int .i64 mn, .int .i64 mp, .int .i64 mt] 30)) := (Below.refl _ _).alloc (Nat.le_refl _) _
    have HW8a := Lib.hid (HW7.out.later (stA_thing _ _) (stB_thing _ _ _) hb8)
    have HW8 : Hid (W2 (fun u => Blk u w.heap.size 25 #[.int .i64 pg, .int .i64 sh, .int .i64 bi, .int .i64 hs] ∧ Blk u w7.heap.size 30 #[.int .u64 mi, .int .i64 ml, .int .i64 ms, .int .i64 mn, .int .i64 mp, .int .i64 mt]) w1 (w7.alloc (.cells #[.int .u64 mi, .int .i64 ml, .int .i64 ms, .int .i64 mn, .int .i64 mp, .int .i64 mt] 30)) (stA g mr) F7 (stB gy gy m1) G4) := Lib.hid (HW8a.out.say (HW8a.out.kx.and (keepBlk (Blk.new w7 _ _) fun hbad => by
      have := HW7.out.bad_lt (stA_thing _ _) (stB_thing _ _ _) _ hbad
      omega)))
    clear HW8a hb8
    have b0 := HW7.out.x.cell 0
    have b1 := HW7.out.x.cell 1
    have b2 := HW7.out.x.cell 2
    have b3 := HW7.out.x.cell 3
    simp at b0 b1 b2 b3
    have hlt7 := HW7.out.x.lt
    clear HW7
    go_wp2_with fail
    revert HW8
    generalize w7.alloc (.cells #[.int .u64 mi, .int .i64 ml, .int .i64 ms, .int .i64 mn, .int .i64 mp, .int .i64 mt] 30) = w8
    obtain ⟨g18, hg18⟩ : ∃ n, n = w7.heap.size := ⟨_, rfl⟩
    rw [← hg18]
    intro HW8
    clear b0 b1 b2 b3 hlt7 hg18
    obtain ⟨vy, hD8, hG8⟩ := HW8.out.b
    refine (hDw w8 vy hD8 (HTS.out _ HW8.out.below).1).mono ?_
    rintro e w9 ⟨rfl, v9, hD9, hG9⟩
    have HW9 : Hid (W2 (fun u => Blk u w.heap.size 25 #[.int .i64 pg, .int .i64 sh, .int .i64 bi, .int .i64 hs] ∧ Blk u g18 30 #[.int .u64 mi, .int .i64 ml, .int .i64 ms, .int .i64 mn, .int .i64 mp, .int .i64 mt]) w1 w9 (stA g mr) F7 (stB gy gy mr) (yF gy v9)) := Lib.hid (HW8.out.stepB (B' := stB gy gy mr) (stA_thing _ _) ⟨v9, hD9, rfl⟩ (by rw [hG8]; exact hG9.apt) (by rw [hG8]; exact hG9.new))
    clear hDw hD8 hG8 hD9 hG9 HW8 vy
    have hb10 : Below w9.heap.size w9 (w9.alloc (.cells #[.int .u64 mi, .int .i64 ml, .int .i64 ms, .int .i64 mn, .int .i64 mp, .int .i64 mt] 30)) := (Below.refl _ _).alloc (Nat.le_refl _) _
    have HW10a := Lib.hid (HW9.out.later (stA_thing _ _) (stB_thing _ _ _) hb10)
    have HW10 : Hid (W2 (fun u => (Blk u w.heap.size 25 #[.int .i64 pg, .int .i64 sh, .int .i64 bi, .int .i64 hs] ∧ Blk u g18 30 #[.int .u64 mi, .int .i64 ml, .int .i64 ms, .int .i64 mn, .int .i64 mp, .int .i64 mt]) ∧ Blk u w9.heap.size 30 #[.int .u64 mi, .int .i64 ml, .int .i64 ms, .int .i64 mn, .int .i64 mp, .int .i64 mt]) w1 (w9.alloc (.cells #[.int .u64 mi, .int .i64 ml, .int .i64 ms, .int .i64 mn, .int .i64 mp, .int .i64 mt] 30)) (stA g mr) F7 (stB gy gy mr) (yF gy v9)) := Lib.hid (HW10a.out.say (HW10a.out.kx.and (keepBlk (Blk.new w9 _ _) fun hbad => by
      have := HW9.out.bad_lt (stA_thing _ _) (stB_thing _ _ _) _ hbad
      omega)))
    clear HW10a hb10
    have b0 := HW9.out.x.1.cell 0
    have b1 := HW9.out.x.1.cell 1
    have b2 := HW9.out.x.1.cell 2
    have b3 := HW9.out.x.1.cell 3
    simp at b0 b1 b2 b3
    have hlt9 := HW9.out.x.1.lt
    clear HW9
    go_wp2_with fail
    revert HW10
    generalize w9.alloc (.cells #[.int .u64 mi, .int .i64 ml, .int .i64 ms, .int .i64 mn, .int .i64 mp, .int .i64 mt] 30) = w10
    obtain ⟨g20, hg20⟩ : ∃ n, n = w9.heap.size := ⟨_, rfl⟩
    rw [← hg20]
    intro HW10
    clear b0 b1 b2 b3 hlt9 hg20
    refine (hNil _).mono ?_
    rintro e w11 ⟨rfl, hb11⟩
    have HW11 := Lib.hid (HW10.out.later (stA_thing _ _) (stB_thing _ _ _) hb11)
    have hb12 : Below w11.heap.size w11 (w11.alloc (.cells #[.int .u64 0, .int .i64 0, .int .i64 0, .int .i64 0, .int .i64 0, .int .i64 0] 30)) := (Below.refl _ _).alloc (Nat.le_refl _) _
    have HW12 := Lib.hid (HW11.out.later (stA_thing _ _) (stB_thing _ _ _) hb12)
    clear hNil hb11 HW10 hb12 HW11
    go_wp2_with fail
    revert HW12
    generalize w11.alloc (.cells #[.int .u64 0, .int .i64 0, .int .i64 0, .int .i64 0, .int .i64 0, .int .i64 0] 30) = w12
    intro HW12
    obtain ⟨vz, hDz, hGz⟩ := HW12.out.b
    have HDZ := Lib.hid hDz
    have hcl : ∀ u, Below w12.heap.size w12 u → (u.cell? ⟨g18, 0, none⟩ = some (.int .u64 mi) ∧ u.cell? ⟨g18, 1, none⟩ = some (.int .i64 ml) ∧ u.cell? ⟨g18, 2, none⟩ = some (.int .i64 ms) ∧ u.cell? ⟨g18, 3, none⟩ = some (.int .i64 mn) ∧ u.cell? ⟨g18, 4, none⟩ = some (.int .i64 mp) ∧ u.cell? ⟨g18, 5, none⟩ = some (.int .i64 mt)) ∧ (u.cell? ⟨g20, 0, none⟩ = some (.int .u64 mi) ∧ u.cell? ⟨g20, 1, none⟩ = some (.int .i64 ml) ∧ u.cell? ⟨g20, 2, none⟩ = some (.int .i64 ms) ∧ u.cell? ⟨g20, 3, none⟩ = some (.int .i64 mn) ∧ u.cell? ⟨g20, 4, none⟩ = some (.int .i64 mp) ∧ u.cell? ⟨g20, 5, none⟩ = some (.int .i64 mt)) ∧ u.cell? ⟨gy, 2, none⟩ = some (.int .i64 mr.calls) := fun u hu => by
      have h1 := HW12.out.x.1.2.below hu HW12.out.x.1.2.lt
      have h2 := HW12.out.x.2.below hu HW12.out.x.2.lt
      have h3 := HDZ.out.blk.below hu HDZ.out.blk.lt
      exact ⟨⟨by simpa using h1.cell 0, by simpa using h1.cell 1, by simpa using h1.cell 2, by simpa using h1.cell 3, by simpa using h1.cell 4, by simpa using h1.cell 5⟩, ⟨by simpa using h2.cell 0, by simpa using h2.cell 1, by simpa using h2.cell 2, by simpa using h2.cell 3, by simpa using h2.cell 4, by simpa using h2.cell 5⟩, by simpa using h3.cell 2⟩
    have nec := neCode
    have hCa := fun u (hu : Below w12.heap.size w12 u) => scalls_any (HW12.out.a.below hu)
    have hUa := fun u (hu : Below w12.heap.size w12 u) => sused_any (HW12.out.a.below hu)
    have hUd := fun u (hu : Below w12.heap.size w12 u) => Used_any gy gy vz mr u (HDZ.out.below hu) HNR.out.used
    clear hDz
    refine wp_region_mix [(0, false), (1, false), (2, false), (3, false), (4, false), (6, false), (5, true), (7, false), (8, false), (9, false), (10, false), (11, false), (12, false), (13, false), (14, false), (15, false), (17, false), (18, false), (19, false), (20, false), (16, true), (21, false), (22, false), (23, false), (24, false), (26, false), (25, true), (27, true), (28, false), (29, false)] (fun u => Below w12.heap.size w12 u) (by kernel_rfl) (by kernel_rfl) (by kernel_rfl) rfl (Below.refl _ _).drew ?_
    iterate 2
      (refine mix_read (o := ⟨_, _, _, _, _, _⟩) (v := ?_) rfl (by rfl) (fun w' hS => ?_) ?_
       rotate_left
       obtain ⟨⟨p0, p1, p2, p3, p4, p5⟩, ⟨q0, q1, q2, q3, q4, q5⟩, c2⟩ := hcl w' hS
       go_simp
       with_reducible rfl
       try simp only [Act.put, List.setIfInBounds_toArray, List.set_cons_zero, List.set_cons_succ])
    refine mix_read (o := ⟨_, _, _, _, _, _⟩) (v := .bool false) rfl (by rfl) (fun w' hS => by
      obtain ⟨⟨p0, p1, p2, p3, p4, p5⟩, ⟨q0, q1, q2, q3, q4, q5⟩, c2⟩ := hcl w' hS
      go_simp
      try simp) ?_
    try simp only [Act.put, List.setIfInBounds_toArray, List.set_cons_zero, List.set_cons_succ]
    iterate 3
      (refine mix_read (o := ⟨_, _, _, _, _, _⟩) (v := ?_) rfl (by rfl) (fun w' hS => ?_) ?_
       rotate_left
       obtain ⟨⟨p0, p1, p2, p3, p4, p5⟩, ⟨q0, q1, q2, q3, q4, q5⟩, c2⟩ := hcl w' hS
       go_simp
       with_reducible rfl
       try simp only [Act.put, List.setIfInBounds_toArray, List.set_cons_zero, List.set_cons_succ])
    refine mix_step (o := ⟨_, _, _, _, _, _⟩) rfl (fun K hK => ?_)
    go_simp
    refine (Code_err cd _ HCD.out).mono ?_
    rintro e w13 ⟨rfl, rfl⟩
    refine hK.out _ _ (Below.refl _ _).drew ?_
    clear hK K
    try simp only [Act.put, List.setIfInBounds_toArray, List.set_cons_zero, List.set_cons_succ]
    refine mix_read (o := ⟨_, _, _, _, _, _⟩) (v := .bool false) rfl (by rfl) (fun w' hS => by
      obtain ⟨⟨p0, p1, p2, p3, p4, p5⟩, ⟨q0, q1, q2, q3, q4, q5⟩, c2⟩ := hcl w' hS
      go_simp
      try simp) ?_
    try simp only [Act.put, List.setIfInBounds_toArray, List.set_cons_zero, List.set_cons_succ]
    iterate 4
      (refine mix_read (o := ⟨_, _, _, _, _, _⟩) (v := ?_) rfl (by rfl) (fun w' hS => ?_) ?_
       rotate_left
       obtain ⟨⟨p0, p1, p2, p3, p4, p5⟩, ⟨q0, q1, q2, q3, q4, q5⟩, c2⟩ := hcl w' hS
       go_simp
       with_reducible rfl
       try simp only [Act.put, List.setIfInBounds_toArray, List.set_cons_zero, List.set_cons_succ])
    refine mix_read (o := ⟨_, _, _, _, _, _⟩) (v := .bool false) rfl (by rfl) (fun w' hS => by
      obtain ⟨⟨p0, p1, p2, p3, p4, p5⟩, ⟨q0, q1, q2, q3, q4, q5⟩, c2⟩ := hcl w' hS
      go_simp
      try simp) ?_
    try simp only [Act.put, List.setIfInBounds_toArray, List.set_cons_zero, List.set_cons_succ]
    iterate 7
      (refine mix_read (o := ⟨_, _, _, _, _, _⟩) (v := ?_) rfl (by rfl) (fun w' hS => ?_) ?_
       rotate_left
       obtain ⟨⟨p0, p1, p2, p3, p4, p5⟩, ⟨q0, q1, q2, q3, q4, q5⟩, c2⟩ := hcl w' hS
       go_simp
       with_reducible rfl
       try simp only [Act.put, List.setIfInBounds_toArray, List.set_cons_zero, List.set_cons_succ])
    refine mix_step (o := ⟨_, _, _, _, _, _⟩) rfl (fun K hK => ?_)
    go_simp
    refine (hCa _ (Below.refl _ _).drew).mono ?_
    rintro e w13 ⟨rfl, rfl⟩
    refine hK.out _ _ (Below.refl _ _).drew ?_
    clear hK K
    try simp only [Act.put, List.setIfInBounds_toArray, List.set_cons_zero, List.set_cons_succ]
    refine mix_read (o := ⟨_, _, _, _, _, _⟩) (v := .bool false) rfl (by rfl) (fun w' hS => by
      obtain ⟨⟨p0, p1, p2, p3, p4, p5⟩, ⟨q0, q1, q2, q3, q4, q5⟩, c2⟩ := hcl w' hS
      go_simp
      try simp) ?_
    try simp only [Act.put, List.setIfInBounds_toArray, List.set_cons_zero, List.set_cons_succ]
    iterate 4
      (refine mix_read (o := ⟨_, _, _, _, _, _⟩) (v := ?_) rfl (by rfl) (fun w' hS => ?_) ?_
       rotate_left
       obtain ⟨⟨p0, p1, p2, p3, p4, p5⟩, ⟨q0, q1, q2, q3, q4, q5⟩, c2⟩ := hcl w' hS
       go_simp
       with_reducible rfl
       try simp only [Act.put, List.setIfInBounds_toArray, List.set_cons_zero, List.set_cons_succ])
    refine mix_step (o := ⟨_, _, _, _, _, _⟩) rfl (fun K hK => ?_)
    go_simp
    refine (hUa _ (Below.refl _ _).drew).mono ?_
    rintro e w13 ⟨rfl, rfl⟩
    refine hK.out _ _ (Below.refl _ _).drew ?_
    clear hK K
    try simp only [Act.put, List.setIfInBounds_toArray, List.set_cons_zero, List.set_cons_succ]
    refine mix_step (o := ⟨_, _, _, _, _, _⟩) rfl (fun K hK => ?_)
    go_simp
    refine (hUd _ (Below.refl _ _).drew).mono ?_
    rintro e w13 ⟨rfl, rfl⟩
    refine hK.out _ _ (Below.refl _ _).drew ?_
    clear hK K
    try simp only [Act.put, List.setIfInBounds_toArray, List.set_cons_zero, List.set_cons_succ]
    refine mix_read (o := ⟨_, _, _, _, _, _⟩) (v := .bool false) rfl (by rfl) (fun w' hS => by
      obtain ⟨⟨p0, p1, p2, p3, p4, p5⟩, ⟨q0, q1, q2, q3, q4, q5⟩, c2⟩ := hcl w' hS
      go_simp
      try simp) ?_
    try simp only [Act.put, List.setIfInBounds_toArray, List.set_cons_zero, List.set_cons_succ]
    refine mix_read (o := ⟨_, _, _, _, _, _⟩) (v := .bool false) rfl (by rfl) (fun w' hS => by
      obtain ⟨⟨p0, p1, p2, p3, p4, p5⟩, ⟨q0, q1, q2, q3, q4, q5⟩, c2⟩ := hcl w' hS
      go_simp
      try simp) ?_
    try simp only [Act.put, List.setIfInBounds_toArray, List.set_cons_zero, List.set_cons_succ]
    refine mix_done ?_
    clear hcl hCa hUa hUd
    have hFa := fun u (hu : Below w12.heap.size w12 u) => sfail_any (n := -1) (HW12.out.a.below hu) (by omega) (by omega)
    have HW13 := Lib.hid (HW12.out.later (stA_thing _ _) (stB_thing _ _ _) (Below.refl _ w12).drew)
    go_wp2_with fail
    refine (hFa _ (Below.refl _ _).drew).mono ?_
    rintro e w14 ⟨rfl, hP14, hg14⟩
    have HW14 : Hid (W2 (fun _ => True) w1 w14 (stA g (failS mr (-1))) F7 (stB gy gy mr) (yF gy v9)) := Lib.hid ((HW13.out.stepA (A' := stA g (failS mr (-1))) (stA_thing _ _) (stB_thing _ _ _) hP14 (Apt.of_grown hg14 fun q hq => by rw [← Option.some.inj hq]; exact hP14.Fg) fun q hq => .inl hq).say fun _ _ => trivial)
    have HK14 : Hid (Kept (failS mr (-1)) ∧ (failS mr (-1)).left = -1 ∧ (failS mr (-1)).fine 203 ∧ (failS mr (-1)).l = mr.l) := Lib.hid ⟨⟨HKR.out.rise, HKR.out.named, HKR.out.fits⟩, rfl, HNR.out.fail (-1) (by omega), rfl⟩
    have HLN : Hid (mr.l.length ≤ 203) := Lib.hid HNR.out.len
    clear hFa hP14 hg14 HW13 HW12 HDZ
    go_wp2_with fail
    clear hf0 hf1 hGz
    go_loopg [24] mr.l.length (fun gk iv wr => ∃ (k : Nat) (Fk : Nat → Prop) (mk : Sm), k + gk = mr.l.length ∧ iv = .int .i64 (k : Int) ∧ Hid (W2 (fun _ => True) w1 wr (stA g mk) Fk (stB gy gy mr) (yF gy v9) ∧ Kept mk ∧ mk.left = -1 ∧ mk.fine (203 + k) ∧ mk.l = mr.l))
    case atStart => exact ⟨0, F7, _, by omega, rfl, Lib.hid ⟨HW14.out, HK14.out.1, HK14.out.2.1, HK14.out.2.2.1, HK14.out.2.2.2⟩⟩
    case round =>
      obtain ⟨k, Fk, mk, hk, rfl, HW⟩ := hrel
      clear HW14 HK14
      obtain ⟨vk, hDk, hGk⟩ := HW.out.1.b
      have HDK := Lib.hid hDk
      have c3 := HDK.out.blk.cell 3
      simp at c3
      obtain ⟨Ak, ck, hvk, _, _⟩ := hDk.form
      subst hvk
      by_cases hlt : k < mr.l.length
      · obtain ⟨gk1, hgk1⟩ : ∃ x, gk = x + 1 := ⟨gk - 1, by omega⟩
        obtain ⟨o, hko⟩ : ∃ o, mr.l[k]? = some o := ⟨_, List.getElem?_eq_getElem hlt⟩
        obtain ⟨gx, px, hAx, hgx, hcx⟩ := HDK.out.row.lv.cells (by omega) (show (mr.l.map obC)[k]? = some (obC o) by rw [List.getElem?_map, hko]; rfl)
        subst hAx
        have x0 := hcx 0 _ rfl
        have x1 := hcx 1 _ rfl
        simp only [Nat.add_zero] at x0
        have hGet := get_at (k := k) (o := o) HW.out.2.1 HW.out.2.2.1 (by rw [HW.out.2.2.2.2]; exact hko)
        have hG := stGet_any (n := o.nm) HW.out.1.a HW.out.2.2.2.1 (by have := HLN.out; omega) (by
          have := HW.out.2.1.named o (by rw [HW.out.2.2.2.2]; exact List.mem_of_getElem? hko)
          simp only [nameB, Bool.and_eq_true, decide_eq_true_iff] at this
          omega)
        rw [hGet] at hG
        simp only [errV_zero] at hG
        have a0 : (0 : Int) ≤ (k : Int) := by omega
        have a1 : (k : Int) < (mr.l.length : Int) := by omega
        have HNG : Hid (yF gy (.slice (some ⟨gx, px, none⟩) mr.l.length ck) = yF gy v9) := Lib.hid hGk.symm
        clear hDk hGk hko hcx hGet
        go_wp2_with fail
        refine hG.mono ?_
        rintro e w15 ⟨x, F15, rfl, hox, hP15, hA15, hn15, _⟩
        have HW15 := Lib.hid (HW.out.1.stepA (A' := stA g (callS mk)) (stA_thing _ _) (stB_thing _ _ _) hP15 hA15 hn15)
        have HK15 : Hid (Kept (callS mk) ∧ (callS mk).left = -1 ∧ (callS mk).fine (203 + (k + 1)) ∧ (callS mk).l = mr.l) := Lib.hid ⟨⟨HW.out.2.1.rise, HW.out.2.1.named, HW.out.2.1.fits⟩, (left_call HW.out.2.2.1).2, HW.out.2.2.2.1.call, HW.out.2.2.2.2⟩
        have HOX := Lib.hid hox
        obtain ⟨Ad, cd', rfl, _, _⟩ := hox.form
        obtain ⟨nb, hnb⟩ : ∃ n, n = o.b.length := ⟨_, rfl⟩
        rw [← hnb] at HOX ⊢
        clear hnb hox
        have hyk : ∀ q, yF gy (.slice (some ⟨gx, px, none⟩) mr.l.length ck) q → ¬ Fk q := fun q hq hF => HW.out.1.ne q hF (by rw [← HNG.out]; exact hq)
        have hgy15 : ∀ q, yF gy (.slice (some ⟨gx, px, none⟩) mr.l.length ck) q → q < wr.heap.size → w15.heap[q]? = wr.heap[q]? := fun q hq hlt => hA15.block q hlt (hyk q hq)
        have HC15 : Hid (∀ u, Below w15.heap.size w15 u → u.cell? ⟨gx, px + k * 2 + 1, none⟩ = some (.string (Bstr o.b)) ∧ u.cell? ⟨gy, 3, none⟩ = some (.slice (some ⟨gx, px, none⟩) mr.l.length ck) ∧ True ∧ (convert 40 9 (.slice Ad nb cd')).run Tryz.prog u = .ok (.string (Bstr o.b)) u) := Lib.hid fun u hu => by
          have e1 := (World.cell?_of_block (a := ⟨gx, px + k * 2 + 1, none⟩) (hgy15 gx (.inr rfl) hgx)).trans x1
          have e2 := (World.cell?_of_block (a := ⟨gy, 3, none⟩) (hgy15 gy (.inl rfl) HDK.out.blk.lt)).trans c3
          exact ⟨(hu.cell (World.block_lt_of_cell? w15 _ e1)).trans e1, (hu.cell (World.block_lt_of_cell? w15 _ e2)).trans e2, trivial, strOf (HOX.out.below hu).bs⟩
        clear hG hP15 hA15 hn15 hyk hgy15 x0 x1 c3 HW HDK HOX
        have hcl := HC15.out
        go_wp2_with fail
        refine wp_region_mix [(0, false), (1, false), (2, false), (3, false), (4, false), (5, false), (6, false), (7, false), (8, false), (9, false), (10, false), (11, false), (12, false), (13, false), (14, false)] (fun u => Below w15.heap.size w15 u) (by kernel_rfl) (by kernel_rfl) (by kernel_rfl) rfl (Below.refl _ _).drew ?_
        iterate 1
          (refine mix_read (o := ⟨_, _, _, _, _, _⟩) (v := ?_) rfl (by rfl) (fun w' hS => ?_) ?_
           rotate_left
           obtain ⟨j0, j1, j2, hst⟩ := hcl w' hS
           go_simp
           with_reducible rfl
           try simp only [Act.put, List.setIfInBounds_toArray, List.set_cons_zero, List.set_cons_succ])
        refine mix_read (o := ⟨_, _, _, _, _, _⟩) (v := .bool false) rfl (by rfl) (fun w' hS => by
          obtain ⟨j0, j1, j2, hst⟩ := hcl w' hS
          go_simp
          try simp) ?_
        try simp only [Act.put, List.setIfInBounds_toArray, List.set_cons_zero, List.set_cons_succ]
        iterate 11
          (refine mix_read (o := ⟨_, _, _, _, _, _⟩) (v := ?_) rfl (by rfl) (fun w' hS => ?_) ?_
           rotate_left
           obtain ⟨j0, j1, j2, hst⟩ := hcl w' hS
           go_simp
           with_reducible rfl
           try simp only [Act.put, List.setIfInBounds_toArray, List.set_cons_zero, List.set_cons_succ])
        refine mix_read (o := ⟨_, _, _, _, _, _⟩) (v := .bool false) rfl (by rfl) (fun w' hS => by
          obtain ⟨j0, j1, j2, hst⟩ := hcl w' hS
          go_simp
          try simp) ?_
        try simp only [Act.put, List.setIfInBounds_toArray, List.set_cons_zero, List.set_cons_succ]
        refine mix_read (o := ⟨_, _, _, _, _, _⟩) (v := .bool false) rfl (by rfl) (fun w' hS => by
          obtain ⟨j0, j1, j2, hst⟩ := hcl w' hS
          go_simp
          try simp) ?_
        try simp only [Act.put, List.setIfInBounds_toArray, List.set_cons_zero, List.set_cons_succ]
        refine mix_done ?_
        have HW16 := Lib.hid (HW15.out.later (stA_thing _ _) (stB_thing _ _ _) (Below.refl _ w15).drew)
        clear hcl HC15 HW15
        go_wp2_with fail
        go_roundg gk1
        case measure => omega
        case rel => exact ⟨k + 1, F15, callS mk, by omega, by go_num, Lib.hid ⟨HW16.out, HK15.out.1, HK15.out.2.1, HK15.out.2.2.1, HK15.out.2.2.2⟩⟩
      · have hkn : k = mr.l.length := by omega
        subst hkn
        have HBl : Hid (Below w.heap.size w wr) := Lib.hid (HB1.out.trans (HW.out.1.below.mono HB1.out.size))
        clear HW hDk hGk HDK
        go_wp2_with fail
        go_ret
        exact ⟨rfl, HBl.out⟩

theorem blockWrites_int (room fails id lv : Int) (v : Value) (l : List Tn) (s : Sz) (w : World) (h : Ts w v l) (hf0 : -9223372036854775808 ≤ fails) (hf1 : fails ≤ 9223372036854775807) (h0 : 0 ≤ id) (h1 : id ≤ 18446744073709551615) (hll : l.length ≤ 140737488355328) (hL : Ld w) :
    Calls Tryz.prog 4 #[.int .i64 room, .int .i64 fails, .int .u64 id, .int .i64 lv, v, szV s] w fun e w' => e = .returned (.bool true) ∧ Below w.heap.size w w' := by
  obtain ⟨z, rfl⟩ := nat_of h0
  exact blockWrites_any room fails z lv v l s w h hf0 hf1 (by omega) hll hL

end Go.Proofs.YtnghpcfdgjkokaaGreatDoor
