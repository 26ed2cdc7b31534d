/-
  tankardlaw13.MetaPuts, walked (written by tools/genputs.py). Conditions: what each says; of the library's variables: Ld.
-/
import Derived.Test.YtkhdlcoappkgkaaDoorMtE
import Derived.Test.YtkhdlcoappkgkaaDoorMtM
namespace Go.Proofs.YtkhdlcoappkgkaaDoor
open Go.RowKit
set_option maxRecDepth 100000

set_option maxHeartbeats 3200000 in
theorem metaPuts_FF (m : Me) (k : Mk) (w : World) (hm : m.ok) (hk : k.ok) (h1 : meB m = false) (h2 : mkB k = false) (hL : Ld w) :
    Calls Tryd.prog 3 #[meV m, mkV k] w fun e w' => e = .returned (.bool true) ∧ Below w.heap.size w w' := by
  have eqc := eqCode
  have nec := neCode
  have hPut := fun u => mput_bad m hm u h1
  have hMark := fun u => mmark_bad k hk u h2
  have hMay := fun u => mmay_any m hm u
  have hMAY := fun u => MMay_any m hm u
  have hFair := fun u => mfair_any k hk u
  have hFAIR := fun u => MFair_any k hk u
  rw [h1] at hMay hMAY
  rw [h2] at hFair hFAIR
  have HL := Lib.hid hL
  clear hL h1 h2 hm hk
  obtain ⟨i, l, s, t, p, q⟩ := m
  obtain ⟨j, a, b⟩ := k
  simp only [meV, mkV] at *
  have hb0 : Below w.heap.size w ((w.alloc (.cells #[.int .u64 i, .int .i64 l, .int .i64 s, .int .i64 t, .int .i64 p, .int .i64 q] 24)).alloc (.cells #[.int .u64 j, .int .i64 a, .int .u64 b] 26)) := ((Below.refl _ _).alloc (Nat.le_refl _) _).alloc (by simp) _
  have hm0 := (Blk.new w 24 #[.int .u64 i, .int .i64 l, .int .i64 s, .int .i64 t, .int .i64 p, .int .i64 q]).alloc (.cells #[.int .u64 j, .int .i64 a, .int .u64 b] 26)
  have hk0 : Blk ((w.alloc (.cells #[.int .u64 i, .int .i64 l, .int .i64 s, .int .i64 t, .int .i64 p, .int .i64 q] 24)).alloc (.cells #[.int .u64 j, .int .i64 a, .int .u64 b] 26)) (w.heap.size + 1) 26 #[.int .u64 j, .int .i64 a, .int .u64 b] := by simpa using Blk.new (w.alloc (.cells #[.int .u64 i, .int .i64 l, .int .i64 s, .int .i64 t, .int .i64 p, .int .i64 q] 24)) 26 #[.int .u64 j, .int .i64 a, .int .u64 b]
  have HB0 := Lib.hid hb0
  have HM0 := Lib.hid hm0
  have HK0 := Lib.hid hk0
  have HL0 := Lib.hid (HL.out.below hb0)
  clear hb0 hm0 hk0
  go_enter Tryd.func3, Tryd.ntmps3
  go_wp2_with fail
  revert HB0 HM0 HK0 HL0
  generalize ((w.alloc (.cells #[.int .u64 i, .int .i64 l, .int .i64 s, .int .i64 t, .int .i64 p, .int .i64 q] 24)).alloc (.cells #[.int .u64 j, .int .i64 a, .int .u64 b] 26)) = w0
  intro HB0 HM0 HK0 HL0
  go_wp2_with fail
  refine (up13_any _ HL0.out).mono ?_
  rintro e w1 ⟨rfl, hb⟩
  have HB1 := Lib.hid (HB0.out.trans (hb.mono HB0.out.size))
  have HM1 := Lib.hid (HM0.out.below hb HM0.out.lt)
  have HK1 := Lib.hid (HK0.out.below hb HK0.out.lt)
  clear hb HB0 HM0 HK0
  have m0 := HM1.out.cell 0
  have m1 := HM1.out.cell 1
  have m2 := HM1.out.cell 2
  have m3 := HM1.out.cell 3
  have m4 := HM1.out.cell 4
  have m5 := HM1.out.cell 5
  go_wp2_with fail
  refine (hPut _).mono ?_
  rintro e w2 ⟨rfl, hb⟩
  have HB2 := Lib.hid (HB1.out.trans (hb.mono HB1.out.size))
  have HM2 := Lib.hid (HM1.out.below hb HM1.out.lt)
  have HK2 := Lib.hid (HK1.out.below hb HK1.out.lt)
  clear hb HB1 HM1 HK1 m0 m1 m2 m3 m4 m5
  have k0 := HK2.out.cell 0
  have k1 := HK2.out.cell 1
  have k2 := HK2.out.cell 2
  go_wp2_with fail
  refine (hMark _).mono ?_
  rintro e w3 ⟨rfl, hb⟩
  have HB3 := Lib.hid (HB2.out.trans (hb.mono HB2.out.size))
  have HM3 := Lib.hid (HM2.out.below hb HM2.out.lt)
  have HK3 := Lib.hid (HK2.out.below hb HK2.out.lt)
  clear hb HB2 HM2 HK2 k0 k1 k2
  have m0 := HM3.out.cell 0
  have m1 := HM3.out.cell 1
  have m2 := HM3.out.cell 2
  have m3 := HM3.out.cell 3
  have m4 := HM3.out.cell 4
  have m5 := HM3.out.cell 5
  go_wp2_with fail
  refine (hMAY _).mono ?_
  rintro e w4 ⟨rfl, hb⟩
  have HB4 := Lib.hid (HB3.out.trans (hb.mono HB3.out.size))
  have HM4 := Lib.hid (HM3.out.below hb HM3.out.lt)
  have HK4 := Lib.hid (HK3.out.below hb HK3.out.lt)
  clear hb HB3 HM3 HK3 m0 m1 m2 m3 m4 m5
  have k0 := HK4.out.cell 0
  have k1 := HK4.out.cell 1
  have k2 := HK4.out.cell 2
  go_wp2_with fail
  refine (hFAIR _).mono ?_
  rintro e w5 ⟨rfl, hb⟩
  have HB5 := Lib.hid (HB4.out.trans (hb.mono HB4.out.size))
  have HM5 := Lib.hid (HM4.out.below hb HM4.out.lt)
  have HK5 := Lib.hid (HK4.out.below hb HK4.out.lt)
  clear hb HB4 HM4 HK4 k0 k1 k2
  have m0 := HM5.out.cell 0
  have m1 := HM5.out.cell 1
  have m2 := HM5.out.cell 2
  have m3 := HM5.out.cell 3
  have m4 := HM5.out.cell 4
  have m5 := HM5.out.cell 5
  go_wp2_with fail
  refine (hMay _).mono ?_
  rintro e w6 ⟨rfl, hb⟩
  have HB6 := Lib.hid (HB5.out.trans (hb.mono HB5.out.size))
  have HM6 := Lib.hid (HM5.out.below hb HM5.out.lt)
  have HK6 := Lib.hid (HK5.out.below hb HK5.out.lt)
  clear hb HB5 HM5 HK5 m0 m1 m2 m3 m4 m5
  have k0 := HK6.out.cell 0
  have k1 := HK6.out.cell 1
  have k2 := HK6.out.cell 2
  go_wp2_with fail
  refine (hFair _).mono ?_
  rintro e w7 ⟨rfl, hb⟩
  have HB7 := Lib.hid (HB6.out.trans (hb.mono HB6.out.size))
  have HM7 := Lib.hid (HM6.out.below hb HM6.out.lt)
  have HK7 := Lib.hid (HK6.out.below hb HK6.out.lt)
  clear hb HB6 HM6 HK6 k0 k1 k2
  go_wp2_with fail
  go_ret
  exact ⟨rfl, HB7.out⟩

set_option maxHeartbeats 3200000 in
theorem metaPuts_FT (m : Me) (k : Mk) (w : World) (hm : m.ok) (hk : k.ok) (h1 : meB m = false) (h2 : mkB k = true) (hL : Ld w) :
    Calls Tryd.prog 3 #[meV m, mkV k] w fun e w' => e = .returned (.bool true) ∧ Below w.heap.size w w' := by
  have eqc := eqCode
  have nec := neCode
  have hPut := fun u => mput_bad m hm u h1
  have hMark := fun u => mmark_ok k hk u h2
  have hMay := fun u => mmay_any m hm u
  have hMAY := fun u => MMay_any m hm u
  have hFair := fun u => mfair_any k hk u
  have hFAIR := fun u => MFair_any k hk u
  rw [h1] at hMay hMAY
  rw [h2] at hFair hFAIR
  have hBa := fun u => Bare_any k hk u h2
  have HLk := Lib.hid (mkRaw_length k)
  have HL := Lib.hid hL
  clear hL h1 h2 hm hk
  generalize mkRaw k = rk at *
  obtain ⟨i, l, s, t, p, q⟩ := m
  obtain ⟨j, a, b⟩ := k
  simp only [meV, mkV] at *
  have hb0 : Below w.heap.size w ((w.alloc (.cells #[.int .u64 i, .int .i64 l, .int .i64 s, .int .i64 t, .int .i64 p, .int .i64 q] 24)).alloc (.cells #[.int .u64 j, .int .i64 a, .int .u64 b] 26)) := ((Below.refl _ _).alloc (Nat.le_refl _) _).alloc (by simp) _
  have hm0 := (Blk.new w 24 #[.int .u64 i, .int .i64 l, .int .i64 s, .int .i64 t, .int .i64 p, .int .i64 q]).alloc (.cells #[.int .u64 j, .int .i64 a, .int .u64 b] 26)
  have hk0 : Blk ((w.alloc (.cells #[.int .u64 i, .int .i64 l, .int .i64 s, .int .i64 t, .int .i64 p, .int .i64 q] 24)).alloc (.cells #[.int .u64 j, .int .i64 a, .int .u64 b] 26)) (w.heap.size + 1) 26 #[.int .u64 j, .int .i64 a, .int .u64 b] := by simpa using Blk.new (w.alloc (.cells #[.int .u64 i, .int .i64 l, .int .i64 s, .int .i64 t, .int .i64 p, .int .i64 q] 24)) 26 #[.int .u64 j, .int .i64 a, .int .u64 b]
  have HB0 := Lib.hid hb0
  have HM0 := Lib.hid hm0
  have HK0 := Lib.hid hk0
  have HL0 := Lib.hid (HL.out.below hb0)
  clear hb0 hm0 hk0
  go_enter Tryd.func3, Tryd.ntmps3
  go_wp2_with fail
  revert HB0 HM0 HK0 HL0
  generalize ((w.alloc (.cells #[.int .u64 i, .int .i64 l, .int .i64 s, .int .i64 t, .int .i64 p, .int .i64 q] 24)).alloc (.cells #[.int .u64 j, .int .i64 a, .int .u64 b] 26)) = w0
  intro HB0 HM0 HK0 HL0
  go_wp2_with fail
  refine (up13_any _ HL0.out).mono ?_
  rintro e w1 ⟨rfl, hb⟩
  have HB1 := Lib.hid (HB0.out.trans (hb.mono HB0.out.size))
  have HM1 := Lib.hid (HM0.out.below hb HM0.out.lt)
  have HK1 := Lib.hid (HK0.out.below hb HK0.out.lt)
  clear hb HB0 HM0 HK0
  have m0 := HM1.out.cell 0
  have m1 := HM1.out.cell 1
  have m2 := HM1.out.cell 2
  have m3 := HM1.out.cell 3
  have m4 := HM1.out.cell 4
  have m5 := HM1.out.cell 5
  go_wp2_with fail
  refine (hPut _).mono ?_
  rintro e w2 ⟨rfl, hb⟩
  have HB2 := Lib.hid (HB1.out.trans (hb.mono HB1.out.size))
  have HM2 := Lib.hid (HM1.out.below hb HM1.out.lt)
  have HK2 := Lib.hid (HK1.out.below hb HK1.out.lt)
  clear hb HB1 HM1 HK1 m0 m1 m2 m3 m4 m5
  have k0 := HK2.out.cell 0
  have k1 := HK2.out.cell 1
  have k2 := HK2.out.cell 2
  go_wp2_with fail
  refine (hMark _).mono ?_
  rintro e w3 ⟨z, rfl, hz, hb⟩
  have HB3 := Lib.hid (HB2.out.trans (hb.mono HB2.out.size))
  have HM3 := Lib.hid (HM2.out.below hb HM2.out.lt)
  have HK3 := Lib.hid (HK2.out.below hb HK2.out.lt)
  have HZ3 := Lib.hid hz.bs
  clear hz
  clear hb HB2 HM2 HK2 k0 k1 k2
  have m0 := HM3.out.cell 0
  have m1 := HM3.out.cell 1
  have m2 := HM3.out.cell 2
  have m3 := HM3.out.cell 3
  have m4 := HM3.out.cell 4
  have m5 := HM3.out.cell 5
  go_wp2_with fail
  refine (hMAY _).mono ?_
  rintro e w4 ⟨rfl, hb⟩
  have HB4 := Lib.hid (HB3.out.trans (hb.mono HB3.out.size))
  have HM4 := Lib.hid (HM3.out.below hb HM3.out.lt)
  have HK4 := Lib.hid (HK3.out.below hb HK3.out.lt)
  have HZ4 := Lib.hid (HZ3.out.below hb)
  clear hb HB3 HM3 HK3 HZ3 m0 m1 m2 m3 m4 m5
  have k0 := HK4.out.cell 0
  have k1 := HK4.out.cell 1
  have k2 := HK4.out.cell 2
  go_wp2_with fail
  refine (hFAIR _).mono ?_
  rintro e w5 ⟨rfl, hb⟩
  have HB5 := Lib.hid (HB4.out.trans (hb.mono HB4.out.size))
  have HM5 := Lib.hid (HM4.out.below hb HM4.out.lt)
  have HK5 := Lib.hid (HK4.out.below hb HK4.out.lt)
  have HZ5 := Lib.hid (HZ4.out.below hb)
  clear hb HB4 HM4 HK4 HZ4 k0 k1 k2
  have m0 := HM5.out.cell 0
  have m1 := HM5.out.cell 1
  have m2 := HM5.out.cell 2
  have m3 := HM5.out.cell 3
  have m4 := HM5.out.cell 4
  have m5 := HM5.out.cell 5
  go_wp2_with fail
  refine (hMay _).mono ?_
  rintro e w6 ⟨rfl, hb⟩
  have HB6 := Lib.hid (HB5.out.trans (hb.mono HB5.out.size))
  have HM6 := Lib.hid (HM5.out.below hb HM5.out.lt)
  have HK6 := Lib.hid (HK5.out.below hb HK5.out.lt)
  have HZ6 := Lib.hid (HZ5.out.below hb)
  clear hb HB5 HM5 HK5 HZ5 m0 m1 m2 m3 m4 m5
  have k0 := HK6.out.cell 0
  have k1 := HK6.out.cell 1
  have k2 := HK6.out.cell 2
  go_wp2_with fail
  refine (hFair _).mono ?_
  rintro e w7 ⟨rfl, hb⟩
  have HB7 := Lib.hid (HB6.out.trans (hb.mono HB6.out.size))
  have HM7 := Lib.hid (HM6.out.below hb HM6.out.lt)
  have HK7 := Lib.hid (HK6.out.below hb HK6.out.lt)
  have HZ7 := Lib.hid (HZ6.out.below hb)
  clear hb HB6 HM6 HK6 HZ6 k0 k1 k2
  have heq : ((Bstr (sealedOf rk)).toList == (Bstr (sealedOf rk)).toList) = true := by simp
  have hlk : rk.length = 24 := HLk.out
  go_wp2_with fail
  have hst : ∀ w', Below w7.heap.size w7 w' → (convert 28 9 z).run Tryd.prog w' = .ok (.string (Bstr (sealedOf rk))) w' := fun w' h => strOf (HZ7.out.below h)
  have hcl : ∀ w', Below w7.heap.size w7 w' → w'.cell? ⟨w.heap.size + 1, 0, none⟩ = some (.int .u64 j) ∧ w'.cell? ⟨w.heap.size + 1, 1, none⟩ = some (.int .i64 a) ∧ w'.cell? ⟨w.heap.size + 1, 2, none⟩ = some (.int .u64 b) := fun w' h => ⟨(HK7.out.below h HK7.out.lt).cell 0, (HK7.out.below h HK7.out.lt).cell 1, (HK7.out.below h HK7.out.lt).cell 2⟩
  refine wp_region_mix [(0, false), (1, false), (2, false), (3, false), (4, false), (5, false), (6, false), (7, false), (8, false), (9, true), (10, true), (11, true), (12, true), (13, true), (14, true)] (fun w' => Below w7.heap.size w7 w') (by kernel_rfl) (by kernel_rfl) (by kernel_rfl) rfl (Below.refl _ _).drew ?_
  repeat
    (refine mix_read (o := ⟨_, _, _, _, _, _⟩) (v := ?_) rfl (by rfl) (fun w' hS => ?_) ?_
     rotate_left
     obtain ⟨k0, k1, k2⟩ := hcl w' hS
     go_simp
     with_reducible rfl
     try simp only [Act.put, List.setIfInBounds_toArray, List.set_cons_zero, List.set_cons_succ])
  refine mix_more (o := ⟨_, _, _, _, _, _⟩) rfl (fun K hK => ?_)
  go_simp
  refine (hBa _).mono ?_
  rintro e w8K ⟨r, rfl, hr, hb⟩
  have hb8 : Below w7.heap.size w7 w8K := (Below.refl _ w7).drew.trans hb
  refine hK.out (fun u => Below w8K.heap.size w8K u) _ _ (fun u hu => hb8.trans (hu.mono hb8.size)) (Below.refl _ _) ?_
  clear hK K
  try simp only [Act.put, List.setIfInBounds_toArray, List.set_cons_zero, List.set_cons_succ]
  refine mix_step (o := ⟨_, _, _, _, _, _⟩) rfl (fun K hK => ?_)
  go_simp
  refine (Seal_any rk _ _ (by omega) hr.bs).mono ?_
  rintro e w9K ⟨r2, rfl, hr2, hb9⟩
  have hst9 := strOf hr2.bs
  refine hK.out _ _ hb9 ?_
  clear hK K
  try simp only [Act.put, List.setIfInBounds_toArray, List.set_cons_zero, List.set_cons_succ]
  repeat
    (refine mix_step (o := ⟨_, _, _, _, _, _⟩) rfl (fun K hK => ?_)
     go_simp
     refine hK.out _ _ hb9 ?_
     clear hK K
     try simp only [Act.put, List.setIfInBounds_toArray, List.set_cons_zero, List.set_cons_succ])
  refine mix_done ?_
  have hb := hb8.trans (hb9.mono hb8.size)
  have HB8 := Lib.hid (HB7.out.trans (hb.mono HB7.out.size))
  have HM8 := Lib.hid (HM7.out.below hb HM7.out.lt)
  have HK8 := Lib.hid (HK7.out.below hb HK7.out.lt)
  have HZ8 := Lib.hid (HZ7.out.below hb)
  revert HB8 HM8 HK8 HZ8
  clear hst hcl hst9 hb hb8 hb9 hr hr2 HB7 HM7 HK7 HZ7
  generalize w9K = w8
  intro HB8 HM8 HK8 HZ8
  go_wp2_with fail
  go_ret
  exact ⟨rfl, HB8.out⟩

set_option maxHeartbeats 3200000 in
theorem metaPuts_TF (m : Me) (k : Mk) (w : World) (hm : m.ok) (hk : k.ok) (h1 : meB m = true) (h2 : mkB k = false) (hL : Ld w) :
    Calls Tryd.prog 3 #[meV m, mkV k] w fun e w' => e = .returned (.bool true) ∧ Below w.heap.size w w' := by
  have eqc := eqCode
  have nec := neCode
  have hPut := fun u => mput_ok m hm u h1
  have hMark := fun u => mmark_bad k hk u h2
  have hMay := fun u => mmay_any m hm u
  have hMAY := fun u => MMay_any m hm u
  have hFair := fun u => mfair_any k hk u
  have hFAIR := fun u => MFair_any k hk u
  rw [h1] at hMay hMAY
  rw [h2] at hFair hFAIR
  have hPl := fun u => Plain_any m hm u h1
  have HLm := Lib.hid (meRaw_length m)
  have HL := Lib.hid hL
  clear hL h1 h2 hm hk
  generalize meRaw m = rm at *
  obtain ⟨i, l, s, t, p, q⟩ := m
  obtain ⟨j, a, b⟩ := k
  simp only [meV, mkV] at *
  have hb0 : Below w.heap.size w ((w.alloc (.cells #[.int .u64 i, .int .i64 l, .int .i64 s, .int .i64 t, .int .i64 p, .int .i64 q] 24)).alloc (.cells #[.int .u64 j, .int .i64 a, .int .u64 b] 26)) := ((Below.refl _ _).alloc (Nat.le_refl _) _).alloc (by simp) _
  have hm0 := (Blk.new w 24 #[.int .u64 i, .int .i64 l, .int .i64 s, .int .i64 t, .int .i64 p, .int .i64 q]).alloc (.cells #[.int .u64 j, .int .i64 a, .int .u64 b] 26)
  have hk0 : Blk ((w.alloc (.cells #[.int .u64 i, .int .i64 l, .int .i64 s, .int .i64 t, .int .i64 p, .int .i64 q] 24)).alloc (.cells #[.int .u64 j, .int .i64 a, .int .u64 b] 26)) (w.heap.size + 1) 26 #[.int .u64 j, .int .i64 a, .int .u64 b] := by simpa using Blk.new (w.alloc (.cells #[.int .u64 i, .int .i64 l, .int .i64 s, .int .i64 t, .int .i64 p, .int .i64 q] 24)) 26 #[.int .u64 j, .int .i64 a, .int .u64 b]
  have HB0 := Lib.hid hb0
  have HM0 := Lib.hid hm0
  have HK0 := Lib.hid hk0
  have HL0 := Lib.hid (HL.out.below hb0)
  clear hb0 hm0 hk0
  go_enter Tryd.func3, Tryd.ntmps3
  go_wp2_with fail
  revert HB0 HM0 HK0 HL0
  generalize ((w.alloc (.cells #[.int .u64 i, .int .i64 l, .int .i64 s, .int .i64 t, .int .i64 p, .int .i64 q] 24)).alloc (.cells #[.int .u64 j, .int .i64 a, .int .u64 b] 26)) = w0
  intro HB0 HM0 HK0 HL0
  go_wp2_with fail
  refine (up13_any _ HL0.out).mono ?_
  rintro e w1 ⟨rfl, hb⟩
  have HB1 := Lib.hid (HB0.out.trans (hb.mono HB0.out.size))
  have HM1 := Lib.hid (HM0.out.below hb HM0.out.lt)
  have HK1 := Lib.hid (HK0.out.below hb HK0.out.lt)
  clear hb HB0 HM0 HK0
  have m0 := HM1.out.cell 0
  have m1 := HM1.out.cell 1
  have m2 := HM1.out.cell 2
  have m3 := HM1.out.cell 3
  have m4 := HM1.out.cell 4
  have m5 := HM1.out.cell 5
  go_wp2_with fail
  refine (hPut _).mono ?_
  rintro e w2 ⟨y, rfl, hy, hb⟩
  have HB2 := Lib.hid (HB1.out.trans (hb.mono HB1.out.size))
  have HM2 := Lib.hid (HM1.out.below hb HM1.out.lt)
  have HK2 := Lib.hid (HK1.out.below hb HK1.out.lt)
  have HY2 := Lib.hid hy.bs
  clear hy
  clear hb HB1 HM1 HK1 m0 m1 m2 m3 m4 m5
  have k0 := HK2.out.cell 0
  have k1 := HK2.out.cell 1
  have k2 := HK2.out.cell 2
  go_wp2_with fail
  refine (hMark _).mono ?_
  rintro e w3 ⟨rfl, hb⟩
  have HB3 := Lib.hid (HB2.out.trans (hb.mono HB2.out.size))
  have HM3 := Lib.hid (HM2.out.below hb HM2.out.lt)
  have HK3 := Lib.hid (HK2.out.below hb HK2.out.lt)
  have HY3 := Lib.hid (HY2.out.below hb)
  clear hb HB2 HM2 HK2 HY2 k0 k1 k2
  have m0 := HM3.out.cell 0
  have m1 := HM3.out.cell 1
  have m2 := HM3.out.cell 2
  have m3 := HM3.out.cell 3
  have m4 := HM3.out.cell 4
  have m5 := HM3.out.cell 5
  go_wp2_with fail
  refine (hMAY _).mono ?_
  rintro e w4 ⟨rfl, hb⟩
  have HB4 := Lib.hid (HB3.out.trans (hb.mono HB3.out.size))
  have HM4 := Lib.hid (HM3.out.below hb HM3.out.lt)
  have HK4 := Lib.hid (HK3.out.below hb HK3.out.lt)
  have HY4 := Lib.hid (HY3.out.below hb)
  clear hb HB3 HM3 HK3 HY3 m0 m1 m2 m3 m4 m5
  have k0 := HK4.out.cell 0
  have k1 := HK4.out.cell 1
  have k2 := HK4.out.cell 2
  go_wp2_with fail
  refine (hFAIR _).mono ?_
  rintro e w5 ⟨rfl, hb⟩
  have HB5 := Lib.hid (HB4.out.trans (hb.mono HB4.out.size))
  have HM5 := Lib.hid (HM4.out.below hb HM4.out.lt)
  have HK5 := Lib.hid (HK4.out.below hb HK4.out.lt)
  have HY5 := Lib.hid (HY4.out.below hb)
  clear hb HB4 HM4 HK4 HY4 k0 k1 k2
  have m0 := HM5.out.cell 0
  have m1 := HM5.out.cell 1
  have m2 := HM5.out.cell 2
  have m3 := HM5.out.cell 3
  have m4 := HM5.out.cell 4
  have m5 := HM5.out.cell 5
  go_wp2_with fail
  refine (hMay _).mono ?_
  rintro e w6 ⟨rfl, hb⟩
  have HB6 := Lib.hid (HB5.out.trans (hb.mono HB5.out.size))
  have HM6 := Lib.hid (HM5.out.below hb HM5.out.lt)
  have HK6 := Lib.hid (HK5.out.below hb HK5.out.lt)
  have HY6 := Lib.hid (HY5.out.below hb)
  clear hb HB5 HM5 HK5 HY5 m0 m1 m2 m3 m4 m5
  have k0 := HK6.out.cell 0
  have k1 := HK6.out.cell 1
  have k2 := HK6.out.cell 2
  go_wp2_with fail
  refine (hFair _).mono ?_
  rintro e w7 ⟨rfl, hb⟩
  have HB7 := Lib.hid (HB6.out.trans (hb.mono HB6.out.size))
  have HM7 := Lib.hid (HM6.out.below hb HM6.out.lt)
  have HK7 := Lib.hid (HK6.out.below hb HK6.out.lt)
  have HY7 := Lib.hid (HY6.out.below hb)
  clear hb HB6 HM6 HK6 HY6 k0 k1 k2
  have hne : (!(Bstr (sealedOf rm)).toList == (Bstr (sealedOf rm)).toList) = false := by simp
  have hlm : rm.length = 31 := HLm.out
  clear HLm
  go_wp2_with fail
  have hst : ∀ w', Below w7.heap.size w7 w' → (convert 28 9 y).run Tryd.prog w' = .ok (.string (Bstr (sealedOf rm))) w' := fun w' h => strOf (HY7.out.below h)
  have hcl : ∀ w', Below w7.heap.size w7 w' → w'.cell? ⟨w.heap.size, 0, none⟩ = some (.int .u64 i) ∧ w'.cell? ⟨w.heap.size, 1, none⟩ = some (.int .i64 l) ∧ w'.cell? ⟨w.heap.size, 2, none⟩ = some (.int .i64 s) ∧ w'.cell? ⟨w.heap.size, 3, none⟩ = some (.int .i64 t) ∧ w'.cell? ⟨w.heap.size, 4, none⟩ = some (.int .i64 p) ∧ w'.cell? ⟨w.heap.size, 5, none⟩ = some (.int .i64 q) := fun w' h => ⟨(HM7.out.below h HM7.out.lt).cell 0, (HM7.out.below h HM7.out.lt).cell 1, (HM7.out.below h HM7.out.lt).cell 2, (HM7.out.below h HM7.out.lt).cell 3, (HM7.out.below h HM7.out.lt).cell 4, (HM7.out.below h HM7.out.lt).cell 5⟩
  refine wp_region_mix [(0, false), (1, false), (2, false), (3, false), (4, false), (5, false), (6, true), (7, true), (8, true), (9, true), (10, true)] (fun w' => Below w7.heap.size w7 w') (by kernel_rfl) (by kernel_rfl) (by kernel_rfl) rfl (Below.refl _ _).drew ?_
  repeat
    (refine mix_read (o := ⟨_, _, _, _, _, _⟩) (v := ?_) rfl (by rfl) (fun w' hS => ?_) ?_
     rotate_left
     obtain ⟨m0, m1, m2, m3, m4, m5⟩ := hcl w' hS
     go_simp
     with_reducible rfl
     try simp only [Act.put, List.setIfInBounds_toArray, List.set_cons_zero, List.set_cons_succ])
  refine mix_more (o := ⟨_, _, _, _, _, _⟩) rfl (fun K hK => ?_)
  go_simp
  refine (hPl _).mono ?_
  rintro e w8M ⟨r, rfl, hr, hb⟩
  have hb8 : Below w7.heap.size w7 w8M := (Below.refl _ w7).drew.trans hb
  refine hK.out (fun u => Below w8M.heap.size w8M u) _ _ (fun u hu => hb8.trans (hu.mono hb8.size)) (Below.refl _ _) ?_
  clear hK K
  try simp only [Act.put, List.setIfInBounds_toArray, List.set_cons_zero, List.set_cons_succ]
  refine mix_step (o := ⟨_, _, _, _, _, _⟩) rfl (fun K hK => ?_)
  go_simp
  refine (Seal_any rm _ _ (by omega) hr.bs).mono ?_
  rintro e w9M ⟨r2, rfl, hr2, hb9⟩
  have hst9 := strOf hr2.bs
  refine hK.out _ _ hb9 ?_
  clear hK K
  try simp only [Act.put, List.setIfInBounds_toArray, List.set_cons_zero, List.set_cons_succ]
  repeat
    (refine mix_step (o := ⟨_, _, _, _, _, _⟩) rfl (fun K hK => ?_)
     go_simp
     refine hK.out _ _ hb9 ?_
     clear hK K
     try simp only [Act.put, List.setIfInBounds_toArray, List.set_cons_zero, List.set_cons_succ])
  refine mix_done ?_
  have hb := hb8.trans (hb9.mono hb8.size)
  have HB8 := Lib.hid (HB7.out.trans (hb.mono HB7.out.size))
  have HM8 := Lib.hid (HM7.out.below hb HM7.out.lt)
  have HK8 := Lib.hid (HK7.out.below hb HK7.out.lt)
  have HY8 := Lib.hid (HY7.out.below hb)
  revert HB8 HM8 HK8 HY8
  clear hst hcl hst9 hb hb8 hb9 hr hr2 HB7 HM7 HK7 HY7
  generalize w9M = w8
  intro HB8 HM8 HK8 HY8
  clear hlm
  go_wp2_with fail
  go_ret
  exact ⟨rfl, HB8.out⟩

set_option maxHeartbeats 3200000 in
theorem metaPuts_TT (m : Me) (k : Mk) (w : World) (hm : m.ok) (hk : k.ok) (h1 : meB m = true) (h2 : mkB k = true) (hL : Ld w) :
    Calls Tryd.prog 3 #[meV m, mkV k] w fun e w' => e = .returned (.bool true) ∧ Below w.heap.size w w' := by
  have eqc := eqCode
  have nec := neCode
  have hPut := fun u => mput_ok m hm u h1
  have hMark := fun u => mmark_ok k hk u h2
  have hMay := fun u => mmay_any m hm u
  have hMAY := fun u => MMay_any m hm u
  have hFair := fun u => mfair_any k hk u
  have hFAIR := fun u => MFair_any k hk u
  rw [h1] at hMay hMAY
  rw [h2] at hFair hFAIR
  have hPl := fun u => Plain_any m hm u h1
  have HLm := Lib.hid (meRaw_length m)
  have hBa := fun u => Bare_any k hk u h2
  have HLk := Lib.hid (mkRaw_length k)
  have HL := Lib.hid hL
  clear hL h1 h2 hm hk
  generalize meRaw m = rm at *
  generalize mkRaw k = rk at *
  obtain ⟨i, l, s, t, p, q⟩ := m
  obtain ⟨j, a, b⟩ := k
  simp only [meV, mkV] at *
  have hb0 : Below w.heap.size w ((w.alloc (.cells #[.int .u64 i, .int .i64 l, .int .i64 s, .int .i64 t, .int .i64 p, .int .i64 q] 24)).alloc (.cells #[.int .u64 j, .int .i64 a, .int .u64 b] 26)) := ((Below.refl _ _).alloc (Nat.le_refl _) _).alloc (by simp) _
  have hm0 := (Blk.new w 24 #[.int .u64 i, .int .i64 l, .int .i64 s, .int .i64 t, .int .i64 p, .int .i64 q]).alloc (.cells #[.int .u64 j, .int .i64 a, .int .u64 b] 26)
  have hk0 : Blk ((w.alloc (.cells #[.int .u64 i, .int .i64 l, .int .i64 s, .int .i64 t, .int .i64 p, .int .i64 q] 24)).alloc (.cells #[.int .u64 j, .int .i64 a, .int .u64 b] 26)) (w.heap.size + 1) 26 #[.int .u64 j, .int .i64 a, .int .u64 b] := by simpa using Blk.new (w.alloc (.cells #[.int .u64 i, .int .i64 l, .int .i64 s, .int .i64 t, .int .i64 p, .int .i64 q] 24)) 26 #[.int .u64 j, .int .i64 a, .int .u64 b]
  have HB0 := Lib.hid hb0
  have HM0 := Lib.hid hm0
  have HK0 := Lib.hid hk0
  have HL0 := Lib.hid (HL.out.below hb0)
  clear hb0 hm0 hk0
  go_enter Tryd.func3, Tryd.ntmps3
  go_wp2_with fail
  revert HB0 HM0 HK0 HL0
  generalize ((w.alloc (.cells #[.int .u64 i, .int .i64 l, .int .i64 s, .int .i64 t, .int .i64 p, .int .i64 q] 24)).alloc (.cells #[.int .u64 j, .int .i64 a, .int .u64 b] 26)) = w0
  intro HB0 HM0 HK0 HL0
  go_wp2_with fail
  refine (up13_any _ HL0.out).mono ?_
  rintro e w1 ⟨rfl, hb⟩
  have HB1 := Lib.hid (HB0.out.trans (hb.mono HB0.out.size))
  have HM1 := Lib.hid (HM0.out.below hb HM0.out.lt)
  have HK1 := Lib.hid (HK0.out.below hb HK0.out.lt)
  clear hb HB0 HM0 HK0
  have m0 := HM1.out.cell 0
  have m1 := HM1.out.cell 1
  have m2 := HM1.out.cell 2
  have m3 := HM1.out.cell 3
  have m4 := HM1.out.cell 4
  have m5 := HM1.out.cell 5
  go_wp2_with fail
  refine (hPut _).mono ?_
  rintro e w2 ⟨y, rfl, hy, hb⟩
  have HB2 := Lib.hid (HB1.out.trans (hb.mono HB1.out.size))
  have HM2 := Lib.hid (HM1.out.below hb HM1.out.lt)
  have HK2 := Lib.hid (HK1.out.below hb HK1.out.lt)
  have HY2 := Lib.hid hy.bs
  clear hy
  clear hb HB1 HM1 HK1 m0 m1 m2 m3 m4 m5
  have k0 := HK2.out.cell 0
  have k1 := HK2.out.cell 1
  have k2 := HK2.out.cell 2
  go_wp2_with fail
  refine (hMark _).mono ?_
  rintro e w3 ⟨z, rfl, hz, hb⟩
  have HB3 := Lib.hid (HB2.out.trans (hb.mono HB2.out.size))
  have HM3 := Lib.hid (HM2.out.below hb HM2.out.lt)
  have HK3 := Lib.hid (HK2.out.below hb HK2.out.lt)
  have HY3 := Lib.hid (HY2.out.below hb)
  have HZ3 := Lib.hid hz.bs
  clear hz
  clear hb HB2 HM2 HK2 HY2 k0 k1 k2
  have m0 := HM3.out.cell 0
  have m1 := HM3.out.cell 1
  have m2 := HM3.out.cell 2
  have m3 := HM3.out.cell 3
  have m4 := HM3.out.cell 4
  have m5 := HM3.out.cell 5
  go_wp2_with fail
  refine (hMAY _).mono ?_
  rintro e w4 ⟨rfl, hb⟩
  have HB4 := Lib.hid (HB3.out.trans (hb.mono HB3.out.size))
  have HM4 := Lib.hid (HM3.out.below hb HM3.out.lt)
  have HK4 := Lib.hid (HK3.out.below hb HK3.out.lt)
  have HY4 := Lib.hid (HY3.out.below hb)
  have HZ4 := Lib.hid (HZ3.out.below hb)
  clear hb HB3 HM3 HK3 HY3 HZ3 m0 m1 m2 m3 m4 m5
  have k0 := HK4.out.cell 0
  have k1 := HK4.out.cell 1
  have k2 := HK4.out.cell 2
  go_wp2_with fail
  refine (hFAIR _).mono ?_
  rintro e w5 ⟨rfl, hb⟩
  have HB5 := Lib.hid (HB4.out.trans (hb.mono HB4.out.size))
  have HM5 := Lib.hid (HM4.out.below hb HM4.out.lt)
  have HK5 := Lib.hid (HK4.out.below hb HK4.out.lt)
  have HY5 := Lib.hid (HY4.out.below hb)
  have HZ5 := Lib.hid (HZ4.out.below hb)
  clear hb HB4 HM4 HK4 HY4 HZ4 k0 k1 k2
  have m0 := HM5.out.cell 0
  have m1 := HM5.out.cell 1
  have m2 := HM5.out.cell 2
  have m3 := HM5.out.cell 3
  have m4 := HM5.out.cell 4
  have m5 := HM5.out.cell 5
  go_wp2_with fail
  refine (hMay _).mono ?_
  rintro e w6 ⟨rfl, hb⟩
  have HB6 := Lib.hid (HB5.out.trans (hb.mono HB5.out.size))
  have HM6 := Lib.hid (HM5.out.below hb HM5.out.lt)
  have HK6 := Lib.hid (HK5.out.below hb HK5.out.lt)
  have HY6 := Lib.hid (HY5.out.below hb)
  have HZ6 := Lib.hid (HZ5.out.below hb)
  clear hb HB5 HM5 HK5 HY5 HZ5 m0 m1 m2 m3 m4 m5
  have k0 := HK6.out.cell 0
  have k1 := HK6.out.cell 1
  have k2 := HK6.out.cell 2
  go_wp2_with fail
  refine (hFair _).mono ?_
  rintro e w7 ⟨rfl, hb⟩
  have HB7 := Lib.hid (HB6.out.trans (hb.mono HB6.out.size))
  have HM7 := Lib.hid (HM6.out.below hb HM6.out.lt)
  have HK7 := Lib.hid (HK6.out.below hb HK6.out.lt)
  have HY7 := Lib.hid (HY6.out.below hb)
  have HZ7 := Lib.hid (HZ6.out.below hb)
  clear hb HB6 HM6 HK6 HY6 HZ6 k0 k1 k2
  have hne : (!(Bstr (sealedOf rm)).toList == (Bstr (sealedOf rm)).toList) = false := by simp
  have hlm : rm.length = 31 := HLm.out
  clear HLm
  go_wp2_with fail
  have hst : ∀ w', Below w7.heap.size w7 w' → (convert 28 9 y).run Tryd.prog w' = .ok (.string (Bstr (sealedOf rm))) w' := fun w' h => strOf (HY7.out.below h)
  have hcl : ∀ w', Below w7.heap.size w7 w' → w'.cell? ⟨w.heap.size, 0, none⟩ = some (.int .u64 i) ∧ w'.cell? ⟨w.heap.size, 1, none⟩ = some (.int .i64 l) ∧ w'.cell? ⟨w.heap.size, 2, none⟩ = some (.int .i64 s) ∧ w'.cell? ⟨w.heap.size, 3, none⟩ = some (.int .i64 t) ∧ w'.cell? ⟨w.heap.size, 4, none⟩ = some (.int .i64 p) ∧ w'.cell? ⟨w.heap.size, 5, none⟩ = some (.int .i64 q) := fun w' h => ⟨(HM7.out.below h HM7.out.lt).cell 0, (HM7.out.below h HM7.out.lt).cell 1, (HM7.out.below h HM7.out.lt).cell 2, (HM7.out.below h HM7.out.lt).cell 3, (HM7.out.below h HM7.out.lt).cell 4, (HM7.out.below h HM7.out.lt).cell 5⟩
  refine wp_region_mix [(0, false), (1, false), (2, false), (3, false), (4, false), (5, false), (6, true), (7, true), (8, true), (9, true), (10, true)] (fun w' => Below w7.heap.size w7 w') (by kernel_rfl) (by kernel_rfl) (by kernel_rfl) rfl (Below.refl _ _).drew ?_
  repeat
    (refine mix_read (o := ⟨_, _, _, _, _, _⟩) (v := ?_) rfl (by rfl) (fun w' hS => ?_) ?_
     rotate_left
     obtain ⟨m0, m1, m2, m3, m4, m5⟩ := hcl w' hS
     go_simp
     with_reducible rfl
     try simp only [Act.put, List.setIfInBounds_toArray, List.set_cons_zero, List.set_cons_succ])
  refine mix_more (o := ⟨_, _, _, _, _, _⟩) rfl (fun K hK => ?_)
  go_simp
  refine (hPl _).mono ?_
  rintro e w8M ⟨r, rfl, hr, hb⟩
  have hb8 : Below w7.heap.size w7 w8M := (Below.refl _ w7).drew.trans hb
  refine hK.out (fun u => Below w8M.heap.size w8M u) _ _ (fun u hu => hb8.trans (hu.mono hb8.size)) (Below.refl _ _) ?_
  clear hK K
  try simp only [Act.put, List.setIfInBounds_toArray, List.set_cons_zero, List.set_cons_succ]
  refine mix_step (o := ⟨_, _, _, _, _, _⟩) rfl (fun K hK => ?_)
  go_simp
  refine (Seal_any rm _ _ (by omega) hr.bs).mono ?_
  rintro e w9M ⟨r2, rfl, hr2, hb9⟩
  have hst9 := strOf hr2.bs
  refine hK.out _ _ hb9 ?_
  clear hK K
  try simp only [Act.put, List.setIfInBounds_toArray, List.set_cons_zero, List.set_cons_succ]
  repeat
    (refine mix_step (o := ⟨_, _, _, _, _, _⟩) rfl (fun K hK => ?_)
     go_simp
     refine hK.out _ _ hb9 ?_
     clear hK K
     try simp only [Act.put, List.setIfInBounds_toArray, List.set_cons_zero, List.set_cons_succ])
  refine mix_done ?_
  have hb := hb8.trans (hb9.mono hb8.size)
  have HB8 := Lib.hid (HB7.out.trans (hb.mono HB7.out.size))
  have HM8 := Lib.hid (HM7.out.below hb HM7.out.lt)
  have HK8 := Lib.hid (HK7.out.below hb HK7.out.lt)
  have HY8 := Lib.hid (HY7.out.below hb)
  have HZ8 := Lib.hid (HZ7.out.below hb)
  revert HB8 HM8 HK8 HY8 HZ8
  clear hst hcl hst9 hb hb8 hb9 hr hr2 HB7 HM7 HK7 HY7 HZ7
  generalize w9M = w8
  intro HB8 HM8 HK8 HY8 HZ8
  clear hlm
  have heq : ((Bstr (sealedOf rk)).toList == (Bstr (sealedOf rk)).toList) = true := by simp
  have hlk : rk.length = 24 := HLk.out
  go_wp2_with fail
  have hst : ∀ w', Below w8.heap.size w8 w' → (convert 28 9 z).run Tryd.prog w' = .ok (.string (Bstr (sealedOf rk))) w' := fun w' h => strOf (HZ8.out.below h)
  have hcl : ∀ w', Below w8.heap.size w8 w' → w'.cell? ⟨w.heap.size + 1, 0, none⟩ = some (.int .u64 j) ∧ w'.cell? ⟨w.heap.size + 1, 1, none⟩ = some (.int .i64 a) ∧ w'.cell? ⟨w.heap.size + 1, 2, none⟩ = some (.int .u64 b) := fun w' h => ⟨(HK8.out.below h HK8.out.lt).cell 0, (HK8.out.below h HK8.out.lt).cell 1, (HK8.out.below h HK8.out.lt).cell 2⟩
  refine wp_region_mix [(0, false), (1, false), (2, false), (3, false), (4, false), (5, false), (6, false), (7, false), (8, false), (9, true), (10, true), (11, true), (12, true), (13, true), (14, true)] (fun w' => Below w8.heap.size w8 w') (by kernel_rfl) (by kernel_rfl) (by kernel_rfl) rfl (Below.refl _ _).drew ?_
  repeat
    (refine mix_read (o := ⟨_, _, _, _, _, _⟩) (v := ?_) rfl (by rfl) (fun w' hS => ?_) ?_
     rotate_left
     obtain ⟨k0, k1, k2⟩ := hcl w' hS
     go_simp
     with_reducible rfl
     try simp only [Act.put, List.setIfInBounds_toArray, List.set_cons_zero, List.set_cons_succ])
  refine mix_more (o := ⟨_, _, _, _, _, _⟩) rfl (fun K hK => ?_)
  go_simp
  refine (hBa _).mono ?_
  rintro e w8K ⟨r, rfl, hr, hb⟩
  have hb8 : Below w8.heap.size w8 w8K := (Below.refl _ w8).drew.trans hb
  refine hK.out (fun u => Below w8K.heap.size w8K u) _ _ (fun u hu => hb8.trans (hu.mono hb8.size)) (Below.refl _ _) ?_
  clear hK K
  try simp only [Act.put, List.setIfInBounds_toArray, List.set_cons_zero, List.set_cons_succ]
  refine mix_step (o := ⟨_, _, _, _, _, _⟩) rfl (fun K hK => ?_)
  go_simp
  refine (Seal_any rk _ _ (by omega) hr.bs).mono ?_
  rintro e w9K ⟨r2, rfl, hr2, hb9⟩
  have hst9 := strOf hr2.bs
  refine hK.out _ _ hb9 ?_
  clear hK K
  try simp only [Act.put, List.setIfInBounds_toArray, List.set_cons_zero, List.set_cons_succ]
  repeat
    (refine mix_step (o := ⟨_, _, _, _, _, _⟩) rfl (fun K hK => ?_)
     go_simp
     refine hK.out _ _ hb9 ?_
     clear hK K
     try simp only [Act.put, List.setIfInBounds_toArray, List.set_cons_zero, List.set_cons_succ])
  refine mix_done ?_
  have hb := hb8.trans (hb9.mono hb8.size)
  have HB9 := Lib.hid (HB8.out.trans (hb.mono HB8.out.size))
  have HM9 := Lib.hid (HM8.out.below hb HM8.out.lt)
  have HK9 := Lib.hid (HK8.out.below hb HK8.out.lt)
  have HY9 := Lib.hid (HY8.out.below hb)
  have HZ9 := Lib.hid (HZ8.out.below hb)
  revert HB9 HM9 HK9 HY9 HZ9
  clear hst hcl hst9 hb hb8 hb9 hr hr2 HB8 HM8 HK8 HY8 HZ8
  generalize w9K = w9
  intro HB9 HM9 HK9 HY9 HZ9
  go_wp2_with fail
  go_ret
  exact ⟨rfl, HB9.out⟩

theorem metaPuts_any (m : Me) (k : Mk) (w : World) (hm : m.ok) (hk : k.ok) (hL : Ld w) :
    Calls Tryd.prog 3 #[meV m, mkV k] w fun e w' => e = .returned (.bool true) ∧ Below w.heap.size w w' := by
  cases h1 : meB m <;> cases h2 : mkB k
  · exact metaPuts_FF m k w hm hk h1 h2 hL
  · exact metaPuts_FT m k w hm hk h1 h2 hL
  · exact metaPuts_TF m k w hm hk h1 h2 hL
  · exact metaPuts_TT m k w hm hk h1 h2 hL
end Go.Proofs.YtkhdlcoappkgkaaDoor
