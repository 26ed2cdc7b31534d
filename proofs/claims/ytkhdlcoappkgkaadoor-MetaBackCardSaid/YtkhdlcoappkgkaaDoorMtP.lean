/-
  tankardlaw13.MetaBack, walked (written by tools/genback.py). Conditions: what each says; of the library's variables: Ld.
-/
import Derived.Test.YtkhdlcoappkgkaaDoorSto
import Derived.Test.YtkhdlcoappkgkaaDoorMtD
import Derived.Test.YtkhdlcoappkgkaaDoorMtM
namespace Go.Proofs.YtkhdlcoappkgkaaDoor
open Go.RowKit
set_option maxRecDepth 100000

/-- two blocks' metas are of one name just where they are one -/
theorem name_eq (a b : Nat) (ha : a < 18446744073709551616) (hb : b < 18446744073709551616) : ∃ e : Bool, ((Bstr (nmOf a [109] 0)).toList == (Bstr (nmOf b [109] 0)).toList) = e ∧ ((a : Int) == (b : Int)) = e := by
  refine ⟨decide (a = b), ?_, ?_⟩
  · rw [BSlist, BSlist]
    by_cases h : a = b
    · subst h
      simp
    · rw [decide_eq_false h, beq_eq_false_iff_ne]
      intro e
      have h1 := NamedAs.of_name a [109] 0 ha (.inr (.inl rfl))
      have h2 := NamedAs.of_name b [109] 0 hb (.inr (.inl rfl))
      rw [e] at h1
      exact h (h1.one h2).1
  · rw [Bool.eq_iff_iff]
    simp
    omega
/-- a meta's name is no marker's -/
theorem name_ne (a b : Nat) : (!(Bstr (nmOf a [109] 0)).toList == (Bstr (nmOf b [120] 0)).toList) = true := by
  refine strNe _ _ fun e => ?_
  rw [nmOf_sort (.inl rfl), nmOf_sort (.inr (.inr (.inr rfl)))] at e
  have h1 : (nmHead a ++ [109]).drop 19 = (nmHead b ++ [120]).drop 19 := congrArg (List.drop 19) e
  rw [List.drop_append_of_le_length (by rw [nmHead_length]; omega), List.drop_append_of_le_length (by rw [nmHead_length]; omega), List.drop_eq_nil_of_le (by rw [nmHead_length]; omega), List.drop_eq_nil_of_le (by rw [nmHead_length]; omega)] at h1
  exact absurd h1 (by decide)

set_option maxHeartbeats 3200000 in
theorem metaBack_F (m : Me) (k x : Int) (a b : Nat) (page : Int) (w : World) (hm : m.ok) (h1 : meB m = false) (ha : a < 18446744073709551616) (hb : b < 18446744073709551616) (hp : page ≤ 9223372036854775807) (hL : Ld w) :
    Calls Tryd.prog 6 #[meV m, .int .i64 k, .int .u8 x, .int .u64 (a : Int), .int .u64 (b : Int), .int .i64 page] w fun e w' => e = .returned (.bool true) ∧ Below w.heap.size w w' := by
  have eqc := eqCode
  have nec := neCode
  have hPut := fun u => mput_bad m hm u h1
  -- names
  obtain ⟨e1, f1, f2⟩ := name_eq a b ha hb
  have f3 := name_ne a b
  have f4 : nmOf a [113] 0 = [] := nmOf_none (by decide) (by decide)
  have f5 : (e1 == e1) = true := by simp
  have HNA : Hid (NamedAs (nmOf a [112] page) a [112] (pgN page)) := Lib.hid (by
    have := NamedAs.of_name a [112] page ha (.inl rfl)
    rwa [if_pos rfl] at this)
  have hNp := fun u hu => mname_any a [112] page u ha hu
  have hNam := fun u hu => mname_any a [109] 0 u ha hu
  have hNbm := fun u hu => mname_any b [109] 0 u hb hu
  have hNbx := fun u hu => mname_any b [120] 0 u hb hu
  have hNaq := fun u hu => mname_any a [113] 0 u ha hu
  rw [f4] at hNaq
  have hlp : (nmOf a [112] page).length ≤ 100 := by rw [nmOf_p, List.length_append, List.length_append, nmHead_length, digs_length]; decide
  have hPar := fun u hu => mparse_any (nmOf a [112] page) u (by omega) hu
  have HPG : Hid ((page < 0 ∨ 1000 ≤ page) ∨ (0 ≤ page ∧ page < 1000 ∧ ((pgN page : Nat) : Int) = page)) := Lib.hid (by
    by_cases h1 : page < 0
    · exact .inl (.inl h1)
    · by_cases h2 : 1000 ≤ page
      · exact .inl (.inr h2)
      · exact .inr ⟨by omega, by omega, by unfold pgN; omega⟩)
  have q1 : ((Bstr [112]).toList == [112]) = true := by rw [BSlist]; rfl
  have q2 : (!(Bstr [112]).toList == [112]) = false := by rw [BSlist]; rfl
  have q3 : ((Bstr []).toList == []) = true := by rw [BSlist]; rfl
  generalize nmOf a [109] 0 = na at *
  generalize nmOf b [109] 0 = nb at *
  generalize nmOf b [120] 0 = nx at *
  have HL := Lib.hid hL
  clear hL ha hb f4 hlp hp
  obtain ⟨i, l, s, t, p, q⟩ := m
  simp only [meV] at *
  clear hm h1
  have hb0 : Below w.heap.size w (w.alloc (.cells #[.int .u64 i, .int .i64 l, .int .i64 s, .int .i64 t, .int .i64 p, .int .i64 q] 24)) := (Below.refl _ _).alloc (Nat.le_refl _) _
  have HB0 := Lib.hid hb0
  have HM0 := Lib.hid (Blk.new w 24 #[.int .u64 i, .int .i64 l, .int .i64 s, .int .i64 t, .int .i64 p, .int .i64 q])
  have HL0 := Lib.hid (HL.out.below hb0)
  clear hb0
  go_enter Tryd.func6, Tryd.ntmps6
  go_wp2_with fail
  revert HB0 HM0 HL0
  generalize w.alloc (.cells #[.int .u64 i, .int .i64 l, .int .i64 s, .int .i64 t, .int .i64 p, .int .i64 q] 24) = w0
  intro HB0 HM0 HL0
  refine (up13_any _ HL0.out).mono ?_
  rintro e w1 ⟨rfl, hb⟩
  have HB1 := Lib.hid (HB0.out.trans (hb.mono HB0.out.size))
  have HM1 := Lib.hid (HM0.out.below hb HM0.out.lt)
  have HL1 := Lib.hid (HL0.out.below hb)
  clear hb
  have m0 := HM1.out.cell 0
  have m1 := HM1.out.cell 1
  have m2 := HM1.out.cell 2
  have m3 := HM1.out.cell 3
  have m4 := HM1.out.cell 4
  have m5 := HM1.out.cell 5
  go_wp2_with fail
  refine (hPut _).mono ?_
  rintro e w2 ⟨rfl, hb⟩
  have HB2 := Lib.hid (HB1.out.trans (hb.mono HB1.out.size))
  have HL2 := Lib.hid (HL1.out.below hb)
  clear hb m0 m1 m2 m3 m4 m5
  go_wp2_with fail
  refine (hNp _ HL2.out).mono ?_
  rintro e w3 ⟨rfl, hb⟩
  have HB3 := Lib.hid (HB2.out.trans (hb.mono HB2.out.size))
  have HL3 := Lib.hid (HL2.out.below hb)
  clear hb
  go_wp2_with fail
  refine (hPar _ HL3.out).mono ?_
  rintro e w4 ⟨id', wh', n', is', rfl, hpp, hb⟩
  have HB4 := Lib.hid (HB3.out.trans (hb.mono HB3.out.size))
  have HL4 := Lib.hid (HL3.out.below hb)
  clear hb
  obtain ⟨rfl, kk, rfl, hNA⟩ := hpp.elim id (fun h => absurd HNA.out (h.2.2.2.2 _ _ _))
  obtain ⟨rfl, rfl, rfl⟩ := hNA.one HNA.out
  clear hNA
  rcases HPG.out with (hpg | hpg) | ⟨hpg1, hpg2, hpg3⟩
  all_goals
    go_wp2_with fail
    refine (hNam _ HL4.out).mono ?_
    rintro e w5 ⟨rfl, hb⟩
    have HB5 := Lib.hid (HB4.out.trans (hb.mono HB4.out.size))
    have HL5 := Lib.hid (HL4.out.below hb)
    clear hb
    go_wp2_with fail
    refine (hNbm _ HL5.out).mono ?_
    rintro e w6 ⟨rfl, hb⟩
    have HB6 := Lib.hid (HB5.out.trans (hb.mono HB5.out.size))
    have HL6 := Lib.hid (HL5.out.below hb)
    clear hb
    go_wp2_with fail
    refine (hNam _ HL6.out).mono ?_
    rintro e w7 ⟨rfl, hb⟩
    have HB7 := Lib.hid (HB6.out.trans (hb.mono HB6.out.size))
    have HL7 := Lib.hid (HL6.out.below hb)
    clear hb
    go_wp2_with fail
    refine (hNbx _ HL7.out).mono ?_
    rintro e w8 ⟨rfl, hb⟩
    have HB8 := Lib.hid (HB7.out.trans (hb.mono HB7.out.size))
    have HL8 := Lib.hid (HL7.out.below hb)
    clear hb
    go_wp2_with fail
    refine (hNaq _ HL8.out).mono ?_
    rintro e w9 ⟨rfl, hb⟩
    have HB9 := Lib.hid (HB8.out.trans (hb.mono HB8.out.size))
    clear hb
    go_wp2_with fail
    go_ret
    exact ⟨rfl, HB9.out⟩

set_option maxHeartbeats 3200000 in
theorem metaBack_S (m : Me) (k x : Int) (a b : Nat) (page : Int) (w : World) (hm : m.ok) (h1 : meB m = true) (hk : k < 0 ∨ 35 ≤ k ∨ (0 ≤ k ∧ k < 35 ∧ x = 0)) (ha : a < 18446744073709551616) (hb : b < 18446744073709551616) (hp : page ≤ 9223372036854775807) (hL : Ld w) :
    Calls Tryd.prog 6 #[meV m, .int .i64 k, .int .u8 x, .int .u64 (a : Int), .int .u64 (b : Int), .int .i64 page] w fun e w' => e = .returned (.bool true) ∧ Below w.heap.size w w' := by
  have eqc := eqCode
  have nec := neCode
  have hPut := fun u => mput_ok m hm u h1
  have hX := meX_put m h1 hm
  have hRl : (sealedOf (meRaw m)).length = 35 := by rw [sealedOf_length, meRaw_length]
  have hGet := fun (v : Value) u (hu : Bs u v (sealedOf (meRaw m))) => mget_any u hu (by omega)
  rw [hX] at hGet
  -- names
  obtain ⟨e1, f1, f2⟩ := name_eq a b ha hb
  have f3 := name_ne a b
  have f4 : nmOf a [113] 0 = [] := nmOf_none (by decide) (by decide)
  have f5 : (e1 == e1) = true := by simp
  have HNA : Hid (NamedAs (nmOf a [112] page) a [112] (pgN page)) := Lib.hid (by
    have := NamedAs.of_name a [112] page ha (.inl rfl)
    rwa [if_pos rfl] at this)
  have hNp := fun u hu => mname_any a [112] page u ha hu
  have hNam := fun u hu => mname_any a [109] 0 u ha hu
  have hNbm := fun u hu => mname_any b [109] 0 u hb hu
  have hNbx := fun u hu => mname_any b [120] 0 u hb hu
  have hNaq := fun u hu => mname_any a [113] 0 u ha hu
  rw [f4] at hNaq
  have hlp : (nmOf a [112] page).length ≤ 100 := by rw [nmOf_p, List.length_append, List.length_append, nmHead_length, digs_length]; decide
  have hPar := fun u hu => mparse_any (nmOf a [112] page) u (by omega) hu
  have HPG : Hid ((page < 0 ∨ 1000 ≤ page) ∨ (0 ≤ page ∧ page < 1000 ∧ ((pgN page : Nat) : Int) = page)) := Lib.hid (by
    by_cases h1 : page < 0
    · exact .inl (.inl h1)
    · by_cases h2 : 1000 ≤ page
      · exact .inl (.inr h2)
      · exact .inr ⟨by omega, by omega, by unfold pgN; omega⟩)
  have q1 : ((Bstr [112]).toList == [112]) = true := by rw [BSlist]; rfl
  have q2 : (!(Bstr [112]).toList == [112]) = false := by rw [BSlist]; rfl
  have q3 : ((Bstr []).toList == []) = true := by rw [BSlist]; rfl
  generalize nmOf a [109] 0 = na at *
  generalize nmOf b [109] 0 = nb at *
  generalize nmOf b [120] 0 = nx at *
  have HL := Lib.hid hL
  clear hL ha hb f4 hlp hp
  generalize sealedOf (meRaw m) = sr at *
  have HRL := Lib.hid hRl
  obtain ⟨i, l, s, t, p, q⟩ := m
  simp only [meV, errV_zero] at *
  clear hm h1 hX hRl
  have hb0 : Below w.heap.size w (w.alloc (.cells #[.int .u64 i, .int .i64 l, .int .i64 s, .int .i64 t, .int .i64 p, .int .i64 q] 24)) := (Below.refl _ _).alloc (Nat.le_refl _) _
  have HB0 := Lib.hid hb0
  have HM0 := Lib.hid (Blk.new w 24 #[.int .u64 i, .int .i64 l, .int .i64 s, .int .i64 t, .int .i64 p, .int .i64 q])
  have HL0 := Lib.hid (HL.out.below hb0)
  clear hb0
  go_enter Tryd.func6, Tryd.ntmps6
  go_wp2_with fail
  revert HB0 HM0 HL0
  generalize w.alloc (.cells #[.int .u64 i, .int .i64 l, .int .i64 s, .int .i64 t, .int .i64 p, .int .i64 q] 24) = w0
  intro HB0 HM0 HL0
  refine (up13_any _ HL0.out).mono ?_
  rintro e w1 ⟨rfl, hb⟩
  have HB1 := Lib.hid (HB0.out.trans (hb.mono HB0.out.size))
  have HM1 := Lib.hid (HM0.out.below hb HM0.out.lt)
  have HL1 := Lib.hid (HL0.out.below hb)
  clear hb
  have m0 := HM1.out.cell 0
  have m1 := HM1.out.cell 1
  have m2 := HM1.out.cell 2
  have m3 := HM1.out.cell 3
  have m4 := HM1.out.cell 4
  have m5 := HM1.out.cell 5
  go_wp2_with fail
  refine (hPut _).mono ?_
  rintro e w2 ⟨y, rfl, hy2, hb⟩
  have HB2 := Lib.hid (HB1.out.trans (hb.mono HB1.out.size))
  have HL2 := Lib.hid (HL1.out.below hb)
  have HM2 := Lib.hid (HM1.out.below hb HM1.out.lt)
  have HY2 : Hid (Own w2 w.heap.size 5 y sr) := Lib.hid (hy2.lower HB1.out.size)
  clear hb hy2 m0 m1 m2 m3 m4 m5
  obtain ⟨g, cap, hv2, hg1, hg2⟩ := World.ownsRow.form HY2.out (by rw [HRL.out]; omega)
  rw [HRL.out] at hv2
  subst hv2
  go_wp2_with fail
  refine (hGet _ _ HY2.out.bs).mono ?_
  rintro e w3 ⟨rfl, hb⟩
  have HB3 := Lib.hid (HB2.out.trans (hb.mono HB2.out.size))
  have HL3 := Lib.hid (HL2.out.below hb)
  have HM3 := Lib.hid (HM2.out.below hb HM2.out.lt)
  have HY3 := Lib.hid (HY2.out.below hb)
  clear hb
  have HB4 := Lib.hid (HB3.out.alloc HB3.out.size (.cells #[.int .u64 i, .int .i64 l, .int .i64 s, .int .i64 t, .int .i64 p, .int .i64 q] 24))
  have HL4 := Lib.hid (HL3.out.below ((Below.refl _ _).alloc (Nat.le_refl _) (.cells #[.int .u64 i, .int .i64 l, .int .i64 s, .int .i64 t, .int .i64 p, .int .i64 q] 24)))
  have HM4 := Lib.hid (HM3.out.alloc (.cells #[.int .u64 i, .int .i64 l, .int .i64 s, .int .i64 t, .int .i64 p, .int .i64 q] 24))
  have HN4 := Lib.hid (Blk.new w3 24 #[.int .u64 i, .int .i64 l, .int .i64 s, .int .i64 t, .int .i64 p, .int .i64 q])
  have HY4 := Lib.hid (HY3.out.alloc (.cells #[.int .u64 i, .int .i64 l, .int .i64 s, .int .i64 t, .int .i64 p, .int .i64 q] 24))
  have m0 := HM4.out.cell 0
  have n0 := HN4.out.cell 0
  have m1 := HM4.out.cell 1
  have n1 := HN4.out.cell 1
  have m2 := HM4.out.cell 2
  have n2 := HN4.out.cell 2
  have m3 := HM4.out.cell 3
  have n3 := HN4.out.cell 3
  have m4 := HM4.out.cell 4
  have n4 := HN4.out.cell 4
  have m5 := HM4.out.cell 5
  have n5 := HN4.out.cell 5
  rcases hk with hk | hk | ⟨hk1, hk2, rfl⟩
  all_goals
    go_wp2_with fail
    clear m0 m1 m2 m3 m4 m5 n0 n1 n2 n3 n4 n5 HM4 HN4 HY4
    revert HB4 HL4
    generalize w3.alloc (.cells #[.int .u64 i, .int .i64 l, .int .i64 s, .int .i64 t, .int .i64 p, .int .i64 q] 24) = w4
    intro HB4 HL4
    refine (hNp _ HL4.out).mono ?_
    rintro e w5 ⟨rfl, hb⟩
    have HB5 := Lib.hid (HB4.out.trans (hb.mono HB4.out.size))
    have HL5 := Lib.hid (HL4.out.below hb)
    clear hb
    go_wp2_with fail
    refine (hPar _ HL5.out).mono ?_
    rintro e w6 ⟨id', wh', n', is', rfl, hpp, hb⟩
    have HB6 := Lib.hid (HB5.out.trans (hb.mono HB5.out.size))
    have HL6 := Lib.hid (HL5.out.below hb)
    clear hb
    obtain ⟨rfl, kk, rfl, hNA⟩ := hpp.elim id (fun h => absurd HNA.out (h.2.2.2.2 _ _ _))
    obtain ⟨rfl, rfl, rfl⟩ := hNA.one HNA.out
    clear hNA
    rcases HPG.out with (hpg | hpg) | ⟨hpg1, hpg2, hpg3⟩
    all_goals
      go_wp2_with fail
      refine (hNam _ HL6.out).mono ?_
      rintro e w7 ⟨rfl, hb⟩
      have HB7 := Lib.hid (HB6.out.trans (hb.mono HB6.out.size))
      have HL7 := Lib.hid (HL6.out.below hb)
      clear hb
      go_wp2_with fail
      refine (hNbm _ HL7.out).mono ?_
      rintro e w8 ⟨rfl, hb⟩
      have HB8 := Lib.hid (HB7.out.trans (hb.mono HB7.out.size))
      have HL8 := Lib.hid (HL7.out.below hb)
      clear hb
      go_wp2_with fail
      refine (hNam _ HL8.out).mono ?_
      rintro e w9 ⟨rfl, hb⟩
      have HB9 := Lib.hid (HB8.out.trans (hb.mono HB8.out.size))
      have HL9 := Lib.hid (HL8.out.below hb)
      clear hb
      go_wp2_with fail
      refine (hNbx _ HL9.out).mono ?_
      rintro e w10 ⟨rfl, hb⟩
      have HB10 := Lib.hid (HB9.out.trans (hb.mono HB9.out.size))
      have HL10 := Lib.hid (HL9.out.below hb)
      clear hb
      go_wp2_with fail
      refine (hNaq _ HL10.out).mono ?_
      rintro e w11 ⟨rfl, hb⟩
      have HB11 := Lib.hid (HB10.out.trans (hb.mono HB10.out.size))
      clear hb
      go_wp2_with fail
      go_ret
      exact ⟨rfl, HB11.out⟩

set_option maxHeartbeats 3200000 in
theorem metaBack_A (m : Me) (k x : Int) (a b : Nat) (page : Int) (w : World) (hm : m.ok) (h1 : meB m = true) (hk0 : 0 ≤ k) (hk1 : k < 35) (hx : 0 < x) (hx1 : x ≤ 255) (ha : a < 18446744073709551616) (hb : b < 18446744073709551616) (hp : page ≤ 9223372036854775807) (hL : Ld w) :
    Calls Tryd.prog 6 #[meV m, .int .i64 k, .int .u8 x, .int .u64 (a : Int), .int .u64 (b : Int), .int .i64 page] w fun e w' => e = .returned (.bool true) ∧ Below w.heap.size w w' := by
  have eqc := eqCode
  have nec := neCode
  have hPut := fun u => mput_ok m hm u h1
  have hX := meX_put m h1 hm
  have hRl : (sealedOf (meRaw m)).length = 35 := by rw [sealedOf_length, meRaw_length]
  have hGet := fun (v : Value) u (hu : Bs u v (sealedOf (meRaw m))) => mget_any u hu (by omega)
  rw [hX] at hGet
  obtain ⟨k, rfl⟩ := nat_of hk0
  obtain ⟨x, rfl⟩ := nat_of (n := x) (by omega)
  have hxn : UInt8.ofNat x ≠ 0 := by
    intro h
    have := congrArg UInt8.toNat h
    rw [UInt8.toNat_ofNat'] at this
    simp at this
    omega
  obtain ⟨yb, bad, hy, hbm, hml, hbad⟩ := tells_pure (meRaw m) k (UInt8.ofNat x) (by rw [meRaw_length]; omega) hxn
  rw [meRaw_length] at hml
  have hXb : meX bad = (7, Me.zero) := by rw [meX, if_neg (by omega), if_neg hbad]
  have hGetB := fun (v : Value) u (hu : Bs u v bad) => mget_any u hu (by omega)
  rw [hXb] at hGetB
  have h7 : errV 7 = code 7 := errV_code (by decide)
  simp only [h7] at hGetB
  obtain ⟨z, hzz⟩ : ∃ z, z = yb ^^^ UInt8.ofNat x := ⟨_, rfl⟩
  rw [← hzz] at hbm
  have hxor : bits .xor .u8 (yb.toNat : Int) (x : Int) = (z.toNat : Int) := by
    have hyl := yb.toNat_lt
    have h := u8_xor_nat yb.toNat x (by omega) (by omega)
    rw [h, hzz, UInt8.toNat_xor, UInt8.toNat_ofNat', Nat.mod_eq_of_lt (by omega)]
  have hx0' : (((x : Nat) : Int) == 0) = false := by
    rw [beq_eq_false_iff_ne]
    omega
  have HSET := Lib.hid hbm
  have HYB := Lib.hid hy
  have hxne : ¬ x = 0 := by omega
  clear hbm hy hml hbad hXb hxn hzz hk0 hx
  -- names
  obtain ⟨e1, f1, f2⟩ := name_eq a b ha hb
  have f3 := name_ne a b
  have f4 : nmOf a [113] 0 = [] := nmOf_none (by decide) (by decide)
  have f5 : (e1 == e1) = true := by simp
  have HNA : Hid (NamedAs (nmOf a [112] page) a [112] (pgN page)) := Lib.hid (by
    have := NamedAs.of_name a [112] page ha (.inl rfl)
    rwa [if_pos rfl] at this)
  have hNp := fun u hu => mname_any a [112] page u ha hu
  have hNam := fun u hu => mname_any a [109] 0 u ha hu
  have hNbm := fun u hu => mname_any b [109] 0 u hb hu
  have hNbx := fun u hu => mname_any b [120] 0 u hb hu
  have hNaq := fun u hu => mname_any a [113] 0 u ha hu
  rw [f4] at hNaq
  have hlp : (nmOf a [112] page).length ≤ 100 := by rw [nmOf_p, List.length_append, List.length_append, nmHead_length, digs_length]; decide
  have hPar := fun u hu => mparse_any (nmOf a [112] page) u (by omega) hu
  have HPG : Hid ((page < 0 ∨ 1000 ≤ page) ∨ (0 ≤ page ∧ page < 1000 ∧ ((pgN page : Nat) : Int) = page)) := Lib.hid (by
    by_cases h1 : page < 0
    · exact .inl (.inl h1)
    · by_cases h2 : 1000 ≤ page
      · exact .inl (.inr h2)
      · exact .inr ⟨by omega, by omega, by unfold pgN; omega⟩)
  have q1 : ((Bstr [112]).toList == [112]) = true := by rw [BSlist]; rfl
  have q2 : (!(Bstr [112]).toList == [112]) = false := by rw [BSlist]; rfl
  have q3 : ((Bstr []).toList == []) = true := by rw [BSlist]; rfl
  generalize nmOf a [109] 0 = na at *
  generalize nmOf b [109] 0 = nb at *
  generalize nmOf b [120] 0 = nx at *
  have HL := Lib.hid hL
  clear hL ha hb f4 hlp hp
  generalize sealedOf (meRaw m) = sr at *
  have HRL := Lib.hid hRl
  obtain ⟨i, l, s, t, p, q⟩ := m
  simp only [meV, errV_zero] at *
  clear hm h1 hX hRl
  have hb0 : Below w.heap.size w (w.alloc (.cells #[.int .u64 i, .int .i64 l, .int .i64 s, .int .i64 t, .int .i64 p, .int .i64 q] 24)) := (Below.refl _ _).alloc (Nat.le_refl _) _
  have HB0 := Lib.hid hb0
  have HM0 := Lib.hid (Blk.new w 24 #[.int .u64 i, .int .i64 l, .int .i64 s, .int .i64 t, .int .i64 p, .int .i64 q])
  have HL0 := Lib.hid (HL.out.below hb0)
  clear hb0
  go_enter Tryd.func6, Tryd.ntmps6
  go_wp2_with fail
  revert HB0 HM0 HL0
  generalize w.alloc (.cells #[.int .u64 i, .int .i64 l, .int .i64 s, .int .i64 t, .int .i64 p, .int .i64 q] 24) = w0
  intro HB0 HM0 HL0
  refine (up13_any _ HL0.out).mono ?_
  rintro e w1 ⟨rfl, hb⟩
  have HB1 := Lib.hid (HB0.out.trans (hb.mono HB0.out.size))
  have HM1 := Lib.hid (HM0.out.below hb HM0.out.lt)
  have HL1 := Lib.hid (HL0.out.below hb)
  clear hb
  have m0 := HM1.out.cell 0
  have m1 := HM1.out.cell 1
  have m2 := HM1.out.cell 2
  have m3 := HM1.out.cell 3
  have m4 := HM1.out.cell 4
  have m5 := HM1.out.cell 5
  go_wp2_with fail
  refine (hPut _).mono ?_
  rintro e w2 ⟨y, rfl, hy2, hb⟩
  have HB2 := Lib.hid (HB1.out.trans (hb.mono HB1.out.size))
  have HL2 := Lib.hid (HL1.out.below hb)
  have HM2 := Lib.hid (HM1.out.below hb HM1.out.lt)
  have HY2 : Hid (Own w2 w.heap.size 5 y sr) := Lib.hid (hy2.lower HB1.out.size)
  clear hb hy2 m0 m1 m2 m3 m4 m5
  obtain ⟨g, cap, hv2, hg1, hg2⟩ := World.ownsRow.form HY2.out (by rw [HRL.out]; omega)
  rw [HRL.out] at hv2
  subst hv2
  go_wp2_with fail
  refine (hGet _ _ HY2.out.bs).mono ?_
  rintro e w3 ⟨rfl, hb⟩
  have HB3 := Lib.hid (HB2.out.trans (hb.mono HB2.out.size))
  have HL3 := Lib.hid (HL2.out.below hb)
  have HM3 := Lib.hid (HM2.out.below hb HM2.out.lt)
  have HY3 := Lib.hid (HY2.out.below hb)
  clear hb
  have HB4 := Lib.hid (HB3.out.alloc HB3.out.size (.cells #[.int .u64 i, .int .i64 l, .int .i64 s, .int .i64 t, .int .i64 p, .int .i64 q] 24))
  have HL4 := Lib.hid (HL3.out.below ((Below.refl _ _).alloc (Nat.le_refl _) (.cells #[.int .u64 i, .int .i64 l, .int .i64 s, .int .i64 t, .int .i64 p, .int .i64 q] 24)))
  have HM4 := Lib.hid (HM3.out.alloc (.cells #[.int .u64 i, .int .i64 l, .int .i64 s, .int .i64 t, .int .i64 p, .int .i64 q] 24))
  have HN4 := Lib.hid (Blk.new w3 24 #[.int .u64 i, .int .i64 l, .int .i64 s, .int .i64 t, .int .i64 p, .int .i64 q])
  have HY4 := Lib.hid (HY3.out.alloc (.cells #[.int .u64 i, .int .i64 l, .int .i64 s, .int .i64 t, .int .i64 p, .int .i64 q] 24))
  have m0 := HM4.out.cell 0
  have n0 := HN4.out.cell 0
  have m1 := HM4.out.cell 1
  have n1 := HN4.out.cell 1
  have m2 := HM4.out.cell 2
  have n2 := HN4.out.cell 2
  have m3 := HM4.out.cell 3
  have n3 := HN4.out.cell 3
  have m4 := HM4.out.cell 4
  have n4 := HN4.out.cell 4
  have m5 := HM4.out.cell 5
  have n5 := HN4.out.cell 5
  have hcell : (w3.alloc (.cells #[.int .u64 i, .int .i64 l, .int .i64 s, .int .i64 t, .int .i64 p, .int .i64 q] 24)).cell? ⟨g, k, none⟩ = some (.int .u8 (yb.toNat : Int)) := by
    have h := World.ownsRow.cells HY4.out (g := g) rfl k (.int .u8 (yb.toNat : Int)) (by rw [BV_getElem?, HYB.out]; rfl)
    rw [Addr.add_lit, Nat.zero_add] at h
    exact h
  have hfro : (w3.alloc (.cells #[.int .u64 i, .int .i64 l, .int .i64 s, .int .i64 t, .int .i64 p, .int .i64 q] 24)).frozen? ⟨g, k, none⟩ = false := World.ownsRow.frozenAt (n := 35) (by have h := HY4.out; unfold Own at h; rw [HRL.out] at h; exact h) k
  have HST := Lib.hid (Own.stored HRL.out.symm HY4.out k z (.int .u8 (z.toNat : Int)) rfl)
  go_wp2_with fail
  clear hcell hfro hxor m0 m1 m2 m3 m4 m5 n0 n1 n2 n3 n4 n5 HM4 HN4
  revert HB4 HL4 HY4 HST
  generalize w3.alloc (.cells #[.int .u64 i, .int .i64 l, .int .i64 s, .int .i64 t, .int .i64 p, .int .i64 q] 24) = w4
  intro HB4 HL4 HY4 HST
  refine (hGetB _ _ (by rw [HSET.out]; exact HST.out.1.bs)).mono ?_
  rintro e w5 ⟨rfl, hb⟩
  have hs := HB4.out.grown HST.out.2 HB4.out.size (by intro j hj; injection hj with hj; omega)
  have HB5 := Lib.hid (hs.trans (hb.mono hs.size))
  have HL5 := Lib.hid (HL.out.below HB5.out)
  clear hb hs
  go_wp2_with fail
  refine (hNp _ HL5.out).mono ?_
  rintro e w6 ⟨rfl, hb⟩
  have HB6 := Lib.hid (HB5.out.trans (hb.mono HB5.out.size))
  have HL6 := Lib.hid (HL5.out.below hb)
  clear hb
  go_wp2_with fail
  refine (hPar _ HL6.out).mono ?_
  rintro e w7 ⟨id', wh', n', is', rfl, hpp, hb⟩
  have HB7 := Lib.hid (HB6.out.trans (hb.mono HB6.out.size))
  have HL7 := Lib.hid (HL6.out.below hb)
  clear hb
  obtain ⟨rfl, kk, rfl, hNA⟩ := hpp.elim id (fun h => absurd HNA.out (h.2.2.2.2 _ _ _))
  obtain ⟨rfl, rfl, rfl⟩ := hNA.one HNA.out
  clear hNA
  rcases HPG.out with (hpg | hpg) | ⟨hpg1, hpg2, hpg3⟩
  all_goals
    go_wp2_with fail
    refine (hNam _ HL7.out).mono ?_
    rintro e w8 ⟨rfl, hb⟩
    have HB8 := Lib.hid (HB7.out.trans (hb.mono HB7.out.size))
    have HL8 := Lib.hid (HL7.out.below hb)
    clear hb
    go_wp2_with fail
    refine (hNbm _ HL8.out).mono ?_
    rintro e w9 ⟨rfl, hb⟩
    have HB9 := Lib.hid (HB8.out.trans (hb.mono HB8.out.size))
    have HL9 := Lib.hid (HL8.out.below hb)
    clear hb
    go_wp2_with fail
    refine (hNam _ HL9.out).mono ?_
    rintro e w10 ⟨rfl, hb⟩
    have HB10 := Lib.hid (HB9.out.trans (hb.mono HB9.out.size))
    have HL10 := Lib.hid (HL9.out.below hb)
    clear hb
    go_wp2_with fail
    refine (hNbx _ HL10.out).mono ?_
    rintro e w11 ⟨rfl, hb⟩
    have HB11 := Lib.hid (HB10.out.trans (hb.mono HB10.out.size))
    have HL11 := Lib.hid (HL10.out.below hb)
    clear hb
    go_wp2_with fail
    refine (hNaq _ HL11.out).mono ?_
    rintro e w12 ⟨rfl, hb⟩
    have HB12 := Lib.hid (HB11.out.trans (hb.mono HB11.out.size))
    clear hb
    go_wp2_with fail
    go_ret
    exact ⟨rfl, HB12.out⟩

theorem metaBack_any (m : Me) (k x : Int) (a b : Int) (page : Int) (w : World) (hm : m.ok) (hx0 : 0 ≤ x) (hx1 : x ≤ 255) (ha0 : 0 ≤ a) (ha : a ≤ 18446744073709551615) (hb0 : 0 ≤ b) (hb : b ≤ 18446744073709551615) (hp : page ≤ 9223372036854775807) (hL : Ld w) :
    Calls Tryd.prog 6 #[meV m, .int .i64 k, .int .u8 x, .int .u64 a, .int .u64 b, .int .i64 page] w fun e w' => e = .returned (.bool true) ∧ Below w.heap.size w w' := by
  obtain ⟨a, rfl⟩ := nat_of ha0
  obtain ⟨b, rfl⟩ := nat_of hb0
  cases h1 : meB m with
  | false => exact metaBack_F m k x a b page w hm h1 (by omega) (by omega) hp hL
  | true =>
    by_cases hk : k < 0 ∨ 35 ≤ k ∨ (0 ≤ k ∧ k < 35 ∧ x = 0)
    · exact metaBack_S m k x a b page w hm h1 hk (by omega) (by omega) hp hL
    · exact metaBack_A m k x a b page w hm h1 (by omega) (by omega) (by omega) hx1 (by omega) (by omega) hp hL
end Go.Proofs.YtkhdlcoappkgkaaDoor
