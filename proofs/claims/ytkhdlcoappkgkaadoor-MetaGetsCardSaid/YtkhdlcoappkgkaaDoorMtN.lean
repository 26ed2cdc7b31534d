/-
  tankardlaw13.MetaGets and MetaNames, walked. Conditions: what each says; of the library's variables: Ld.
-/
import Derived.Test.YtkhdlcoappkgkaaDoorMtG
import Derived.Test.YtkhdlcoappkgkaaDoorMtM
namespace Go.Proofs.YtkhdlcoappkgkaaDoor
open Go.RowKit
set_option maxRecDepth 100000

set_option maxHeartbeats 1600000 in
theorem metaGets_any (v : Value) (x : List UInt8) (w : World) (hx : Bs w v x) (hL : Ld w) :
    Calls Tryd.prog 4 #[v] w fun e w' => e = .returned (.bool true) ∧ Below w.heap.size w w' := by
  have HXX := Lib.hid hx
  have HL := Lib.hid hL
  obtain ⟨B, d, rfl, hd1, hd2, _⟩ := hx
  clear hL
  by_cases hbig : 5000 < x.length
  · go_enter Tryd.func4, Tryd.ntmps4
    go_wp2_with fail
    refine (up13_any _ HL.out).mono ?_
    rintro e w1 ⟨rfl, hb1⟩
    go_wp2_with fail
    go_ret
    exact ⟨rfl, hb1⟩
  have c1 := meX_code x
  have c2 := mkX_code x
  have hG := fun u (hu : Bs u (.slice B x.length d) x) => mget_any u hu (by omega)
  have hK := fun u (hu : Bs u (.slice B x.length d) x) => mmarked_any u hu (by omega)
  have hM := fun u (hu : Bs u (.slice B x.length d) x) => Meta_any u hu (by omega)
  have hR := fun u (hu : Bs u (.slice B x.length d) x) => Marker_any u hu (by omega)
  generalize meX x = mm at *
  generalize mkX x = kk at *
  obtain ⟨e1, i, l, s, t, p, q⟩ := mm
  obtain ⟨e2, j, a, b⟩ := kk
  simp only [meV, mkV] at hG hK hM hR c1 c2
  go_enter Tryd.func4, Tryd.ntmps4
  go_wp2_with fail
  refine (up13_any _ HL.out).mono ?_
  rintro e w1 ⟨rfl, hb1⟩
  have HB1 := Lib.hid hb1
  clear hb1
  go_wp2_with fail
  refine (hG _ (HXX.out.below HB1.out)).mono ?_
  rintro e w2 ⟨rfl, hb2⟩
  have HB2 := Lib.hid (HB1.out.trans (hb2.mono HB1.out.size))
  have HB2' := HB2.out.alloc HB2.out.size (.cells #[.int .u64 i, .int .i64 l, .int .i64 s, .int .i64 t, .int .i64 p, .int .i64 q] 24)
  have HM2 := Lib.hid (Blk.new w2 24 #[.int .u64 i, .int .i64 l, .int .i64 s, .int .i64 t, .int .i64 p, .int .i64 q])
  clear hb2
  go_wp2_with fail
  refine (hK _ (HXX.out.below HB2')).mono ?_
  rintro e w3 ⟨rfl, hb3⟩
  have HB3 := Lib.hid (HB2'.trans (hb3.mono HB2'.size))
  have HM3 := Lib.hid (HM2.out.below hb3 HM2.out.lt)
  have HB3' := HB3.out.alloc HB3.out.size (.cells #[.int .u64 j, .int .i64 a, .int .u64 b] 26)
  have HK3 := Lib.hid (Blk.new w3 26 #[.int .u64 j, .int .i64 a, .int .u64 b])
  have HM3' := HM3.out.alloc (.cells #[.int .u64 j, .int .i64 a, .int .u64 b] 26)
  clear hb3 HB2'
  go_wp2_with fail
  refine (hM _ (HXX.out.below HB3')).mono ?_
  rintro e w4 ⟨rfl, hb4⟩
  have HB4 := Lib.hid (HB3'.trans (hb4.mono HB3'.size))
  have HM4 := Lib.hid (HM3'.below hb4 HM3'.lt)
  have HK4 := Lib.hid (HK3.out.below hb4 HK3.out.lt)
  have HB4' := HB4.out.alloc HB4.out.size (.cells #[.int .u64 i, .int .i64 l, .int .i64 s, .int .i64 t, .int .i64 p, .int .i64 q] 24)
  have HN4 := Lib.hid (Blk.new w4 24 #[.int .u64 i, .int .i64 l, .int .i64 s, .int .i64 t, .int .i64 p, .int .i64 q])
  have HM4' := HM4.out.alloc (.cells #[.int .u64 i, .int .i64 l, .int .i64 s, .int .i64 t, .int .i64 p, .int .i64 q] 24)
  have HK4' := HK4.out.alloc (.cells #[.int .u64 i, .int .i64 l, .int .i64 s, .int .i64 t, .int .i64 p, .int .i64 q] 24)
  clear hb4 HB3' HM3'
  go_wp2_with fail
  refine (hR _ (HXX.out.below HB4')).mono ?_
  rintro e w5 ⟨rfl, hb5⟩
  have HB5 := Lib.hid ((HB4'.trans (hb5.mono HB4'.size)).alloc (HB4'.trans (hb5.mono HB4'.size)).size (.cells #[.int .u64 j, .int .i64 a, .int .u64 b] 26))
  have HM5 := (HM4'.below hb5 HM4'.lt).alloc (.cells #[.int .u64 j, .int .i64 a, .int .u64 b] 26)
  have HK5 := (HK4'.below hb5 HK4'.lt).alloc (.cells #[.int .u64 j, .int .i64 a, .int .u64 b] 26)
  have HN5 := (HN4.out.below hb5 HN4.out.lt).alloc (.cells #[.int .u64 j, .int .i64 a, .int .u64 b] 26)
  have m0 := HM5.cell 0
  have m1 := HM5.cell 1
  have m2 := HM5.cell 2
  have m3 := HM5.cell 3
  have m4 := HM5.cell 4
  have m5 := HM5.cell 5
  have k0 := HK5.cell 0
  have k1 := HK5.cell 1
  have k2 := HK5.cell 2
  have n0 := HN5.cell 0
  have n1 := HN5.cell 1
  have n2 := HN5.cell 2
  have n3 := HN5.cell 3
  have n4 := HN5.cell 4
  have n5 := HN5.cell 5
  clear hb5 HB4' HM4' HK4' HM5 HK5 HN5
  go_wp2_with fail
  refine (Code_err e1 _ c1).mono ?_
  rintro e w6 ⟨rfl, rfl⟩
  go_wp2_with fail
  refine (Code_err e2 _ c2).mono ?_
  rintro e w6 ⟨rfl, rfl⟩
  go_wp2_with fail
  go_ret
  exact ⟨rfl, HB5.out⟩

theorem strEqT (a : List UInt8) : ((Bstr a).toList == (Bstr a).toList) = true := by simp

set_option maxHeartbeats 1600000 in
theorem metaNames_any (id : Int) (what : List UInt8) (page : Int) (nm : List UInt8) (w : World) (h0 : 0 ≤ id) (h1 : id ≤ 18446744073709551615) (hp : page ≤ 9223372036854775807) (hL : Ld w) :
    Calls Tryd.prog 5 #[.int .u64 id, .string (Bstr what), .int .i64 page, .string (Bstr nm)] w fun e w' => e = .returned (.bool true) ∧ Below w.heap.size w w' := by
  obtain ⟨id, rfl⟩ := nat_of h0
  have HID : Hid (id < 18446744073709551616) := Lib.hid (by omega)
  have HL := Lib.hid hL
  have hsw := Bstr_size what
  have hsn := Bstr_size nm
  clear hL h0 h1
  by_cases hb1 : 100 < what.length
  · go_enter Tryd.func5, Tryd.ntmps5
    go_wp2_with fail
    refine (up13_any _ HL.out).mono ?_
    rintro e w1 ⟨rfl, hb1⟩
    go_wp2_with fail
    go_ret
    exact ⟨rfl, hb1⟩
  by_cases hb2 : 1000 < nm.length
  · go_enter Tryd.func5, Tryd.ntmps5
    go_wp2_with fail
    refine (up13_any _ HL.out).mono ?_
    rintro e w1 ⟨rfl, hb1⟩
    go_wp2_with fail
    go_ret
    exact ⟨rfl, hb1⟩
  have hP := fun u hu => mparse_any nm u (by omega) hu
  have hD := fun u => DParse_any nm u
  have hN := fun u hu => mname_any id what page u HID.out hu
  have hM := fun u => Name_any id what page u HID.out hp
  clear hp
  generalize nmOf id what page = nn at *
  have q1 := strEqT nn
  go_enter Tryd.func5, Tryd.ntmps5
  go_wp2_with fail
  refine (up13_any _ HL.out).mono ?_
  rintro e w1 ⟨rfl, hb1⟩
  have HB1 := Lib.hid hb1
  have HL1 := Lib.hid (HL.out.below hb1)
  clear hb1
  go_wp2_with fail
  refine (hP _ HL1.out).mono ?_
  rintro e w2 ⟨id1, wh1, n1, is1, rfl, hp1, hb2⟩
  have HB2 := Lib.hid (HB1.out.trans (hb2.mono HB1.out.size))
  have HL2 := Lib.hid (HL1.out.below hb2)
  have HP1 := Lib.hid hp1
  clear hb2 hp1
  go_wp2_with fail
  refine (hD _).mono ?_
  rintro e w3 ⟨id2, wh2, n2, is2, rfl, hp2, hb3⟩
  have HB3 := Lib.hid (HB2.out.trans (hb3.mono HB2.out.size))
  have HL3 := Lib.hid (HL2.out.below hb3)
  obtain ⟨rfl, rfl, rfl, rfl⟩ := HP1.out.one hp2
  clear hb3 hp2
  have q2 := strEqT wh1
  go_wp2_with fail
  refine (hN _ HL3.out).mono ?_
  rintro e w4 ⟨rfl, hb4⟩
  have HB4 := Lib.hid (HB3.out.trans (hb4.mono HB3.out.size))
  clear hb4
  go_wp2_with fail
  refine (hM _).mono ?_
  rintro e w5 ⟨rfl, hb5⟩
  have HB5 := Lib.hid (HB4.out.trans (hb5.mono HB4.out.size))
  clear hb5
  go_wp2_with fail
  go_ret
  exact ⟨rfl, HB5.out⟩
end Go.Proofs.YtkhdlcoappkgkaaDoor
