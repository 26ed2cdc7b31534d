/-
  CONTRACTS of the program's Put and Mark. Conditions: what each says.
-/
import Derived.Test.YtkhdlcoappkgkaaDoorMtB
import Derived.Test.YtkhdlcoappkgkaaDoorCode
namespace Go.Proofs.YtkhdlcoappkgkaaDoor
open Go.RowKit
set_option maxRecDepth 100000

set_option maxHeartbeats 800000 in
theorem mput_bad (m : Me) (ho : m.ok) (w : World) (h : meB m = false) :
    Calls Tryd.prog 8 #[meV m] w fun e w' => e = .returned (.tuple #[.slice none 0 0, code 1]) ∧ Below w.heap.size w w' := by
  have hC := fun u => mmay_any m ho u
  rw [h] at hC
  clear h ho
  obtain ⟨i, l, s, e, p, t⟩ := m
  simp only [meV] at hC
  show Calls Tryd.prog 8 #[.agg #[.int .u64 i, .int .i64 l, .int .i64 s, .int .i64 e, .int .i64 p, .int .i64 t]] w _
  go_enter Tryd.func8, Tryd.ntmps8
  go_wp2_with fail
  refine (hC _).mono ?_
  rintro e w1 ⟨rfl, hb1⟩
  go_wp2_with fail
  go_ret2
  exact ⟨rfl, ((Below.refl _ _).alloc (Nat.le_refl _) _).trans (hb1.mono (by simp))⟩

theorem putOkN (k : Int) (n : Nat) (hk : isW k = true) (h : n < 256 ^ k.toNat) : putOk k (n : Int) = true := by
  rw [putOk, hk, Int.toNat_natCast]
  simpa using h

set_option maxHeartbeats 3200000 in
theorem mput_ok (m : Me) (ho : m.ok) (w : World) (h : meB m = true) :
    Calls Tryd.prog 8 #[meV m] w fun e w' => ∃ y, e = .returned (.tuple #[y, .nilIface]) ∧ Own w' w.heap.size 5 y (sealedOf (meRaw m)) ∧ Below w.heap.size w w' := by
  have hC := fun u => mmay_any m ho u
  rw [h] at hC
  have hp : meP m := of_decide_eq_true h
  obtain ⟨i, l, s, e, p, t⟩ := m
  simp only [meV] at hC
  have hi1 := ho.id1
  obtain ⟨h1, h2, h3, h4, h5, h6, h7, h8, h9, h10⟩ := hp
  simp only at h1 h2 h3 h4 h5 h6 h7 h8 h9 h10 hi1
  obtain ⟨i, rfl⟩ := nat_of (n := i) (by omega)
  obtain ⟨l, rfl⟩ := nat_of (n := l) (by omega)
  obtain ⟨s, rfl⟩ := nat_of (n := s) (by omega)
  obtain ⟨e, rfl⟩ := nat_of (n := e) (by omega)
  obtain ⟨p, rfl⟩ := nat_of (n := p) (by omega)
  obtain ⟨t, rfl⟩ := nat_of (n := t) (by omega)
  have P0 := Lib.hid (putOkN 8 i rfl (by show i < 18446744073709551616; omega))
  have P1 := Lib.hid (putOkN 8 s rfl (by show s < 18446744073709551616; omega))
  have P2 := Lib.hid (putOkN 8 e rfl (by show e < 18446744073709551616; omega))
  have P3 := Lib.hid (putOkN 1 l rfl (by show l < 256; omega))
  have P4 := Lib.hid (putOkN 2 p rfl (by show p < 65536; omega))
  have P5 := Lib.hid (putOkN 4 t rfl (by show t < 4294967296; omega))
  have HR : Hid (meRaw ⟨i, l, s, e, p, t⟩ = bet i 8 ++ bet s 8 ++ bet e 8 ++ bet l 1 ++ bet p 2 ++ bet t 4) := Lib.hid (by simp [meRaw])
  have hs0 : (s : Int) ≤ 1099511627776 := by omega
  clear h ho hi1 h1 h2 h4 h5 h7 h9
  show Calls Tryd.prog 8 #[.agg #[.int .u64 i, .int .i64 l, .int .i64 s, .int .i64 e, .int .i64 p, .int .i64 t]] w _
  go_enter Tryd.func8, Tryd.ntmps8
  go_wp2_with fail
  have hm0 := Blk.new w 24 #[.int .u64 i, .int .i64 l, .int .i64 s, .int .i64 e, .int .i64 p, .int .i64 t]
  have hb0 : Below w.heap.size w (w.alloc (.cells #[.int .u64 i, .int .i64 l, .int .i64 s, .int .i64 e, .int .i64 p, .int .i64 t] 24)) := (Below.refl _ _).alloc (Nat.le_refl _) _
  refine (hC _).mono ?_
  rintro e1 w1 ⟨rfl, hb1⟩
  have HM1 := Lib.hid (hm0.below hb1 (by simp))
  have HB1 := Lib.hid (hb0.trans (hb1.mono (by simp)))
  clear hb1 hm0 hb0 hC
  have k1 := HM1.out.cell 0
  go_wp2_with fail
  refine (put_ok _ _ 8 (i : Int) _ (by omega) P0.out (by simp) (Bs.nil _)).mono ?_
  rintro e1 w2 ⟨y1, rfl, hy, hb⟩
  have HY2 : Hid (Own w2 w.heap.size 5 y1 (bet i 8)) := Lib.hid (by
    have := hy.lower HB1.out.size
    simpa using this)
  have HM2 := Lib.hid (HM1.out.below hb HM1.out.lt)
  have HB2 := Lib.hid (HB1.out.trans (hb.mono HB1.out.size))
  clear hy hb k1 HM1 HB1
  have k2 := HM2.out.cell 2
  go_wp2_with fail
  refine (put_ok _ _ 8 (s : Int) _ (by omega) P1.out (by rw [bet_length]; omega) HY2.out.bs).mono ?_
  rintro e1 w3 ⟨y2, rfl, hy, hb⟩
  have HY3 : Hid (Own w3 w.heap.size 5 y2 (bet i 8 ++ bet s 8)) := Lib.hid (by
    have := hy.lower HB2.out.size
    simpa using this)
  have HM3 := Lib.hid (HM2.out.below hb HM2.out.lt)
  have HB3 := Lib.hid (HB2.out.trans (hb.mono HB2.out.size))
  clear hy hb k2 HM2 HB2 HY2
  have k3 := HM3.out.cell 3
  go_wp2_with fail
  refine (put_ok _ _ 8 (e : Int) _ (by omega) P2.out (by simp only [List.length_append, bet_length]; omega) HY3.out.bs).mono ?_
  rintro e1 w4 ⟨y3, rfl, hy, hb⟩
  have HY4 : Hid (Own w4 w.heap.size 5 y3 (bet i 8 ++ bet s 8 ++ bet e 8)) := Lib.hid (by
    have := hy.lower HB3.out.size
    simpa using this)
  have HM4 := Lib.hid (HM3.out.below hb HM3.out.lt)
  have HB4 := Lib.hid (HB3.out.trans (hb.mono HB3.out.size))
  clear hy hb k3 HM3 HB3 HY3
  have k4 := HM4.out.cell 1
  go_wp2_with fail
  refine (put_ok _ _ 1 (l : Int) _ (by omega) P3.out (by simp only [List.length_append, bet_length]; omega) HY4.out.bs).mono ?_
  rintro e1 w5 ⟨y4, rfl, hy, hb⟩
  have HY5 : Hid (Own w5 w.heap.size 5 y4 (bet i 8 ++ bet s 8 ++ bet e 8 ++ bet l 1)) := Lib.hid (by
    have := hy.lower HB4.out.size
    simpa using this)
  have HM5 := Lib.hid (HM4.out.below hb HM4.out.lt)
  have HB5 := Lib.hid (HB4.out.trans (hb.mono HB4.out.size))
  clear hy hb k4 HM4 HB4 HY4
  have k5 := HM5.out.cell 4
  go_wp2_with fail
  refine (put_ok _ _ 2 (p : Int) _ (by omega) P4.out (by simp only [List.length_append, bet_length]; omega) HY5.out.bs).mono ?_
  rintro e1 w6 ⟨y5, rfl, hy, hb⟩
  have HY6 : Hid (Own w6 w.heap.size 5 y5 (bet i 8 ++ bet s 8 ++ bet e 8 ++ bet l 1 ++ bet p 2)) := Lib.hid (by
    have := hy.lower HB5.out.size
    simpa using this)
  have HM6 := Lib.hid (HM5.out.below hb HM5.out.lt)
  have HB6 := Lib.hid (HB5.out.trans (hb.mono HB5.out.size))
  clear hy hb k5 HM5 HB5 HY5
  have k6 := HM6.out.cell 5
  go_wp2_with fail
  refine (put_ok _ _ 4 (t : Int) _ (by omega) P5.out (by simp only [List.length_append, bet_length]; omega) HY6.out.bs).mono ?_
  rintro e1 w7 ⟨y6, rfl, hy, hb⟩
  have HY7 : Hid (Own w7 w.heap.size 5 y6 (bet i 8 ++ bet s 8 ++ bet e 8 ++ bet l 1 ++ bet p 2 ++ bet t 4)) := Lib.hid (by
    have := hy.lower HB6.out.size
    simpa using this)
  have HB7 := Lib.hid (HB6.out.trans (hb.mono HB6.out.size))
  clear hy hb k6 HM6 HB6 HY6
  go_wp2_with fail
  refine (seal_any _ _ _ (by simp only [List.length_append, bet_length]; omega) HY7.out.bs).mono ?_
  rintro e1 w8 ⟨z, rfl, hz, hb8⟩
  go_wp2_with fail
  go_ret2
  rw [HR.out]
  exact ⟨_, rfl, hz.lower HB7.out.size, HB7.out.trans (hb8.mono HB7.out.size)⟩

set_option maxHeartbeats 800000 in
theorem mmark_bad (m : Mk) (ho : m.ok) (w : World) (h : mkB m = false) :
    Calls Tryd.prog 9 #[mkV m] w fun e w' => e = .returned (.tuple #[.slice none 0 0, code 1]) ∧ Below w.heap.size w w' := by
  have hC := fun u => mfair_any m ho u
  rw [h] at hC
  clear h ho
  obtain ⟨i, a, b⟩ := m
  simp only [mkV] at hC
  show Calls Tryd.prog 9 #[.agg #[.int .u64 i, .int .i64 a, .int .u64 b]] w _
  go_enter Tryd.func9, Tryd.ntmps9
  go_wp2_with fail
  refine (hC _).mono ?_
  rintro e w1 ⟨rfl, hb1⟩
  go_wp2_with fail
  go_ret2
  exact ⟨rfl, ((Below.refl _ _).alloc (Nat.le_refl _) _).trans (hb1.mono (by simp))⟩

set_option maxHeartbeats 3200000 in
theorem mmark_ok (m : Mk) (ho : m.ok) (w : World) (h : mkB m = true) :
    Calls Tryd.prog 9 #[mkV m] w fun e w' => ∃ y, e = .returned (.tuple #[y, .nilIface]) ∧ Own w' w.heap.size 5 y (sealedOf (mkRaw m)) ∧ Below w.heap.size w w' := by
  have hC := fun u => mfair_any m ho u
  rw [h] at hC
  have hp : mkP m := of_decide_eq_true h
  obtain ⟨i, a, b⟩ := m
  simp only [mkV] at hC
  have hi1 := ho.id1
  have hb0 := ho.by0
  have hb1 := ho.by1
  obtain ⟨h1, h2, h3, h4⟩ := hp
  simp only at h1 h2 h3 h4 hi1 hb0 hb1
  obtain ⟨i, rfl⟩ := nat_of (n := i) (by omega)
  obtain ⟨a, rfl⟩ := nat_of (n := a) (by omega)
  obtain ⟨b, rfl⟩ := nat_of (n := b) (by omega)
  have P0 := Lib.hid (putOkN 8 i rfl (by show i < 18446744073709551616; omega))
  have P1 := Lib.hid (putOkN 8 a rfl (by show a < 18446744073709551616; omega))
  have P2 := Lib.hid (putOkN 8 b rfl (by show b < 18446744073709551616; omega))
  have HR : Hid (mkRaw ⟨i, a, b⟩ = bet i 8 ++ bet a 8 ++ bet b 8) := Lib.hid (by simp [mkRaw])
  clear h ho hi1 h1 h2 h4 hb0 hb1
  show Calls Tryd.prog 9 #[.agg #[.int .u64 i, .int .i64 a, .int .u64 b]] w _
  go_enter Tryd.func9, Tryd.ntmps9
  go_wp2_with fail
  have hm0 := Blk.new w 26 #[.int .u64 i, .int .i64 a, .int .u64 b]
  have hb0 : Below w.heap.size w (w.alloc (.cells #[.int .u64 i, .int .i64 a, .int .u64 b] 26)) := (Below.refl _ _).alloc (Nat.le_refl _) _
  refine (hC _).mono ?_
  rintro e1 w1 ⟨rfl, hb1⟩
  have HM1 := Lib.hid (hm0.below hb1 (by simp))
  have HB1 := Lib.hid (hb0.trans (hb1.mono (by simp)))
  clear hb1 hm0 hb0 hC
  have k1 := HM1.out.cell 0
  go_wp2_with fail
  refine (put_ok _ _ 8 (i : Int) _ (by omega) P0.out (by simp) (Bs.nil _)).mono ?_
  rintro e1 w2 ⟨y1, rfl, hy, hb⟩
  have HY2 : Hid (Own w2 w.heap.size 5 y1 (bet i 8)) := Lib.hid (by
    have := hy.lower HB1.out.size
    simpa using this)
  have HM2 := Lib.hid (HM1.out.below hb HM1.out.lt)
  have HB2 := Lib.hid (HB1.out.trans (hb.mono HB1.out.size))
  clear hy hb k1 HM1 HB1
  have k2 := HM2.out.cell 1
  go_wp2_with fail
  refine (put_ok _ _ 8 (a : Int) _ (by omega) P1.out (by rw [bet_length]; omega) HY2.out.bs).mono ?_
  rintro e1 w3 ⟨y2, rfl, hy, hb⟩
  have HY3 : Hid (Own w3 w.heap.size 5 y2 (bet i 8 ++ bet a 8)) := Lib.hid (by
    have := hy.lower HB2.out.size
    simpa using this)
  have HM3 := Lib.hid (HM2.out.below hb HM2.out.lt)
  have HB3 := Lib.hid (HB2.out.trans (hb.mono HB2.out.size))
  clear hy hb k2 HM2 HB2 HY2
  have k3 := HM3.out.cell 2
  go_wp2_with fail
  refine (put_ok _ _ 8 (b : Int) _ (by omega) P2.out (by simp only [List.length_append, bet_length]; omega) HY3.out.bs).mono ?_
  rintro e1 w4 ⟨y3, rfl, hy, hb⟩
  have HY4 : Hid (Own w4 w.heap.size 5 y3 (bet i 8 ++ bet a 8 ++ bet b 8)) := Lib.hid (by
    have := hy.lower HB3.out.size
    simpa using this)
  have HB4 := Lib.hid (HB3.out.trans (hb.mono HB3.out.size))
  clear hy hb k3 HM3 HB3 HY3
  go_wp2_with fail
  refine (seal_any _ _ _ (by simp only [List.length_append, bet_length]; omega) HY4.out.bs).mono ?_
  rintro e1 w5 ⟨z, rfl, hz, hb5⟩
  go_wp2_with fail
  go_ret2
  rw [HR.out]
  exact ⟨_, rfl, hz.lower HB4.out.size, HB4.out.trans (hb5.mono HB4.out.size)⟩
end Go.Proofs.YtkhdlcoappkgkaaDoor
