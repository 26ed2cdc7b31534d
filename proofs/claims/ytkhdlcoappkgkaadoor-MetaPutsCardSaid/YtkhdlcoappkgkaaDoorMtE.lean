/-
  CONTRACTS of the document's Plain and Bare (written by tools/genplain.py). Conditions: what each says.
-/
import Derived.Test.YtkhdlcoappkgkaaDoorMtB
import Derived.Test.YtkhdlcoappkgkaaDoorCode
import Derived.Test.YtkhdlcoappkgkaaDoorMix
namespace Go.Proofs.YtkhdlcoappkgkaaDoor
open Go.RowKit
set_option maxRecDepth 100000

theorem wrapU (n : Nat) (h : n < 18446744073709551616) : IntKind.u64.wrap (n : Int) = (n : Int) := by rw [IntKind.wrap_u64]; omega
theorem one_rd (w : World) (l : Nat) (h : l < 256) : Rd (w.alloc (.cells #[.int .u8 (l : Int)] 5)) (some ⟨w.heap.size, 0, none⟩) (BV (bet l 1)) := by
  have e : bet l 1 = [UInt8.ofNat l] := by simp [bet]
  rw [e]
  exact Rd.one w _ _ (by rw [UInt8.toNat_ofNat']; congr 1; omega)

set_option maxHeartbeats 3200000 in
theorem Plain_any (m : Me) (ho : m.ok) (w : World) (h : meB m = true) :
    Calls Tryd.prog 15 #[meV m] w fun e w' => ∃ y, e = .returned y ∧ Own w' w.heap.size 5 y (meRaw m) ∧ Below w.heap.size w w' := by
  have hp : meP m := of_decide_eq_true h
  obtain ⟨i, l, s, e, p, t⟩ := m
  have hi1 := ho.id1
  obtain ⟨h1, h2, h3, h4, h5, h6, h7, h8, h9, h10⟩ := hp
  simp only at h1 h2 h3 h4 h5 h6 h7 h8 h9 h10 hi1
  obtain ⟨i, rfl⟩ := nat_of (n := i) (by omega)
  obtain ⟨l, rfl⟩ := nat_of (n := l) (by omega)
  obtain ⟨s, rfl⟩ := nat_of (n := s) (by omega)
  obtain ⟨e, rfl⟩ := nat_of (n := e) (by omega)
  obtain ⟨p, rfl⟩ := nat_of (n := p) (by omega)
  obtain ⟨t, rfl⟩ := nat_of (n := t) (by omega)
  have HR : Hid (meRaw ⟨i, l, s, e, p, t⟩ = bet i 8 ++ bet s 8 ++ bet e 8 ++ bet l 1 ++ bet p 2 ++ bet t 4) := Lib.hid (by simp [meRaw])
  have B0 := Lib.hid fun u => Bytes_any 8 (i : Int) u (by omega) (by omega) (by omega) (by omega)
  have B1 := Lib.hid fun u => Bytes_any 8 (s : Int) u (by omega) (by omega) (by omega) (by omega)
  have B2 := Lib.hid fun u => Bytes_any 8 (e : Int) u (by omega) (by omega) (by omega) (by omega)
  have B4 := Lib.hid fun u => Bytes_any 2 (p : Int) u (by omega) (by omega) (by omega) (by omega)
  have B5 := Lib.hid fun u => Bytes_any 4 (t : Int) u (by omega) (by omega) (by omega) (by omega)
  simp only [Int.toNat_natCast] at B0 B1 B2 B4 B5
  have hl : (l : Int) % 256 = (l : Int) := by omega
  have hl2 : l < 256 := by omega
  have hws : IntKind.u64.wrap (s : Int) = (s : Int) := wrapU s (by omega)
  have hwe : IntKind.u64.wrap (e : Int) = (e : Int) := wrapU e (by omega)
  have hwp : IntKind.u64.wrap (p : Int) = (p : Int) := wrapU p (by omega)
  have hwt : IntKind.u64.wrap (t : Int) = (t : Int) := wrapU t (by omega)
  clear h ho hi1 h1 h2 h3 h4 h5 h6 h7 h8 h9 h10
  have hm0 := Lib.hid (Blk.new w 24 #[.int .u64 i, .int .i64 l, .int .i64 s, .int .i64 e, .int .i64 p, .int .i64 t])
  have hb0 : Hid (Below w.heap.size w (w.alloc (.cells #[.int .u64 i, .int .i64 l, .int .i64 s, .int .i64 e, .int .i64 p, .int .i64 t] 24))) := Lib.hid ((Below.refl _ _).alloc (Nat.le_refl _) _)
  have hg : Hid (w.heap.size < (w.alloc (.cells #[.int .u64 i, .int .i64 l, .int .i64 s, .int .i64 e, .int .i64 p, .int .i64 t] 24)).heap.size) := Lib.hid hm0.out.lt
  show Calls Tryd.prog 15 #[.agg #[.int .u64 i, .int .i64 l, .int .i64 s, .int .i64 e, .int .i64 p, .int .i64 t]] w _
  go_enter Tryd.func15, Tryd.ntmps15
  go_wp2_with fail
  revert hm0 hb0 hg
  generalize w.alloc (.cells #[.int .u64 i, .int .i64 l, .int .i64 s, .int .i64 e, .int .i64 p, .int .i64 t] 24) = w1
  intro hm0 hb0 hg
  refine wp_region_mix [(0, false), (1, false), (3, false), (4, false), (5, false), (2, true), (6, true), (7, true), (8, true)] (fun u => u.cell? ⟨w.heap.size, 0, none⟩ = some (.int .u64 i) ∧ u.cell? ⟨w.heap.size, 2, none⟩ = some (.int .i64 s)) (by kernel_rfl) (by kernel_rfl) (by kernel_rfl) rfl ⟨hm0.out.cell 0, hm0.out.cell 2⟩ ?_
  repeat
    (refine mix_read (o := ⟨_, _, _, _, _, _⟩) (v := ?_) rfl (by rfl) (fun w' hS => ?_) ?_
     rotate_left
     obtain ⟨k0, k2⟩ := hS
     go_simp
     with_reducible rfl
     try simp only [Act.put, List.setIfInBounds_toArray, List.set_cons_zero, List.set_cons_succ])
  refine mix_step (o := ⟨_, _, _, _, _, _⟩) rfl (fun K hK => ?_)
  go_simp
  refine (B0.out _).mono ?_
  rintro e1 w2 ⟨v2, rfl, ho2, hb2⟩
  have hb2' : Below w1.heap.size w1 w2 := (Below.refl _ w1).drew.trans hb2
  have HM2 := Lib.hid (hm0.out.below hb2' hm0.out.lt)
  refine hK.out _ _ ⟨HM2.out.cell 0, HM2.out.cell 2⟩ ?_
  clear hK K
  try simp only [Act.put, List.setIfInBounds_toArray, List.set_cons_zero, List.set_cons_succ]
  have HO2 : Hid (Own w2 w1.heap.size 5 v2 (bet i 8)) := Lib.hid ho2
  have HB2 := Lib.hid (hb0.out.trans (hb2'.mono hb0.out.size))
  have HS2 : Hid (w1.heap.size ≤ w2.heap.size) := Lib.hid hb2'.size
  clear hb2' hb2 ho2 hb0 hm0
  refine mix_step (o := ⟨_, _, _, _, _, _⟩) rfl (fun K hK => ?_)
  go_simp
  refine (B1.out _).mono ?_
  rintro e1 w3 ⟨v3, rfl, ho3, hb3⟩
  have HM3 := Lib.hid (HM2.out.below hb3 HM2.out.lt)
  refine hK.out _ _ ⟨HM3.out.cell 0, HM3.out.cell 2⟩ ?_
  clear hK K
  try simp only [Act.put, List.setIfInBounds_toArray, List.set_cons_zero, List.set_cons_succ]
  have HO3 : Hid (Own w3 w1.heap.size 5 v2 (bet i 8)) := Lib.hid (HO2.out.below hb3)
  have HV3 := Lib.hid ho3.bs
  have HB3 := Lib.hid (HB2.out.trans (hb3.mono HB2.out.size))
  have HS3 : Hid (w1.heap.size ≤ w3.heap.size) := Lib.hid (Nat.le_trans HS2.out hb3.size)
  clear hb3 ho3 HO2 HB2 HM2 HS2
  refine mix_step (o := ⟨_, _, _, _, _, _⟩) rfl (fun K hK => ?_)
  refine step_append_v _ byteT (by rfl) _ _ (by rfl) w1.heap.size v2 _ (by rfl) HO3.out v3 _ (by rfl) HV3.out (by simp only [bet_length]; decide) HS3.out ?_
  intro v4 w4 ho4 hg4 _
  have HM4 := Lib.hid (HM3.out.grown hg4 (fun e => by have := HO3.out.ge _ e.symm; have := hg.out; omega))
  refine hK.out _ _ ⟨HM4.out.cell 0, HM4.out.cell 2⟩ ?_
  clear hK K
  try simp only [Act.put, List.setIfInBounds_toArray, List.set_cons_zero, List.set_cons_succ]
  have HO4 : Hid (Own w4 w1.heap.size 5 v4 (bet i 8 ++ bet s 8)) := Lib.hid ho4
  have HB4 := Lib.hid (HB3.out.grown hg4 HB3.out.size (fun z hz => Nat.le_trans (Nat.le_of_lt hg.out) (HO3.out.ge z hz)))
  have HS4 : Hid (w1.heap.size ≤ w4.heap.size) := Lib.hid (Nat.le_trans HS3.out hg4.size)
  clear ho4 hg4 HO3 HV3 HB3 HS3 HM3
  refine mix_step (o := ⟨_, _, _, _, _, _⟩) rfl (fun K hK => ?_)
  go_simp
  refine hK.out _ _ ⟨HM4.out.cell 0, HM4.out.cell 2⟩ ?_
  clear hK K
  refine mix_done ?_
  have k4 := HM4.out.cell 3
  go_wp2_with fail
  refine (B2.out _).mono ?_
  rintro e1 w5 ⟨v5, rfl, ho5, hb5⟩
  have HM5 := Lib.hid (HM4.out.below hb5 HM4.out.lt)
  have HO5 := Lib.hid (HO4.out.below hb5)
  have HV5 := Lib.hid ho5.bs
  have HB5 := Lib.hid (HB4.out.trans (hb5.mono HB4.out.size))
  have HS5 : Hid (w1.heap.size ≤ w5.heap.size) := Lib.hid (Nat.le_trans HS4.out hb5.size)
  clear hb5 ho5 k4 HM4 HO4 HB4 HS4
  go_wp2_with (at_builtin; refine wpList_append_v _ byteT rfl _ _ rfl w1.heap.size _ _ rfl HO5.out _ _ rfl HV5.out (by simp only [List.length_append, bet_length]; decide) HS5.out ?_)
  intro v6 w6 ho6 hg6 _
  have HM6 := Lib.hid (HM5.out.grown hg6 (fun e => by have := HO5.out.ge _ e.symm; have := hg.out; omega))
  have HO6 : Hid (Own w6 w1.heap.size 5 v6 (bet i 8 ++ bet s 8 ++ bet e 8)) := Lib.hid ho6
  have HB6 := Lib.hid (HB5.out.grown hg6 HB5.out.size (fun z hz => Nat.le_trans (Nat.le_of_lt hg.out) (HO5.out.ge z hz)))
  have HS6 : Hid (w1.heap.size ≤ w6.heap.size) := Lib.hid (Nat.le_trans HS5.out hg6.size)
  clear ho6 hg6 HM5 HO5 HB5 HS5
  have k6 := HM6.out.cell 1
  have h6 := (Below.refl w6.heap.size w6).alloc (Nat.le_refl _) (.cells #[.int .u8 (l : Int)] 5)
  have HM7 := Lib.hid (HM6.out.below h6 HM6.out.lt)
  have HO7 := Lib.hid (HO6.out.below h6)
  have HB7 := Lib.hid (HB6.out.trans (h6.mono HB6.out.size))
  have HS7 := Lib.hid (Nat.le_trans HS6.out h6.size)
  have HV7 : Hid (Rd (w6.alloc (.cells #[.int .u8 (l : Int)] 5)) (some ⟨w6.heap.size, 0, none⟩) (BV (bet l 1))) := Lib.hid (one_rd w6 l (by omega))
  clear HM6 HO6 HB6 HS6
  go_wp2_with (at_builtin; refine wpList_append_bytes _ byteT rfl _ _ rfl w1.heap.size _ _ rfl HO7.out _ _ _ (bet l 1) rfl rfl HV7.out (by simp only [List.length_append, bet_length]; decide) HS7.out ?_)
  intro v8 w8 ho8 hg8 _
  have HM8 := Lib.hid (HM7.out.grown hg8 (fun e => by have := HO7.out.ge _ e.symm; have := hg.out; omega))
  have HO8 : Hid (Own w8 w1.heap.size 5 v8 (bet i 8 ++ bet s 8 ++ bet e 8 ++ bet l 1)) := Lib.hid ho8
  have HB8 := Lib.hid (HB7.out.grown hg8 HB7.out.size (fun z hz => Nat.le_trans (Nat.le_of_lt hg.out) (HO7.out.ge z hz)))
  have HS8 : Hid (w1.heap.size ≤ w8.heap.size) := Lib.hid (Nat.le_trans HS7.out hg8.size)
  clear ho8 hg8 HM7 HO7 HB7 HS7
  have k8 := HM8.out.cell 4
  go_wp2_with fail
  refine (B4.out _).mono ?_
  rintro e1 w9 ⟨v9, rfl, ho9, hb9⟩
  have HM9 := Lib.hid (HM8.out.below hb9 HM8.out.lt)
  have HO9 := Lib.hid (HO8.out.below hb9)
  have HV9 := Lib.hid ho9.bs
  have HB9 := Lib.hid (HB8.out.trans (hb9.mono HB8.out.size))
  have HS9 : Hid (w1.heap.size ≤ w9.heap.size) := Lib.hid (Nat.le_trans HS8.out hb9.size)
  clear hb9 ho9 k8 HM8 HO8 HB8 HS8
  go_wp2_with (at_builtin; refine wpList_append_v _ byteT rfl _ _ rfl w1.heap.size _ _ rfl HO9.out _ _ rfl HV9.out (by simp only [List.length_append, bet_length]; decide) HS9.out ?_)
  intro v10 w10 ho10 hg10 _
  have HM10 := Lib.hid (HM9.out.grown hg10 (fun e => by have := HO9.out.ge _ e.symm; have := hg.out; omega))
  have HO10 : Hid (Own w10 w1.heap.size 5 v10 (bet i 8 ++ bet s 8 ++ bet e 8 ++ bet l 1 ++ bet p 2)) := Lib.hid ho10
  have HB10 := Lib.hid (HB9.out.grown hg10 HB9.out.size (fun z hz => Nat.le_trans (Nat.le_of_lt hg.out) (HO9.out.ge z hz)))
  have HS10 : Hid (w1.heap.size ≤ w10.heap.size) := Lib.hid (Nat.le_trans HS9.out hg10.size)
  clear ho10 hg10 HM9 HO9 HB9 HS9
  have k10 := HM10.out.cell 5
  go_wp2_with fail
  refine (B5.out _).mono ?_
  rintro e1 w11 ⟨v11, rfl, ho11, hb11⟩
  have HM11 := Lib.hid (HM10.out.below hb11 HM10.out.lt)
  have HO11 := Lib.hid (HO10.out.below hb11)
  have HV11 := Lib.hid ho11.bs
  have HB11 := Lib.hid (HB10.out.trans (hb11.mono HB10.out.size))
  have HS11 : Hid (w1.heap.size ≤ w11.heap.size) := Lib.hid (Nat.le_trans HS10.out hb11.size)
  clear hb11 ho11 k10 HM10 HO10 HB10 HS10
  go_wp2_with (at_builtin; refine wpList_append_v _ byteT rfl _ _ rfl w1.heap.size _ _ rfl HO11.out _ _ rfl HV11.out (by simp only [List.length_append, bet_length]; decide) HS11.out ?_)
  intro v12 w12 ho12 hg12 _
  have HM12 := Lib.hid (HM11.out.grown hg12 (fun e => by have := HO11.out.ge _ e.symm; have := hg.out; omega))
  have HO12 : Hid (Own w12 w1.heap.size 5 v12 (bet i 8 ++ bet s 8 ++ bet e 8 ++ bet l 1 ++ bet p 2 ++ bet t 4)) := Lib.hid ho12
  have HB12 := Lib.hid (HB11.out.grown hg12 HB11.out.size (fun z hz => Nat.le_trans (Nat.le_of_lt hg.out) (HO11.out.ge z hz)))
  have HS12 : Hid (w1.heap.size ≤ w12.heap.size) := Lib.hid (Nat.le_trans HS11.out hg12.size)
  clear ho12 hg12 HM11 HO11 HB11 HS11
  go_wp2_with fail
  go_ret
  rw [HR.out]
  exact ⟨_, rfl, HO12.out.lower (Nat.le_of_lt hg.out), HB12.out⟩

set_option maxHeartbeats 3200000 in
theorem Bare_any (m : Mk) (ho : m.ok) (w : World) (h : mkB m = true) :
    Calls Tryd.prog 16 #[mkV m] w fun e w' => ∃ y, e = .returned y ∧ Own w' w.heap.size 5 y (mkRaw m) ∧ Below w.heap.size w w' := by
  have hp : mkP m := of_decide_eq_true h
  obtain ⟨i, a, b⟩ := m
  have hi1 := ho.id1
  have hb1 := ho.by0
  have hb2 := ho.by1
  obtain ⟨h1, h2, h3, h4⟩ := hp
  simp only at h1 h2 h3 h4 hi1 hb1 hb2
  obtain ⟨i, rfl⟩ := nat_of (n := i) (by omega)
  obtain ⟨a, rfl⟩ := nat_of (n := a) (by omega)
  obtain ⟨b, rfl⟩ := nat_of (n := b) (by omega)
  have HR : Hid (mkRaw ⟨i, a, b⟩ = bet i 8 ++ bet a 8 ++ bet b 8) := Lib.hid (by simp [mkRaw])
  have B0 := Lib.hid fun u => Bytes_any 8 (i : Int) u (by omega) (by omega) (by omega) (by omega)
  have B1 := Lib.hid fun u => Bytes_any 8 (a : Int) u (by omega) (by omega) (by omega) (by omega)
  have B2 := Lib.hid fun u => Bytes_any 8 (b : Int) u (by omega) (by omega) (by omega) (by omega)
  simp only [Int.toNat_natCast] at B0 B1 B2
  have hws : IntKind.u64.wrap (a : Int) = (a : Int) := wrapU a (by omega)
  clear h ho hi1 hb1 hb2 h1 h2 h3 h4
  have hm0 := Lib.hid (Blk.new w 26 #[.int .u64 i, .int .i64 a, .int .u64 b])
  have hb0 : Hid (Below w.heap.size w (w.alloc (.cells #[.int .u64 i, .int .i64 a, .int .u64 b] 26))) := Lib.hid ((Below.refl _ _).alloc (Nat.le_refl _) _)
  have hg : Hid (w.heap.size < (w.alloc (.cells #[.int .u64 i, .int .i64 a, .int .u64 b] 26)).heap.size) := Lib.hid hm0.out.lt
  show Calls Tryd.prog 16 #[.agg #[.int .u64 i, .int .i64 a, .int .u64 b]] w _
  go_enter Tryd.func16, Tryd.ntmps16
  go_wp2_with fail
  revert hm0 hb0 hg
  generalize w.alloc (.cells #[.int .u64 i, .int .i64 a, .int .u64 b] 26) = w1
  intro hm0 hb0 hg
  refine wp_region_mix [(0, false), (1, false), (3, false), (4, false), (5, false), (2, true), (6, true), (7, true), (8, true)] (fun u => u.cell? ⟨w.heap.size, 0, none⟩ = some (.int .u64 i) ∧ u.cell? ⟨w.heap.size, 1, none⟩ = some (.int .i64 a)) (by kernel_rfl) (by kernel_rfl) (by kernel_rfl) rfl ⟨hm0.out.cell 0, hm0.out.cell 1⟩ ?_
  repeat
    (refine mix_read (o := ⟨_, _, _, _, _, _⟩) (v := ?_) rfl (by rfl) (fun w' hS => ?_) ?_
     rotate_left
     obtain ⟨k0, k2⟩ := hS
     go_simp
     with_reducible rfl
     try simp only [Act.put, List.setIfInBounds_toArray, List.set_cons_zero, List.set_cons_succ])
  refine mix_step (o := ⟨_, _, _, _, _, _⟩) rfl (fun K hK => ?_)
  go_simp
  refine (B0.out _).mono ?_
  rintro e1 w2 ⟨v2, rfl, ho2, hb2⟩
  have hb2' : Below w1.heap.size w1 w2 := (Below.refl _ w1).drew.trans hb2
  have HM2 := Lib.hid (hm0.out.below hb2' hm0.out.lt)
  refine hK.out _ _ ⟨HM2.out.cell 0, HM2.out.cell 1⟩ ?_
  clear hK K
  try simp only [Act.put, List.setIfInBounds_toArray, List.set_cons_zero, List.set_cons_succ]
  have HO2 : Hid (Own w2 w1.heap.size 5 v2 (bet i 8)) := Lib.hid ho2
  have HB2 := Lib.hid (hb0.out.trans (hb2'.mono hb0.out.size))
  have HS2 : Hid (w1.heap.size ≤ w2.heap.size) := Lib.hid hb2'.size
  clear hb2' hb2 ho2 hb0 hm0
  refine mix_step (o := ⟨_, _, _, _, _, _⟩) rfl (fun K hK => ?_)
  go_simp
  refine (B1.out _).mono ?_
  rintro e1 w3 ⟨v3, rfl, ho3, hb3⟩
  have HM3 := Lib.hid (HM2.out.below hb3 HM2.out.lt)
  refine hK.out _ _ ⟨HM3.out.cell 0, HM3.out.cell 1⟩ ?_
  clear hK K
  try simp only [Act.put, List.setIfInBounds_toArray, List.set_cons_zero, List.set_cons_succ]
  have HO3 : Hid (Own w3 w1.heap.size 5 v2 (bet i 8)) := Lib.hid (HO2.out.below hb3)
  have HV3 := Lib.hid ho3.bs
  have HB3 := Lib.hid (HB2.out.trans (hb3.mono HB2.out.size))
  have HS3 : Hid (w1.heap.size ≤ w3.heap.size) := Lib.hid (Nat.le_trans HS2.out hb3.size)
  clear hb3 ho3 HO2 HB2 HM2 HS2
  refine mix_step (o := ⟨_, _, _, _, _, _⟩) rfl (fun K hK => ?_)
  refine step_append_v _ byteT (by rfl) _ _ (by rfl) w1.heap.size v2 _ (by rfl) HO3.out v3 _ (by rfl) HV3.out (by simp only [bet_length]; decide) HS3.out ?_
  intro v4 w4 ho4 hg4 _
  have HM4 := Lib.hid (HM3.out.grown hg4 (fun e => by have := HO3.out.ge _ e.symm; have := hg.out; omega))
  refine hK.out _ _ ⟨HM4.out.cell 0, HM4.out.cell 1⟩ ?_
  clear hK K
  try simp only [Act.put, List.setIfInBounds_toArray, List.set_cons_zero, List.set_cons_succ]
  have HO4 : Hid (Own w4 w1.heap.size 5 v4 (bet i 8 ++ bet a 8)) := Lib.hid ho4
  have HB4 := Lib.hid (HB3.out.grown hg4 HB3.out.size (fun z hz => Nat.le_trans (Nat.le_of_lt hg.out) (HO3.out.ge z hz)))
  have HS4 : Hid (w1.heap.size ≤ w4.heap.size) := Lib.hid (Nat.le_trans HS3.out hg4.size)
  clear ho4 hg4 HO3 HV3 HB3 HS3 HM3
  refine mix_step (o := ⟨_, _, _, _, _, _⟩) rfl (fun K hK => ?_)
  go_simp
  refine hK.out _ _ ⟨HM4.out.cell 0, HM4.out.cell 1⟩ ?_
  clear hK K
  refine mix_done ?_
  have k4 := HM4.out.cell 2
  go_wp2_with fail
  refine (B2.out _).mono ?_
  rintro e1 w5 ⟨v5, rfl, ho5, hb5⟩
  have HM5 := Lib.hid (HM4.out.below hb5 HM4.out.lt)
  have HO5 := Lib.hid (HO4.out.below hb5)
  have HV5 := Lib.hid ho5.bs
  have HB5 := Lib.hid (HB4.out.trans (hb5.mono HB4.out.size))
  have HS5 : Hid (w1.heap.size ≤ w5.heap.size) := Lib.hid (Nat.le_trans HS4.out hb5.size)
  clear hb5 ho5 k4 HM4 HO4 HB4 HS4
  go_wp2_with (at_builtin; refine wpList_append_v _ byteT rfl _ _ rfl w1.heap.size _ _ rfl HO5.out _ _ rfl HV5.out (by simp only [List.length_append, bet_length]; decide) HS5.out ?_)
  intro v6 w6 ho6 hg6 _
  have HM6 := Lib.hid (HM5.out.grown hg6 (fun e => by have := HO5.out.ge _ e.symm; have := hg.out; omega))
  have HO6 : Hid (Own w6 w1.heap.size 5 v6 (bet i 8 ++ bet a 8 ++ bet b 8)) := Lib.hid ho6
  have HB6 := Lib.hid (HB5.out.grown hg6 HB5.out.size (fun z hz => Nat.le_trans (Nat.le_of_lt hg.out) (HO5.out.ge z hz)))
  have HS6 : Hid (w1.heap.size ≤ w6.heap.size) := Lib.hid (Nat.le_trans HS5.out hg6.size)
  clear ho6 hg6 HM5 HO5 HB5 HS5
  go_wp2_with fail
  go_ret
  rw [HR.out]
  exact ⟨_, rfl, HO6.out.lower (Nat.le_of_lt hg.out), HB6.out⟩

end Go.Proofs.YtkhdlcoappkgkaaDoor
