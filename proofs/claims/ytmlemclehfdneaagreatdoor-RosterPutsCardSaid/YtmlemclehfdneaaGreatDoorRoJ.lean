/-
  RosterPuts, walked over RosterK. Conditions: what it says.
-/
import Derived.Test.YtmlemclehfdneaaGreatDoorRoI
namespace Go.Proofs.YtmlemclehfdneaaGreatDoor
open Go.RowKit
set_option maxRecDepth 100000

theorem rosX_code (x : List UInt8) : 0 ≤ (rosX x).1 ∧ (rosX x).1 ≤ 10 := by
  unfold rosX rosOf
  repeat' split
  all_goals simp

set_option maxHeartbeats 6400000 in
theorem rosterPuts_any {L : World → Prop} (hK : RosterK L) (a b : Value) (l : List Me) (k : List Mk) (v : Value) (x : List UInt8) (w : World) (h : Mes w a l) (q : Mks w b k) (hx : Bs w v x) (hL : L w) :
    Calls Tryz.prog 4 #[roV a b, v] w fun e w' => e = .returned (.bool true) ∧ Below w.heap.size w w' := by
  obtain ⟨A, c, rfl, _, _⟩ := h.form
  obtain ⟨B, d, rfl, _, _⟩ := q.form
  obtain ⟨X, cx, rfl, _, _, _⟩ := id hx
  have hb0 : Below w.heap.size w (w.alloc (.cells #[.slice A l.length c, .slice B k.length d] 41)) := (Below.refl _ _).alloc (Nat.le_refl _) _
  have HR0 : Hid (Blk (w.alloc (.cells #[.slice A l.length c, .slice B k.length d] 41)) w.heap.size 41 #[.slice A l.length c, .slice B k.length d]) := Lib.hid (Blk.new _ _ _)
  have HB0 := Lib.hid hb0
  have HU := Lib.hid fun (u : World) (hu : Below w.heap.size w u) => And.intro (h.below hu) (And.intro (q.below hu) (And.intro (hx.below hu) (hK.later hL hu)))
  clear hb0 h q hx hL
  go_enter Tryz.func4, Tryz.ntmps4
  go_wp2_with fail
  revert HR0 HB0
  generalize w.alloc (.cells #[.slice A l.length c, .slice B k.length d] 41) = w0
  intro HR0 HB0
  refine (up17_any hK _ (HU.out _ HB0.out).2.2.2).mono ?_
  rintro e w1 ⟨rfl, hb1⟩
  have HR1 := Lib.hid (HR0.out.below hb1 HR0.out.lt)
  have HB1 := Lib.hid (HB0.out.trans (hb1.mono HB0.out.size))
  have r0 := HR1.out.cell 0
  have r1 := HR1.out.cell 1
  simp at r0 r1
  clear hb1 HR0 HB0
  by_cases h1 : 200 < l.length
  · have g1 : decide ((200 : Int) < (l.length : Int)) = true := decide_eq_true (by omega)
    clear h1
    go_wp2_with fail
    go_ret
    exact ⟨rfl, HB1.out⟩
  by_cases h2 : 200 < k.length
  · have g1 : decide ((200 : Int) < (l.length : Int)) = false := decide_eq_false (by omega)
    have g2 : decide ((200 : Int) < (k.length : Int)) = true := decide_eq_true (by omega)
    clear h1 h2
    go_wp2_with fail
    go_ret
    exact ⟨rfl, HB1.out⟩
  by_cases h3 : 10000 < x.length
  · have g1 : decide ((200 : Int) < (l.length : Int)) = false := decide_eq_false (by omega)
    have g2 : decide ((200 : Int) < (k.length : Int)) = false := decide_eq_false (by omega)
    have g3 : decide ((10000 : Int) < (x.length : Int)) = true := decide_eq_true (by omega)
    clear h1 h2 h3
    go_wp2_with fail
    go_ret
    exact ⟨rfl, HB1.out⟩
  have g1 : decide ((200 : Int) < (l.length : Int)) = false := decide_eq_false (by omega)
  have g2 : decide ((200 : Int) < (k.length : Int)) = false := decide_eq_false (by omega)
  have g3 : decide ((10000 : Int) < (x.length : Int)) = false := decide_eq_false (by omega)
  have HS1 : Hid (l.length ≤ 200 ∧ k.length ≤ 200 ∧ x.length ≤ 10000) := Lib.hid (by omega)
  clear h1 h2 h3
  have hput := fun u (hu : Below w.heap.size w u) => hK.put (HU.out u hu).2.2.2 (HU.out u hu).1 (HU.out u hu).2.1 (by have := HS1.out; omega) (by have := HS1.out; omega)
  obtain ⟨pv, hpv⟩ : ∃ z, z = errV (if goodB l k = true then 0 else 1) := ⟨_, rfl⟩
  obtain ⟨pb, hpb⟩ : ∃ z, z = (if goodB l k = true then sealedOf (rosRaw l k) else []) := ⟨_, rfl⟩
  simp only [← hpv, ← hpb] at hput
  have HPV := Lib.hid (And.intro hpv hpb)
  clear hpv hpb
  go_wp2_with fail
  refine (hput _ HB1.out).mono ?_
  rintro e w2 ⟨y, rfl, hy, hb2⟩
  have HR2 := Lib.hid (HR1.out.below hb2 HR1.out.lt)
  have HB2 := Lib.hid (HB1.out.trans (hb2.mono HB1.out.size))
  have HY2 := Lib.hid hy
  have r0 := HR2.out.cell 0
  have r1 := HR2.out.cell 1
  simp at r0 r1
  clear hput hb2 HR1 HB1 hy
  go_wp2_with fail
  refine (as_any _ _ l k _ (HU.out _ HB2.out).1 (HU.out _ HB2.out).2.1).mono ?_
  rintro e w3 ⟨rfl, hb3⟩
  have HR3 := Lib.hid (HR2.out.below hb3 HR2.out.lt)
  have HB3 := Lib.hid (HB2.out.trans (hb3.mono HB2.out.size))
  have HY3 : Hid (∀ u, Below w3.heap.size w3 u → Bs u y pb) := Lib.hid fun u hu => (HY2.out.below hb3).below hu
  clear hb3 HR2 HB2 HY2 r0 r1
  go_wp2_with fail
  refine (DGood_any _ _ l k _ (HU.out _ HB3.out).1 (HU.out _ HB3.out).2.1).mono ?_
  rintro e w4 ⟨rfl, hb4⟩
  have HR4 := Lib.hid (HR3.out.below hb4 HR3.out.lt)
  have HB4 := Lib.hid (HB3.out.trans (hb4.mono HB3.out.size))
  have HY4 : Hid (Bs w4 y pb) := Lib.hid (HY3.out w4 hb4)
  clear hb4 HR3 HB3 HY3
  have eqc := eqCode
  have nec := neCode
  obtain ⟨hpv, hpb⟩ := HPV.out
  clear HPV
  have hgc : goodB l k = false ∨ goodB l k = true := by cases goodB l k <;> simp
  rcases hgc with hgd | hgd
  rw [hgd] at hpv hpb ⊢
  simp only [Bool.false_eq_true, if_false] at hpv hpb
  rw [errV_code (show (1 : Int) ≠ 0 by omega)] at hpv
  subst hpv hpb
  obtain ⟨Y, cy, rfl, _, _, _⟩ := id HY4.out
  have HBz := HB4
  clear hgd HY4 HR4 HB4
  simp only [List.length_nil]
  rotate_left
  rw [hgd] at hpv hpb ⊢
  simp only [if_true] at hpv hpb
  rw [errV_zero] at hpv
  have HRG : Hid (RosG l k) := Lib.hid (Classical.byContradiction fun h => by
    rw [goodB_no h] at hgd
    cases hgd)
  subst hpv hpb
  clear hgd
  have r0 := HR4.out.cell 0
  have r1 := HR4.out.cell 1
  have hst : ∀ u, Below w4.heap.size w4 u → (convert 54 9 y).run Tryz.prog u = .ok (.string (Bstr (sealedOf (rosRaw l k)))) u := fun u hu => strOf (HY4.out.below hu)
  have hrc : ∀ u, Below w4.heap.size w4 u → u.cell? ⟨w.heap.size, 0, none⟩ = some (.slice A l.length c) ∧ u.cell? ⟨w.heap.size, 1, none⟩ = some (.slice B k.length d) := fun u hu => ⟨((HR4.out.below hu HR4.out.lt).cell 0).trans rfl, ((HR4.out.below hu HR4.out.lt).cell 1).trans rfl⟩
  simp at r0 r1
  go_wp2_with fail
  refine wp_region_mix [(0, false), (1, false), (2, false), (3, false), (4, false), (5, false), (6, true), (7, true), (8, false), (9, false), (10, false)] (fun u => Below w4.heap.size w4 u) (by kernel_rfl) (by kernel_rfl) (by kernel_rfl) rfl (Below.refl _ _).drew ?_
  iterate 6
    (refine mix_read (o := ⟨_, _, _, _, _, _⟩) (v := ?_) rfl (by rfl) (fun w' hS => ?_) ?_
     rotate_left
     obtain ⟨j0, j1⟩ := hrc w' hS
     have j2 := hst w' hS
     go_simp
     with_reducible rfl
     try simp only [Act.put, List.setIfInBounds_toArray, List.set_cons_zero, List.set_cons_succ])
  refine mix_step (o := ⟨_, _, _, _, _, _⟩) rfl (fun K hK => ?_)
  go_simp
  have hB4d : Below w.heap.size w w4.drew := HB4.out.trans ((Below.refl _ w4).drew.mono HB4.out.size)
  refine (as_any _ _ l k _ (HU.out _ hB4d).1 (HU.out _ hB4d).2.1).mono ?_
  rintro e w5 ⟨rfl, hb5⟩
  have hb5' : Below w4.heap.size w4 w5 := (Below.refl _ w4).drew.trans hb5
  refine hK.out _ _ hb5' ?_
  clear hK K
  try simp only [Act.put, List.setIfInBounds_toArray, List.set_cons_zero, List.set_cons_succ]
  refine mix_more (o := ⟨_, _, _, _, _, _⟩) rfl (fun K hK => ?_)
  go_simp
  have hB5 := HB4.out.trans (hb5'.mono HB4.out.size)
  refine (DRoBytes_any _ _ l k _ (HU.out _ hB5).1 (HU.out _ hB5).2.1 HRG.out).mono ?_
  rintro e w6 ⟨z, rfl, hz, hb6⟩
  have hb6' : Below w4.heap.size w4 w6 := hb5'.trans (hb6.mono hb5'.size)
  have HBz := Lib.hid (HB4.out.trans (hb6'.mono HB4.out.size))
  refine hK.out (fun u => Below w6.heap.size w6 u) _ _ (fun u hu => hb6'.trans (hu.mono hb6'.size)) (Below.refl _ _) ?_
  clear hK K
  have hst2 : ∀ u, Below w6.heap.size w6 u → (convert 54 9 z).run Tryz.prog u = .ok (.string (Bstr (sealedOf (rosRaw l k)))) u := fun u hu => strOf (hz.bs.below hu)
  try simp only [Act.put, List.setIfInBounds_toArray, List.set_cons_zero, List.set_cons_succ]
  iterate 3
    (refine mix_read (o := ⟨_, _, _, _, _, _⟩) (v := ?_) rfl (by rfl) (fun w' hS => ?_) ?_
     rotate_left
     have j2 := hst2 w' hS
     go_simp
     with_reducible rfl
     try simp only [Act.put, List.setIfInBounds_toArray, List.set_cons_zero, List.set_cons_succ])
  refine mix_done ?_
  clear hst hst2 hrc hz hb6 hb6' hb5 hb5' hB5 hB4d r0 r1 HY4 HR4 HB4
  go_wp2_with fail
  all_goals
    have hget := fun u (hu : Below w.heap.size w u) => hK.get (HU.out u hu).2.2.2 (HU.out u hu).2.2.1 (by have := HS1.out; omega)
    have hread := fun u (hu : Below w.heap.size w u) => DRoRead_any x _ u (HU.out u hu).2.2.1 (by have := HS1.out; omega)
    have hrc := rosX_code x
    generalize rosX x = rx at hget hread hrc
    obtain ⟨rc, rl, rk⟩ := rx
    simp only at hget hread hrc
    refine (hget _ HBz.out).mono ?_
    rintro e w8 ⟨ga, gb, rfl, hga, hgb, hb8⟩
    obtain ⟨Ga, cga, rfl, _, _⟩ := hga.form
    obtain ⟨Gb, cgb, rfl, _, _⟩ := hgb.form
    have hb9 : Below w8.heap.size w8 (w8.alloc (.cells #[.slice Ga rl.length cga, .slice Gb rk.length cgb] 41)) := (Below.refl _ _).alloc (Nat.le_refl _) _
    have HB9 := Lib.hid ((HBz.out.trans (hb8.mono HBz.out.size)).trans (hb9.mono (HBz.out.trans (hb8.mono HBz.out.size)).size))
    have HR9 : Hid (Blk (w8.alloc (.cells #[.slice Ga rl.length cga, .slice Gb rk.length cgb] 41)) w8.heap.size 41 #[.slice Ga rl.length cga, .slice Gb rk.length cgb]) := Lib.hid (Blk.new _ _ _)
    have HGa := Lib.hid (hga.below hb9)
    have HGb := Lib.hid (hgb.below hb9)
    clear hga hgb hb8 hb9 hget HBz
    go_wp2_with fail
    revert HB9 HR9 HGa HGb
    generalize w8.alloc (.cells #[.slice Ga rl.length cga, .slice Gb rk.length cgb] 41) = w9
    generalize w8.heap.size = g9
    intro HB9 HR9 HGa HGb
    refine (hread _ HB9.out).mono ?_
    rintro e w10 ⟨da, db, rfl, hda, hdb, hb10⟩
    obtain ⟨Da, cda, rfl, _, _⟩ := hda.form
    obtain ⟨Db, cdb, rfl, _, _⟩ := hdb.form
    have hb11 : Below w10.heap.size w10 (w10.alloc (.cells #[.slice Da rl.length cda, .slice Db rk.length cdb] 44)) := (Below.refl _ _).alloc (Nat.le_refl _) _
    have hbb := hb10.trans (hb11.mono hb10.size)
    have HB11 := Lib.hid (HB9.out.trans (hbb.mono HB9.out.size))
    have HR11 : Hid (Blk (w10.alloc (.cells #[.slice Da rl.length cda, .slice Db rk.length cdb] 44)) w10.heap.size 44 #[.slice Da rl.length cda, .slice Db rk.length cdb]) := Lib.hid (Blk.new _ _ _)
    have HR9' := Lib.hid (HR9.out.below hbb HR9.out.lt)
    have HGa' := Lib.hid (HGa.out.below hbb)
    have HGb' := Lib.hid (HGb.out.below hbb)
    have HDa := Lib.hid (hda.below hb11)
    have HDb := Lib.hid (hdb.below hb11)
    clear hda hdb hb10 hb11 hbb hread HB9 HR9 HGa HGb
    go_wp2_with fail
    revert HB11 HR11 HR9' HGa' HGb' HDa HDb
    generalize w10.alloc (.cells #[.slice Da rl.length cda, .slice Db rk.length cdb] 44) = w11
    generalize w10.heap.size = g11
    intro HB11 HR11 HR9' HGa' HGb' HDa HDb
    have hcl : ∀ u, Below w11.heap.size w11 u → u.cell? ⟨g9, 0, none⟩ = some (.slice Ga rl.length cga) ∧ u.cell? ⟨g9, 1, none⟩ = some (.slice Gb rk.length cgb) ∧ u.cell? ⟨g11, 0, none⟩ = some (.slice Da rl.length cda) ∧ u.cell? ⟨g11, 1, none⟩ = some (.slice Db rk.length cdb) := fun u hu =>
      ⟨((HR9'.out.below hu HR9'.out.lt).cell 0).trans rfl, ((HR9'.out.below hu HR9'.out.lt).cell 1).trans rfl, ((HR11.out.below hu HR11.out.lt).cell 0).trans rfl, ((HR11.out.below hu HR11.out.lt).cell 1).trans rfl⟩
    have hb12 : Below w11.heap.size w11 w11.drew := (Below.refl _ _).drew
    refine wp_region_mix [(0, false), (1, false), (2, false), (4, false), (3, true), (5, true), (6, false), (7, false), (8, false), (10, false), (9, true), (11, false), (12, false), (13, false)] (fun u => Below w11.heap.size w11 u) (by kernel_rfl) (by kernel_rfl) (by kernel_rfl) rfl hb12 ?_
    iterate 4
      (refine mix_read (o := ⟨_, _, _, _, _, _⟩) (v := ?_) rfl (by rfl) (fun w' hS => ?_) ?_
       rotate_left
       obtain ⟨j0, j1, j2, j3⟩ := hcl w' hS
       go_simp
       with_reducible rfl
       try simp only [Act.put, List.setIfInBounds_toArray, List.set_cons_zero, List.set_cons_succ])
    refine mix_step (o := ⟨_, _, _, _, _, _⟩) rfl (fun K hK => ?_)
    go_simp
    refine (as_any _ _ rl rk _ (HGa'.out.below hb12) (HGb'.out.below hb12)).mono ?_
    rintro e w13 ⟨rfl, hb13⟩
    have hb13' := hb12.trans (hb13.mono hb12.size)
    refine hK.out _ _ hb13' ?_
    clear hK K
    try simp only [Act.put, List.setIfInBounds_toArray, List.set_cons_zero, List.set_cons_succ]
    refine mix_step (o := ⟨_, _, _, _, _, _⟩) rfl (fun K hK => ?_)
    go_simp
    refine (Same_same _ _ _ _ rl rk _ (HGa'.out.below hb13') (HDa.out.below hb13') (HGb'.out.below hb13') (HDb.out.below hb13')).mono ?_
    rintro e w14 ⟨rfl, hb14⟩
    have hb14' := hb13'.trans (hb14.mono hb13'.size)
    refine hK.out _ _ hb14' ?_
    clear hK K
    try simp only [Act.put, List.setIfInBounds_toArray, List.set_cons_zero, List.set_cons_succ]
    iterate 4
      (refine mix_read (o := ⟨_, _, _, _, _, _⟩) (v := ?_) rfl (by rfl) (fun w' hS => ?_) ?_
       rotate_left
       obtain ⟨j0, j1, j2, j3⟩ := hcl w' hS
       go_simp
       with_reducible rfl
       try simp only [Act.put, List.setIfInBounds_toArray, List.set_cons_zero, List.set_cons_succ])
    refine mix_step (o := ⟨_, _, _, _, _, _⟩) rfl (fun K hK => ?_)
    go_simp
    refine (Code_err rc _ hrc).mono ?_
    rintro e w15 ⟨rfl, rfl⟩
    refine hK.out _ _ hb14' ?_
    clear hK K
    try simp only [Act.put, List.setIfInBounds_toArray, List.set_cons_zero, List.set_cons_succ]
    iterate 3
      (refine mix_read (o := ⟨_, _, _, _, _, _⟩) (v := ?_) rfl (by rfl) (fun w' hS => ?_) ?_
       rotate_left
       obtain ⟨j0, j1, j2, j3⟩ := hcl w' hS
       go_simp
       with_reducible rfl
       try simp only [Act.put, List.setIfInBounds_toArray, List.set_cons_zero, List.set_cons_succ])
    refine mix_done ?_
    have HB15 := Lib.hid (HB11.out.trans (hb14'.mono HB11.out.size))
    clear hcl hb12 hb13 hb13' hb14 hb14' HB11
    go_wp2_with fail
    go_ret
    exact ⟨by simp, HB15.out⟩

end Go.Proofs.YtmlemclehfdneaaGreatDoor
