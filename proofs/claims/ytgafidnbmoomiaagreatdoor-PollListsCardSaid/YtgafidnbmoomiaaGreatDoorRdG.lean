/-
  CONTRACTS of the program's generic read.get, at each type of object. Conditions: what each says.
  CONTRACTS of the program's read.Meta, read.Find. Conditions: what each says; of the library's tables: Ld.
  CONTRACTS of the program's read.spansOf, read.rise, read.Find. Conditions: what each says; of the library's tables: Ld.
  CONTRACT of the program's read.All. Conditions: what it says; of the library's tables: Ld.
  The head of layer 15's statements; ReadTells, walked: what is read of a block, whatever became of its objects. Conditions: what each says; of the library's tables: Ld.
-/
import Derived.Test.YtgafidnbmoomiaaGreatDoorRdA
import Derived.Test.YtgafidnbmoomiaaGreatDoorBkL
namespace Go.Proofs.YtgafidnbmoomiaaGreatDoor
open Go.RowKit
set_option maxRecDepth 100000

def gmR (m : Sm) (n : List UInt8) : Int × Me := if (sGet m n).2 ≠ 0 then ((sGet m n).2, Me.zero) else meX (sGet m n).1

theorem gmR_me (m : Sm) (id : Nat) : meR m id = if (gmR m (nmOf id [109] 0)).1 ≠ 0 then ((gmR m (nmOf id [109] 0)).1, Me.zero) else if (gmR m (nmOf id [109] 0)).2.id = (id : Int) then (0, (gmR m (nmOf id [109] 0)).2) else (2, Me.zero) := by
  unfold meR gmR
  by_cases h : (sGet m (nmOf id [109] 0)).2 ≠ 0
  · simp [h]
  · simp [h]

set_option maxHeartbeats 3200000 in
theorem rgetM_any {w : World} {F : Nat → Prop} {g : Nat} {m : Sm} {N : Nat} (n : List UInt8) (h : PSt w F g m) (hm : m.fine N) (hN : N ≤ 100000) (hn : n.length ≤ 1000) :
    Calls Tryz.prog 56 #[.pointer (some ⟨g, 0, none⟩), .string (Bstr n), .func (.func 58) #[] #[]] w fun e w' => e = .returned (.tuple #[meV (gmR m n).2, errV (gmR m n).1]) ∧ ∃ F', PSt w' F' g (callS m) ∧ Goes w F w' F' := by
  have hG := fun u (hu : PSt u F g m) => stGet_any (n := n) hu hm hN (by omega)
  have hlen : (sGet m n).1.length ≤ 1048576 := Nat.le_trans (sGet_len _ _) hm.used
  have HE : Hid (gmR m n = if (sGet m n).2 ≠ 0 then ((sGet m n).2, Me.zero) else meX (sGet m n).1) := Lib.hid rfl
  generalize (sGet m n).1 = sb at hG hlen HE
  generalize (sGet m n).2 = bc at hG HE
  have hrd := fun u x (hx : Bs u x sb) => mget_any u hx (by omega)
  have hb0 : Below w.heap.size w ((w.alloc (.cells meZ 85)).alloc (.cells meZ 85)) := ((Below.refl _ _).alloc (Nat.le_refl _) _).alloc (by simp) _
  have HR0 : Hid (Blk ((w.alloc (.cells meZ 85)).alloc (.cells meZ 85)) w.heap.size 85 meZ) := Lib.hid ((Blk.new w _ _).alloc _)
  have HZ0 : Hid (Blk ((w.alloc (.cells meZ 85)).alloc (.cells meZ 85)) (w.heap.size + 1) 85 meZ) := Lib.hid (by
    have := Blk.new (w.alloc (.cells meZ 85)) 85 meZ
    simpa using this)
  have HB0 := Lib.hid hb0
  have HP0 := Lib.hid (h.below hb0)
  have HFlt := Lib.hid h.lt
  clear h hb0
  go_enter Tryz.func56, Tryz.ntmps56
  go_wp2_with fail
  revert HR0 HZ0 HB0 HP0
  generalize (w.alloc (.cells meZ 85)).alloc (.cells meZ 85) = w0
  intro HR0 HZ0 HB0 HP0
  refine (hG _ HP0.out).mono ?_
  rintro e w1 ⟨x, F1, rfl, hox, hP1, hA1, hn1, _⟩
  have hnF : ∀ q, w.heap.size ≤ q → ¬ F q := fun q hq hF => by have := HFlt.out q hF; omega
  have HR1 : Hid (Blk w1 w.heap.size 85 meZ) := Lib.hid ((hA1.block _ HR0.out.lt (hnF _ (Nat.le_refl _))).trans HR0.out)
  have HZ1 : Hid (Blk w1 (w.heap.size + 1) 85 meZ) := Lib.hid ((hA1.block _ HZ0.out.lt (hnF _ (Nat.le_succ _))).trans HZ0.out)
  have HNF : Hid (¬ F1 w.heap.size) := Lib.hid fun hF => by
    rcases hn1 _ hF with h | h
    · exact hnF _ (Nat.le_refl _) h
    · have := HR0.out.lt
      omega
  have HG1 : Hid (Goes w F w1 F1) := Lib.hid ((Goes.of_below HB0.out).trans ⟨hA1, hn1⟩)
  have HP1 := Lib.hid hP1
  have HBS := Lib.hid hox.bs
  clear hG hox hP1 hA1 hn1 hnF HR0 HZ0 HB0 HP0
  by_cases hbc : bc = 0
  rotate_left
  · have hce := errV_code hbc
    have HE2 : Hid (gmR m n = (bc, Me.zero)) := Lib.hid (by rw [HE.out, if_pos hbc])
    rw [hce]
    have hfz := fun i => HR1.out.frozen i
    have r0 := HR1.out.cell 0
    have r1 := HR1.out.cell 1
    have r2 := HR1.out.cell 2
    have r3 := HR1.out.cell 3
    have r4 := HR1.out.cell 4
    have r5 := HR1.out.cell 5
    simp at r0 r1 r2 r3 r4 r5
    have z0 := HZ1.out.cell 0
    have z1 := HZ1.out.cell 1
    have z2 := HZ1.out.cell 2
    have z3 := HZ1.out.cell 3
    have z4 := HZ1.out.cell 4
    have z5 := HZ1.out.cell 5
    simp at z0 z1 z2 z3 z4 z5
    clear hrd HE
    go_wp2_with fail
    have hm2 := setall6 _ HR1.out (.int .u64 0) (.int .i64 0) (.int .i64 0) (.int .i64 0) (.int .i64 0) (.int .i64 0)
    have hg2 := gset6 w1 w.heap.size (.int .u64 0) (.int .i64 0) (.int .i64 0) (.int .i64 0) (.int .i64 0) (.int .i64 0)
    refine bodyPost_ret (v := .tuple #[.agg meZ, code bc]) (by have c := hm2.cell; simp [results, go_sem, c]; try rfl) rfl ?_
    refine ⟨?_, F1, HP1.out.keep (Apt.of_grown hg2 fun q hq => by have := Option.some.inj hq; subst this; exact HNF.out), HG1.out.newset hg2 (Nat.le_refl _)⟩
    rw [HE2.out, ← hce]
    rfl
  subst hbc
  have HE2 : Hid (gmR m n = meX sb) := Lib.hid (by rw [HE.out, if_neg (by simp)])
  simp only [errV_zero]
  generalize meX sb = M at hrd HE2
  obtain ⟨mc, mi, ml, ms, mn, mp, mt⟩ := M
  simp only [meV] at hrd
  clear HE
  go_wp2_with fail
  refine (hrd _ _ HBS.out).mono ?_
  rintro e w2 ⟨rfl, hb2⟩
  have HR2 := Lib.hid (HR1.out.below hb2 HR1.out.lt)
  have HG2 := Lib.hid (HG1.out.later hb2)
  have HP2 := Lib.hid (HP1.out.below hb2)
  have hfz := fun i => HR2.out.frozen i
  have r0 := HR2.out.cell 0
  have r1 := HR2.out.cell 1
  have r2 := HR2.out.cell 2
  have r3 := HR2.out.cell 3
  have r4 := HR2.out.cell 4
  have r5 := HR2.out.cell 5
  simp at r0 r1 r2 r3 r4 r5
  clear hrd hb2 HR1 HG1 HP1
  go_wp2_with fail
  have hm2 := setall6 _ HR2.out (.int .u64 mi) (.int .i64 ml) (.int .i64 ms) (.int .i64 mn) (.int .i64 mp) (.int .i64 mt)
  have hg2 := gset6 w2 w.heap.size (.int .u64 mi) (.int .i64 ml) (.int .i64 ms) (.int .i64 mn) (.int .i64 mp) (.int .i64 mt)
  refine bodyPost_ret (v := .tuple #[.agg #[.int .u64 mi, .int .i64 ml, .int .i64 ms, .int .i64 mn, .int .i64 mp, .int .i64 mt], errV mc]) (by have c := hm2.cell; simp [results, go_sem, c]; try rfl) rfl ?_
  refine ⟨?_, F1, HP2.out.keep (Apt.of_grown hg2 fun q hq => by have := Option.some.inj hq; subst this; exact HNF.out), HG2.out.newset hg2 (Nat.le_refl _)⟩
  rw [HE2.out]
  rfl

theorem nm_m (id : Nat) : (nmOf id [109] 0).length ≤ 1000 := by rw [nmOf_sort sW_m]; simp [nmHead_length]

set_option maxHeartbeats 3200000 in
theorem rmeta_any {w : World} {F : Nat → Prop} {g : Nat} {m : Sm} {N : Nat} (id : Nat) (hst : PSt w F g m) (hm : m.fine N) (hN : N ≤ 100000) (hid : id < 18446744073709551616) (hL : Ld w) :
    Calls Tryz.prog 42 #[.pointer (some ⟨g, 0, none⟩), .int .u64 (id : Int)] w fun e w' => e = .returned (.tuple #[meV (meR m id).2, errV (meR m id).1]) ∧ ∃ F', PSt w' F' g (callS m) ∧ Goes w F w' F' := by
  have HRR := Lib.hid (gmR_me m id)
  have hget := fun u (hu : PSt u F g m) => rgetM_any (w := u) (nmOf id [109] 0) hu hm hN (nm_m id)
  generalize gmR m (nmOf id [109] 0) = r at hget HRR
  obtain ⟨mc, mi, ml, ms, mn, mp, mt⟩ := r
  simp only [meV] at hget
  have HFlt := Lib.hid hst.lt
  have hb0 : Below w.heap.size w (w.alloc (.cells meZ 85)) := (Below.refl _ _).alloc (Nat.le_refl _) _
  have HR0 : Hid (Blk (w.alloc (.cells meZ 85)) w.heap.size 85 meZ) := Lib.hid (Blk.new _ _ _)
  have HB0 := Lib.hid hb0
  have HP0 := Lib.hid (hst.below hb0)
  have HLD := Lib.hid (hL.below hb0)
  clear hst hL hb0
  go_enter Tryz.func42, Tryz.ntmps42
  go_wp2_with fail
  revert HR0 HB0 HP0 HLD
  generalize w.alloc (.cells meZ 85) = w0
  intro HR0 HB0 HP0 HLD
  refine (mname_any id [109] 0 _ hid HLD.out).mono ?_
  rintro e w1 ⟨rfl, hb1⟩
  have HR1 := Lib.hid (HR0.out.below hb1 HR0.out.lt)
  have HB1 := Lib.hid (HB0.out.trans (hb1.mono HB0.out.size))
  have HP1 := Lib.hid (HP0.out.below hb1)
  clear hb1 HR0 HB0 HP0 HLD
  go_wp2_with fail
  refine (hget _ HP1.out).mono ?_
  rintro e w2 ⟨rfl, F2, hP2, hG2⟩
  have hnF : ¬ F w.heap.size := fun h => by have := HFlt.out _ h; omega
  have HR2 : Hid (Blk w2 w.heap.size 85 meZ) := Lib.hid ((hG2.apt.block _ HR1.out.lt hnF).trans HR1.out)
  have HNF : Hid (¬ F2 w.heap.size) := Lib.hid fun h => by
    rcases hG2.new _ h with h | h
    · exact hnF h
    · have := HR1.out.lt
      omega
  have HG2 : Hid (Goes w F w2 F2) := Lib.hid ((Goes.of_below HB1.out).trans hG2)
  have HP2 := Lib.hid hP2
  clear hget hP2 hG2 hnF HR1 HB1 HP1
  have hb3 : Below w2.heap.size w2 (w2.alloc (.cells #[.int .u64 mi, .int .i64 ml, .int .i64 ms, .int .i64 mn, .int .i64 mp, .int .i64 mt] 85)) := (Below.refl _ _).alloc (Nat.le_refl _) _
  have HR3 := Lib.hid (HR2.out.below hb3 HR2.out.lt)
  have HG3 := Lib.hid (HG2.out.later hb3)
  have HP3 := Lib.hid (HP2.out.below hb3)
  have hfz := fun i => HR3.out.frozen i
  have r0 := HR3.out.cell 0
  have r1 := HR3.out.cell 1
  have r2 := HR3.out.cell 2
  have r3 := HR3.out.cell 3
  have r4 := HR3.out.cell 4
  have r5 := HR3.out.cell 5
  simp at r0 r1 r2 r3 r4 r5
  clear hb3 HR2 HG2 HP2
  by_cases hmc : mc = 0
  rotate_left
  · have hce := errV_code hmc
    have HE : Hid (meR m id = (mc, Me.zero)) := Lib.hid (by rw [HRR.out, if_pos hmc])
    rw [hce]
    clear HRR
    go_wp2_with fail
    clear hfz r0 r1 r2 r3 r4 r5
    revert HR3 HG3 HP3
    generalize w2.alloc (.cells #[.int .u64 mi, .int .i64 ml, .int .i64 ms, .int .i64 mn, .int .i64 mp, .int .i64 mt] 85) = w3
    intro HR3 HG3 HP3
    have hm2 := setall6 _ HR3.out (.int .u64 0) (.int .i64 0) (.int .i64 0) (.int .i64 0) (.int .i64 0) (.int .i64 0)
    have hg2 := gset6 w3 w.heap.size (.int .u64 0) (.int .i64 0) (.int .i64 0) (.int .i64 0) (.int .i64 0) (.int .i64 0)
    refine bodyPost_ret (v := .tuple #[.agg #[.int .u64 0, .int .i64 0, .int .i64 0, .int .i64 0, .int .i64 0, .int .i64 0], code mc]) (by have c := hm2.cell; simp [results, go_sem, c]; try rfl) rfl ?_
    refine ⟨?_, F2, HP3.out.keep (Apt.of_grown hg2 fun q hq => by have := Option.some.inj hq; subst this; exact HNF.out), HG3.out.newset hg2 (Nat.le_refl _)⟩
    rw [HE.out]
    rw [show errV (mc, Me.zero).1 = code mc from hce]
    rfl
  subst hmc
  simp only [errV_zero]
  by_cases hie : mi = (id : Int)
  rotate_left
  · have hbe : (mi == (id : Int)) = false := by simpa using hie
    have HE : Hid (meR m id = (2, Me.zero)) := Lib.hid (by rw [HRR.out, if_neg (by simp), if_neg hie])
    clear HRR
    go_wp2_with fail
    clear hfz r0 r1 r2 r3 r4 r5
    revert HR3 HG3 HP3
    generalize w2.alloc (.cells #[.int .u64 mi, .int .i64 ml, .int .i64 ms, .int .i64 mn, .int .i64 mp, .int .i64 mt] 85) = w3
    intro HR3 HG3 HP3
    have hm2 := setall6 _ HR3.out (.int .u64 0) (.int .i64 0) (.int .i64 0) (.int .i64 0) (.int .i64 0) (.int .i64 0)
    have hg2 := gset6 w3 w.heap.size (.int .u64 0) (.int .i64 0) (.int .i64 0) (.int .i64 0) (.int .i64 0) (.int .i64 0)
    refine bodyPost_ret (v := .tuple #[.agg #[.int .u64 0, .int .i64 0, .int .i64 0, .int .i64 0, .int .i64 0, .int .i64 0], code 2]) (by have c := hm2.cell; simp [results, go_sem, c]; try rfl) rfl ?_
    refine ⟨?_, F2, HP3.out.keep (Apt.of_grown hg2 fun q hq => by have := Option.some.inj hq; subst this; exact HNF.out), HG3.out.newset hg2 (Nat.le_refl _)⟩
    rw [HE.out]
    rfl
  · subst hie
    have HE : Hid (meR m id = (0, ⟨id, ml, ms, mn, mp, mt⟩)) := Lib.hid (by rw [HRR.out, if_neg (by simp), if_pos rfl])
    clear HRR
    go_wp2_with fail
    clear hfz r0 r1 r2 r3 r4 r5
    revert HR3 HG3 HP3
    generalize w2.alloc (.cells #[.int .u64 id, .int .i64 ml, .int .i64 ms, .int .i64 mn, .int .i64 mp, .int .i64 mt] 85) = w3
    intro HR3 HG3 HP3
    have hm2 := setall6 _ HR3.out (.int .u64 id) (.int .i64 ml) (.int .i64 ms) (.int .i64 mn) (.int .i64 mp) (.int .i64 mt)
    have hg2 := gset6 w3 w.heap.size (.int .u64 id) (.int .i64 ml) (.int .i64 ms) (.int .i64 mn) (.int .i64 mp) (.int .i64 mt)
    refine bodyPost_ret (v := .tuple #[.agg #[.int .u64 id, .int .i64 ml, .int .i64 ms, .int .i64 mn, .int .i64 mp, .int .i64 mt], .nilIface]) (by have c := hm2.cell; simp [results, go_sem, c]; try rfl) rfl ?_
    refine ⟨?_, F2, HP3.out.keep (Apt.of_grown hg2 fun q hq => by have := Option.some.inj hq; subst this; exact HNF.out), HG3.out.newset hg2 (Nat.le_refl _)⟩
    rw [HE.out]
    rfl


theorem Goes.newrow {w0 w1 w2 : World} {F0 F1 : Nat → Prop} {row : Option Nat} (h : Goes w0 F0 w1 F1) (hg : w1.grownBy w2 row) (hn : ∀ q, row = some q → w0.heap.size ≤ q) : Goes w0 F0 w2 F1 :=
  ⟨⟨hg.os.trans h.apt.os, hg.tape.trans h.apt.tape, hg.output.trans h.apt.output, Nat.le_trans h.apt.size hg.size, fun q hq hF => (hg.block q (Nat.lt_of_lt_of_le hq h.apt.size) fun e => by have := hn q e.symm; omega).trans (h.apt.block q hq hF)⟩, h.new⟩

end Go.Proofs.YtgafidnbmoomiaaGreatDoor
