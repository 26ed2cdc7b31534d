/-
  CONTRACTS of the program's generic read.get, at each type of object. Conditions: what each says.
  CONTRACTS of the program's read.Meta, read.Find. Conditions: what each says; of the library's tables: Ld.
  CONTRACTS of the program's read.spansOf, read.rise, read.Find. Conditions: what each says; of the library's tables: Ld.
  CONTRACT of the program's read.All. Conditions: what it says; of the library's tables: Ld.
  The head of layer 15's statements; ReadTells, walked: what is read of a block, whatever became of its objects. Conditions: what each says; of the library's tables: Ld.
-/
import Derived.Test.YtfccfnbmmgfgcaaGreatDoorRdA
import Derived.Test.YtfccfnbmmgfgcaaGreatDoorBkL
namespace Go.Proofs.YtfccfnbmmgfgcaaGreatDoor
open Go.RowKit
set_option maxRecDepth 100000

theorem pget_x (v : Value) (x : List UInt8) (w : World) (h : Bs w v x) (hl : x.length ≤ 140737488355328) :
    Calls Tryz.prog 36 #[v] w fun e w' => ∃ y, e = .returned (.tuple #[y, errV (pgX x).1]) ∧ OwnK 2 w' w.heap.size 43 (fun q => q < w.heap.size) TnC y (pgX x).2 ∧ Below w.heap.size w w' := by
  refine (pget_own v x w h hl).mono ?_
  rintro e w' ⟨y, n, rfl, hP, hb⟩
  by_cases h : x.length < 4
  · obtain ⟨rfl, rfl⟩ := hP.pp.short h
    rw [pgX_short h]
    exact ⟨_, rfl, OwnK.nil _ _ _ _ _ _, hb⟩
  · by_cases h2 : tailOf x = crcOf (bodyOf x)
    · by_cases h3 : ∃ m, ValP m ∧ pgBody m = bodyOf x
      · obtain ⟨m, e, hv, hb3⟩ := pgX_yes h h2 h3
        obtain ⟨rfl, _⟩ := hP.pp.yes m (by omega) h2 hv hb3
        rw [e]
        exact ⟨_, rfl, hP.own m (by omega) h2 hv hb3, hb⟩
      · obtain ⟨rfl, rfl⟩ := hP.pp.form (by omega) h2 fun m hv e => h3 ⟨m, hv, e⟩
        rw [pgX_form h h2 h3]
        exact ⟨_, rfl, OwnK.nil _ _ _ _ _ _, hb⟩
    · obtain ⟨rfl, rfl⟩ := hP.pp.sum (by omega) h2
      rw [pgX_sum h h2]
      exact ⟨_, rfl, OwnK.nil _ _ _ _ _ _, hb⟩

def gmR (m : Sm) (n : List UInt8) : Int × Me := if (sGet m n).2 ≠ 0 then ((sGet m n).2, Me.zero) else meX (sGet m n).1
theorem gmR_me (m : Sm) (id : Nat) : meR m id = if (gmR m (nmOf id [109] 0)).1 ≠ 0 then ((gmR m (nmOf id [109] 0)).1, Me.zero) else if (gmR m (nmOf id [109] 0)).2.id = (id : Int) then (0, (gmR m (nmOf id [109] 0)).2) else (2, Me.zero) := by
  unfold meR gmR
  by_cases h : (sGet m (nmOf id [109] 0)).2 ≠ 0
  · simp [h]
  · simp [h]
noncomputable def gpR (m : Sm) (n : List UInt8) : Int × List Tn := if (sGet m n).2 ≠ 0 then ((sGet m n).2, []) else pgX (sGet m n).1
theorem gpR_pg (m : Sm) (id i : Nat) : gpR m (nmOf id [112] (i : Int)) = pgR m id i := rfl

set_option maxHeartbeats 3200000 in
theorem rgetP_any {w : World} {F : Nat → Prop} {g : Nat} {m : Sm} {N : Nat} (n : List UInt8) (h : PSt w F g m) (hm : m.fine N) (hN : N ≤ 100000) (hn : n.length ≤ 1000) :
    Calls Tryz.prog 34 #[.pointer (some ⟨g, 0, none⟩), .string (Bstr n), .func (.func 36) #[] #[]] w fun e w' => ∃ y F' B, e = .returned (.tuple #[y, errV (gpR m n).1]) ∧ PSt w' F' g (callS m) ∧ Goes w F w' F' ∧ w.heap.size ≤ B ∧ (∀ q, F' q → q < B) ∧ OwnK 2 w' B 43 (fun q => q < B) TnC y (gpR m n).2 := by
  have hG := fun u (hu : PSt u F g m) => stGet_any (n := n) hu hm hN (by omega)
  have hlen : (sGet m n).1.length ≤ 1048576 := Nat.le_trans (sGet_len _ _) hm.used
  have HE : Hid (gpR m n = if (sGet m n).2 ≠ 0 then ((sGet m n).2, []) else pgX (sGet m n).1) := Lib.hid rfl
  generalize (sGet m n).1 = sb at hG hlen HE
  generalize (sGet m n).2 = bc at hG HE
  have hrd := fun u x (hx : Bs u x sb) => pget_x x sb u hx (by omega)
  have H := Lib.hid h
  clear h
  go_enter Tryz.func34, Tryz.ntmps34
  go_wp2_with fail
  refine (hG _ H.out).mono ?_
  rintro e w1 ⟨x, F1, rfl, hox, hP1, hA1, hn1, _⟩
  have HG1 : Hid (Goes w F w1 F1) := Lib.hid ⟨hA1, hn1⟩
  have HP1 := Lib.hid hP1
  have HBS := Lib.hid hox.bs
  clear hG H hox hP1 hA1 hn1
  by_cases hbc : bc = 0
  rotate_left
  · have hce := errV_code hbc
    have HE2 : Hid (gpR m n = (bc, [])) := Lib.hid (by rw [HE.out, if_pos hbc])
    rw [hce]
    clear hrd HE
    go_wp2_with fail
    go_ret2
    rw [HE2.out]
    exact ⟨_, F1, w1.heap.size, by rw [hce] <;> rfl, HP1.out, HG1.out, HG1.out.apt.size, HP1.out.lt, OwnK.nil _ _ _ _ _ _⟩
  subst hbc
  have HE2 : Hid (gpR m n = pgX sb) := Lib.hid (by rw [HE.out, if_neg (by simp)])
  simp only [errV_zero]
  clear HE
  go_wp2_with fail
  refine (hrd _ _ HBS.out).mono ?_
  rintro e w2 ⟨y, rfl, hO, hb2⟩
  have HB2 := Lib.hid hb2
  have HO2 := Lib.hid hO
  clear hrd hO hb2
  go_wp2_with fail
  go_ret2
  rw [HE2.out]
  exact ⟨_, F1, w1.heap.size, rfl, HP1.out.below HB2.out, HG1.out.later HB2.out, HG1.out.apt.size, HP1.out.lt, HO2.out⟩

set_option maxHeartbeats 3200000 in
theorem rgetM_any {w : World} {F : Nat → Prop} {g : Nat} {m : Sm} {N : Nat} (n : List UInt8) (h : PSt w F g m) (hm : m.fine N) (hN : N ≤ 100000) (hn : n.length ≤ 1000) :
    Calls Tryz.prog 53 #[.pointer (some ⟨g, 0, none⟩), .string (Bstr n), .func (.func 54) #[] #[]] w fun e w' => e = .returned (.tuple #[meV (gmR m n).2, errV (gmR m n).1]) ∧ ∃ F', PSt w' F' g (callS m) ∧ Goes w F w' F' := by
  have hG := fun u (hu : PSt u F g m) => stGet_any (n := n) hu hm hN (by omega)
  have hlen : (sGet m n).1.length ≤ 1048576 := Nat.le_trans (sGet_len _ _) hm.used
  have HE : Hid (gmR m n = if (sGet m n).2 ≠ 0 then ((sGet m n).2, Me.zero) else meX (sGet m n).1) := Lib.hid rfl
  generalize (sGet m n).1 = sb at hG hlen HE
  generalize (sGet m n).2 = bc at hG HE
  have hrd := fun u x (hx : Bs u x sb) => mget_any u hx (by omega)
  have hb0 : Below w.heap.size w ((w.alloc (.cells meZ 62)).alloc (.cells meZ 62)) := ((Below.refl _ _).alloc (Nat.le_refl _) _).alloc (by simp) _
  have HR0 : Hid (Blk ((w.alloc (.cells meZ 62)).alloc (.cells meZ 62)) w.heap.size 62 meZ) := Lib.hid ((Blk.new w _ _).alloc _)
  have HZ0 : Hid (Blk ((w.alloc (.cells meZ 62)).alloc (.cells meZ 62)) (w.heap.size + 1) 62 meZ) := Lib.hid (by
    have := Blk.new (w.alloc (.cells meZ 62)) 62 meZ
    simpa using this)
  have HB0 := Lib.hid hb0
  have HP0 := Lib.hid (h.below hb0)
  have HFlt := Lib.hid h.lt
  clear h hb0
  go_enter Tryz.func53, Tryz.ntmps53
  go_wp2_with fail
  revert HR0 HZ0 HB0 HP0
  generalize (w.alloc (.cells meZ 62)).alloc (.cells meZ 62) = w0
  intro HR0 HZ0 HB0 HP0
  refine (hG _ HP0.out).mono ?_
  rintro e w1 ⟨x, F1, rfl, hox, hP1, hA1, hn1, _⟩
  have hnF : ∀ q, w.heap.size ≤ q → ¬ F q := fun q hq hF => by have := HFlt.out q hF; omega
  have HR1 : Hid (Blk w1 w.heap.size 62 meZ) := Lib.hid ((hA1.block _ HR0.out.lt (hnF _ (Nat.le_refl _))).trans HR0.out)
  have HZ1 : Hid (Blk w1 (w.heap.size + 1) 62 meZ) := Lib.hid ((hA1.block _ HZ0.out.lt (hnF _ (Nat.le_succ _))).trans HZ0.out)
  have HNF : Hid (¬ F1 w.heap.size) := Lib.hid fun hF => by
    rcases hn1 _ hF with h | h
    · exact hnF _ (Nat.le_refl _) h
    · have := HR0.out.lt
      omega
  have HG1 : Hid (Goes w F w1 F1) := Lib.hid ((Goes.of_below HB0.out).trans ⟨hA1, hn1⟩)
  have HP1 := Lib.hid hP1
  have HBS := Lib.hid hox.bs
  clear hG hox hP1 hA1 hn1 hnF HR0 HZ0 HB0 HP0
  by_cases hbc : bc = 0
  rotate_left
  · have hce := errV_code hbc
    have HE2 : Hid (gmR m n = (bc, Me.zero)) := Lib.hid (by rw [HE.out, if_pos hbc])
    rw [hce]
    have hfz := fun i => HR1.out.frozen i
    have r0 := HR1.out.cell 0
    have r1 := HR1.out.cell 1
    have r2 := HR1.out.cell 2
    have r3 := HR1.out.cell 3
    have r4 := HR1.out.cell 4
    have r5 := HR1.out.cell 5
    simp at r0 r1 r2 r3 r4 r5
    have z0 := HZ1.out.cell 0
    have z1 := HZ1.out.cell 1
    have z2 := HZ1.out.cell 2
    have z3 := HZ1.out.cell 3
    have z4 := HZ1.out.cell 4
    have z5 := HZ1.out.cell 5
    simp at z0 z1 z2 z3 z4 z5
    clear hrd HE
    go_wp2_with fail
    have hm2 := setall6 _ HR1.out (.int .u64 0) (.int .i64 0) (.int .i64 0) (.int .i64 0) (.int .i64 0) (.int .i64 0)
    have hg2 := gset6 w1 w.heap.size (.int .u64 0) (.int .i64 0) (.int .i64 0) (.int .i64 0) (.int .i64 0) (.int .i64 0)
    refine bodyPost_ret (v := .tuple #[.agg meZ, code bc]) (by have c := hm2.cell; simp [results, go_sem, c]; try rfl) rfl ?_
    refine ⟨?_, F1, HP1.out.keep (Apt.of_grown hg2 fun q hq => by have := Option.some.inj hq; subst this; exact HNF.out), HG1.out.newset hg2 (Nat.le_refl _)⟩
    rw [HE2.out, ← hce]
    rfl
  subst hbc
  have HE2 : Hid (gmR m n = meX sb) := Lib.hid (by rw [HE.out, if_neg (by simp)])
  simp only [errV_zero]
  generalize meX sb = M at hrd HE2
  obtain ⟨mc, mi, ml, ms, mn, mp, mt⟩ := M
  simp only [meV] at hrd
  clear HE
  go_wp2_with fail
  refine (hrd _ _ HBS.out).mono ?_
  rintro e w2 ⟨rfl, hb2⟩
  have HR2 := Lib.hid (HR1.out.below hb2 HR1.out.lt)
  have HG2 := Lib.hid (HG1.out.later hb2)
  have HP2 := Lib.hid (HP1.out.below hb2)
  have hfz := fun i => HR2.out.frozen i
  have r0 := HR2.out.cell 0
  have r1 := HR2.out.cell 1
  have r2 := HR2.out.cell 2
  have r3 := HR2.out.cell 3
  have r4 := HR2.out.cell 4
  have r5 := HR2.out.cell 5
  simp at r0 r1 r2 r3 r4 r5
  clear hrd hb2 HR1 HG1 HP1
  go_wp2_with fail
  have hm2 := setall6 _ HR2.out (.int .u64 mi) (.int .i64 ml) (.int .i64 ms) (.int .i64 mn) (.int .i64 mp) (.int .i64 mt)
  have hg2 := gset6 w2 w.heap.size (.int .u64 mi) (.int .i64 ml) (.int .i64 ms) (.int .i64 mn) (.int .i64 mp) (.int .i64 mt)
  refine bodyPost_ret (v := .tuple #[.agg #[.int .u64 mi, .int .i64 ml, .int .i64 ms, .int .i64 mn, .int .i64 mp, .int .i64 mt], errV mc]) (by have c := hm2.cell; simp [results, go_sem, c]; try rfl) rfl ?_
  refine ⟨?_, F1, HP2.out.keep (Apt.of_grown hg2 fun q hq => by have := Option.some.inj hq; subst this; exact HNF.out), HG2.out.newset hg2 (Nat.le_refl _)⟩
  rw [HE2.out]
  rfl

theorem nm_m (id : Nat) : (nmOf id [109] 0).length ≤ 1000 := by rw [nmOf_sort sW_m]; simp [nmHead_length]
theorem nm_p (id i : Nat) : (nmOf id [112] (i : Int)).length ≤ 1000 := by rw [nmOf_p]; simp [digs_length, nmHead_length]

set_option maxHeartbeats 3200000 in
theorem rmeta_any {w : World} {F : Nat → Prop} {g : Nat} {m : Sm} {N : Nat} (id : Nat) (hst : PSt w F g m) (hm : m.fine N) (hN : N ≤ 100000) (hid : id < 18446744073709551616) (hL : Ld w) :
    Calls Tryz.prog 30 #[.pointer (some ⟨g, 0, none⟩), .int .u64 (id : Int)] w fun e w' => e = .returned (.tuple #[meV (meR m id).2, errV (meR m id).1]) ∧ ∃ F', PSt w' F' g (callS m) ∧ Goes w F w' F' := by
  have HRR := Lib.hid (gmR_me m id)
  have hget := fun u (hu : PSt u F g m) => rgetM_any (w := u) (nmOf id [109] 0) hu hm hN (nm_m id)
  generalize gmR m (nmOf id [109] 0) = r at hget HRR
  obtain ⟨mc, mi, ml, ms, mn, mp, mt⟩ := r
  simp only [meV] at hget
  have HFlt := Lib.hid hst.lt
  have hb0 : Below w.heap.size w (w.alloc (.cells meZ 62)) := (Below.refl _ _).alloc (Nat.le_refl _) _
  have HR0 : Hid (Blk (w.alloc (.cells meZ 62)) w.heap.size 62 meZ) := Lib.hid (Blk.new _ _ _)
  have HB0 := Lib.hid hb0
  have HP0 := Lib.hid (hst.below hb0)
  have HLD := Lib.hid (hL.below hb0)
  clear hst hL hb0
  go_enter Tryz.func30, Tryz.ntmps30
  go_wp2_with fail
  revert HR0 HB0 HP0 HLD
  generalize w.alloc (.cells meZ 62) = w0
  intro HR0 HB0 HP0 HLD
  refine (mname_any id [109] 0 _ hid HLD.out).mono ?_
  rintro e w1 ⟨rfl, hb1⟩
  have HR1 := Lib.hid (HR0.out.below hb1 HR0.out.lt)
  have HB1 := Lib.hid (HB0.out.trans (hb1.mono HB0.out.size))
  have HP1 := Lib.hid (HP0.out.below hb1)
  clear hb1 HR0 HB0 HP0 HLD
  go_wp2_with fail
  refine (hget _ HP1.out).mono ?_
  rintro e w2 ⟨rfl, F2, hP2, hG2⟩
  have hnF : ¬ F w.heap.size := fun h => by have := HFlt.out _ h; omega
  have HR2 : Hid (Blk w2 w.heap.size 62 meZ) := Lib.hid ((hG2.apt.block _ HR1.out.lt hnF).trans HR1.out)
  have HNF : Hid (¬ F2 w.heap.size) := Lib.hid fun h => by
    rcases hG2.new _ h with h | h
    · exact hnF h
    · have := HR1.out.lt
      omega
  have HG2 : Hid (Goes w F w2 F2) := Lib.hid ((Goes.of_below HB1.out).trans hG2)
  have HP2 := Lib.hid hP2
  clear hget hP2 hG2 hnF HR1 HB1 HP1
  have hb3 : Below w2.heap.size w2 (w2.alloc (.cells #[.int .u64 mi, .int .i64 ml, .int .i64 ms, .int .i64 mn, .int .i64 mp, .int .i64 mt] 62)) := (Below.refl _ _).alloc (Nat.le_refl _) _
  have HR3 := Lib.hid (HR2.out.below hb3 HR2.out.lt)
  have HG3 := Lib.hid (HG2.out.later hb3)
  have HP3 := Lib.hid (HP2.out.below hb3)
  have hfz := fun i => HR3.out.frozen i
  have r0 := HR3.out.cell 0
  have r1 := HR3.out.cell 1
  have r2 := HR3.out.cell 2
  have r3 := HR3.out.cell 3
  have r4 := HR3.out.cell 4
  have r5 := HR3.out.cell 5
  simp at r0 r1 r2 r3 r4 r5
  clear hb3 HR2 HG2 HP2
  by_cases hmc : mc = 0
  rotate_left
  · have hce := errV_code hmc
    have HE : Hid (meR m id = (mc, Me.zero)) := Lib.hid (by rw [HRR.out, if_pos hmc])
    rw [hce]
    clear HRR
    go_wp2_with fail
    clear hfz r0 r1 r2 r3 r4 r5
    revert HR3 HG3 HP3
    generalize w2.alloc (.cells #[.int .u64 mi, .int .i64 ml, .int .i64 ms, .int .i64 mn, .int .i64 mp, .int .i64 mt] 62) = w3
    intro HR3 HG3 HP3
    have hm2 := setall6 _ HR3.out (.int .u64 0) (.int .i64 0) (.int .i64 0) (.int .i64 0) (.int .i64 0) (.int .i64 0)
    have hg2 := gset6 w3 w.heap.size (.int .u64 0) (.int .i64 0) (.int .i64 0) (.int .i64 0) (.int .i64 0) (.int .i64 0)
    refine bodyPost_ret (v := .tuple #[.agg #[.int .u64 0, .int .i64 0, .int .i64 0, .int .i64 0, .int .i64 0, .int .i64 0], code mc]) (by have c := hm2.cell; simp [results, go_sem, c]; try rfl) rfl ?_
    refine ⟨?_, F2, HP3.out.keep (Apt.of_grown hg2 fun q hq => by have := Option.some.inj hq; subst this; exact HNF.out), HG3.out.newset hg2 (Nat.le_refl _)⟩
    rw [HE.out]
    rw [show errV (mc, Me.zero).1 = code mc from hce]
    rfl
  subst hmc
  simp only [errV_zero]
  by_cases hie : mi = (id : Int)
  rotate_left
  · have hbe : (mi == (id : Int)) = false := by simpa using hie
    have HE : Hid (meR m id = (2, Me.zero)) := Lib.hid (by rw [HRR.out, if_neg (by simp), if_neg hie])
    clear HRR
    go_wp2_with fail
    clear hfz r0 r1 r2 r3 r4 r5
    revert HR3 HG3 HP3
    generalize w2.alloc (.cells #[.int .u64 mi, .int .i64 ml, .int .i64 ms, .int .i64 mn, .int .i64 mp, .int .i64 mt] 62) = w3
    intro HR3 HG3 HP3
    have hm2 := setall6 _ HR3.out (.int .u64 0) (.int .i64 0) (.int .i64 0) (.int .i64 0) (.int .i64 0) (.int .i64 0)
    have hg2 := gset6 w3 w.heap.size (.int .u64 0) (.int .i64 0) (.int .i64 0) (.int .i64 0) (.int .i64 0) (.int .i64 0)
    refine bodyPost_ret (v := .tuple #[.agg #[.int .u64 0, .int .i64 0, .int .i64 0, .int .i64 0, .int .i64 0, .int .i64 0], code 2]) (by have c := hm2.cell; simp [results, go_sem, c]; try rfl) rfl ?_
    refine ⟨?_, F2, HP3.out.keep (Apt.of_grown hg2 fun q hq => by have := Option.some.inj hq; subst this; exact HNF.out), HG3.out.newset hg2 (Nat.le_refl _)⟩
    rw [HE.out]
    rfl
  · subst hie
    have HE : Hid (meR m id = (0, ⟨id, ml, ms, mn, mp, mt⟩)) := Lib.hid (by rw [HRR.out, if_neg (by simp), if_pos rfl])
    clear HRR
    go_wp2_with fail
    clear hfz r0 r1 r2 r3 r4 r5
    revert HR3 HG3 HP3
    generalize w2.alloc (.cells #[.int .u64 id, .int .i64 ml, .int .i64 ms, .int .i64 mn, .int .i64 mp, .int .i64 mt] 62) = w3
    intro HR3 HG3 HP3
    have hm2 := setall6 _ HR3.out (.int .u64 id) (.int .i64 ml) (.int .i64 ms) (.int .i64 mn) (.int .i64 mp) (.int .i64 mt)
    have hg2 := gset6 w3 w.heap.size (.int .u64 id) (.int .i64 ml) (.int .i64 ms) (.int .i64 mn) (.int .i64 mp) (.int .i64 mt)
    refine bodyPost_ret (v := .tuple #[.agg #[.int .u64 id, .int .i64 ml, .int .i64 ms, .int .i64 mn, .int .i64 mp, .int .i64 mt], .nilIface]) (by have c := hm2.cell; simp [results, go_sem, c]; try rfl) rfl ?_
    refine ⟨?_, F2, HP3.out.keep (Apt.of_grown hg2 fun q hq => by have := Option.some.inj hq; subst this; exact HNF.out), HG3.out.newset hg2 (Nat.le_refl _)⟩
    rw [HE.out]
    rfl

set_option maxHeartbeats 3200000 in
theorem rise_any (v : Value) (l : List Tn) (w : World) (h : Ts w v l) (hc : ∀ (k : Nat) (t : Tn), l[k]? = some t → CanS t.id t.sp) :
    Calls Tryz.prog 37 #[v] w fun e w' => e = .returned (.bool (isB l)) ∧ Below w.heap.size w w' := by
  obtain ⟨A, c, rfl, hc1, hc2⟩ := h.form
  have H := Lib.hid h
  have HC := Lib.hid hc
  clear h hc
  go_enter Tryz.func37, Tryz.ntmps37
  go_wp2_with fail
  go_loopg [6] l.length (fun gk iv wr => ∃ k : Nat, k + gk = l.length ∧ iv = .int .i64 (k : Int) ∧ Hid (Below w.heap.size w wr ∧ ∀ (j : Nat) (a b : Tn), l[j]? = some a → l[j + 1]? = some b → j + 1 < k → a.id < b.id))
  case atStart => exact ⟨0, by omega, rfl, Lib.hid ⟨Below.refl _ _, fun j a b _ _ h => by omega⟩⟩
  case round =>
    obtain ⟨k, hk, rfl, HW⟩ := hrel
    by_cases hlt : k < l.length
    · obtain ⟨gk1, hgk1⟩ : ∃ x, gk = x + 1 := ⟨gk - 1, by omega⟩
      by_cases hk0 : k = 0
      · subst hk0
        go_wp2_with fail
        go_quiet (fail)
        go_wp2_with fail
        go_roundg gk1
        case measure => omega
        case rel => exact ⟨1, by omega, by go_num, Lib.hid ⟨(below_drewN HW.out.1 _), fun j a b _ _ h => by omega⟩⟩
      · obtain ⟨j, rfl⟩ : ∃ j, k = j + 1 := ⟨k - 1, by omega⟩
        obtain ⟨a, ha⟩ : ∃ t, l[j]? = some t := ⟨_, List.getElem?_eq_getElem (by omega)⟩
        obtain ⟨b, hb⟩ : ∃ t, l[j + 1]? = some t := ⟨_, List.getElem?_eq_getElem hlt⟩
        obtain ⟨gx, px, d, hAx, hgx, x0, _, _⟩ := Ts.cells (H.out.below HW.out.1) ha
        obtain ⟨gy, py, dy, hAy, hgy, y0, _, _⟩ := Ts.cells (H.out.below HW.out.1) hb
        subst hAx
        injection hAy with e1
        injection e1 with e1 e2
        subst e1 e2
        by_cases he : a.id < b.id
        · have hbe : decide (b.id ≤ a.id) = false := decide_eq_false (by omega)
          have HAB := Lib.hid ha
          have HBB := Lib.hid hb
          have HLL := Lib.hid he
          clear ha hb
          go_wp2_with fail
          go_quiet (fail)
          go_wp2_with fail
          go_roundg gk1
          case measure => omega
          case rel =>
            refine ⟨j + 1 + 1, by omega, by go_num, Lib.hid ⟨(below_drewN HW.out.1 _), fun i x y h1 h2 h => ?_⟩⟩
            by_cases hij : i = j
            · subst hij
              rw [HAB.out] at h1
              rw [HBB.out] at h2
              injection h1 with h1
              injection h2 with h2
              subst h1 h2
              exact HLL.out
            · exact HW.out.2 i x y h1 h2 (by omega)
        · have hbe : decide (b.id ≤ a.id) = true := decide_eq_true (by omega)
          have HS : Hid (isB l = false) := Lib.hid (isB_false fun hT => he (hT.up j a b ha hb))
          clear ha hb
          go_wp2_with fail
          go_quiet (fail)
          go_wp2_with fail
          go_ret
          rw [HS.out]
          exact ⟨rfl, (below_drewN HW.out.1 _)⟩
    · have hkn : k = l.length := by omega
      have HS : Hid (isB l = true) := Lib.hid (isB_true ⟨HC.out, fun j a b h1 h2 => HW.out.2 j a b h1 h2 (by have := (List.getElem?_eq_some_iff.1 h2).1; omega)⟩)
      clear hkn
      go_wp2_with fail
      go_ret
      rw [HS.out]
      exact ⟨rfl, HW.out.1⟩

theorem Goes.newrow {w0 w1 w2 : World} {F0 F1 : Nat → Prop} {row : Option Nat} (h : Goes w0 F0 w1 F1) (hg : w1.grownBy w2 row) (hn : ∀ q, row = some q → w0.heap.size ≤ q) : Goes w0 F0 w2 F1 :=
  ⟨⟨hg.os.trans h.apt.os, hg.tape.trans h.apt.tape, hg.output.trans h.apt.output, Nat.le_trans h.apt.size hg.size, fun q hq hF => (hg.block q (Nat.lt_of_lt_of_le hq h.apt.size) fun e => by have := hn q e.symm; omega).trans (h.apt.block q hq hF)⟩, h.new⟩
theorem pgX_can (x : List UInt8) : ∀ (k : Nat) (t : Tn), (pgX x).2[k]? = some t → CanS t.id t.sp := by
  intro k t ht
  by_cases h : x.length < 4
  · rw [pgX_short h] at ht; simp at ht
  · by_cases h2 : tailOf x = crcOf (bodyOf x)
    · by_cases h3 : ∃ m, ValP m ∧ pgBody m = bodyOf x
      · obtain ⟨m, e, hv, _⟩ := pgX_yes h h2 h3
        rw [e] at ht
        exact hv.is.each k t ht
      · rw [pgX_form h h2 h3] at ht; simp at ht
    · rw [pgX_sum h h2] at ht; simp at ht
theorem pgR_can (m : Sm) (id i : Nat) : ∀ (k : Nat) (t : Tn), (pgR m id i).2[k]? = some t → CanS t.id t.sp := by
  unfold pgR
  split
  · intro k t ht
    simp at ht
  · exact pgX_can _

set_option maxHeartbeats 6400000 in
theorem rall_any {w : World} {F : Nat → Prop} {g : Nat} {m : Sm} {N : Nat} (id : Nat) (hst : PSt w F g m) (hm : m.fine N) (hN : N ≤ 10000) (hid : id < 18446744073709551616) (hL : Keep F Ld w) :
    Calls Tryz.prog 16 #[.pointer (some ⟨g, 0, none⟩), .int .u64 (id : Int)] w fun e w' => ∃ y F', e = .returned (.tuple #[y, errV (alR m id).1.1]) ∧ PSt w' F' g (alR m id).2 ∧ (alR m id).2.fine (N + 201) ∧ Keep (fun q => q < w.heap.size ∨ F' q) (fun u => Ts u y (alR m id).1.2) w' ∧ Goes w F w' F' := by
  have hnil : ∀ (bad : Nat → Prop) (u : World), Keep bad (fun u => Ts u (.slice none 0 0) []) u := fun _ _ _ _ => Ts.nil _
  have hM := rmeta_any id hst hm (by omega) hid hL.here
  have HM := Lib.hid hm
  have HL := Lib.hid hL
  have HPG : Hid ((meR m id).1 = 0 → 0 ≤ (meR m id).2.pg ∧ (meR m id).2.pg ≤ 200) := Lib.hid meR_pages
  have HAR : Hid (alR m id = if (meR m id).1 ≠ 0 then (((meR m id).1, []), callS m) else if (rdA id (meR m id).2.pg.toNat 0 (callS m) []).1.1 ≠ 0 then rdA id (meR m id).2.pg.toNat 0 (callS m) [] else if isB (rdA id (meR m id).2.pg.toNat 0 (callS m) []).1.2 = true ∧ ((rdA id (meR m id).2.pg.toNat 0 (callS m) []).1.2.length : Int) = (meR m id).2.tr then rdA id (meR m id).2.pg.toNat 0 (callS m) [] else ((2, []), (rdA id (meR m id).2.pg.toNat 0 (callS m) []).2)) := Lib.hid rfl
  generalize meR m id = mr at hM HPG HAR
  obtain ⟨mc, mi, ml, ms, mn, mp, mt⟩ := mr
  simp only [meV] at hM
  have HFlt := Lib.hid hst.lt
  clear hst hm hL
  go_enter Tryz.func16, Tryz.ntmps16
  go_wp2_with fail
  refine hM.mono ?_
  rintro e w1 ⟨rfl, F1, hP1, hG1⟩
  have hb2 : Below w1.heap.size w1 (w1.alloc (.cells #[.int .u64 mi, .int .i64 ml, .int .i64 ms, .int .i64 mn, .int .i64 mp, .int .i64 mt] 62)) := (Below.refl _ _).alloc (Nat.le_refl _) _
  have HR2 : Hid (Blk (w1.alloc (.cells #[.int .u64 mi, .int .i64 ml, .int .i64 ms, .int .i64 mn, .int .i64 mp, .int .i64 mt] 62)) w1.heap.size 62 #[.int .u64 mi, .int .i64 ml, .int .i64 ms, .int .i64 mn, .int .i64 mp, .int .i64 mt]) := Lib.hid (Blk.new _ _ _)
  have HG2 := Lib.hid (hG1.later hb2)
  have HP2 := Lib.hid (hP1.below hb2)
  have hs1 := hG1.apt.size
  have HNF1 : Hid (¬ F1 w1.heap.size) := Lib.hid fun h => by have := hP1.lt _ h; omega
  clear hM hP1 hG1 hb2
  by_cases hmc : mc = 0
  rotate_left
  · have hce := errV_code hmc
    have HE : Hid (alR m id = ((mc, []), callS m)) := Lib.hid (by rw [HAR.out, if_pos hmc])
    clear HAR
    rw [hce]
    go_wp2_with fail
    go_ret2
    rw [HE.out]
    exact ⟨_, F1, by rw [hce] <;> rfl, HP2.out, HM.out.call.more (by omega), hnil _ _, HG2.out⟩
  subst hmc
  have hp0 := (HPG.out rfl).1
  have hp1 := (HPG.out rfl).2
  try simp only at hp0 hp1
  obtain ⟨n, rfl⟩ := nat_of (n := mp) hp0
  have HRE : Hid (alR m id = if (rdA id n 0 (callS m) []).1.1 ≠ 0 then rdA id n 0 (callS m) [] else if isB (rdA id n 0 (callS m) []).1.2 = true ∧ ((rdA id n 0 (callS m) []).1.2.length : Int) = mt then rdA id n 0 (callS m) [] else ((2, []), (rdA id n 0 (callS m) []).2)) := Lib.hid (by
    rw [HAR.out, if_neg (by simp)]
    rfl)
  have hn200 : n ≤ 200 := by omega
  simp only [errV_zero]
  clear HAR HPG hp0 hp1
  go_wp2_with fail
  revert HR2 HG2 HP2
  generalize w1.alloc (.cells #[.int .u64 mi, .int .i64 ml, .int .i64 ms, .int .i64 mn, .int .i64 (n : Int), .int .i64 mt] 62) = w2
  obtain ⟨g6, hg6⟩ : ∃ z, z = w1.heap.size := ⟨_, rfl⟩
  rw [← hg6]
  rw [← hg6] at HNF1
  intro HR2 HG2 HP2
  have HG6 : Hid (w.heap.size ≤ g6) := Lib.hid (by omega)
  clear hg6 hs1
  go_loopg [8, 23] n (fun gk lv iv wr => ∃ (k : Nat) (mk : Sm) (Fk : Nat → Prop) (out : List Tn), k + gk = n ∧ iv = .int .i64 (k : Int) ∧ Hid (OwnK 2 wr (g6 + 1) 43 (fun q => q < g6 + 1 ∨ Fk q) TnC lv out ∧ PSt wr Fk g mk ∧ rdA id n 0 (callS m) [] = rdA id gk k mk out ∧ out.length ≤ 64 * k ∧ mk.fine (N + 1 + k) ∧ Blk wr g6 62 #[.int .u64 mi, .int .i64 ml, .int .i64 ms, .int .i64 mn, .int .i64 (n : Int), .int .i64 mt] ∧ Goes w F wr Fk ∧ (∀ q, lv.ownBlock = some q → ¬ Fk q) ∧ ¬ Fk g6 ∧ ∀ (j : Nat) (t : Tn), out[j]? = some t → CanS t.id t.sp))
  case atStart => exact ⟨0, callS m, F1, [], by omega, rfl, Lib.hid ⟨OwnK.nil _ _ _ _ _ _, HP2.out, rfl, by simp, HM.out.call, HR2.out, HG2.out, (fun q h => by cases h), HNF1.out, (fun j t h => by simp at h)⟩⟩
  case round =>
    obtain ⟨k, mk, Fk, out, hk, rfl, HW⟩ := hrel
    clear HR2 HG2 HP2
    obtain ⟨hO, hP, hR, hol, hfi, hB, hGk, hvF, hgF, hcan⟩ := HW.out
    have hgw := hB.lt
    have b4 := hB.cell 4
    have b5 := hB.cell 5
    simp at b4 b5
    by_cases hlt : k < n
    · obtain ⟨gk1, hgk1⟩ : ∃ x, gk = x + 1 := ⟨gk - 1, by omega⟩
      have hget := fun u (hu : PSt u Fk g mk) => rgetP_any (w := u) (nmOf id [112] (k : Int)) hu hfi (by omega) (nm_p id k)
      simp only [gpR_pg] at hget
      have hpl := pgR_len mk id k
      have HCP := Lib.hid (pgR_can mk id k)
      have HF : Hid ((pgR mk id k).1 ≠ 0 → rdA id n 0 (callS m) [] = (((pgR mk id k).1, []), callS mk)) := Lib.hid fun h => by
        rw [hR, hgk1, rdA_fail h]
      have HON : Hid ((pgR mk id k).1 = 0 → rdA id n 0 (callS m) [] = rdA id gk1 (k + 1) (callS mk) (out ++ (pgR mk id k).2)) := Lib.hid fun h => by
        rw [hR, hgk1, rdA_on h]
      generalize pgR mk id k = pr at hget hpl HF HON HCP
      obtain ⟨pc, p⟩ := pr
      simp only at hget hpl
      have hLd := (HL.out.go hGk.apt hGk.new).here
      have HFI : Hid ((callS mk).fine (N + 1 + (k + 1))) := Lib.hid hfi.call
      clear hO hP hR hfi hB hGk hvF hgF hcan
      go_wp2_with fail
      refine (mname_any id [112] (k : Int) _ hid hLd).mono ?_
      rintro e w3 ⟨rfl, hb3⟩
      have HB3 := Lib.hid hb3
      clear hb3 hLd
      go_wp2_with fail
      refine (hget _ (HW.out.2.1.below HB3.out)).mono ?_
      rintro e w4 ⟨y, F4, B, rfl, hP4, hG4, hB4, hF4, hO4⟩
      have hG34 : Goes wr Fk w4 F4 := (Goes.of_below HB3.out).trans hG4
      have hGw : Goes w F w4 F4 := HW.out.2.2.2.2.2.2.1.trans hG34
      have hsz : wr.heap.size ≤ B := Nat.le_trans HB3.out.size hB4
      by_cases hpc : pc = 0
      rotate_left
      · have hce := errV_code hpc
        have HE : Hid (alR m id = ((pc, []), callS mk)) := Lib.hid (by rw [HRE.out, HF.out hpc, if_pos hpc])
        have HGW := Lib.hid hGw
        have HP4 := Lib.hid hP4
        clear hget hP4 hG4 hB4 hF4 hO4 hG34 hGw hsz HRE HF HON b4 b5 HW
        rw [hce]
        go_wp2_with fail
        go_ret2
        rw [HE.out]
        exact ⟨_, F4, by rw [hce] <;> rfl, HP4.out, HFI.out.more (by omega), hnil _ _, HGW.out⟩
      subst hpc
      have hlv := HW.out.1.lt
      have hvF := HW.out.2.2.2.2.2.2.2.1
      have hgF := HW.out.2.2.2.2.2.2.2.2.1
      have hBk := HW.out.2.2.2.2.2.1
      have hnF4 : ∀ q, q < wr.heap.size → ¬ Fk q → ¬ F4 q := fun q hq h1 h2 => by
        rcases hG34.new q h2 with h | h
        · exact h1 h
        · omega
      have HOut : Hid (OwnK 2 w4 (g6 + 1) 43 (fun q => q < g6 + 1 ∨ F4 q) TnC u8 out) := Lib.hid (HW.out.1.apt hG34.apt (fun q _ hq => .inr hq) (fun q hq => hvF q hq) fun q hq => by
        rcases hq with h | h
        · exact .inl (.inl h)
        · rcases hG34.new q h with h | h
          · exact .inl (.inr h)
          · exact .inr h)
      have HR4 : Hid (Blk w4 g6 62 #[.int .u64 mi, .int .i64 ml, .int .i64 ms, .int .i64 mn, .int .i64 (n : Int), .int .i64 mt]) := Lib.hid ((hG34.apt.block g6 hgw hgF).trans hBk)
      have HNV : Hid (∀ q, u8.ownBlock = some q → ¬ F4 q) := Lib.hid fun q hq => hnF4 q (hlv q hq).2 (hvF q hq)
      have HNG : Hid (¬ F4 g6) := Lib.hid (hnF4 g6 hgw hgF)
      have HP4 := Lib.hid hP4
      have HGW := Lib.hid hGw
      have HRD := Lib.hid (HON.out rfl)
      have HCN : Hid (∀ (j : Nat) (t : Tn), (out ++ p)[j]? = some t → CanS t.id t.sp) := Lib.hid fun j t hj => by
        rcases Nat.lt_or_ge j out.length with h | h
        · rw [List.getElem?_append_left h] at hj
          exact HW.out.2.2.2.2.2.2.2.2.2 j t hj
        · rw [List.getElem?_append_right h] at hj
          exact HCP.out _ t hj
      obtain ⟨ys, y1, y2⟩ := hO4
      have HYL := Lib.hid y1.lv
      have HYK : Hid (Two (fun b z => Keep (fun q => (q < g6 + 1 ∨ F4 q) ∨ u8.ownBlock = some q) (fun u => TnC u b z) w4) p ys) := Lib.hid (y2.mono fun _ _ hk => hk.less fun q hq => by
        rcases hq with (hq | hq) | hq
        · exact .inl (.inl (by omega))
        · exact .inl (.inl (hF4 q hq))
        · have := (hlv q hq).2
          exact .inl (.inl (by omega)))
      have HY1 : Hid (∀ z ∈ ys, ∀ u ∈ z, u.oneCell' = true) := Lib.hid fun z hz => by
        obtain ⟨j, hj⟩ := List.getElem?_of_mem hz
        have hjl : j < p.length := by
          rw [y2.len]
          exact (List.getElem?_eq_some_iff.1 hj).1
        exact (y2.at_ j _ _ (List.getElem?_eq_getElem hjl) hj).here.one
      have HLen : Hid (out.length + p.length ≤ 1000000000) := Lib.hid (by omega)
      have HL64 : Hid ((out ++ p).length ≤ 64 * (k + 1)) := Lib.hid (by rw [List.length_append]; omega)
      have hs4 := hG34.apt.size
      have HSZ : Hid (g6 + 1 ≤ w4.heap.size) := Lib.hid (by omega)
      have HLT : Hid (∀ q, u8.ownBlock = some q → g6 < q) := Lib.hid fun q hq => (hlv q hq).1
      clear hget hP4 hG4 hB4 hF4 y1 y2 hG34 hGw hsz hlv hvF hgF hBk hnF4 hs4 HW HF HON HCP HB3 b4 b5 hgw hpl hol
      simp only [errV_zero]
      go_wp2_with (at_builtin; refine wpList_append_Ks trT rfl _ _ rfl rfl HOut.out rfl HYL.out HYK.out HY1.out HLen.out (by decide) HSZ.out ?_)
      intro v' w5 hO5 hg5 hv5
      have HO5 := Lib.hid hO5
      have HNV5 : Hid (∀ q, v'.ownBlock = some q → ¬ F4 q) := Lib.hid fun q hq => by
        rcases hv5 with h | h
        · exact HNV.out q (h ▸ hq)
        · rw [h] at hq
          have := Option.some.inj hq
          intro hF
          have := HP4.out.lt q hF
          omega
      have HP5 := Lib.hid (HP4.out.keep (Apt.of_grown hg5 fun q hq => HNV.out q hq))
      have HR5 := Lib.hid (HR4.out.grown hg5 fun e => by have := HLT.out g6 e.symm; omega)
      have HG5 := Lib.hid (HGW.out.newrow hg5 fun q hq => by have := HLT.out q hq; have := HG6.out; omega)
      clear hO5 hg5 hv5 HOut HR4 HGW HP4 HYL HYK HY1 HLen HSZ HLT HNV
      go_wp2_with fail
      go_roundg gk1
      case measure => omega
      case rel => exact ⟨k + 1, callS mk, F4, out ++ p, by omega, by go_num, Lib.hid ⟨HO5.out, HP5.out, HRD.out, HL64.out, HFI.out, HR5.out, HG5.out, HNV5.out, HNG.out, HCN.out⟩⟩
    · have hkn : k = n := by omega
      have hg0 : gk = 0 := by omega
      subst hkn
      subst hg0
      have HTs : Hid (Ts wr u8 out) := Lib.hid hO.ts
      have HTK : Hid (Keep (fun q => q < w.heap.size ∨ Fk q) (fun u => Ts u u8 out) wr) := Lib.hid (Keep.less (hO.keep fun q hq h => by
        rcases h with h | h
        · have := (hO.lt q hq).1
          omega
        · exact hvF q hq h) fun q hq => by
        rcases hq with h | h
        · have := HG6.out
          exact .inl (.inl (by omega))
        · exact .inl (.inr h))
      have hRs := rise_any u8 out wr HTs.out hcan
      have HRD : Hid (rdA id k 0 (callS m) [] = ((0, out), mk)) := Lib.hid (by rw [hR]; rfl)
      have HG := Lib.hid hGk
      have HP := Lib.hid hP
      have HFI := Lib.hid (hfi.more (show N + 1 + k ≤ N + 201 by omega))
      obtain ⟨A, c, hu8, _, _⟩ := HTs.out.form
      obtain ⟨lo, hlo⟩ : ∃ z, z = out.length := ⟨_, rfl⟩
      rw [← hlo] at hu8 hol
      subst hu8
      have HLO := Lib.hid hlo
      clear HW hlo hO hP hR hfi hB hGk hvF hgF hcan
      by_cases hlm : (lo : Int) = mt
      rotate_left
      · have hle : ((lo : Int) == mt) = false := by simpa using hlm
        have HE : Hid (alR m id = ((2, []), mk)) := Lib.hid (by
          rw [HRE.out, HRD.out, if_neg (by simp), if_neg (by
            intro h
            exact hlm (by rw [HLO.out]; exact h.2))])
        clear HRE HRD hRs b4
        go_wp2_with fail
        go_ret2
        rw [HE.out]
        exact ⟨_, Fk, rfl, HP.out, HFI.out, hnil _ _, HG.out⟩
      have hle : ((lo : Int) == mt) = true := by simpa using hlm
      cases hib : isB out with
      | false =>
        rw [hib] at hRs
        have HE : Hid (alR m id = ((2, []), mk)) := Lib.hid (by
          rw [HRE.out, HRD.out, if_neg (by simp), if_neg (by
            intro h
            rw [hib] at h
            cases h.1)])
        clear HRE HRD hib b4
        go_wp2_with fail
        refine hRs.mono ?_
        rintro e w3 ⟨rfl, hb3⟩
        have HG3 := Lib.hid (HG.out.later hb3)
        have HP3 := Lib.hid (HP.out.below hb3)
        clear hRs hb3 b5
        go_wp2_with fail
        go_ret2
        rw [HE.out]
        exact ⟨_, Fk, rfl, HP3.out, HFI.out, hnil _ _, HG3.out⟩
      | true =>
        rw [hib] at hRs
        have HE : Hid (alR m id = ((0, out), mk)) := Lib.hid (by
          rw [HRE.out, HRD.out, if_neg (by simp), if_pos ⟨hib, by rw [← HLO.out]; exact hlm⟩])
        clear HRE HRD hib b4
        go_wp2_with fail
        refine hRs.mono ?_
        rintro e w3 ⟨rfl, hb3⟩
        have HG3 := Lib.hid (HG.out.later hb3)
        have HP3 := Lib.hid (HP.out.below hb3)
        have HK3 := Lib.hid (HTK.out.below hb3)
        clear hRs hb3 b5
        go_wp2_with fail
        go_ret2
        rw [HE.out]
        exact ⟨_, Fk, by rw [errV_zero] <;> rfl, HP3.out, HFI.out, HK3.out, HG3.out⟩

theorem meR_empty (id : Nat) : meR ⟨100, -1, 0, []⟩ id = (4, Me.zero) := by
  rw [meR, sGet_no rfl rfl, if_pos (by simp)]

end Go.Proofs.YtfccfnbmmgfgcaaGreatDoor
