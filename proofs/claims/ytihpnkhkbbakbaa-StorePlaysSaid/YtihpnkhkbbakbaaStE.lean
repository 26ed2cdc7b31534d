/-
  LAYER 6's STATEMENTS, walked apart from how the program's store is built ('StoreK'): tankardlaw06.pick, up, StoreKeeps.
-/
import Derived.Test.YtihpnkhkbbakbaaStD
import Derived.Test.YtihpnkhkbbakbaaRowDe
namespace Go.Proofs.Ytihpnkhkbbakbaa
open Go.RowKit
set_option maxRecDepth 100000

def pickI (c n : Int) : Int := (if c < 0 then -(c + 1) else c) % n
set_option maxHeartbeats 800000 in
theorem pick_any (c n : Int) (w : World) (h0 : -9223372036854775808 ≤ c) (h1 : c ≤ 9223372036854775807) (hn : 0 < n) (hn1 : n ≤ 1000) :
    Calls Try.prog 7 #[.int .i64 c, .int .i64 n] w fun e w' => e = .returned (.int .i64 (pickI c n)) ∧ w = w' := by
  by_cases hc : c < 0
  · have hp : Hid (pickI c n = -((c + 1).tmod n)) := Lib.hid (by rw [pickI, if_pos hc, ← Int.neg_tmod, Int.tmod_eq_emod_of_nonneg (by omega)])
    go_enter Try.func7, Try.ntmps7
    go_wp2_with fail
    go_ret
    exact ⟨ret_int hp.out.symm, rfl⟩
  · have hp : Hid (pickI c n = c % n) := Lib.hid (by rw [pickI, if_neg hc])
    go_enter Try.func7, Try.ntmps7
    go_wp2_with fail
    go_ret
    exact ⟨ret_int hp.out.symm, rfl⟩

theorem below_apt {B : Nat} {w w1 w2 : World} {F : Nat → Prop} (h : Below B w w1) (ha : Apt F w1 w2) (hF : ∀ q, F q → B ≤ q) (hB : B ≤ w1.heap.size) : Below B w w2 :=
  ⟨ha.os.trans h.os, ha.tape.trans h.tape, ha.output.trans h.output, Nat.le_trans h.size ha.size, fun g hg => (ha.block g (by omega) fun e => by have := hF g e; omega).trans (h.block g hg)⟩
theorem sPut_bad {m : Sm} {n b : List UInt8} (h : (sPut m n b).2 ≠ 0) : (sPut m n b).1 = callS m := by
  unfold sPut at h ⊢
  split
  · rfl
  split
  · rfl
  split
  · rfl
  rename_i h1 h2 h3
  rw [if_neg h1, if_neg h2, if_neg h3] at h
  split at h <;> exact absurd rfl h
theorem sDel_bad {m : Sm} {n : List UInt8} (h : (sDel m n).2 ≠ 0) : (sDel m n).1 = callS m := by
  unfold sDel at h ⊢
  split
  · rfl
  split
  · rfl
  rename_i h1 h2
  rw [if_neg h1, if_neg h2] at h
  exact absurd rfl h
theorem callS_left {m : Sm} (h : m.left = -1) : (callS m).left = -1 := by simp [callS, h]
theorem sPut_left {m : Sm} {n b : List UInt8} (h : m.left = -1) : (sPut m n b).1.left = -1 := by
  have := callS_left h
  unfold sPut
  split
  · exact this
  split
  · exact this
  split
  · exact this
  split <;> exact this
theorem sDel_left {m : Sm} {n : List UInt8} (h : m.left = -1) : (sDel m n).1.left = -1 := by
  have := callS_left h
  unfold sDel
  split
  · exact this
  split <;> exact this
theorem code_le (m : Sm) (n b : List UInt8) : (sPut m n b).2 = 0 ∨ (sPut m n b).2 = 1 ∨ (sPut m n b).2 = 6 ∨ (sPut m n b).2 = 8 := by
  unfold sPut
  split
  · exact .inr (.inr (.inr rfl))
  split
  · exact .inr (.inl rfl)
  split
  · exact .inr (.inr (.inl rfl))
  split <;> exact .inl rfl

set_option maxHeartbeats 6400000 in
theorem storeKeeps_any {PS : World → (Nat → Prop) → Nat → Sm → Prop} (hK : StoreK PS) (hup : ∀ w, Calls Try.prog 5 #[] w fun e w' => e = .returned (.bool true) ∧ Below w.heap.size w w')
    (nm : List UInt8) (bv : Value) (b : List UInt8) (vl : Value) (l : List De) (n : Int) (w : World) (hb : Bs w bv b) (hl : Ds w vl l) (hnm : nm.length ≤ 9223372036854775807) :
    Calls Try.prog 4 #[.string (Bstr nm), bv, vl, .int .i64 n] w fun e w' => e = .returned (.bool true) ∧ Below w.heap.size w w' := by
  have HK := Lib.hid hK
  have HB := Lib.hid hb
  have HL := Lib.hid hl
  have eqc := eqCode
  have neq_ := neCode
  obtain ⟨Ab, cb, rfl, hcb1, hcb2, _⟩ := hb
  obtain ⟨Al, cl, rfl, hcl1, hcl2⟩ := hl.form
  clear hl hK
  go_enter Try.func4, Try.ntmps4
  go_wp2_with fail
  refine (hup _).mono ?_
  rintro e w1 ⟨rfl, hb1⟩
  go_wp2_with fail
  refine (HK.out.new_ok 100000 _ (by omega) (by omega)).mono ?_
  rintro e w2 ⟨g, F, rfl, hPS, hb2, hF⟩
  have hB2 := hb1.trans (hb2.mono hb1.size)
  have hF2 : ∀ q, F q → w.heap.size ≤ q := fun q hq => Nat.le_trans hb1.size (hF q hq)
  by_cases hbl : 500 < b.length
  · go_wp2_with fail
    go_ret
    exact ⟨rfl, hB2⟩
  by_cases hll : 50 < l.length
  · go_wp2_with fail
    go_ret
    exact ⟨rfl, hB2⟩
  have hfine : (⟨100000, -1, 0, []⟩ : Sm).fine 0 := ⟨by decide, by decide, by decide, by decide, by decide, by decide, by simp, by simp [usedL]⟩
  have hsepb : ∀ (u : World) (F' : Nat → Prop), (∀ q, F' q → w.heap.size ≤ q) → (b ≠ [] → ∀ q, (Value.slice Ab b.length cb).ownBlock = some q → ¬ F' q) := fun u F' hF' hne q hq hFq => by
    obtain ⟨k, hk, hk'⟩ := HB.out.block hne
    rw [hk] at hq
    injection hq with hq
    have := hF' q hFq
    omega
  have hPut := HK.out.put (n := nm) hPS hfine (by omega) hnm (HB.out.below hB2) (hsepb w2 F hF2) (by omega)
  have hl0 : (sPut ⟨100000, -1, 0, []⟩ nm b).1.left = -1 := sPut_left rfl
  have hfi := Sm.fine.put hfine nm b
  have hbad : Hid ((sPut ⟨100000, -1, 0, []⟩ nm b).2 ≠ 0 → usedL (sPut ⟨100000, -1, 0, []⟩ nm b).1.l = 0) := Lib.hid fun h => by
    rw [sPut_bad h]
    rfl
  have hgood : Hid ((sPut ⟨100000, -1, 0, []⟩ nm b).2 = 0 → ∃ o, fnd nm (sPut ⟨100000, -1, 0, []⟩ nm b).1.l = some o ∧ o.b = b) := Lib.hid fnd_same
  generalize sPut ⟨100000, -1, 0, []⟩ nm b = r at *
  obtain ⟨m1, c1⟩ := r
  simp only at hPut hl0 hfi
  go_wp2_with fail
  refine hPut.mono ?_
  rintro e w3 ⟨rfl, F3, hP3, hA3, hN3⟩
  have hB3 := below_apt hB2 hA3 hF2 hB2.size
  have hF3 : ∀ q, F3 q → w.heap.size ≤ q := fun q hq => by
    rcases hN3 q hq with h | h
    · exact hF2 q h
    · exact Nat.le_trans hB2.size h
  clear hPut hPS hA3 hN3
  by_cases hc : c1 = 0
  · subst hc
    rw [errV_zero]
    have HGo := Lib.hid (hgood.out rfl)
    clear hbad hgood hB2 hF2 hF hb2 hfine
    go_wp2_with fail
    go_loopw [13] (fun iv wr => ∃ (k : Nat) (F : Nat → Prop) (m : Sm), k ≤ l.length ∧ iv = .int .i64 (k : Int) ∧ Hid (PS wr F g m ∧ m.fine (k + 1) ∧ m.left = -1 ∧ (∃ o, fnd nm m.l = some o ∧ o.b = b) ∧ ∀ q, F q → w.heap.size ≤ q) ∧ Below w.heap.size w wr) (fun iv _ => l.length - (intOf iv).toNat)
    case atStart => exact ⟨0, F3, m1, Nat.zero_le _, rfl, Lib.hid ⟨hP3, hfi, hl0, HGo.out, hF3⟩, hB3⟩
    case round =>
      obtain ⟨k, F, m, hk, rfl, HM, hB⟩ := hrel
      by_cases hlt : k < l.length
      · obtain ⟨d, hkd⟩ : ∃ d, l[k]? = some d := ⟨_, List.getElem?_eq_getElem hlt⟩
        obtain ⟨q, o, dv, rfl, hq, x0, x1, x2, x3, x4, hdb, hw1, _, _, hdn⟩ := HL.out.cells hkd
        have c0 := (hB.cell (p := ⟨q, o + k * 5, none⟩) hq).trans x0
        have c1 := (hB.cell (p := ⟨q, o + k * 5 + 1, none⟩) hq).trans x1
        have c4 := (hB.cell (p := ⟨q, o + k * 5 + 4, none⟩) hq).trans x4
        have HDB := Lib.hid hdb
        obtain ⟨Ad, cd, rfl, hd1, hd2, _⟩ := hdb
        clear hkd x0 x2 x3
        by_cases hsame : d.nm = nm
        · have hq1 : ((Bstr d.nm).toList == (Bstr nm).toList) = true := by rw [hsame]; simp
          go_wp2_with fail
          exact ⟨⟨k + 1, F, m, by omega, by go_num, Lib.hid ⟨HM.out.1, HM.out.2.1.more (by omega), HM.out.2.2⟩, hB⟩, by simp [intOf]; omega⟩
        · have hq1 : ((Bstr d.nm).toList == (Bstr nm).toList) = false := by rw [Bstr_toList, Bstr_toList]; simpa using hsame
          by_cases hdl : 500 < d.b.length
          · go_wp2_with fail
            exact ⟨⟨k + 1, F, m, by omega, by go_num, Lib.hid ⟨HM.out.1, HM.out.2.1.more (by omega), HM.out.2.2⟩, hB⟩, by simp [intOf]; omega⟩
          · have HNE := Lib.hid hsame
            have hu := HK.out.used HM.out.1 HM.out.2.1 (by omega)
            clear hsame
            go_wp2_with fail
            refine hu.mono ?_
            rintro e w4 ⟨rfl, hb4⟩
            have hB4 := hB.trans (hb4.mono hB.size)
            have hP4 := HK.out.keep HM.out.1 (Apt.of_below hb4)
            have d0 := (hB4.cell (p := ⟨q, o + k * 5, none⟩) hq).trans ((hB.cell (p := ⟨q, o + k * 5, none⟩) hq).symm.trans c0)
            have r1 : ∀ u, Below w4.heap.size w4 u → u.cell? ⟨q, o + k * 5 + 1, none⟩ = some (.string (Bstr d.nm)) := fun u hu => (hu.cell (p := ⟨q, o + k * 5 + 1, none⟩) (Nat.lt_of_lt_of_le hq hB4.size)).trans ((hB4.cell (p := ⟨q, o + k * 5 + 1, none⟩) hq).trans x1)
            have r4 : ∀ u, Below w4.heap.size w4 u → u.cell? ⟨q, o + k * 5 + 4, none⟩ = some (.slice Ad d.b.length cd) := fun u hu => (hu.cell (p := ⟨q, o + k * 5 + 4, none⟩) (Nat.lt_of_lt_of_le hq hB4.size)).trans ((hB4.cell (p := ⟨q, o + k * 5 + 4, none⟩) hq).trans x4)
            have hPk := pick_any d.what 2 w4 hw1.1 hw1.2 (by omega) (by omega)
            clear hu c0 c1 c4 x1 x4
            by_cases hp : pickI d.what 2 = 0
            · rw [hp] at hPk
              have hsep : d.b ≠ [] → ∀ z, (Value.slice Ad d.b.length cd).ownBlock = some z → ¬ F z := fun hne z hz hFz => by
                obtain ⟨y, hy, hy'⟩ := HDB.out.block hne
                rw [hy] at hz
                injection hz with hz
                have := HM.out.2.2.2.2 z hFz
                omega
              have hP4d := HK.out.keep hP4 (Apt.of_below (Below.refl w4.heap.size w4).drew)
              have hCall := HK.out.put (n := d.nm) hP4d HM.out.2.1 (by omega) hdn (HDB.out.below hB4.drew) hsep (by omega)
              have hR : (sPut m d.nm d.b).1.fine (k + 1 + 1) ∧ (sPut m d.nm d.b).1.left = -1 ∧ (∃ o, fnd nm (sPut m d.nm d.b).1.l = some o ∧ o.b = b) ∧ ((sPut m d.nm d.b).2 ≠ 0 → usedL (sPut m d.nm d.b).1.l = usedL m.l) :=
                ⟨HM.out.2.1.put _ _, sPut_left HM.out.2.2.1, by rw [fnd_put HNE.out]; exact HM.out.2.2.2.1, fun h => by rw [sPut_bad h]; rfl⟩
              generalize sPut m d.nm d.b = r at *
              obtain ⟨m', c'⟩ := r
              simp only at hCall hR
              have hb0 : (0 : Int) ≤ (k : Int) := by omega
              have hb1 : (k : Int) < (l.length : Int) := by omega
              go_wp2_with fail
              refine hPk.mono ?_
              rintro e w5 ⟨rfl, rfl⟩
              go_wp2_with fail
              refine wp_region_mix [(0, false), (1, false), (2, false), (3, false), (4, false), (5, false), (6, false), (7, false), (8, false), (9, false), (10, false), (11, true), (12, true)] (fun u => u.cell? ⟨q, o + k * 5 + 1, none⟩ = some (.string (Bstr d.nm)) ∧ u.cell? ⟨q, o + k * 5 + 4, none⟩ = some (.slice Ad d.b.length cd)) (by kernel_rfl) (by kernel_rfl) (by decide +kernel) rfl ⟨r1 _ (Below.refl _ _).drew, r4 _ (Below.refl _ _).drew⟩ ?_
              repeat
                (refine mix_read (o := ⟨_, _, _, _, _, _⟩) (v := ?_) rfl (by rfl) (fun w' hS => ?_) ?_
                 rotate_left
                 obtain ⟨hS1, hS2⟩ := hS
                 go_simp
                 with_reducible rfl
                 try simp only [Act.put, List.setIfInBounds_toArray, List.set_cons_zero, List.set_cons_succ])
              refine mix_step (o := ⟨_, _, _, _, _, _⟩) rfl (fun K hK => ?_)
              go_simp
              refine hCall.mono ?_
              rintro e w6 ⟨rfl, F6, hP6, hA6, hN6⟩
              have hB5 : Below w.heap.size w w4.drew := hB4.drew
              have hB6' := below_apt hB5 hA6 HM.out.2.2.2.2 hB5.size
              have hS6 : w6.cell? ⟨q, o + k * 5 + 1, none⟩ = some (.string (Bstr d.nm)) ∧ w6.cell? ⟨q, o + k * 5 + 4, none⟩ = some (.slice Ad d.b.length cd) :=
                ⟨(hB6'.cell (p := ⟨q, o + k * 5 + 1, none⟩) hq).trans ((hB4.cell (p := ⟨q, o + k * 5 + 1, none⟩) hq).symm.trans (r1 _ (Below.refl _ _))), (hB6'.cell (p := ⟨q, o + k * 5 + 4, none⟩) hq).trans ((hB4.cell (p := ⟨q, o + k * 5 + 4, none⟩) hq).symm.trans (r4 _ (Below.refl _ _)))⟩
              refine hK.out _ _ hS6 ?_
              clear hK K
              try simp only [Act.put, List.setIfInBounds_toArray, List.set_cons_zero, List.set_cons_succ]
              refine mix_step (o := ⟨_, _, _, _, _, _⟩) rfl (fun K hK => ?_)
              go_simp
              refine hK.out _ _ hS6 ?_
              clear hK K
              refine mix_done ?_
              clear r1 r4 hS6 hB6' d0
              have hB6 := below_apt hB5 hA6 HM.out.2.2.2.2 hB5.size
              have hF6 : ∀ z, F6 z → w.heap.size ≤ z := fun z hz => by
                rcases hN6 z hz with h | h
                · exact HM.out.2.2.2.2 z h
                · exact Nat.le_trans hB5.size h
              by_cases hc' : c' = 0
              · subst hc'
                rw [errV_zero]
                go_wp2_with fail
                exact ⟨⟨k + 1, F6, m', by omega, by go_num, Lib.hid ⟨hP6, hR.1, hR.2.1, hR.2.2.1, hF6⟩, hB6⟩, by simp [intOf]; omega⟩
              · rw [errV_code hc']
                have hu6 := HK.out.used hP6 hR.1 (by omega)
                rw [hR.2.2.2 hc'] at hu6
                have hcn : ∀ u : World, (binOp .neq 26 (code c') .nilIface).run Try.prog u = .ok (.bool true) u := fun u => by kernel_rfl
                have hself : (((usedL m.l : Nat) : Int) == ((usedL m.l : Nat) : Int)) = true := by simp
                go_wp2_with fail
                refine hu6.mono ?_
                rintro e w7 ⟨rfl, hb7⟩
                have hP7 := HK.out.keep hP6 (Apt.of_below hb7)
                go_wp2_with fail
                exact ⟨⟨k + 1, F6, m', by omega, by go_num, Lib.hid ⟨hP7, hR.1, hR.2.1, hR.2.2.1, hF6⟩, hB6.trans (hb7.mono hB6.size)⟩, by simp [intOf]; omega⟩
            · have hpb : (pickI d.what 2 == 0) = false := beq_eq_false_iff_ne.2 hp
              have hCall := HK.out.del (n := d.nm) hP4 HM.out.2.1 (by omega) hdn
              have hR : (sDel m d.nm).1.fine (k + 1 + 1) ∧ (sDel m d.nm).1.left = -1 ∧ (∃ o, fnd nm (sDel m d.nm).1.l = some o ∧ o.b = b) ∧ ((sDel m d.nm).2 ≠ 0 → usedL (sDel m d.nm).1.l = usedL m.l) :=
                ⟨HM.out.2.1.del _, sDel_left HM.out.2.2.1, by rw [fnd_del HNE.out]; exact HM.out.2.2.2.1, fun h => by rw [sDel_bad h]; rfl⟩
              generalize sDel m d.nm = r at *
              obtain ⟨m', c'⟩ := r
              simp only at hCall hR
              have e1 := r1 w4 (Below.refl _ _)
              have hB5 := hB4
              clear r1 r4
              go_wp2_with fail
              refine hPk.mono ?_
              rintro e w5 ⟨rfl, rfl⟩
              go_wp2_with fail
              refine hCall.mono ?_
              rintro e w6 ⟨rfl, F6, hP6, hA6, hN6⟩
              have hB6 := below_apt hB5 hA6 HM.out.2.2.2.2 hB5.size
              have hF6 : ∀ z, F6 z → w.heap.size ≤ z := fun z hz => by
                rcases hN6 z hz with h | h
                · exact HM.out.2.2.2.2 z h
                · exact Nat.le_trans hB5.size h
              by_cases hc' : c' = 0
              · subst hc'
                rw [errV_zero]
                go_wp2_with fail
                exact ⟨⟨k + 1, F6, m', by omega, by go_num, Lib.hid ⟨hP6, hR.1, hR.2.1, hR.2.2.1, hF6⟩, hB6⟩, by simp [intOf]; omega⟩
              · rw [errV_code hc']
                have hu6 := HK.out.used hP6 hR.1 (by omega)
                rw [hR.2.2.2 hc'] at hu6
                have hcn : ∀ u : World, (binOp .neq 26 (code c') .nilIface).run Try.prog u = .ok (.bool true) u := fun u => by kernel_rfl
                have hself : (((usedL m.l : Nat) : Int) == ((usedL m.l : Nat) : Int)) = true := by simp
                go_wp2_with fail
                refine hu6.mono ?_
                rintro e w7 ⟨rfl, hb7⟩
                have hP7 := HK.out.keep hP6 (Apt.of_below hb7)
                go_wp2_with fail
                exact ⟨⟨k + 1, F6, m', by omega, by go_num, Lib.hid ⟨hP7, hR.1, hR.2.1, hR.2.2.1, hF6⟩, hB6.trans (hb7.mono hB6.size)⟩, by simp [intOf]; omega⟩
      · have hc2 : callB (failS m 0) = false := by simp [callB, failS]
        have hM := HM.out
        obtain ⟨o, ho, hob⟩ := hM.2.2.2.1
        have hG := sGet_fnd (m := callS (failS m 0)) (n := nm) (o := o) (by simp [callB, callS, failS]) (by exact ho)
        have HG := Lib.hid hG
        have HD : Hid (sDel (failS m 0) nm = (callS (failS m 0), 8)) := Lib.hid (sDel_fail hc2)
        have hFail := HK.out.fail (n := 0) hM.1 hM.2.1 (by omega) (by omega)
        clear hG
        go_wp2_with fail
        refine hFail.mono ?_
        rintro e w4 ⟨rfl, F4, hP4, hA4, hN4⟩
        have hB4 := below_apt hB hA4 hM.2.2.2.2 hB.size
        have hF4 : ∀ z, F4 z → w.heap.size ≤ z := fun z hz => by
          rcases hN4 z hz with h | h
          · exact hM.2.2.2.2 z h
          · exact Nat.le_trans hB.size h
        have hDel := HK.out.del (n := nm) hP4 (hM.2.1.fail 0 (by omega)) (by omega) hnm
        rw [HD.out] at hDel
        clear hA4 hN4 hFail
        go_wp2_with fail
        refine hDel.mono ?_
        rintro e w5 ⟨rfl, F5, hP5, hA5, hN5⟩
        have hB5 := below_apt hB4 hA5 hF4 hB4.size
        have hF5 : ∀ z, F5 z → w.heap.size ≤ z := fun z hz => by
          rcases hN5 z hz with h | h
          · exact hF4 z h
          · exact Nat.le_trans hB4.size h
        have hGet := HK.out.get (n := nm) hP5 ((hM.2.1.fail 0 (by omega)).call) (by omega) hnm
        rw [HG.out] at hGet
        rw [errV_code (by omega)]
        clear hA5 hN5 hDel
        go_wp2_with fail
        refine hGet.mono ?_
        rintro e w6 ⟨x, F6, rfl, hown, _, hA6, _, _⟩
        have hB6 := below_apt hB5 hA6 hF5 hB5.size
        rw [hob] at hown
        have hst1 := strOf hown.bs
        have hst2 := strOf (HB.out.below hB6)
        obtain ⟨Ax, cx, hxv, _⟩ := hown.form
        subst hxv
        have hbb : ((Bstr b).toList == (Bstr b).toList) = true := by simp
        rw [errV_zero]
        clear hA6 hGet
        go_wp2_with fail
        go_ret
        exact ⟨rfl, hB6⟩
  · rw [errV_code hc]
    have hu := HK.out.used hP3 hfi (by omega)
    rw [hbad.out hc] at hu
    have hcn : ∀ u : World, (binOp .neq 26 (code c1) .nilIface).run Try.prog u = .ok (.bool true) u := fun u => by kernel_rfl
    clear hbad hgood hB2 hF2 hF hb2 hfine
    go_wp2_with fail
    refine hu.mono ?_
    rintro e w4 ⟨rfl, hb4⟩
    go_wp2_with fail
    go_ret
    exact ⟨rfl, hB3.trans (hb4.mono hB3.size)⟩

end Go.Proofs.Ytihpnkhkbbakbaa
