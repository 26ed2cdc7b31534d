/-
  CONTRACTS of the program's isName, Put, Get, Delete, Alter. Conditions: what each says.
-/
import Derived.Test.YtihpnkhkbbakbaaStG
import Derived.Test.YtihpnkhkbbakbaaStS
import Derived.Lib.SliceRun
namespace Go.Proofs.Ytihpnkhkbbakbaa
open Go.RowKit Go.Maps
set_option maxRecDepth 100000

set_option maxHeartbeats 1600000 in
theorem isOfName_any (x : Nat) (w : World) (hxl : x < 256) : Calls Try.prog 35 #[.int .u8 (x : Int)] w fun e w' => e = .returned (.bool (nameC x)) ∧ w = w' := by
  by_cases a1 : 97 ≤ x
  · by_cases a2 : x ≤ 122
    · have d2 : decide ((x : Int) ≤ 122) = true := decide_eq_true (by omega)
      go_enter Try.func35, Try.ntmps35
      go_wp2_with fail
      go_ret
      exact ⟨ret_bool (by first | (simp [nameC]; done) | (simp [nameC]; omega)), rfl⟩
    · have d2 : decide ((x : Int) ≤ 122) = false := decide_eq_false (by omega)
      have d4 : decide ((x : Int) ≤ 57) = false := decide_eq_false (by omega)
      have k47 : ((x : Int) == 47) = false := beq_eq_false_iff_ne.2 (by omega)
      have k45 : ((x : Int) == 45) = false := beq_eq_false_iff_ne.2 (by omega)
      go_enter Try.func35, Try.ntmps35
      go_wp2_with fail
      go_ret
      exact ⟨ret_bool (by first | (simp [nameC]; done) | (simp [nameC]; omega)), rfl⟩
  · by_cases a3 : 48 ≤ x
    · by_cases a4 : x ≤ 57
      · have d4 : decide ((x : Int) ≤ 57) = true := decide_eq_true (by omega)
        go_enter Try.func35, Try.ntmps35
        go_wp2_with fail
        go_ret
        exact ⟨ret_bool (by first | (simp [nameC]; done) | (simp [nameC]; omega)), rfl⟩
      · have d4 : decide ((x : Int) ≤ 57) = false := decide_eq_false (by omega)
        have k47 : ((x : Int) == 47) = false := beq_eq_false_iff_ne.2 (by omega)
        have k45 : ((x : Int) == 45) = false := beq_eq_false_iff_ne.2 (by omega)
        go_enter Try.func35, Try.ntmps35
        go_wp2_with fail
        go_ret
        exact ⟨ret_bool (by first | (simp [nameC]; done) | (simp [nameC]; omega)), rfl⟩
    · by_cases e47 : x = 47
      · subst e47
        go_enter Try.func35, Try.ntmps35
        go_wp2_with fail
        go_ret
        exact ⟨rfl, rfl⟩
      · have k47 : ((x : Int) == 47) = false := beq_eq_false_iff_ne.2 (by omega)
        by_cases e45 : x = 45
        · subst e45
          go_enter Try.func35, Try.ntmps35
          go_wp2_with fail
          go_ret
          exact ⟨rfl, rfl⟩
        · have k45 : ((x : Int) == 45) = false := beq_eq_false_iff_ne.2 (by omega)
          go_enter Try.func35, Try.ntmps35
          go_wp2_with fail
          go_ret
          exact ⟨ret_bool (by first | (simp [nameC]; done) | (simp [nameC]; omega)), rfl⟩

set_option maxHeartbeats 1600000 in
theorem isName_any (n : List UInt8) (w : World) (hl : n.length ≤ 9223372036854775807) : Calls Try.prog 26 #[.string (Bstr n)] w fun e w' => e = .returned (.bool (nameB n)) ∧ w = w' := by
  have hs : (Bstr n).size = n.length := Bstr_size _
  by_cases l0 : n.length < 1
  · have HL : Hid (nameB n = false) := Lib.hid (by simp [nameB]; intros; omega)
    go_enter Try.func26, Try.ntmps26
    go_wp2_with fail
    go_ret
    exact ⟨ret_bool HL.out.symm, rfl⟩
  by_cases l1 : 32 < n.length
  · have HL : Hid (nameB n = false) := Lib.hid (by simp [nameB]; intros; omega)
    go_enter Try.func26, Try.ntmps26
    go_wp2_with fail
    go_ret
    exact ⟨ret_bool HL.out.symm, rfl⟩
  go_enter Try.func26, Try.ntmps26
  go_wp2_with fail
  go_loop [14] (fun iv => ∃ k : Nat, k ≤ n.length ∧ iv = .int .i64 (k : Int) ∧ Hid ((n.take k).all (fun c => nameC c.toNat) = true)) (fun iv => n.length - (intOf iv).toNat)
  case atStart => exact ⟨0, Nat.zero_le _, rfl, Lib.hid (by simp)⟩
  case round =>
    obtain ⟨k, hk, rfl, HN⟩ := hrel
    by_cases hlt : k < n.length
    · obtain ⟨c, hkc⟩ : ∃ c, n[k]? = some c := ⟨_, List.getElem?_eq_getElem hlt⟩
      obtain ⟨x, hx⟩ : ∃ x, x = c.toNat := ⟨_, rfl⟩
      have hix : ∀ u : World, (Instr.index 9 (.string (Bstr n)) (.int .i64 (k : Int))).run Try.prog u = .ok (.int .u8 (x : Int)) u := fun u => str_at hkc hx u
      have HGO : Hid (nameC x = true → (n.take (k + 1)).all (fun c => nameC c.toNat) = true) := Lib.hid fun h => by
        rw [take_snoc_st hkc, List.all_append, HN.out]
        simpa [← hx] using h
      have HNO : Hid (nameC x = false → nameB n = false) := Lib.hid fun h => by
        have : n.all (fun c => nameC c.toNat) = false := by
          rw [List.all_eq_false]
          exact ⟨c, List.mem_of_getElem? hkc, by rw [← hx, h]; simp⟩
        rw [nameB, this]
        rfl
      have hxl : x < 256 := by rw [hx]; exact c.toNat_lt
      clear hkc hx
      go_wp2_with fail
      refine (isOfName_any x _ hxl).mono ?_
      rintro e w1 ⟨rfl, rfl⟩
      cases hcx : nameC x with
      | true =>
        have HT := HGO.out hcx
        clear hcx
        go_wp2_with fail
        exact ⟨⟨k + 1, by omega, by go_num, Lib.hid HT⟩, by simp [intOf]; omega⟩
      | false =>
        have HT := HNO.out hcx
        clear hcx
        go_wp2_with fail
        go_ret
        exact ⟨ret_bool HT.symm, rfl⟩
    · have e := HN.out
      rw [List.take_of_length_le (by omega)] at e
      have HL : Hid (nameB n = true) := Lib.hid (by rw [nameB, e]; simp; omega)
      clear e
      go_wp2_with fail
      go_ret
      exact ⟨ret_bool HL.out.symm, rfl⟩

set_option maxHeartbeats 400000 in
/-- bytes.Clone -/
theorem bclone_any (l : List UInt8) (v : Value) (w : World) (hl : l.length ≤ 140737488355328) (hv : Bs w v l) :
    Calls Try.prog 27 #[v] w fun e w' => ∃ v', e = .returned v' ∧ Own w' w.heap.size 5 v' l ∧ Below w.heap.size w w' := by
  have hv' := hv
  obtain ⟨A, c, rfl, hc1, hc2, hr⟩ := hv'
  have hnil := fun u : World => Lib.run_eql_slice_nil (P := Try.prog) u 34 5 A l.length c 0 0 byteT.under
  cases A with
  | none =>
    have h0 : l = [] := by
      have := hr.noneEq
      simpa [BV] using this
    subst h0
    simp only [Option.isNone_none, List.length_nil] at hnil
    go_enter Try.func27, Try.ntmps27
    go_wp2_with fail
    go_ret
    exact ⟨_, rfl, Own.nil _ _ _, Below.refl _ _⟩
  | some ad =>
    simp only [Option.isNone_some] at hnil
    go_enter Try.func27, Try.ntmps27
    go_wp2_with (at_builtin; refine wpList_append_v _ byteT rfl _ _ rfl w.heap.size (.slice (some ⟨w.heap.size, 0, none⟩) 0 0) [] rfl (Own.made w w.heap.size 5 #[] 0 (Nat.le_refl _) (by simp [maxLen]) rfl) _ l rfl (hv.alloc _) (by simp; omega) (by simp) ?_)
    intro v2 w2 hown2 hg2 _
    have hb2 : Below w.heap.size w w2 := ((Below.refl _ w).alloc (Nat.le_refl _) _).grown hg2 (by simp) (by intro k hk; simp [Value.ownBlock] at hk; omega)
    clear hnil hg2
    go_wp2_with fail
    go_ret
    exact ⟨_, rfl, hown2, hb2⟩

section
variable {w : World} {F : Nat → Prop} {g mb N : Nat} {D : DataW Value} {l : List Ob}
/-- 'm[n]' -/
theorem PMap.look (h : PMap w F g mb D N l) {n : List UInt8} (hn : n.length ≤ 9223372036854775807) : ∃ v, D.atKey (.string n) noB = .held v ∧ (Instr.lookup 60 (.map (some mb)) (.string (Bstr n)) false).run Try.prog w = .ok v w := by
  obtain ⟨v, ps, h1, h2⟩ := h.own.lookup lawS Try.underlying60 (zeroB _) (zd := noB) (zp := []) rfl (keyS n hn)
  simp only [pR, Option.some.injEq, Prod.mk.injEq] at h2
  exact ⟨v, h2.1.symm, h1⟩
/-- 'v, ok := m[n]' -/
theorem PMap.look_ok (h : PMap w F g mb D N l) {n : List UInt8} (hn : n.length ≤ 9223372036854775807) : ∃ v, D.atKey (.string n) noB = .held v ∧ (Instr.lookup 60 (.map (some mb)) (.string (Bstr n)) true).run Try.prog w = .ok (.tuple #[v, .bool (fnd n l).isSome]) w := by
  obtain ⟨v, ps, h1, h2⟩ := h.own.look_ok lawS Try.underlying60 (zeroB _) (zd := noB) (zp := []) rfl (keyS n hn)
  simp only [pR, Option.some.injEq, Prod.mk.injEq] at h2
  rw [h.has n] at h1
  exact ⟨v, h2.1.symm, h1⟩
/-- the value's form: how many bytes it has -/
theorem PMap.len (h : PMap w F g mb D N l) {n : List UInt8} {v : Value} (hv : D.atKey (.string n) noB = .held v) : ∃ (A : Option Addr) (k c : Nat), v = .slice A k c ∧ k ≤ c ∧ c ≤ 9223372036854775807 ∧ (k : Int) = obLen (fnd n l) := by
  cases hf : fnd n l with
  | none =>
    rw [h.no hf] at hv
    injection hv with hv
    exact ⟨none, 0, 0, hv.symm, Nat.le_refl _, by omega, rfl⟩
  | some o =>
    obtain ⟨v', h1, h2, _⟩ := h.val n o hf
    rw [h1] at hv
    injection hv with hv
    subst hv
    obtain ⟨A, c, e, h3, h4, _⟩ := h2.form
    exact ⟨A, o.b.length, c, e, h3, h4, rfl⟩
end

set_option maxHeartbeats 3200000 in
theorem stPut_any {w : World} {F : Nat → Prop} {g : Nat} {m : Sm} {N : Nat} {n b : List UInt8} {bv : Value} (h : PSt w F g m) (hm : m.fine N) (hN : N ≤ 100000) (hn : n.length ≤ 9223372036854775807) (hb : Bs w bv b) (hsep : b ≠ [] → ∀ q, bv.ownBlock = some q → ¬ F q) (hbl : b.length ≤ 100000) :
    Calls Try.prog 8 #[.pointer (some ⟨g, 0, none⟩), .string (Bstr n), bv] w fun e w' => e = .returned (errV (sPut m n b).2) ∧ ∃ F', PSt w' F' g (sPut m n b).1 ∧ Apt F w w' ∧ ∀ q, F' q → F q ∨ w.heap.size ≤ q := by
  have hfg := h.Fg
  have hgw := gw_any h hm.calls0 (by have := hm.calls1; omega)
  have hmr0 := hm.room0
  have hmr1 := hm.room1
  have hmu := hm.used
  have hmc := hm.calls1
  have hmc0 := hm.calls0
  have HB := Lib.hid hb
  obtain ⟨Ab, cb, rfl, hb1, hb2, _⟩ := hb
  clear h hm
  go_enter Try.func8, Try.ntmps8
  go_wp2_with fail
  refine hgw.mono ?_
  rintro e w1 ⟨rfl, h1, hg1⟩
  have HA1 : Hid (Apt F w w1) := Lib.hid (Apt.of_grown hg1 fun q hq => by injection hq with hq; subst hq; exact hfg)
  have HB1 : Hid (Bs w1 (.slice Ab b.length cb) b) := Lib.hid (HB.out.grown hg1 fun hne e => hsep hne g e hfg)
  have H1 := Lib.hid h1
  clear hgw
  cases hcb : callB m with
  | false =>
    have HG : Hid (sPut m n b = (callS m, 8)) := Lib.hid (sPut_e8 hcb)
    clear hcb h1
    go_wp2_with fail
    go_ret
    rw [HG.out]
    exact ⟨rfl, F, H1.out.plain (by omega), HA1.out, fun q hq => .inl hq⟩
  | true =>
    have HCB := Lib.hid hcb
    clear hcb
    go_wp2_with fail
    refine (isName_any n _ hn).mono ?_
    rintro e w2 ⟨rfl, rfl⟩
    cases hnb : nameB n with
    | false =>
      have HG : Hid (sPut m n b = (callS m, 1)) := Lib.hid (sPut_e1 HCB.out hnb)
      clear hnb h1
      go_wp2_with fail
      go_ret
      rw [HG.out]
      exact ⟨rfl, F, H1.out.plain (by omega), HA1.out, fun q hq => .inl hq⟩
    | true =>
      have HNB := Lib.hid hnb
      have hn32 : n.length ≤ 32 := by
        have := hnb
        simp only [nameB, Bool.and_eq_true, decide_eq_true_eq] at this
        exact this.2.2
      obtain ⟨mb, D, M, W, hBk, hM, hMc, hW, hlf⟩ := h1.ex
      have hrm : (callS m).room = m.room := rfl
      have hl : (callS m).l = m.l := rfl
      have hcl : (callS m).calls = m.calls + 1 := rfl
      rw [hl, hrm] at hBk
      rw [hl] at hM
      have k0 := hBk.cell 0
      have k1 := hBk.cell 1
      have k2 := hBk.cell 2
      simp at k0 k1 k2
      obtain ⟨v, hat, hlook⟩ := hM.look hn
      obtain ⟨Av, kv, cv, rfl, hkc, hcm, hkv⟩ := hM.len hat
      have hru : Hid (restU m n = (usedL m.l : Int) - (kv : Int)) := Lib.hid (by rw [restU_fnd, hkv])
      have hkl : kv ≤ usedL m.l := by
        cases hf : fnd n m.l with
        | none => rw [hf, obLen] at hkv; omega
        | some o => rw [hf, obLen] at hkv; have := usedL_fnd hf; omega
      obtain ⟨U, hU⟩ : ∃ U : Nat, U = usedL m.l := ⟨_, rfl⟩
      rw [← hU] at k2 hkl hmu hBk
      have HU := Lib.hid hU
      have HM := Lib.hid hM
      have HBK := Lib.hid hBk
      have HAT := Lib.hid hat
      have hlookd : ∀ j, (Instr.lookup 60 (.map (some mb)) (.string (Bstr n)) false).run Try.prog (w1.drewN j) = .ok (.slice Av kv cv) (w1.drewN j) := fun j => by
        have h := (HM.out.below (below_drewN (Below.refl w1.heap.size w1) j)).look hn
        obtain ⟨v', h1, h2⟩ := h
        rw [HAT.out] at h1
        injection h1 with h1
        subst h1
        exact h2
      clear hnb h1 hkv hU hat hM hBk hlook
      go_wp2_with fail
      go_quiet (fail)
      have hb2 : Below w1.heap.size w1 (w1.drewN nq) := below_drewN (Below.refl _ _) _
      generalize w1.drewN nq = w2 at *
      have hB2 := HBK.out.below hb2 HBK.out.lt
      have j0 := hB2.cell 0
      have j1 := hB2.cell 1
      simp at j0 j1
      have HB2 := Lib.hid hB2
      clear k0 k1 k2 hlookd hB2
      by_cases hfull : m.room - ((U : Int) - (kv : Int)) < (b.length : Int)
      · have HG : Hid (sPut m n b = (callS m, 6)) := Lib.hid (sPut_e6 HCB.out HNB.out (by rw [hru.out, ← HU.out]; omega))
        go_wp2_with fail
        go_ret
        rw [HG.out]
        exact ⟨rfl, F, (H1.out.plain (by omega)).below hb2, HA1.out.trans (Apt.of_below hb2), fun q hq => .inl hq⟩
      · obtain ⟨l', hp, hr', hu', hfn, hfo⟩ := sPut_ok HCB.out HNB.out (b := b) (by rw [hru.out, ← HU.out]; omega) HM.out.rise
        have HP := Lib.hid hp
        have HU' : Hid ((usedL l' : Int) = (U : Int) - (kv : Int) + (b.length : Int)) := Lib.hid (by rw [hu', hru.out, HU.out])
        have HFO := Lib.hid hfo
        have hszn : (Bstr n).size ≤ 281474976710656 := by rw [Bstr_size]; omega
        have hgl : g < w1.heap.size := HBK.out.lt
        clear hp hu' hfo
        go_wp2_with fail
        refine wp_region_mix [(0, false), (1, false), (2, false), (3, false), (4, false), (6, false), (5, true), (7, true), (8, true)] (fun u => u.cell? ⟨g, 1, none⟩ = some (.map (some mb))) (by kernel_rfl) (by kernel_rfl) (by decide +kernel) rfl j1 ?_
        repeat
          (refine mix_read (o := ⟨_, _, _, _, _, _⟩) (v := ?_) rfl (by rfl) (fun w' hS => ?_) ?_
           rotate_left
           go_simp
           with_reducible rfl
           try simp only [Act.put, List.setIfInBounds_toArray, List.set_cons_zero, List.set_cons_succ])
        refine mix_step (o := ⟨_, _, _, _, _, _⟩) rfl (fun K hK => ?_)
        go_simp
        refine (cloneS_any (Bstr n) _ hszn).mono ?_
        rintro e w3 ⟨rfl, hb3⟩
        have hb13 := hb2.drew.trans (hb3.mono hb2.drew.size)
        refine hK.out _ _ ((hb13.cell (p := ⟨g, 1, none⟩) hgl).trans (by have := HBK.out.cell 1; simpa using this)) ?_
        clear hK K
        try simp only [Act.put, List.setIfInBounds_toArray, List.set_cons_zero, List.set_cons_succ]
        refine mix_step (o := ⟨_, _, _, _, _, _⟩) rfl (fun K hK => ?_)
        go_simp
        refine (bclone_any b _ _ (by omega) (HB1.out.below hb13)).mono ?_
        rintro e w4 ⟨x, rfl, hx, hb4⟩
        have hb14 := hb13.trans (hb4.mono hb13.size)
        refine hK.out _ _ ((hb14.cell (p := ⟨g, 1, none⟩) hgl).trans (by have := HBK.out.cell 1; simpa using this)) ?_
        clear hK K
        try simp only [Act.put, List.setIfInBounds_toArray, List.set_cons_zero, List.set_cons_succ]
        have hM4 := HM.out.below hb14
        have hxn : ∀ q, x.ownBlock = some q → ¬ F q := fun q hq hFq => by
          have h1 := hx.ge q hq
          have h2 := H1.out.lt q hFq
          have h3 := hb13.size
          omega
        have hmg : mb ≠ g := hM4.mg
        have hMx : M < maxLen := by simp only [maxLen]; omega
        obtain ⟨w5, hrun, hown5, hg5⟩ := hM4.own.update lawS Try.underlying60 hMx (keyS n hn) (val := x) (d := .held x) (ps := []) rfl
        have hM5 := hM4.put hown5 hg5 (hx.lower (Nat.zero_le _)) hxn hfg hn32 hr' hfn HFO.out
        have hBk5 : Blk w5 g 62 #[.int .i64 m.room, .map (some mb), .int .i64 (U : Int), .int .i64 (callS m).calls, .int .i64 W] := (HBK.out.below hb14 hgl).grown hg5 (fun e => hmg (by injection e with e; exact e.symm))
        have i1 := hBk5.cell 1
        simp at i1
        refine mix_step (o := ⟨_, _, _, _, _, _⟩) rfl (fun K hK => ?_)
        go_simp
        refine hK.out _ _ i1 ?_
        clear hK K
        try simp only [Act.put, List.setIfInBounds_toArray, List.set_cons_zero, List.set_cons_succ]
        refine mix_done ?_
        have i2 := hBk5.cell 2
        have f2 := hBk5.frozen 2
        simp at i2
        have HBK5 := Lib.hid hBk5
        have HM5 := Lib.hid hM5
        have hxl : ∀ q, x.ownBlock = some q → q < w4.heap.size := fun q hq => by
          obtain ⟨A, c, e, _, _, _, hlt⟩ := hx.form
          subst e
          cases A with
          | none => simp [Value.ownBlock] at hq
          | some a => simp [Value.ownBlock] at hq; have := (hlt a rfl).2; omega
        have HXL := Lib.hid hxl
        have HXG := Lib.hid hx.ge
        have hA5 : Apt F w w5 := (HA1.out.trans (Apt.of_below hb14)).trans (Apt.of_grown hg5 fun q hq => by injection hq with hq; subst hq; exact HM.out.Fm)
        clear hM4 hM5 hBk5 hrun hown5 hx hxl j0 j1
        go_wp2_with fail
        go_ret
        have hgs := grown_set w5 g 2 (.int .i64 ((U : Int) - (kv : Int) + (b.length : Int)))
        have hbk6 := HBK5.out.set_ 2 (.int .i64 ((U : Int) - (kv : Int) + (b.length : Int)))
        simp only [List.setIfInBounds_toArray, List.set_cons_succ, List.set_cons_zero] at hbk6
        have hsz : ∀ q, (F q ∨ x.ownBlock = some q) → q < w5.heap.size := fun q hq => by
          rcases hq with hq | hq
          · exact Nat.lt_of_lt_of_le (Nat.lt_of_lt_of_le (H1.out.lt q hq) hb14.size) hg5.size
          · exact Nat.lt_of_lt_of_le (HXL.out q hq) hg5.size
        rw [HP.out]
        refine ⟨rfl, fun q => F q ∨ x.ownBlock = some q, ⟨fun q hq => Nat.lt_of_lt_of_le (hsz q hq) hgs.size, .inl hfg, mb, _, M + 1, W, ?_, HM5.out.set _ _, ?_, hW, hlf⟩, hA5.trans (Apt.of_grown hgs fun q hq => by injection hq with hq; subst hq; exact hfg), fun q hq => ?_⟩
        · show Blk _ _ _ #[.int .i64 m.room, .map (some mb), .int .i64 ((usedL l' : Nat) : Int), .int .i64 (callS m).calls, .int .i64 W]
          rw [HU'.out]
          exact hbk6
        · show ((M + 1 : Nat) : Int) + 0 ≤ (callS m).calls
          omega
        · rcases hq with hq | hq
          · exact .inl hq
          · have h1 := HXG.out q hq
            have h2 := hb13.size
            have h3 := hg1.size
            exact .inr (by omega)

end Go.Proofs.Ytihpnkhkbbakbaa
