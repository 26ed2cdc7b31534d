/-
  CONTRACTS of the document's counts, Gather, Of. Conditions: at most 1000000 spans.
-/
import Derived.Test.YtpanpebllapbcaaTrG
import Derived.Test.YtpanpebllapbcaaKee
namespace Go.Proofs.Ytpanpebllapbcaa
open Go.RowKit
set_option maxRecDepth 100000


theorem spE : Try.prog.elem 33 = 51 := by kernel_rfl

/-- l[:m] and l[m:] -/
theorem ss_cut {w : World} {A : Option Addr} {n c : Nat} {l : List Sn} (h : Ss w (.slice A n c) l) (m : Nat) (hm : m ≤ l.length) :
    ∃ V U, (∀ u, (Instr.slice 33 (.slice A n c) none (some (.int .i64 (m : Int))) none).run Try.prog u = .ok V u) ∧ (∀ u, (Instr.slice 33 (.slice A n c) (some (.int .i64 (m : Int))) none none).run Try.prog u = .ok U u) ∧ Ss w V (l.take m) ∧ Ss w U (l.drop m) := by
  obtain ⟨A', c', hv, h1, h2⟩ := h.form
  injection hv with e1 e2 e3
  subst e1 e2 e3
  obtain ⟨xs, hx, ht⟩ := h
  exact ⟨_, _, run_slice_upto spT spE m hm h1, run_slice_from spT spE m hm h1, ⟨_, hx.upto m hm, ht.take m⟩, ⟨_, hx.from_ m hm, ht.drop m⟩⟩

/-- does l's k-th one keep the span s, l's i-th one, from counting? -/
def badC (l : List Sn) (s : Sn) (i k : Nat) : Bool := match l[k]? with
  | some t => keyB t s && (lessB t s || (sameB t s && decide (k < i)))
  | none => false
def cntB (l : List Sn) (s : Sn) (i : Nat) : Bool := (List.range l.length).all fun k => !badC l s i k

theorem cntB_true {l : List Sn} {s : Sn} {i : Nat} : cntB l s i = true ↔ ∀ k, k < l.length → badC l s i k = false := by
  simp [cntB, List.all_eq_true]
theorem cntB_false {l : List Sn} {s : Sn} {i k : Nat} (hk : k < l.length) (h : badC l s i k = true) : cntB l s i = false := by
  cases hc : cntB l s i with
  | false => rfl
  | true =>
    have := cntB_true.1 hc k hk
    rw [h] at this
    cases this

set_option maxHeartbeats 3200000 in
set_option maxRecDepth 100000 in
theorem counts_any (v : Value) (l : List Sn) (i : Nat) (s : Sn) (w : World) (h : Ss w v l) (hi : l[i]? = some s) :
    Calls Try.prog 44 #[v, .int .i64 (i : Int)] w fun e w' => e = .returned (.bool (cntB l s i)) ∧ Below w.heap.size w w' := by
  obtain ⟨A, c, rfl, hc1, hc2⟩ := h.form
  have H := Lib.hid h
  have HI := Lib.hid hi
  have hil : i < l.length := (List.getElem?_eq_some_iff.1 hi).1
  obtain ⟨g, o, d, rfl, hg, c0, c1, c2, c3, c4, hdd, hok⟩ := h.cells hi
  have HDD := Lib.hid hdd
  have HOK := Lib.hid hok
  have C0 := Lib.hid c0
  have C1 := Lib.hid c1
  have C2 := Lib.hid c2
  have C3 := Lib.hid c3
  have C4 := Lib.hid c4
  clear h hi c0 c1 c2 c3 c4 hdd hok
  go_enter Try.func44, Try.ntmps44
  go_wp2_with fail
  go_loopw [5, 6, 7] (fun kv _ _ wr => ∃ k : Nat, k ≤ l.length ∧ kv = .int .i64 (k : Int) ∧ Below w.heap.size w wr ∧ Hid (∀ j, j < k → badC l s i j = false)) (fun kv _ _ _ => l.length - (intOf kv).toNat)
  case atStart => exact ⟨0, Nat.zero_le _, rfl, Below.refl _ _, Lib.hid (fun j hj => absurd hj (Nat.not_lt_zero _))⟩
  case round =>
    obtain ⟨k, hk, rfl, hB, HBAD⟩ := hrel
    by_cases hkl : k < l.length
    · obtain ⟨t, hkt⟩ : ∃ t, l[k]? = some t := ⟨_, List.getElem?_eq_getElem hkl⟩
      obtain ⟨g', o', d', hA, hg', x0, x1, x2, x3, x4, hdd', hok'⟩ := H.out.cells hkt
      injection hA with hA
      injection hA with e1 e2
      subst e1 e2
      have c0 := (hB.cell (p := ⟨g, o + i * 5, none⟩) hg).trans C0.out
      have c1 := (hB.cell (p := ⟨g, o + i * 5 + 1, none⟩) hg).trans C1.out
      have c2 := (hB.cell (p := ⟨g, o + i * 5 + 2, none⟩) hg).trans C2.out
      have c3 := (hB.cell (p := ⟨g, o + i * 5 + 3, none⟩) hg).trans C3.out
      have c4 := (hB.cell (p := ⟨g, o + i * 5 + 4, none⟩) hg).trans C4.out
      replace x0 := (hB.cell (p := ⟨g, o + k * 5, none⟩) hg).trans x0
      replace x1 := (hB.cell (p := ⟨g, o + k * 5 + 1, none⟩) hg).trans x1
      replace x2 := (hB.cell (p := ⟨g, o + k * 5 + 2, none⟩) hg).trans x2
      replace x3 := (hB.cell (p := ⟨g, o + k * 5 + 3, none⟩) hg).trans x3
      replace x4 := (hB.cell (p := ⟨g, o + k * 5 + 4, none⟩) hg).trans x4
      have hb0 : (0 : Int) ≤ (k : Int) := by omega
      have hb1 : (k : Int) < (l.length : Int) := by omega
      have hb2 : (0 : Int) ≤ (i : Int) := by omega
      have hb3 : (i : Int) < (l.length : Int) := by omega
      have HBA : Hid (badC l s i k = (keyB t s && (lessB t s || (sameB t s && decide (k < i))))) := Lib.hid (by rw [badC, hkt])
      have HDT := Lib.hid hdd'
      have HOT := Lib.hid hok'
      have next : badC l s i k = false → ∀ j, j < k + 1 → badC l s i j = false := fun h j hj => by
        rcases Nat.lt_or_eq_of_le (Nat.le_of_lt_succ hj) with h1 | h1
        · exact HBAD.out j h1
        · rw [h1]; exact h
      have NEXT := Lib.hid next
      clear hkt hdd' hok' next
      by_cases hk1 : t.tr = s.tr
      · have k1 : (t.tr == s.tr) = true := by simpa using hk1
        by_cases hk2 : t.id = s.id
        · have k2 : (t.id == s.id) = true := by simpa using hk2
          have k1' : (t.tr != s.tr) = false := by simpa using hk1
          have k2' : (t.id != s.id) = false := by simpa using hk2
          have HKEY : Hid (keyB t s = true) := Lib.hid (key_iff.2 ⟨hk1, hk2⟩)
          clear hk1 hk2
          go_wp2_with fail
          go_quiet (fail)
          go_wp2_with fail
          have V1 : SV (wr.drewN nq).drew (.agg #[.int .u64 s.tr, .int .u64 s.id, .int .i64 s.st, .int .i64 s.en, d]) s := ⟨HOK.out, d, rfl, show Bs wr d s.data from HDD.out.below hB⟩
          have V2 : SV (wr.drewN nq).drew (.agg #[.int .u64 t.tr, .int .u64 t.id, .int .i64 t.st, .int .i64 t.en, d']) t := ⟨HOT.out, d', rfl, show Bs wr d' t.data from HDT.out.below hB⟩
          have hgr := Nat.lt_of_lt_of_le hg hB.size
          have r0 : ∀ u, Below wr.heap.size wr u → u.cell? ⟨g, o + i * 5, none⟩ = some (.int .u64 s.tr) := fun u h => (h.cell hgr).trans c0
          have r1 : ∀ u, Below wr.heap.size wr u → u.cell? ⟨g, o + i * 5 + 1, none⟩ = some (.int .u64 s.id) := fun u h => (h.cell hgr).trans c1
          have r2 : ∀ u, Below wr.heap.size wr u → u.cell? ⟨g, o + i * 5 + 2, none⟩ = some (.int .i64 s.st) := fun u h => (h.cell hgr).trans c2
          have r3 : ∀ u, Below wr.heap.size wr u → u.cell? ⟨g, o + i * 5 + 3, none⟩ = some (.int .i64 s.en) := fun u h => (h.cell hgr).trans c3
          have r4 : ∀ u, Below wr.heap.size wr u → u.cell? ⟨g, o + i * 5 + 4, none⟩ = some d := fun u h => (h.cell hgr).trans c4
          have t0 : ∀ u, Below wr.heap.size wr u → u.cell? ⟨g, o + k * 5, none⟩ = some (.int .u64 t.tr) := fun u h => (h.cell hgr).trans x0
          have t1 : ∀ u, Below wr.heap.size wr u → u.cell? ⟨g, o + k * 5 + 1, none⟩ = some (.int .u64 t.id) := fun u h => (h.cell hgr).trans x1
          have t2 : ∀ u, Below wr.heap.size wr u → u.cell? ⟨g, o + k * 5 + 2, none⟩ = some (.int .i64 t.st) := fun u h => (h.cell hgr).trans x2
          have t3 : ∀ u, Below wr.heap.size wr u → u.cell? ⟨g, o + k * 5 + 3, none⟩ = some (.int .i64 t.en) := fun u h => (h.cell hgr).trans x3
          have t4 : ∀ u, Below wr.heap.size wr u → u.cell? ⟨g, o + k * 5 + 4, none⟩ = some d' := fun u h => (h.cell hgr).trans x4
          clear c0 c1 c2 c3 c4 x0 x1 x2 x3 x4
          refine wp_region_mix [(0, false), (1, false), (2, false), (3, false), (4, false), (5, false), (6, false), (7, false), (8, true), (9, true)] (fun u => Below wr.heap.size wr u) (by kernel_rfl) (by kernel_rfl) (by kernel_rfl) rfl (below_drewN (Below.refl _ _) nq).drew ?_
          have hS0 : Below wr.heap.size wr (wr.drewN nq).drew := (below_drewN (Below.refl _ _) nq).drew
          repeat
            (refine mix_read (o := ⟨_, _, _, _, _, _⟩) (v := ?_) rfl (by rfl) (fun w' hS => ?_) ?_
             rotate_left
             go_simp
             with_reducible rfl
             try simp only [Act.put, List.setIfInBounds_toArray, List.set_cons_zero, List.set_cons_succ])
          refine mix_step (o := ⟨_, _, _, _, _, _⟩) rfl (fun K hK => ?_)
          go_simp
          refine (Less_any _ _ t s _ V2 V1).mono ?_
          rintro e u1 ⟨rfl, hu1⟩
          have hU1 : Below wr.heap.size wr u1 := ⟨hu1.os, hu1.tape, hu1.output, hu1.size, hu1.block⟩
          refine hK.out _ _ hU1 ?_
          clear hK K
          try simp only [Act.put, List.setIfInBounds_toArray, List.set_cons_zero, List.set_cons_succ]
          refine mix_step (o := ⟨_, _, _, _, _, _⟩) rfl (fun K hK => ?_)
          go_simp
          refine hK.out _ _ hU1 ?_
          clear hK K
          refine mix_done ?_
          generalize lessB t s = bl at HBA ⊢
          have V3 : SV u1.drew (.agg #[.int .u64 s.tr, .int .u64 s.id, .int .i64 s.st, .int .i64 s.en, d]) s := ⟨HOK.out, d, rfl, show Bs u1 d s.data from (HDD.out.below hB).below hU1⟩
          have V4 : SV u1.drew (.agg #[.int .u64 t.tr, .int .u64 t.id, .int .i64 t.st, .int .i64 t.en, d']) t := ⟨HOT.out, d', rfl, show Bs u1 d' t.data from (HDT.out.below hB).below hU1⟩
          clear V1 V2 hS0
          go_wp2_with fail
          refine wp_region_mix [(0, false), (1, false), (2, false), (3, false), (4, false), (5, false), (6, false), (7, false), (8, true), (9, true)] (fun u => Below wr.heap.size wr u) (by kernel_rfl) (by kernel_rfl) (by kernel_rfl) rfl hU1.drew ?_
          repeat
            (refine mix_read (o := ⟨_, _, _, _, _, _⟩) (v := ?_) rfl (by rfl) (fun w' hS => ?_) ?_
             rotate_left
             go_simp
             with_reducible rfl
             try simp only [Act.put, List.setIfInBounds_toArray, List.set_cons_zero, List.set_cons_succ])
          refine mix_step (o := ⟨_, _, _, _, _, _⟩) rfl (fun K hK => ?_)
          go_simp
          refine (Same_any _ _ t s _ V4 V3).mono ?_
          rintro e u2 ⟨rfl, hu2⟩
          have hU2 : Below wr.heap.size wr u2 := hU1.trans (Below.mono ⟨hu2.os, hu2.tape, hu2.output, hu2.size, hu2.block⟩ hU1.size)
          refine hK.out _ _ hU2 ?_
          clear hK K
          try simp only [Act.put, List.setIfInBounds_toArray, List.set_cons_zero, List.set_cons_succ]
          refine mix_step (o := ⟨_, _, _, _, _, _⟩) rfl (fun K hK => ?_)
          go_simp
          refine hK.out _ _ hU2 ?_
          clear hK K
          refine mix_done ?_
          have hB2 := hB.trans (hU2.mono hB.size)
          generalize sameB t s = bs at HBA ⊢
          clear r0 r1 r2 r3 r4 t0 t1 t2 t3 t4 V3 V4
          cases bl with
          | true =>
            go_wp2_with fail
            go_ret
            refine ⟨ret_bool (cntB_false hkl ?_).symm, hB2⟩
            rw [HBA.out, HKEY.out]
            rfl
          | false =>
            cases bs with
            | false =>
              go_wp2_with fail
              refine ⟨⟨k + 1, by omega, by go_num, hB2, Lib.hid (NEXT.out ?_)⟩, by simp [intOf]; omega⟩
              rw [HBA.out]
              simp
            | true =>
              by_cases hki : k < i
              · have hki' : (k : Int) < (i : Int) := by omega
                have HKI := Lib.hid hki
                go_wp2_with fail
                go_ret
                refine ⟨ret_bool (cntB_false hkl ?_).symm, hB2⟩
                rw [HBA.out, HKEY.out]
                simp [HKI.out]
              · have hki' : ¬ (k : Int) < (i : Int) := by omega
                have HKI := Lib.hid hki
                go_wp2_with fail
                refine ⟨⟨k + 1, by omega, by go_num, hB2, Lib.hid (NEXT.out ?_)⟩, by simp [intOf]; omega⟩
                rw [HBA.out]
                have := HKI.out
                simp
                omega
        · have k2 : (t.id == s.id) = false := by simpa using hk2
          have k1' : (t.tr != s.tr) = false := by simpa using hk1
          have k2' : (t.id != s.id) = true := by simpa using hk2
          have HKEY : Hid (keyB t s = false) := Lib.hid (by simp [keyB, hk2])
          clear hk1 hk2
          go_wp2_with fail
          go_quiet (fail)
          go_wp2_with fail
          refine ⟨⟨k + 1, by omega, by go_num, below_drewN hB _, Lib.hid (NEXT.out ?_)⟩, by simp [intOf]; omega⟩
          rw [HBA.out, HKEY.out]
          rfl
      · have k1 : (t.tr == s.tr) = false := by simpa using hk1
        have k1' : (t.tr != s.tr) = true := by simpa using hk1
        have HKEY : Hid (keyB t s = false) := Lib.hid (by simp [keyB, hk1])
        clear hk1
        go_wp2_with fail
        go_quiet (fail)
        go_wp2_with fail
        refine ⟨⟨k + 1, by omega, by go_num, below_drewN hB _, Lib.hid (NEXT.out ?_)⟩, by simp [intOf]; omega⟩
        rw [HBA.out, HKEY.out]
        rfl
    · go_wp2_with fail
      go_ret
      exact ⟨ret_bool (cntB_true.2 fun j hj => HBAD.out j (by omega)).symm, hB⟩

end Go.Proofs.Ytpanpebllapbcaa
