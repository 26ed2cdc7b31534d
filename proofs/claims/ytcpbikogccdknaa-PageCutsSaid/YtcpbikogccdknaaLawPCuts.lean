/-
  tankardlaw05.PageCuts, walked: it returns true at every list of at most 2^47 traces, and every number; nothing that was there has turned.
-/
import Derived.Test.YtcpbikogccdknaaPgH
namespace Go.Proofs.Ytcpbikogccdknaa
open Go.RowKit Go.Maps
set_option maxRecDepth 100000

set_option maxHeartbeats 3200000 in
theorem pageCuts_any (v : Value) (l : List Tn) (most : Int) (w : World) (h : Ts w v l) (hll : l.length ≤ 140737488355328) :
    Calls Try.prog 5 #[v, .int .i64 most] w fun e w' => e = .returned (.bool true) ∧ Below w.heap.size w w' := by
  have H := Lib.hid h
  have eqc := eqCode
  obtain ⟨A, c, rfl, hc1, hc2⟩ := h.form
  clear h
  go_enter Try.func5, Try.ntmps5
  go_wp2_with fail
  refine (up5_any _).mono ?_
  rintro e w1 ⟨rfl, hb1⟩
  go_wp2_with fail
  refine (FewTraces_any _ l 200 w1 (H.out.below hb1) hll).mono ?_
  rintro e w2 ⟨rfl, rfl⟩
  cases hf : fewT l 200 with
  | false =>
    clear hf
    go_wp2_with fail
    go_ret
    exact ⟨rfl, hb1⟩
  | true =>
    obtain ⟨hl1, _, _⟩ := pfew (n := 200) hf
    clear hf
    go_wp2_with fail
    refine (pcut_any _ l most _ (H.out.below hb1) (by omega)).mono ?_
    rintro e w2 ⟨x, er, rfl, hP, hb2⟩
    have hB2 := hb1.trans (hb2.mono hb1.size)
    cases hi : isB l with
    | false =>
      obtain ⟨rfl, rfl⟩ := hP.no fun hh => by rw [isB_true hh.1] at hi; cases hi
      have hI := Is_any _ l _ (H.out.below hB2)
      rw [hi] at hI
      clear hP hi
      go_wp2_with fail
      refine hI.mono ?_
      rintro e w3 ⟨rfl, hb3⟩
      have hB3 := hB2.trans (hb3.mono hB2.size)
      go_wp2_with fail
      go_ret
      exact ⟨rfl, hB3⟩
    | true =>
      have HIS : Hid (IsT l) := Lib.hid (by
        rcases Classical.em (IsT l) with h | h
        · exact h
        · rw [isB_false h] at hi; cases hi)
      have hI := Is_any _ l _ (H.out.below hB2)
      rw [hi] at hI
      clear hi
      by_cases hm : 64 ≤ most ∧ most ≤ 8192
      · obtain ⟨hm1, hm2⟩ := hm
        obtain ⟨rfl, hPs⟩ := hP.yes HIS.out hm1 hm2
        have HPs := Lib.hid hPs
        obtain ⟨Ax, cx, hxv, hx1, hx2⟩ := hPs.form
        subst hxv
        clear hP hPs
        go_wp2_with fail
        refine hI.mono ?_
        rintro e w3 ⟨rfl, hb3⟩
        have hB3 := hB2.trans (hb3.mono hB2.size)
        go_wp2_with fail
        refine (Cut_nat most l.length _ l _ _ (H.out.below hB3) (Below.refl _ _) HIS.out (Nat.le_refl _) (by omega)).mono ?_
        rintro e w4 ⟨y, xs, rfl, hLv, hT, hb4⟩
        have hB4 := hB3.trans (hb4.mono hB3.size)
        have hQs : Ps w4 y (cutL most l.length l) := ⟨xs, hLv, hT.mono fun _ _ h => h.below hb4⟩
        have HQs := Lib.hid hQs
        have HPs4 := Lib.hid (HPs.out.below (hb3.trans (hb4.mono hb3.size)))
        obtain ⟨Ay, cy, hyv, hy1, hy2⟩ := hQs.form
        subst hyv
        clear hQs hT hLv HPs hb2 hb3 hb4 hI
        generalize cutL most l.length l = C at *
        go_wp2_with fail
        go_loopw [11] (fun iv wr => ∃ k : Nat, k ≤ C.length ∧ iv = .int .i64 (k : Int) ∧ Below w4.heap.size w4 wr) (fun iv _ => C.length - (intOf iv).toNat)
        case atStart => exact ⟨0, Nat.zero_le _, rfl, Below.refl _ _⟩
        case round =>
          obtain ⟨k, hk, rfl, hB⟩ := hrel
          by_cases hlt : k < C.length
          · obtain ⟨p, hkp⟩ : ∃ p, C[k]? = some p := ⟨_, List.getElem?_eq_getElem hlt⟩
            obtain ⟨g, o, d, rfl, hg, x0, hd⟩ := (HPs4.out.below hB).cells hkp
            obtain ⟨g', o', d', rfl, hg', y0, hd'⟩ := (HQs.out.below hB).cells hkp
            have r0 : ∀ u, Below wr.heap.size wr u → u.cell? ⟨g, o + k, none⟩ = some d := fun u h => (h.cell hg).trans x0
            have t0 : ∀ u, Below wr.heap.size wr u → u.cell? ⟨g', o' + k, none⟩ = some d' := fun u h => (h.cell hg').trans y0
            have hb0 : (0 : Int) ≤ (k : Int) := by omega
            have hb1 : (k : Int) < (C.length : Int) := by omega
            have V1 : Ts wr.drew d p := hd
            have V2 : Ts wr.drew d' p := hd'
            clear x0 y0 hkp hd hd'
            go_wp2_with fail
            refine wp_region_mix [(0, false), (1, false), (2, false), (3, false), (4, false), (5, false), (6, false), (7, false), (8, true), (9, true)] (fun u => Below wr.heap.size wr u) (by kernel_rfl) (by kernel_rfl) (by decide +kernel) rfl (Below.refl _ _).drew ?_
            repeat
              (refine mix_read (o := ⟨_, _, _, _, _, _⟩) (v := ?_) rfl (by rfl) (fun w' hS => ?_) ?_
               rotate_left
               go_simp
               with_reducible rfl
               try simp only [Act.put, List.setIfInBounds_toArray, List.set_cons_zero, List.set_cons_succ])
            refine mix_step (o := ⟨_, _, _, _, _, _⟩) rfl (fun K hK => ?_)
            go_simp
            refine (Traces_same _ _ p _ V1 V2).mono ?_
            rintro e u1 ⟨rfl, hu1⟩
            have hU : Below wr.heap.size wr u1 := ⟨hu1.os, hu1.tape, hu1.output, hu1.size, hu1.block⟩
            refine hK.out _ _ hU ?_
            clear hK K
            try simp only [Act.put, List.setIfInBounds_toArray, List.set_cons_zero, List.set_cons_succ]
            refine mix_step (o := ⟨_, _, _, _, _, _⟩) rfl (fun K hK => ?_)
            go_simp
            refine hK.out _ _ hU ?_
            clear hK K
            refine mix_done ?_
            clear r0 t0 V1 V2
            go_wp2_with fail
            exact ⟨⟨k + 1, by omega, by go_num, hB.trans (hU.mono hB.size)⟩, by simp [intOf]; omega⟩
          · go_wp2_with fail
            go_ret
            exact ⟨rfl, hB4.trans (hB.mono hB4.size)⟩
      · obtain ⟨rfl, rfl⟩ := hP.no fun hh => hm ⟨hh.2.1, hh.2.2⟩
        clear hP
        by_cases hm1 : most < 64
        · clear hm
          go_wp2_with fail
          refine hI.mono ?_
          rintro e w3 ⟨rfl, hb3⟩
          have hB3 := hB2.trans (hb3.mono hB2.size)
          go_wp2_with fail
          go_ret
          exact ⟨rfl, hB3⟩
        · have hm2 : 8192 < most := by omega
          clear hm
          go_wp2_with fail
          refine hI.mono ?_
          rintro e w3 ⟨rfl, hb3⟩
          have hB3 := hB2.trans (hb3.mono hB2.size)
          go_wp2_with fail
          go_ret
          exact ⟨rfl, hB3⟩

end Go.Proofs.Ytcpbikogccdknaa
