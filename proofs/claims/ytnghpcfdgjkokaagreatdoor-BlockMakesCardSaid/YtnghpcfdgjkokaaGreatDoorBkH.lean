/-
  CONTRACT of the document's Make: a block's objects and its meta. Conditions: at most 200 traces, 10000000 spans.
-/
import Derived.Test.YtnghpcfdgjkokaaGreatDoorBkG
namespace Go.Proofs.YtnghpcfdgjkokaaGreatDoor
open Go.RowKit
set_option maxRecDepth 100000

/-- what the document's Make tells -/
def DMakeP (w w' : World) (id : Nat) (lv : Int) (l : List Tn) (s : Sz) (e : Ending) : Prop :=
  (¬ BkOk id lv l s ∧ e = .returned (.tuple #[.slice none 0 0, meV Me.zero, .int .i64 1])) ∨ (BkOk id lv l s ∧ ∃ x, e = .returned (.tuple #[x, meV (bkMe id lv l s), .int .i64 0]) ∧ OwnL 2 w' w.heap.size 44 x ((bkObs id lv l s).map obC))

set_option maxHeartbeats 12800000 in
theorem DMake_bad (id : Nat) (lv : Int) (v : Value) (l : List Tn) (s : Sz) (w : World) (h : Ts w v l) (hno : ¬ BkOk id lv l s) :
    Calls Tryz.prog 9 #[.int .u64 (id : Int), .int .i64 lv, v, szV s] w fun e w' => DMakeP w w' id lv l s e ∧ Below w.heap.size w w' := by
  obtain ⟨pg, sh, bi, hs'⟩ := s
  obtain ⟨A, c, rfl, hc1, hc2⟩ := h.form
  have H := Lib.hid h
  have HI0 := Lib.hid (BxR.start w #[.int .i64 pg, .int .i64 sh, .int .i64 bi, .int .i64 hs'] meZ)
  have hSz := fun u => DSizes_any ⟨pg, sh, bi, hs'⟩ u
  have hIs := fun u (hu : Ts u (.slice A l.length c) l) => Is_any _ l u hu
  simp only [szV] at hSz ⊢
  clear h
  cases hS : szB ⟨pg, sh, bi, hs'⟩ with
  | false =>
    have HN : Hid (¬ BkOk id lv l ⟨pg, sh, bi, hs'⟩) := Lib.hid fun h => by rw [h.sz] at hS; cases hS
    rw [hS] at hSz
    generalize isB l = bb at hIs
    clear hS
    go_enter Tryz.func9, Tryz.ntmps9
    go_wp2_with fail
    revert HI0
    generalize ((w.alloc (.cells #[.int .i64 pg, .int .i64 sh, .int .i64 bi, .int .i64 hs'] 25)).alloc (.cells meZ 30)) = w1
    intro HI0
    refine (hSz _).mono ?_
    rintro e w2 ⟨rfl, hb2⟩
    have HI2 := Lib.hid (HI0.out.later hb2)
    clear hb2 HI0 hSz
    go_wp2_with fail
    refine (hIs _ (H.out.below HI2.out.bel)).mono ?_
    rintro e w3 ⟨rfl, hb3⟩
    have HI3 := Lib.hid (HI2.out.later hb3)
    clear hb3 HI2 hIs
    have hfz := fun i => HI3.out.b9.frozen i
    have r0 := HI3.out.b9.cell 0
    have r1 := HI3.out.b9.cell 1
    have r2 := HI3.out.b9.cell 2
    have r3 := HI3.out.b9.cell 3
    have r4 := HI3.out.b9.cell 4
    have r5 := HI3.out.b9.cell 5
    simp at r0 r1 r2 r3 r4 r5
    go_wp2_with fail
    have hm2 := setall6 _ HI3.out.b9 (.int .u64 0) (.int .i64 0) (.int .i64 0) (.int .i64 0) (.int .i64 0) (.int .i64 0)
    have hg2 := gset6 w3 (w.heap.size + 1) (.int .u64 0) (.int .i64 0) (.int .i64 0) (.int .i64 0) (.int .i64 0) (.int .i64 0)
    refine bodyPost_ret (v := .tuple #[.slice none 0 0, meV Me.zero, .int .i64 1]) (by have c := hm2.cell; simp [results, go_sem, c]; try rfl) rfl ?_
    exact ⟨.inl ⟨HN.out, rfl⟩, HI3.out.bel.grown hg2 HI3.out.bel.size (by intro z hz; have := Option.some.inj hz; have := HI3.out.h9; omega)⟩
  | true =>
    rw [hS] at hSz
    have HS := Lib.hid hS
    clear hS
    by_cases hl0 : l = []
    · subst hl0
      have HN : Hid (¬ BkOk id lv [] ⟨pg, sh, bi, hs'⟩) := Lib.hid fun h => h.ne rfl
      generalize isB [] = bb at hIs
      simp only [List.length_nil] at H hc1 hIs ⊢
      go_enter Tryz.func9, Tryz.ntmps9
      go_wp2_with fail
      revert HI0
      generalize ((w.alloc (.cells #[.int .i64 pg, .int .i64 sh, .int .i64 bi, .int .i64 hs'] 25)).alloc (.cells meZ 30)) = w1
      intro HI0
      refine (hSz _).mono ?_
      rintro e w2 ⟨rfl, hb2⟩
      have HI2 := Lib.hid (HI0.out.later hb2)
      clear hb2 HI0 hSz
      go_wp2_with fail
      refine (hIs _ (H.out.below HI2.out.bel)).mono ?_
      rintro e w3 ⟨rfl, hb3⟩
      have HI3 := Lib.hid (HI2.out.later hb3)
      clear hb3 HI2 hIs
      have hfz := fun i => HI3.out.b9.frozen i
      have r0 := HI3.out.b9.cell 0
      have r1 := HI3.out.b9.cell 1
      have r2 := HI3.out.b9.cell 2
      have r3 := HI3.out.b9.cell 3
      have r4 := HI3.out.b9.cell 4
      have r5 := HI3.out.b9.cell 5
      simp at r0 r1 r2 r3 r4 r5
      go_wp2_with fail
      have hm2 := setall6 _ HI3.out.b9 (.int .u64 0) (.int .i64 0) (.int .i64 0) (.int .i64 0) (.int .i64 0) (.int .i64 0)
      have hg2 := gset6 w3 (w.heap.size + 1) (.int .u64 0) (.int .i64 0) (.int .i64 0) (.int .i64 0) (.int .i64 0) (.int .i64 0)
      refine bodyPost_ret (v := .tuple #[.slice none 0 0, meV Me.zero, .int .i64 1]) (by have c := hm2.cell; simp [results, go_sem, c]; try rfl) rfl ?_
      exact ⟨.inl ⟨HN.out, rfl⟩, HI3.out.bel.grown hg2 HI3.out.bel.size (by intro z hz; have := Option.some.inj hz; have := HI3.out.h9; omega)⟩
    have hlp : 0 < l.length := List.length_pos_iff.2 hl0
    have kl : ((l.length : Int) == 0) = false := by rw [beq_eq_false_iff_ne]; omega
    by_cases hI : IsT l
    · rw [isB_true hI] at hIs
      by_cases hi0 : id = 0
      · subst hi0
        have HN : Hid (¬ BkOk 0 lv l ⟨pg, sh, bi, hs'⟩) := Lib.hid fun h => h.id0 rfl
        go_enter Tryz.func9, Tryz.ntmps9
        go_wp2_with fail
        revert HI0
        generalize ((w.alloc (.cells #[.int .i64 pg, .int .i64 sh, .int .i64 bi, .int .i64 hs'] 25)).alloc (.cells meZ 30)) = w1
        intro HI0
        refine (hSz _).mono ?_
        rintro e w2 ⟨rfl, hb2⟩
        have HI2 := Lib.hid (HI0.out.later hb2)
        clear hb2 HI0 hSz
        go_wp2_with fail
        refine (hIs _ (H.out.below HI2.out.bel)).mono ?_
        rintro e w3 ⟨rfl, hb3⟩
        have HI3 := Lib.hid (HI2.out.later hb3)
        clear hb3 HI2 hIs
        have hfz := fun i => HI3.out.b9.frozen i
        have r0 := HI3.out.b9.cell 0
        have r1 := HI3.out.b9.cell 1
        have r2 := HI3.out.b9.cell 2
        have r3 := HI3.out.b9.cell 3
        have r4 := HI3.out.b9.cell 4
        have r5 := HI3.out.b9.cell 5
        simp at r0 r1 r2 r3 r4 r5
        go_wp2_with fail
        have hm2 := setall6 _ HI3.out.b9 (.int .u64 0) (.int .i64 0) (.int .i64 0) (.int .i64 0) (.int .i64 0) (.int .i64 0)
        have hg2 := gset6 w3 (w.heap.size + 1) (.int .u64 0) (.int .i64 0) (.int .i64 0) (.int .i64 0) (.int .i64 0) (.int .i64 0)
        refine bodyPost_ret (v := .tuple #[.slice none 0 0, meV Me.zero, .int .i64 1]) (by have c := hm2.cell; simp [results, go_sem, c]; try rfl) rfl ?_
        exact ⟨.inl ⟨HN.out, rfl⟩, HI3.out.bel.grown hg2 HI3.out.bel.size (by intro z hz; have := Option.some.inj hz; have := HI3.out.h9; omega)⟩
      have ki : ((id : Int) == 0) = false := by rw [beq_eq_false_iff_ne]; omega
      by_cases hv0 : lv < 0
      · have HN : Hid (¬ BkOk id lv l ⟨pg, sh, bi, hs'⟩) := Lib.hid fun h => by have := h.lv0; omega
        go_enter Tryz.func9, Tryz.ntmps9
        go_wp2_with fail
        revert HI0
        generalize ((w.alloc (.cells #[.int .i64 pg, .int .i64 sh, .int .i64 bi, .int .i64 hs'] 25)).alloc (.cells meZ 30)) = w1
        intro HI0
        refine (hSz _).mono ?_
        rintro e w2 ⟨rfl, hb2⟩
        have HI2 := Lib.hid (HI0.out.later hb2)
        clear hb2 HI0 hSz
        go_wp2_with fail
        refine (hIs _ (H.out.below HI2.out.bel)).mono ?_
        rintro e w3 ⟨rfl, hb3⟩
        have HI3 := Lib.hid (HI2.out.later hb3)
        clear hb3 HI2 hIs
        have hfz := fun i => HI3.out.b9.frozen i
        have r0 := HI3.out.b9.cell 0
        have r1 := HI3.out.b9.cell 1
        have r2 := HI3.out.b9.cell 2
        have r3 := HI3.out.b9.cell 3
        have r4 := HI3.out.b9.cell 4
        have r5 := HI3.out.b9.cell 5
        simp at r0 r1 r2 r3 r4 r5
        go_wp2_with fail
        have hm2 := setall6 _ HI3.out.b9 (.int .u64 0) (.int .i64 0) (.int .i64 0) (.int .i64 0) (.int .i64 0) (.int .i64 0)
        have hg2 := gset6 w3 (w.heap.size + 1) (.int .u64 0) (.int .i64 0) (.int .i64 0) (.int .i64 0) (.int .i64 0) (.int .i64 0)
        refine bodyPost_ret (v := .tuple #[.slice none 0 0, meV Me.zero, .int .i64 1]) (by have c := hm2.cell; simp [results, go_sem, c]; try rfl) rfl ?_
        exact ⟨.inl ⟨HN.out, rfl⟩, HI3.out.bel.grown hg2 HI3.out.bel.size (by intro z hz; have := Option.some.inj hz; have := HI3.out.h9; omega)⟩
      by_cases hv1 : 10 < lv
      · have HN : Hid (¬ BkOk id lv l ⟨pg, sh, bi, hs'⟩) := Lib.hid fun h => by have := h.lv1; omega
        go_enter Tryz.func9, Tryz.ntmps9
        go_wp2_with fail
        revert HI0
        generalize ((w.alloc (.cells #[.int .i64 pg, .int .i64 sh, .int .i64 bi, .int .i64 hs'] 25)).alloc (.cells meZ 30)) = w1
        intro HI0
        refine (hSz _).mono ?_
        rintro e w2 ⟨rfl, hb2⟩
        have HI2 := Lib.hid (HI0.out.later hb2)
        clear hb2 HI0 hSz
        go_wp2_with fail
        refine (hIs _ (H.out.below HI2.out.bel)).mono ?_
        rintro e w3 ⟨rfl, hb3⟩
        have HI3 := Lib.hid (HI2.out.later hb3)
        clear hb3 HI2 hIs
        have hfz := fun i => HI3.out.b9.frozen i
        have r0 := HI3.out.b9.cell 0
        have r1 := HI3.out.b9.cell 1
        have r2 := HI3.out.b9.cell 2
        have r3 := HI3.out.b9.cell 3
        have r4 := HI3.out.b9.cell 4
        have r5 := HI3.out.b9.cell 5
        simp at r0 r1 r2 r3 r4 r5
        go_wp2_with fail
        have hm2 := setall6 _ HI3.out.b9 (.int .u64 0) (.int .i64 0) (.int .i64 0) (.int .i64 0) (.int .i64 0) (.int .i64 0)
        have hg2 := gset6 w3 (w.heap.size + 1) (.int .u64 0) (.int .i64 0) (.int .i64 0) (.int .i64 0) (.int .i64 0) (.int .i64 0)
        refine bodyPost_ret (v := .tuple #[.slice none 0 0, meV Me.zero, .int .i64 1]) (by have c := hm2.cell; simp [results, go_sem, c]; try rfl) rfl ?_
        exact ⟨.inl ⟨HN.out, rfl⟩, HI3.out.bel.grown hg2 HI3.out.bel.size (by intro z hz; have := Option.some.inj hz; have := HI3.out.h9; omega)⟩
      exact absurd ⟨HS.out, hl0, hI, hi0, by omega, by omega⟩ hno
    · rw [isB_false hI] at hIs
      have HN : Hid (¬ BkOk id lv l ⟨pg, sh, bi, hs'⟩) := Lib.hid fun h => hI h.is
      go_enter Tryz.func9, Tryz.ntmps9
      go_wp2_with fail
      revert HI0
      generalize ((w.alloc (.cells #[.int .i64 pg, .int .i64 sh, .int .i64 bi, .int .i64 hs'] 25)).alloc (.cells meZ 30)) = w1
      intro HI0
      refine (hSz _).mono ?_
      rintro e w2 ⟨rfl, hb2⟩
      have HI2 := Lib.hid (HI0.out.later hb2)
      clear hb2 HI0 hSz
      go_wp2_with fail
      refine (hIs _ (H.out.below HI2.out.bel)).mono ?_
      rintro e w3 ⟨rfl, hb3⟩
      have HI3 := Lib.hid (HI2.out.later hb3)
      clear hb3 HI2 hIs
      have hfz := fun i => HI3.out.b9.frozen i
      have r0 := HI3.out.b9.cell 0
      have r1 := HI3.out.b9.cell 1
      have r2 := HI3.out.b9.cell 2
      have r3 := HI3.out.b9.cell 3
      have r4 := HI3.out.b9.cell 4
      have r5 := HI3.out.b9.cell 5
      simp at r0 r1 r2 r3 r4 r5
      go_wp2_with fail
      have hm2 := setall6 _ HI3.out.b9 (.int .u64 0) (.int .i64 0) (.int .i64 0) (.int .i64 0) (.int .i64 0) (.int .i64 0)
      have hg2 := gset6 w3 (w.heap.size + 1) (.int .u64 0) (.int .i64 0) (.int .i64 0) (.int .i64 0) (.int .i64 0) (.int .i64 0)
      refine bodyPost_ret (v := .tuple #[.slice none 0 0, meV Me.zero, .int .i64 1]) (by have c := hm2.cell; simp [results, go_sem, c]; try rfl) rfl ?_
      exact ⟨.inl ⟨HN.out, rfl⟩, HI3.out.bel.grown hg2 HI3.out.bel.size (by intro z hz; have := Option.some.inj hz; have := HI3.out.h9; omega)⟩

end Go.Proofs.YtnghpcfdgjkokaaGreatDoor
