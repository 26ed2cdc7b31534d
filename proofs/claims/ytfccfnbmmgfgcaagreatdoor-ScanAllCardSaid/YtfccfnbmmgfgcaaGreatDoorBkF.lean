/-
  CONTRACTS of the document's Sizes and Make (a block's objects and its meta). Conditions: at most 200 traces, 10000000 spans.
  CONTRACT of the document's Make: the walk of its first loop (a filter beside a meta). Conditions: at most 200 traces, 10000000 spans.
  CONTRACT of the document's Make: a block's objects and its meta. Conditions: at most 200 traces, 10000000 spans.
-/
import Derived.Test.YtfccfnbmmgfgcaaGreatDoorBkB
namespace Go.Proofs.YtfccfnbmmgfgcaaGreatDoor
open Go.RowKit
set_option maxRecDepth 100000

set_option maxHeartbeats 1600000 in
theorem DSizes_any (s : Sz) (w : World) : Calls Tryz.prog 65 #[szV s] w fun e w' => e = .returned (.bool (szB s)) ∧ Below w.heap.size w w' := by
  obtain ⟨pg, sh, bi, hs⟩ := s
  have HB0 : Hid (Below w.heap.size w (w.alloc (.cells #[.int .i64 pg, .int .i64 sh, .int .i64 bi, .int .i64 hs] 25))) := Lib.hid ((Below.refl _ _).alloc (Nat.le_refl _) _)
  have HS : Hid (szB ⟨pg, sh, bi, hs⟩ = (rightI sh bi hs && (decide (64 ≤ pg) && decide (pg ≤ 8192)))) := Lib.hid rfl
  have hR := fun u => Right_any sh bi hs u
  simp only [szV]
  cases hr : rightI sh bi hs with
  | false =>
    rw [hr] at hR HS
    go_enter Tryz.func65, Tryz.ntmps65
    go_wp2_with fail
    refine (hR _).mono ?_
    rintro e w1 ⟨rfl, rfl⟩
    go_wp2_with fail
    go_ret
    exact ⟨ret_bool (by rw [HS.out]; rfl), HB0.out⟩
  | true =>
    rw [hr] at hR HS
    by_cases h1 : 64 ≤ pg
    · by_cases h2 : pg ≤ 8192
      · go_enter Tryz.func65, Tryz.ntmps65
        go_wp2_with fail
        refine (hR _).mono ?_
        rintro e w1 ⟨rfl, rfl⟩
        go_wp2_with fail
        go_ret
        exact ⟨ret_bool (by rw [HS.out]; simp [h1, h2]), HB0.out⟩
      · go_enter Tryz.func65, Tryz.ntmps65
        go_wp2_with fail
        refine (hR _).mono ?_
        rintro e w1 ⟨rfl, rfl⟩
        go_wp2_with fail
        go_ret
        exact ⟨ret_bool (by rw [HS.out, decide_eq_false (show ¬ pg ≤ 8192 by omega), Bool.and_false, Bool.and_false]), HB0.out⟩
    · go_enter Tryz.func65, Tryz.ntmps65
      go_wp2_with fail
      refine (hR _).mono ?_
      rintro e w1 ⟨rfl, rfl⟩
      go_wp2_with fail
      go_ret
      exact ⟨ret_bool (by rw [HS.out, decide_eq_false (show ¬ 64 ≤ pg by omega), Bool.false_and, Bool.and_false]), HB0.out⟩

def SpR (w : World) (base : Nat) (v : Value) (l : List Sn) : Prop := ∃ xs, OwnL 5 w base 87 v xs ∧ Two (fun s x => s.ok ∧ ∃ d, x = spCells s d) l xs
section
variable {w u : World} {base : Nat} {v : Value} {l : List Sn} {bad : Nat → Prop}
theorem Own5.spR (h : Own5 w base v l) : SpR w base v l := by
  obtain ⟨xs, h1, h2⟩ := h
  refine ⟨xs, h1, h2.mono fun s x hx => ?_⟩
  obtain ⟨hok, d, he, _⟩ := hx
  exact ⟨hok, d, he⟩
theorem SpR.apt (h : SpR w base v l) (ha : Apt bad w u) (hb : ∀ q, v.ownBlock = some q → ¬ bad q) : SpR u base v l := by
  obtain ⟨xs, h1, h2⟩ := h
  exact ⟨xs, h1.apt ha hb, h2⟩
theorem SpR.below (h : SpR w base v l) (hb : Below w.heap.size w u) : SpR u base v l := h.apt (bad := fun _ => False) (Apt.of_below hb) fun _ _ h => h
theorem SpR.form (h : SpR w base v l) (hl : 0 < l.length) : ∃ g c, v = .slice (some ⟨g, 0, none⟩) l.length c ∧ l.length ≤ c ∧ c ≤ 9223372036854775807 ∧ base ≤ g ∧ g < w.heap.size := by
  obtain ⟨xs, h1, h2⟩ := h
  have e := h2.len
  rcases h1.1.2 with ⟨_, h0⟩ | ⟨g, cap, cur, hv, hb, hg, hn, hm, _⟩
  · omega
  · simp only [maxLen] at hm
    exact ⟨g, cap, by rw [hv, e], by omega, hm, hb, (Array.getElem?_eq_some_iff.1 hg).1⟩
theorem SpR.cells {g n c : Nat} (h : SpR w base (.slice (some ⟨g, 0, none⟩) n c) l) {i : Nat} {s : Sn} (hi : l[i]? = some s) :
    w.cell? ⟨g, i * 5, none⟩ = some (.int .u64 s.tr) ∧ w.cell? ⟨g, i * 5 + 2, none⟩ = some (.int .i64 s.st) ∧ w.cell? ⟨g, i * 5 + 3, none⟩ = some (.int .i64 s.en) ∧ s.ok := by
  obtain ⟨xs, h1, h2⟩ := h
  obtain ⟨x, hx, hok, d, rfl⟩ := h2.right hi
  obtain ⟨g', o, hA, hg, hc⟩ := h1.lv.cells (by omega) hx
  injection hA with hA
  injection hA with e1 e2
  subst e1 e2
  have c0 := hc 0 _ rfl
  have c2 := hc 2 _ rfl
  have c3 := hc 3 _ rfl
  simp only [Nat.zero_add, Nat.add_zero] at c0 c2 c3
  exact ⟨c0, c2, c3, hok⟩
end

structure FilM (w3 : World) (F0 : Nat → Prop) (gf gm : Nat) (b : Bl) (m : Me) (F : Nat → Prop) (u : World) : Prop where
  fil : DB u F gf b
  m : Blk u gm 62 (meC m)
  goes : Goes w3 (fun q => F0 q ∨ q = gm) u (fun q => F q ∨ q = gm)
  nf : ¬ F gm
section
variable {w3 u u' : World} {F0 F : Nat → Prop} {gf gm : Nat} {b b' : Bl} {m : Me}
theorem FilM.add (h : FilM w3 F0 gf gm b m F u) {F' : Nat → Prop} (hp : DB u' F' gf b') (hg : Goes u F u' F') : FilM w3 F0 gf gm b' m F' u' := by
  refine ⟨hp, (hg.apt.block gm h.m.lt h.nf).trans h.m, h.goes.trans ⟨hg.apt.mono fun q _ hq => .inl hq, fun q hq => ?_⟩, fun e => ?_⟩
  · rcases hq with hq | hq
    · exact (hg.new q hq).elim (fun h => .inl (.inl h)) .inr
    · exact .inl (.inr hq)
  · rcases hg.new gm e with h1 | h1
    · exact h.nf h1
    · have := h.m.lt
      omega
theorem FilM.below (h : FilM w3 F0 gf gm b m F u) (hb : Below u.heap.size u u') : FilM w3 F0 gf gm b m F u' :=
  ⟨(DB.thing gf b).keep h.fil (Apt.of_below hb), h.m.below hb h.m.lt, h.goes.later hb, h.nf⟩
theorem FilM.drewN (h : FilM w3 F0 gf gm b m F u) (n : Nat) : FilM w3 F0 gf gm b m F (u.drewN n) := h.below (below_drewN (Below.refl _ u) n)
theorem FilM.set_ (h : FilM w3 F0 gf gm b m F u) (i : Nat) (v : Value) (m' : Me) (hm : (meC m).setIfInBounds i v = meC m') : FilM w3 F0 gf gm b m' F (u.setCell ⟨gm, i, none⟩ v) := by
  have hg := grown_set u gm i v
  refine ⟨(DB.thing gf b).keep h.fil (Apt.of_grown hg fun q hq hF => ?_), by rw [← hm]; exact h.m.set_ i v, h.goes.own hg (.inr rfl), h.nf⟩
  have := Option.some.inj hq
  subst this
  exact h.nf hF
theorem FilM.set2 {id lv st en pg tr st' : Int} (h : FilM w3 F0 gf gm b ⟨id, lv, st, en, pg, tr⟩ F u) : FilM w3 F0 gf gm b ⟨id, lv, st', en, pg, tr⟩ F (u.setCell ⟨gm, 2, none⟩ (.int .i64 st')) := h.set_ 2 _ _ (by simp [meC])
theorem FilM.set3 {id lv st en pg tr en' : Int} (h : FilM w3 F0 gf gm b ⟨id, lv, st, en, pg, tr⟩ F u) : FilM w3 F0 gf gm b ⟨id, lv, st, en', pg, tr⟩ F (u.setCell ⟨gm, 3, none⟩ (.int .i64 en')) := h.set_ 3 _ _ (by simp [meC])
end

def DMakeP (w w' : World) (id : Nat) (lv : Int) (l : List Tn) (s : Sz) (e : Ending) : Prop :=
  (¬ BkOk id lv l s ∧ e = .returned (.tuple #[.slice none 0 0, meV Me.zero, .int .i64 1])) ∨ (BkOk id lv l s ∧ ∃ x, e = .returned (.tuple #[x, meV (bkMe id lv l s), .int .i64 0]) ∧ OwnL 2 w' w.heap.size 102 x ((bkObs id lv l s).map obC))

set_option maxHeartbeats 12800000 in
theorem DMake_bad (id : Nat) (lv : Int) (v : Value) (l : List Tn) (s : Sz) (w : World) (h : Ts w v l) (hno : ¬ BkOk id lv l s) :
    Calls Tryz.prog 40 #[.int .u64 (id : Int), .int .i64 lv, v, szV s] w fun e w' => DMakeP w w' id lv l s e ∧ Below w.heap.size w w' := by
  obtain ⟨pg, sh, bi, hs'⟩ := s
  obtain ⟨A, c, rfl, hc1, hc2⟩ := h.form
  have H := Lib.hid h
  have HI0 := Lib.hid (BxR.start w #[.int .i64 pg, .int .i64 sh, .int .i64 bi, .int .i64 hs'] meZ)
  have hSz := fun u => DSizes_any ⟨pg, sh, bi, hs'⟩ u
  have hIs := fun u (hu : Ts u (.slice A l.length c) l) => Is_any _ l u hu
  simp only [szV] at hSz ⊢
  clear h
  cases hS : szB ⟨pg, sh, bi, hs'⟩ with
  | false =>
    have HN : Hid (¬ BkOk id lv l ⟨pg, sh, bi, hs'⟩) := Lib.hid fun h => by rw [h.sz] at hS; cases hS
    rw [hS] at hSz
    generalize isB l = bb at hIs
    clear hS
    go_enter Tryz.func40, Tryz.ntmps40
    go_wp2_with fail
    revert HI0
    generalize ((w.alloc (.cells #[.int .i64 pg, .int .i64 sh, .int .i64 bi, .int .i64 hs'] 25)).alloc (.cells meZ 62)) = w1
    intro HI0
    refine (hSz _).mono ?_
    rintro e w2 ⟨rfl, hb2⟩
    have HI2 := Lib.hid (HI0.out.later hb2)
    clear hb2 HI0 hSz
    go_wp2_with fail
    refine (hIs _ (H.out.below HI2.out.bel)).mono ?_
    rintro e w3 ⟨rfl, hb3⟩
    have HI3 := Lib.hid (HI2.out.later hb3)
    clear hb3 HI2 hIs
    have hfz := fun i => HI3.out.b9.frozen i
    have r0 := HI3.out.b9.cell 0
    have r1 := HI3.out.b9.cell 1
    have r2 := HI3.out.b9.cell 2
    have r3 := HI3.out.b9.cell 3
    have r4 := HI3.out.b9.cell 4
    have r5 := HI3.out.b9.cell 5
    simp at r0 r1 r2 r3 r4 r5
    go_wp2_with fail
    have hm2 := setall6 _ HI3.out.b9 (.int .u64 0) (.int .i64 0) (.int .i64 0) (.int .i64 0) (.int .i64 0) (.int .i64 0)
    have hg2 := gset6 w3 (w.heap.size + 1) (.int .u64 0) (.int .i64 0) (.int .i64 0) (.int .i64 0) (.int .i64 0) (.int .i64 0)
    refine bodyPost_ret (v := .tuple #[.slice none 0 0, meV Me.zero, .int .i64 1]) (by have c := hm2.cell; simp [results, go_sem, c]; try rfl) rfl ?_
    exact ⟨.inl ⟨HN.out, rfl⟩, HI3.out.bel.grown hg2 HI3.out.bel.size (by intro z hz; have := Option.some.inj hz; have := HI3.out.h9; omega)⟩
  | true =>
    rw [hS] at hSz
    have HS := Lib.hid hS
    clear hS
    by_cases hl0 : l = []
    · subst hl0
      have HN : Hid (¬ BkOk id lv [] ⟨pg, sh, bi, hs'⟩) := Lib.hid fun h => h.ne rfl
      generalize isB [] = bb at hIs
      simp only [List.length_nil] at H hc1 hIs ⊢
      go_enter Tryz.func40, Tryz.ntmps40
      go_wp2_with fail
      revert HI0
      generalize ((w.alloc (.cells #[.int .i64 pg, .int .i64 sh, .int .i64 bi, .int .i64 hs'] 25)).alloc (.cells meZ 62)) = w1
      intro HI0
      refine (hSz _).mono ?_
      rintro e w2 ⟨rfl, hb2⟩
      have HI2 := Lib.hid (HI0.out.later hb2)
      clear hb2 HI0 hSz
      go_wp2_with fail
      refine (hIs _ (H.out.below HI2.out.bel)).mono ?_
      rintro e w3 ⟨rfl, hb3⟩
      have HI3 := Lib.hid (HI2.out.later hb3)
      clear hb3 HI2 hIs
      have hfz := fun i => HI3.out.b9.frozen i
      have r0 := HI3.out.b9.cell 0
      have r1 := HI3.out.b9.cell 1
      have r2 := HI3.out.b9.cell 2
      have r3 := HI3.out.b9.cell 3
      have r4 := HI3.out.b9.cell 4
      have r5 := HI3.out.b9.cell 5
      simp at r0 r1 r2 r3 r4 r5
      go_wp2_with fail
      have hm2 := setall6 _ HI3.out.b9 (.int .u64 0) (.int .i64 0) (.int .i64 0) (.int .i64 0) (.int .i64 0) (.int .i64 0)
      have hg2 := gset6 w3 (w.heap.size + 1) (.int .u64 0) (.int .i64 0) (.int .i64 0) (.int .i64 0) (.int .i64 0) (.int .i64 0)
      refine bodyPost_ret (v := .tuple #[.slice none 0 0, meV Me.zero, .int .i64 1]) (by have c := hm2.cell; simp [results, go_sem, c]; try rfl) rfl ?_
      exact ⟨.inl ⟨HN.out, rfl⟩, HI3.out.bel.grown hg2 HI3.out.bel.size (by intro z hz; have := Option.some.inj hz; have := HI3.out.h9; omega)⟩
    have hlp : 0 < l.length := List.length_pos_iff.2 hl0
    have kl : ((l.length : Int) == 0) = false := by rw [beq_eq_false_iff_ne]; omega
    by_cases hI : IsT l
    · rw [isB_true hI] at hIs
      by_cases hi0 : id = 0
      · subst hi0
        have HN : Hid (¬ BkOk 0 lv l ⟨pg, sh, bi, hs'⟩) := Lib.hid fun h => h.id0 rfl
        go_enter Tryz.func40, Tryz.ntmps40
        go_wp2_with fail
        revert HI0
        generalize ((w.alloc (.cells #[.int .i64 pg, .int .i64 sh, .int .i64 bi, .int .i64 hs'] 25)).alloc (.cells meZ 62)) = w1
        intro HI0
        refine (hSz _).mono ?_
        rintro e w2 ⟨rfl, hb2⟩
        have HI2 := Lib.hid (HI0.out.later hb2)
        clear hb2 HI0 hSz
        go_wp2_with fail
        refine (hIs _ (H.out.below HI2.out.bel)).mono ?_
        rintro e w3 ⟨rfl, hb3⟩
        have HI3 := Lib.hid (HI2.out.later hb3)
        clear hb3 HI2 hIs
        have hfz := fun i => HI3.out.b9.frozen i
        have r0 := HI3.out.b9.cell 0
        have r1 := HI3.out.b9.cell 1
        have r2 := HI3.out.b9.cell 2
        have r3 := HI3.out.b9.cell 3
        have r4 := HI3.out.b9.cell 4
        have r5 := HI3.out.b9.cell 5
        simp at r0 r1 r2 r3 r4 r5
        go_wp2_with fail
        have hm2 := setall6 _ HI3.out.b9 (.int .u64 0) (.int .i64 0) (.int .i64 0) (.int .i64 0) (.int .i64 0) (.int .i64 0)
        have hg2 := gset6 w3 (w.heap.size + 1) (.int .u64 0) (.int .i64 0) (.int .i64 0) (.int .i64 0) (.int .i64 0) (.int .i64 0)
        refine bodyPost_ret (v := .tuple #[.slice none 0 0, meV Me.zero, .int .i64 1]) (by have c := hm2.cell; simp [results, go_sem, c]; try rfl) rfl ?_
        exact ⟨.inl ⟨HN.out, rfl⟩, HI3.out.bel.grown hg2 HI3.out.bel.size (by intro z hz; have := Option.some.inj hz; have := HI3.out.h9; omega)⟩
      have ki : ((id : Int) == 0) = false := by rw [beq_eq_false_iff_ne]; omega
      by_cases hv0 : lv < 0
      · have HN : Hid (¬ BkOk id lv l ⟨pg, sh, bi, hs'⟩) := Lib.hid fun h => by have := h.lv0; omega
        go_enter Tryz.func40, Tryz.ntmps40
        go_wp2_with fail
        revert HI0
        generalize ((w.alloc (.cells #[.int .i64 pg, .int .i64 sh, .int .i64 bi, .int .i64 hs'] 25)).alloc (.cells meZ 62)) = w1
        intro HI0
        refine (hSz _).mono ?_
        rintro e w2 ⟨rfl, hb2⟩
        have HI2 := Lib.hid (HI0.out.later hb2)
        clear hb2 HI0 hSz
        go_wp2_with fail
        refine (hIs _ (H.out.below HI2.out.bel)).mono ?_
        rintro e w3 ⟨rfl, hb3⟩
        have HI3 := Lib.hid (HI2.out.later hb3)
        clear hb3 HI2 hIs
        have hfz := fun i => HI3.out.b9.frozen i
        have r0 := HI3.out.b9.cell 0
        have r1 := HI3.out.b9.cell 1
        have r2 := HI3.out.b9.cell 2
        have r3 := HI3.out.b9.cell 3
        have r4 := HI3.out.b9.cell 4
        have r5 := HI3.out.b9.cell 5
        simp at r0 r1 r2 r3 r4 r5
        go_wp2_with fail
        have hm2 := setall6 _ HI3.out.b9 (.int .u64 0) (.int .i64 0) (.int .i64 0) (.int .i64 0) (.int .i64 0) (.int .i64 0)
        have hg2 := gset6 w3 (w.heap.size + 1) (.int .u64 0) (.int .i64 0) (.int .i64 0) (.int .i64 0) (.int .i64 0) (.int .i64 0)
        refine bodyPost_ret (v := .tuple #[.slice none 0 0, meV Me.zero, .int .i64 1]) (by have c := hm2.cell; simp [results, go_sem, c]; try rfl) rfl ?_
        exact ⟨.inl ⟨HN.out, rfl⟩, HI3.out.bel.grown hg2 HI3.out.bel.size (by intro z hz; have := Option.some.inj hz; have := HI3.out.h9; omega)⟩
      by_cases hv1 : 10 < lv
      · have HN : Hid (¬ BkOk id lv l ⟨pg, sh, bi, hs'⟩) := Lib.hid fun h => by have := h.lv1; omega
        go_enter Tryz.func40, Tryz.ntmps40
        go_wp2_with fail
        revert HI0
        generalize ((w.alloc (.cells #[.int .i64 pg, .int .i64 sh, .int .i64 bi, .int .i64 hs'] 25)).alloc (.cells meZ 62)) = w1
        intro HI0
        refine (hSz _).mono ?_
        rintro e w2 ⟨rfl, hb2⟩
        have HI2 := Lib.hid (HI0.out.later hb2)
        clear hb2 HI0 hSz
        go_wp2_with fail
        refine (hIs _ (H.out.below HI2.out.bel)).mono ?_
        rintro e w3 ⟨rfl, hb3⟩
        have HI3 := Lib.hid (HI2.out.later hb3)
        clear hb3 HI2 hIs
        have hfz := fun i => HI3.out.b9.frozen i
        have r0 := HI3.out.b9.cell 0
        have r1 := HI3.out.b9.cell 1
        have r2 := HI3.out.b9.cell 2
        have r3 := HI3.out.b9.cell 3
        have r4 := HI3.out.b9.cell 4
        have r5 := HI3.out.b9.cell 5
        simp at r0 r1 r2 r3 r4 r5
        go_wp2_with fail
        have hm2 := setall6 _ HI3.out.b9 (.int .u64 0) (.int .i64 0) (.int .i64 0) (.int .i64 0) (.int .i64 0) (.int .i64 0)
        have hg2 := gset6 w3 (w.heap.size + 1) (.int .u64 0) (.int .i64 0) (.int .i64 0) (.int .i64 0) (.int .i64 0) (.int .i64 0)
        refine bodyPost_ret (v := .tuple #[.slice none 0 0, meV Me.zero, .int .i64 1]) (by have c := hm2.cell; simp [results, go_sem, c]; try rfl) rfl ?_
        exact ⟨.inl ⟨HN.out, rfl⟩, HI3.out.bel.grown hg2 HI3.out.bel.size (by intro z hz; have := Option.some.inj hz; have := HI3.out.h9; omega)⟩
      exact absurd ⟨HS.out, hl0, hI, hi0, by omega, by omega⟩ hno
    · rw [isB_false hI] at hIs
      have HN : Hid (¬ BkOk id lv l ⟨pg, sh, bi, hs'⟩) := Lib.hid fun h => hI h.is
      go_enter Tryz.func40, Tryz.ntmps40
      go_wp2_with fail
      revert HI0
      generalize ((w.alloc (.cells #[.int .i64 pg, .int .i64 sh, .int .i64 bi, .int .i64 hs'] 25)).alloc (.cells meZ 62)) = w1
      intro HI0
      refine (hSz _).mono ?_
      rintro e w2 ⟨rfl, hb2⟩
      have HI2 := Lib.hid (HI0.out.later hb2)
      clear hb2 HI0 hSz
      go_wp2_with fail
      refine (hIs _ (H.out.below HI2.out.bel)).mono ?_
      rintro e w3 ⟨rfl, hb3⟩
      have HI3 := Lib.hid (HI2.out.later hb3)
      clear hb3 HI2 hIs
      have hfz := fun i => HI3.out.b9.frozen i
      have r0 := HI3.out.b9.cell 0
      have r1 := HI3.out.b9.cell 1
      have r2 := HI3.out.b9.cell 2
      have r3 := HI3.out.b9.cell 3
      have r4 := HI3.out.b9.cell 4
      have r5 := HI3.out.b9.cell 5
      simp at r0 r1 r2 r3 r4 r5
      go_wp2_with fail
      have hm2 := setall6 _ HI3.out.b9 (.int .u64 0) (.int .i64 0) (.int .i64 0) (.int .i64 0) (.int .i64 0) (.int .i64 0)
      have hg2 := gset6 w3 (w.heap.size + 1) (.int .u64 0) (.int .i64 0) (.int .i64 0) (.int .i64 0) (.int .i64 0) (.int .i64 0)
      refine bodyPost_ret (v := .tuple #[.slice none 0 0, meV Me.zero, .int .i64 1]) (by have c := hm2.cell; simp [results, go_sem, c]; try rfl) rfl ?_
      exact ⟨.inl ⟨HN.out, rfl⟩, HI3.out.bel.grown hg2 HI3.out.bel.size (by intro z hz; have := Option.some.inj hz; have := HI3.out.h9; omega)⟩

end Go.Proofs.YtfccfnbmmgfgcaaGreatDoor
