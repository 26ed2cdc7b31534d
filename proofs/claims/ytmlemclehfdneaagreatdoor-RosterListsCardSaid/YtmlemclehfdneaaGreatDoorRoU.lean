/-
  CONTRACTS of the program's mayBe, at metas and at markers, and of isRoster. Conditions: what each says.
  CONTRACTS of the program's isRoster, appendBare (at metas, at markers) and Put. Conditions: what each says.
-/
import Derived.Test.YtmlemclehfdneaaGreatDoorRoD
import Derived.Test.YtmlemclehfdneaaGreatDoorMtA
import Derived.Test.YtmlemclehfdneaaGreatDoorMix
import Derived.Test.YtmlemclehfdneaaGreatDoorRoI
namespace Go.Proofs.YtmlemclehfdneaaGreatDoor
open Go.RowKit
set_option maxRecDepth 100000

open Classical in
noncomputable def upMeB (l : List Me) : Bool := decide ((∀ m ∈ l, meP m) ∧ UpM (l.map (·.id)) ∧ l.length ≤ 1000)

open Classical in
noncomputable def upMkB (l : List Mk) : Bool := decide ((∀ m ∈ l, mkP m) ∧ UpM (l.map (·.id)) ∧ l.length ≤ 1000)

theorem upMeB_yes {l : List Me} (h : (∀ m ∈ l, meP m) ∧ UpM (l.map (·.id)) ∧ l.length ≤ 1000) : upMeB l = true := by
  simp only [upMeB, decide_eq_true_eq]
  exact h

theorem upMeB_no {l : List Me} (h : ¬ ((∀ m ∈ l, meP m) ∧ UpM (l.map (·.id)) ∧ l.length ≤ 1000)) : upMeB l = false := by
  simp only [upMeB, decide_eq_false_iff_not]
  exact h

theorem upMkB_yes {l : List Mk} (h : (∀ m ∈ l, mkP m) ∧ UpM (l.map (·.id)) ∧ l.length ≤ 1000) : upMkB l = true := by
  simp only [upMkB, decide_eq_true_eq]
  exact h

theorem upMkB_no {l : List Mk} (h : ¬ ((∀ m ∈ l, mkP m) ∧ UpM (l.map (·.id)) ∧ l.length ≤ 1000)) : upMkB l = false := by
  simp only [upMkB, decide_eq_false_iff_not]
  exact h

theorem goodB_two (l : List Me) (k : List Mk) : goodB l k = (upMeB l && upMkB k) := by
  by_cases h1 : (∀ m ∈ l, meP m) ∧ UpM (l.map (·.id)) ∧ l.length ≤ 1000
  · by_cases h2 : (∀ m ∈ k, mkP m) ∧ UpM (k.map (·.id)) ∧ k.length ≤ 1000
    · rw [upMeB_yes h1, upMkB_yes h2, goodB_yes ⟨h1.1, h1.2.1, h2.1, h2.2.1, h1.2.2, h2.2.2⟩]
      rfl
    · rw [upMeB_yes h1, upMkB_no h2, goodB_no fun h => h2 ⟨h.fair, h.upk, h.fewk⟩]
      rfl
  · rw [upMeB_no h1, goodB_no fun h => h1 ⟨h.may, h.upl, h.fewl⟩]
    rfl

theorem mix_pass {P : Program} {ops : Array Oper} {Q : Exit → Act → World → Prop} {S : World → Prop} {i : Nat} {r : List (Nat × Bool)} {o : Oper} {a : Act} {w : World} (hi : ops[i]? = some o) (hw : Region.wanted o (yielded ops a.tmps) = false) (hS : S w)
    (h : wpMix P ops Q r S (a.put o.dst undef) w) : wpMix P ops Q ((i, true) :: r) S a w := mix_step hi fun K hK => by
  rw [if_neg (by rw [hw]; simp)]
  exact hK.out _ _ hS h

theorem rid_M (m : Me) (w : World) : Calls Tryz.prog 80 #[meV m] w fun e w' => e = .returned (.int .u64 m.id) ∧ Below w.heap.size w w' := by
  obtain ⟨x0, x1, x2, x3, x4, x5⟩ := m
  show Calls Tryz.prog 80 #[.agg #[.int .u64 x0, .int .i64 x1, .int .i64 x2, .int .i64 x3, .int .i64 x4, .int .i64 x5]] w _
  go_enter Tryz.func80, Tryz.ntmps80
  go_wp2_with fail
  go_ret
  exact ⟨rfl, (Below.refl _ _).alloc (Nat.le_refl _) _⟩

set_option maxHeartbeats 6400000 in
theorem rmay_M {w : World} {v : Value} {l : List Me} (h : Mes w v l) (hl : l.length ≤ 1000000000) :
    Calls Tryz.prog 78 #[v, .func (.func 79) #[] #[], .func (.func 80) #[] #[]] w fun e w' => e = .returned (.bool (upMeB l)) ∧ Below w.heap.size w w' := by
  obtain ⟨A, c, rfl, _, _⟩ := h.form
  have SL := Lib.hid h
  clear h
  go_enter Tryz.func78, Tryz.ntmps78
  go_wp2_with fail
  go_loopg [11] l.length (fun gk iv wr => ∃ i : Nat, i + gk = l.length ∧ iv = .int .i64 (i : Int) ∧ Hid (Below w.heap.size w wr ∧ (∀ (j : Nat) m, l[j]? = some m → j < i → meP m) ∧ ∀ (j : Nat) x y, l[j]? = some x → l[j + 1]? = some y → j + 1 < i → x.id < y.id))
  case atStart => exact ⟨0, by omega, rfl, Lib.hid ⟨Below.refl _ _, (fun j m _ h => by omega), fun j x y _ _ h => by omega⟩⟩
  case round =>
    obtain ⟨i, hi, rfl, HW⟩ := hrel
    by_cases hlt : i < l.length
    · obtain ⟨gk1, hgk1⟩ : ∃ x, gk = x + 1 := ⟨gk - 1, by omega⟩
      obtain ⟨m, hm⟩ : ∃ m, l[i]? = some m := ⟨_, List.getElem?_eq_getElem hlt⟩
      obtain ⟨g, o, hA, hg, c0, c1, c2, c3, c4, c5, hok⟩ := (SL.out.below HW.out.1).cells hm
      subst hA
      have a0 : (0 : Int) ≤ (i : Int) := by omega
      have a1 : (i : Int) < (l.length : Int) := by omega
      have HM := Lib.hid hm
      have hcall := mmay_any m hok
      have hb3 : Below wr.heap.size wr (wr.alloc (.cells #[.int .u64 m.id, .int .i64 m.lv, .int .i64 m.st, .int .i64 m.en, .int .i64 m.pg, .int .i64 m.tr] 84)) := (Below.refl _ _).alloc (Nat.le_refl _) _
      have hR3 : Blk (wr.alloc (.cells #[.int .u64 m.id, .int .i64 m.lv, .int .i64 m.st, .int .i64 m.en, .int .i64 m.pg, .int .i64 m.tr] 84)) wr.heap.size 84 #[.int .u64 m.id, .int .i64 m.lv, .int .i64 m.st, .int .i64 m.en, .int .i64 m.pg, .int .i64 m.tr] := Blk.new _ _ _
      have HB3 := Lib.hid (HW.out.1.trans (hb3.mono HW.out.1.size))
      have HR3 := Lib.hid hR3
      clear hR3 hb3 hm
      cases hmb : meB m with
      | false =>
        have HNO : Hid (upMeB l = false) := Lib.hid (upMeB_no fun h => by
          have := h.1 m (List.mem_of_getElem? HM.out)
          rw [meB, decide_eq_true this] at hmb
          cases hmb)
        rw [hmb] at hcall
        clear hmb
        go_wp2_with fail
        revert HB3 HR3
        generalize wr.alloc (.cells #[.int .u64 m.id, .int .i64 m.lv, .int .i64 m.st, .int .i64 m.en, .int .i64 m.pg, .int .i64 m.tr] 84) = w3
        generalize wr.heap.size = g3
        intro HB3 HR3
        have HS : Hid (∀ u, Below w3.heap.size w3 u → u.cell? ⟨g3, 0, none⟩ = some (.int .u64 m.id) ∧ u.cell? ⟨g3, 1, none⟩ = some (.int .i64 m.lv) ∧ u.cell? ⟨g3, 2, none⟩ = some (.int .i64 m.st) ∧ u.cell? ⟨g3, 3, none⟩ = some (.int .i64 m.en) ∧ u.cell? ⟨g3, 4, none⟩ = some (.int .i64 m.pg) ∧ u.cell? ⟨g3, 5, none⟩ = some (.int .i64 m.tr)) := Lib.hid fun u hu => by
          have c := (HR3.out.below hu HR3.out.lt).cell
          exact ⟨c 0, c 1, c 2, c 3, c 4, c 5⟩
        refine wp_region_mix [(0, false), (1, false), (2, true), (3, false), (4, false), (5, false), (6, false), (7, false), (8, false), (9, false), (10, false), (11, false), (12, false), (13, false), (15, false), (16, false), (14, true), (17, true), (18, false), (19, false), (20, false)] (fun u => Below w3.heap.size w3 u) (by kernel_rfl) (by kernel_rfl) (by decide +kernel) rfl (Below.refl _ _).drew ?_
        repeat
          first
            | (refine mix_read (o := ⟨_, _, _, _, _, _⟩) (v := ?_) rfl (by rfl) (fun w' hU => ?_) ?_
               rotate_left
               obtain ⟨z0, z1, z2, z3, z4, z5⟩ := HS.out _ hU
               go_simp
               with_reducible rfl
               try simp only [Act.put, List.setIfInBounds_toArray, List.set_cons_zero, List.set_cons_succ])
            | (refine mix_skip (o := ⟨_, _, _, _, _, _⟩) rfl (by rfl) ?_
               try simp only [Act.put, List.setIfInBounds_toArray, List.set_cons_zero, List.set_cons_succ])
        refine mix_step (o := ⟨_, _, _, _, _, _⟩) rfl (fun K hK => ?_)
        go_simp
        refine (hcall _).mono ?_
        rintro e w4 ⟨rfl, hb4⟩
        refine hK.out _ _ ((Below.refl _ _).drew.trans hb4) ?_
        have HS4 : Hid (Below w3.heap.size w3 w4) := Lib.hid ((Below.refl _ _).drew.trans hb4)
        have HB4 : Hid (Below w.heap.size w w4) := Lib.hid (HB3.out.trans (((Below.refl _ _).drew.trans hb4).mono HB3.out.size))
        clear hK K hb4 hcall
        try simp only [Act.put, List.setIfInBounds_toArray, List.set_cons_zero, List.set_cons_succ]
        repeat
          first
            | (refine mix_read (o := ⟨_, _, _, _, _, _⟩) (v := ?_) rfl (by rfl) (fun w' hU => ?_) ?_
               rotate_left
               obtain ⟨z0, z1, z2, z3, z4, z5⟩ := HS.out _ hU
               go_simp
               with_reducible rfl
               try simp only [Act.put, List.setIfInBounds_toArray, List.set_cons_zero, List.set_cons_succ])
            | (refine mix_skip (o := ⟨_, _, _, _, _, _⟩) rfl (by rfl) ?_
               try simp only [Act.put, List.setIfInBounds_toArray, List.set_cons_zero, List.set_cons_succ])
        refine mix_pass (o := ⟨_, _, _, _, _, _⟩) rfl (by rfl) HS4.out ?_
        try simp only [Act.put, List.setIfInBounds_toArray, List.set_cons_zero, List.set_cons_succ]
        refine mix_pass (o := ⟨_, _, _, _, _, _⟩) rfl (by rfl) HS4.out ?_
        try simp only [Act.put, List.setIfInBounds_toArray, List.set_cons_zero, List.set_cons_succ]
        repeat
          first
            | (refine mix_read (o := ⟨_, _, _, _, _, _⟩) (v := ?_) rfl (by rfl) (fun w' hU => ?_) ?_
               rotate_left
               obtain ⟨z0, z1, z2, z3, z4, z5⟩ := HS.out _ hU
               go_simp
               with_reducible rfl
               try simp only [Act.put, List.setIfInBounds_toArray, List.set_cons_zero, List.set_cons_succ])
            | (refine mix_skip (o := ⟨_, _, _, _, _, _⟩) rfl (by rfl) ?_
               try simp only [Act.put, List.setIfInBounds_toArray, List.set_cons_zero, List.set_cons_succ])
        refine mix_done ?_
        go_wp2_with fail
        go_ret
        rw [HNO.out]
        exact ⟨rfl, HB4.out⟩
      | true =>
        have HP : Hid (meP m) := Lib.hid (of_decide_eq_true hmb)
        rw [hmb] at hcall
        clear hmb
        by_cases hi0 : i = 0
        · subst hi0
          simp only [Nat.zero_mul, Nat.add_zero] at c0 c1 c2 c3 c4 c5
          go_wp2_with fail
          revert HB3 HR3
          generalize wr.alloc (.cells #[.int .u64 m.id, .int .i64 m.lv, .int .i64 m.st, .int .i64 m.en, .int .i64 m.pg, .int .i64 m.tr] 84) = w3
          generalize wr.heap.size = g3
          intro HB3 HR3
          have HS : Hid (∀ u, Below w3.heap.size w3 u → u.cell? ⟨g3, 0, none⟩ = some (.int .u64 m.id) ∧ u.cell? ⟨g3, 1, none⟩ = some (.int .i64 m.lv) ∧ u.cell? ⟨g3, 2, none⟩ = some (.int .i64 m.st) ∧ u.cell? ⟨g3, 3, none⟩ = some (.int .i64 m.en) ∧ u.cell? ⟨g3, 4, none⟩ = some (.int .i64 m.pg) ∧ u.cell? ⟨g3, 5, none⟩ = some (.int .i64 m.tr)) := Lib.hid fun u hu => by
            have c := (HR3.out.below hu HR3.out.lt).cell
            exact ⟨c 0, c 1, c 2, c 3, c 4, c 5⟩
          refine wp_region_mix [(0, false), (1, false), (2, true), (3, false), (4, false), (5, false), (6, false), (7, false), (8, false), (9, false), (10, false), (11, false), (12, false), (13, false), (15, false), (16, false), (14, true), (17, true), (18, false), (19, false), (20, false)] (fun u => Below w3.heap.size w3 u) (by kernel_rfl) (by kernel_rfl) (by decide +kernel) rfl (Below.refl _ _).drew ?_
          repeat
            first
              | (refine mix_read (o := ⟨_, _, _, _, _, _⟩) (v := ?_) rfl (by rfl) (fun w' hU => ?_) ?_
                 rotate_left
                 obtain ⟨z0, z1, z2, z3, z4, z5⟩ := HS.out _ hU
                 go_simp
                 with_reducible rfl
                 try simp only [Act.put, List.setIfInBounds_toArray, List.set_cons_zero, List.set_cons_succ])
              | (refine mix_skip (o := ⟨_, _, _, _, _, _⟩) rfl (by rfl) ?_
                 try simp only [Act.put, List.setIfInBounds_toArray, List.set_cons_zero, List.set_cons_succ])
          refine mix_step (o := ⟨_, _, _, _, _, _⟩) rfl (fun K hK => ?_)
          go_simp
          refine (hcall _).mono ?_
          rintro e w4 ⟨rfl, hb4⟩
          refine hK.out _ _ ((Below.refl _ _).drew.trans hb4) ?_
          have HS4 : Hid (Below w3.heap.size w3 w4) := Lib.hid ((Below.refl _ _).drew.trans hb4)
          have HB4 : Hid (Below w.heap.size w w4) := Lib.hid (HB3.out.trans (((Below.refl _ _).drew.trans hb4).mono HB3.out.size))
          clear hK K hb4 hcall
          try simp only [Act.put, List.setIfInBounds_toArray, List.set_cons_zero, List.set_cons_succ]
          repeat
            first
              | (refine mix_read (o := ⟨_, _, _, _, _, _⟩) (v := ?_) rfl (by rfl) (fun w' hU => ?_) ?_
                 rotate_left
                 obtain ⟨z0, z1, z2, z3, z4, z5⟩ := HS.out _ hU
                 go_simp
                 with_reducible rfl
                 try simp only [Act.put, List.setIfInBounds_toArray, List.set_cons_zero, List.set_cons_succ])
              | (refine mix_skip (o := ⟨_, _, _, _, _, _⟩) rfl (by rfl) ?_
                 try simp only [Act.put, List.setIfInBounds_toArray, List.set_cons_zero, List.set_cons_succ])
          refine mix_pass (o := ⟨_, _, _, _, _, _⟩) rfl (by rfl) HS4.out ?_
          try simp only [Act.put, List.setIfInBounds_toArray, List.set_cons_zero, List.set_cons_succ]
          refine mix_pass (o := ⟨_, _, _, _, _, _⟩) rfl (by rfl) HS4.out ?_
          try simp only [Act.put, List.setIfInBounds_toArray, List.set_cons_zero, List.set_cons_succ]
          repeat
            first
              | (refine mix_read (o := ⟨_, _, _, _, _, _⟩) (v := ?_) rfl (by rfl) (fun w' hU => ?_) ?_
                 rotate_left
                 obtain ⟨z0, z1, z2, z3, z4, z5⟩ := HS.out _ hU
                 go_simp
                 with_reducible rfl
                 try simp only [Act.put, List.setIfInBounds_toArray, List.set_cons_zero, List.set_cons_succ])
              | (refine mix_skip (o := ⟨_, _, _, _, _, _⟩) rfl (by rfl) ?_
                 try simp only [Act.put, List.setIfInBounds_toArray, List.set_cons_zero, List.set_cons_succ])
          refine mix_done ?_
          go_wp2_with fail
          go_roundg gk1
          case measure => omega
          case rel => exact ⟨1, by omega, by go_num, Lib.hid ⟨HB4.out, (fun j x hx hj => by
            have : j = 0 := by omega
            subst this
            rw [HM.out] at hx
            exact Option.some.inj hx ▸ HP.out), fun j x y _ _ h => by omega⟩⟩
        · obtain ⟨j, rfl⟩ : ∃ j, i = j + 1 := ⟨i - 1, by omega⟩
          obtain ⟨p, hp⟩ : ∃ p, l[j]? = some p := ⟨_, List.getElem?_eq_getElem (by omega)⟩
          obtain ⟨g', o', hA', hg', d0, d1, d2, d3, d4, d5, _⟩ := (SL.out.below HB3.out).cells hp
          injection hA' with hA'
          injection hA' with e1 e2
          subst e1 e2
          have hpj : (((j + 1 : Nat) : Int) - 1) = (j : Int) := by omega
          have hwj : IntKind.i64.wrap (j : Int) = (j : Int) := IntWalk.i64_in _ (by omega)
          have a2 : (0 : Int) ≤ (j : Int) := by omega
          have a3 : (j : Int) < (l.length : Int) := by omega
          have hpos : (0 : Int) < ((j + 1 : Nat) : Int) := by omega
          have HPV := Lib.hid hp
          have hid1 := rid_M p
          have hid2 := rid_M m
          clear hp
          go_wp2_with fail
          revert HB3 HR3 d0 d1 d2 d3 d4 d5
          generalize wr.alloc (.cells #[.int .u64 m.id, .int .i64 m.lv, .int .i64 m.st, .int .i64 m.en, .int .i64 m.pg, .int .i64 m.tr] 84) = w3
          generalize wr.heap.size = g3
          intro HB3 HR3 d0 d1 d2 d3 d4 d5
          have HS : Hid (∀ u, Below w3.heap.size w3 u → (u.cell? ⟨g3, 0, none⟩ = some (.int .u64 m.id) ∧ u.cell? ⟨g3, 1, none⟩ = some (.int .i64 m.lv) ∧ u.cell? ⟨g3, 2, none⟩ = some (.int .i64 m.st) ∧ u.cell? ⟨g3, 3, none⟩ = some (.int .i64 m.en) ∧ u.cell? ⟨g3, 4, none⟩ = some (.int .i64 m.pg) ∧ u.cell? ⟨g3, 5, none⟩ = some (.int .i64 m.tr)) ∧ u.cell? ⟨g, o + j * 6, none⟩ = some (.int .u64 p.id) ∧ u.cell? ⟨g, o + j * 6 + 1, none⟩ = some (.int .i64 p.lv) ∧ u.cell? ⟨g, o + j * 6 + 2, none⟩ = some (.int .i64 p.st) ∧ u.cell? ⟨g, o + j * 6 + 3, none⟩ = some (.int .i64 p.en) ∧ u.cell? ⟨g, o + j * 6 + 4, none⟩ = some (.int .i64 p.pg) ∧ u.cell? ⟨g, o + j * 6 + 5, none⟩ = some (.int .i64 p.tr)) := Lib.hid fun u hu => by
            have c := (HR3.out.below hu HR3.out.lt).cell
            exact ⟨⟨c 0, c 1, c 2, c 3, c 4, c 5⟩, (hu.cell (World.block_lt_of_cell? w3 _ d0)).trans d0, (hu.cell (World.block_lt_of_cell? w3 _ d1)).trans d1, (hu.cell (World.block_lt_of_cell? w3 _ d2)).trans d2, (hu.cell (World.block_lt_of_cell? w3 _ d3)).trans d3, (hu.cell (World.block_lt_of_cell? w3 _ d4)).trans d4, (hu.cell (World.block_lt_of_cell? w3 _ d5)).trans d5⟩
          clear d0 d1 d2 d3 d4 d5
          refine wp_region_mix [(0, false), (1, false), (2, true), (3, false), (4, false), (5, false), (6, false), (7, false), (8, false), (9, false), (10, false), (11, false), (12, false), (13, false), (15, false), (16, false), (14, true), (17, true), (18, false), (19, false), (20, false)] (fun u => Below w3.heap.size w3 u) (by kernel_rfl) (by kernel_rfl) (by decide +kernel) rfl (Below.refl _ _).drew ?_
          repeat
            first
              | (refine mix_read (o := ⟨_, _, _, _, _, _⟩) (v := ?_) rfl (by rfl) (fun w' hU => ?_) ?_
                 rotate_left
                 obtain ⟨⟨z0, z1, z2, z3, z4, z5⟩, y0, y1, y2, y3, y4, y5⟩ := HS.out _ hU
                 go_simp
                 with_reducible rfl
                 try simp only [Act.put, List.setIfInBounds_toArray, List.set_cons_zero, List.set_cons_succ])
              | (refine mix_skip (o := ⟨_, _, _, _, _, _⟩) rfl (by rfl) ?_
                 try simp only [Act.put, List.setIfInBounds_toArray, List.set_cons_zero, List.set_cons_succ])
          refine mix_step (o := ⟨_, _, _, _, _, _⟩) rfl (fun K hK => ?_)
          go_simp
          refine (hcall _).mono ?_
          rintro e w4 ⟨rfl, hb4⟩
          refine hK.out _ _ ((Below.refl _ _).drew.trans hb4) ?_
          have HB4 : Hid (Below w3.heap.size w3 w4) := Lib.hid ((Below.refl _ _).drew.trans hb4)
          clear hK K hb4 hcall
          try simp only [Act.put, List.setIfInBounds_toArray, List.set_cons_zero, List.set_cons_succ]
          repeat
            first
              | (refine mix_read (o := ⟨_, _, _, _, _, _⟩) (v := ?_) rfl (by rfl) (fun w' hU => ?_) ?_
                 rotate_left
                 obtain ⟨⟨z0, z1, z2, z3, z4, z5⟩, y0, y1, y2, y3, y4, y5⟩ := HS.out _ hU
                 go_simp
                 with_reducible rfl
                 try simp only [Act.put, List.setIfInBounds_toArray, List.set_cons_zero, List.set_cons_succ])
              | (refine mix_skip (o := ⟨_, _, _, _, _, _⟩) rfl (by rfl) ?_
                 try simp only [Act.put, List.setIfInBounds_toArray, List.set_cons_zero, List.set_cons_succ])
          refine mix_step (o := ⟨_, _, _, _, _, _⟩) rfl (fun K hK => ?_)
          go_simp
          refine (hid1 _).mono ?_
          rintro e w5 ⟨rfl, hb5⟩
          refine hK.out _ _ (HB4.out.trans (hb5.mono HB4.out.size)) ?_
          have HB5 : Hid (Below w3.heap.size w3 w5) := Lib.hid (HB4.out.trans (hb5.mono HB4.out.size))
          clear hK K hb5 hid1 HB4
          try simp only [Act.put, List.setIfInBounds_toArray, List.set_cons_zero, List.set_cons_succ]
          refine mix_step (o := ⟨_, _, _, _, _, _⟩) rfl (fun K hK => ?_)
          go_simp
          refine (hid2 _).mono ?_
          rintro e w6 ⟨rfl, hb6⟩
          refine hK.out _ _ (HB5.out.trans (hb6.mono HB5.out.size)) ?_
          have HB6 : Hid (Below w.heap.size w w6) := Lib.hid (HB3.out.trans ((HB5.out.trans (hb6.mono HB5.out.size)).mono HB3.out.size))
          clear hK K hb6 hid2 HB5
          try simp only [Act.put, List.setIfInBounds_toArray, List.set_cons_zero, List.set_cons_succ]
          by_cases hup : p.id < m.id
          · have hge : decide (m.id ≤ p.id) = false := decide_eq_false (by omega)
            have HUP := Lib.hid hup
            clear hup
            repeat
              first
                | (refine mix_read (o := ⟨_, _, _, _, _, _⟩) (v := ?_) rfl (by rfl) (fun w' hU => ?_) ?_
                   rotate_left
                   obtain ⟨⟨z0, z1, z2, z3, z4, z5⟩, y0, y1, y2, y3, y4, y5⟩ := HS.out _ hU
                   go_simp
                   with_reducible rfl
                   try simp only [Act.put, List.setIfInBounds_toArray, List.set_cons_zero, List.set_cons_succ])
                | (refine mix_skip (o := ⟨_, _, _, _, _, _⟩) rfl (by rfl) ?_
                   try simp only [Act.put, List.setIfInBounds_toArray, List.set_cons_zero, List.set_cons_succ])
            refine mix_done ?_
            go_wp2_with fail
            go_roundg gk1
            case measure => omega
            case rel => exact ⟨j + 1 + 1, by omega, by go_num, Lib.hid ⟨HB6.out, (fun i x hx hi => by
              by_cases hij : i = j + 1
              · subst hij
                rw [HM.out] at hx
                exact Option.some.inj hx ▸ HP.out
              · exact HW.out.2.1 i x hx (by omega)), fun i x y hx hy hi => by
              by_cases hij : i = j
              · subst hij
                rw [HPV.out] at hx
                rw [HM.out] at hy
                obtain rfl := Option.some.inj hx
                obtain rfl := Option.some.inj hy
                exact HUP.out
              · exact HW.out.2.2 i x y hx hy (by omega)⟩⟩
          · have hge : decide (m.id ≤ p.id) = true := decide_eq_true (by omega)
            have HNO : Hid (upMeB l = false) := Lib.hid (upMeB_no fun h => hup (upM_at h.2.1 HPV.out HM.out))
            clear hup
            repeat
              first
                | (refine mix_read (o := ⟨_, _, _, _, _, _⟩) (v := ?_) rfl (by rfl) (fun w' hU => ?_) ?_
                   rotate_left
                   obtain ⟨⟨z0, z1, z2, z3, z4, z5⟩, y0, y1, y2, y3, y4, y5⟩ := HS.out _ hU
                   go_simp
                   with_reducible rfl
                   try simp only [Act.put, List.setIfInBounds_toArray, List.set_cons_zero, List.set_cons_succ])
                | (refine mix_skip (o := ⟨_, _, _, _, _, _⟩) rfl (by rfl) ?_
                   try simp only [Act.put, List.setIfInBounds_toArray, List.set_cons_zero, List.set_cons_succ])
            refine mix_done ?_
            go_wp2_with fail
            go_ret
            rw [HNO.out]
            exact ⟨rfl, HB6.out⟩
    · have hil : i = l.length := by omega
      subst hil
      have hL : (l.length : Int) ≤ 9223372036854775807 := by omega
      have HE : Hid (upMeB l = decide ((l.length : Int) ≤ 1000)) := Lib.hid (by
        have h1 : (∀ m ∈ l, meP m) := fun m hm => by
          obtain ⟨j, hj⟩ := List.getElem?_of_mem hm
          exact HW.out.2.1 j m hj (List.getElem?_eq_some_iff.1 hj).1
        have h2 : UpM (l.map (·.id)) := upM_of fun j x y hx hy => HW.out.2.2 j x y hx hy (List.getElem?_eq_some_iff.1 hy).1
        by_cases h3 : l.length ≤ 1000
        · rw [upMeB_yes ⟨h1, h2, h3⟩, decide_eq_true (by omega)]
        · rw [upMeB_no fun h => h3 h.2.2, decide_eq_false (by omega)])
      go_wp2_with fail
      go_ret
      rw [HE.out]
      exact ⟨rfl, HW.out.1⟩

theorem rid_K (m : Mk) (w : World) : Calls Tryz.prog 83 #[mkV m] w fun e w' => e = .returned (.int .u64 m.id) ∧ Below w.heap.size w w' := by
  obtain ⟨x0, x1, x2⟩ := m
  show Calls Tryz.prog 83 #[.agg #[.int .u64 x0, .int .i64 x1, .int .u64 x2]] w _
  go_enter Tryz.func83, Tryz.ntmps83
  go_wp2_with fail
  go_ret
  exact ⟨rfl, (Below.refl _ _).alloc (Nat.le_refl _) _⟩

set_option maxHeartbeats 6400000 in
theorem rmay_K {w : World} {v : Value} {l : List Mk} (h : Mks w v l) (hl : l.length ≤ 1000000000) :
    Calls Tryz.prog 81 #[v, .func (.func 82) #[] #[], .func (.func 83) #[] #[]] w fun e w' => e = .returned (.bool (upMkB l)) ∧ Below w.heap.size w w' := by
  obtain ⟨A, c, rfl, _, _⟩ := h.form
  have SL := Lib.hid h
  clear h
  go_enter Tryz.func81, Tryz.ntmps81
  go_wp2_with fail
  go_loopg [11] l.length (fun gk iv wr => ∃ i : Nat, i + gk = l.length ∧ iv = .int .i64 (i : Int) ∧ Hid (Below w.heap.size w wr ∧ (∀ (j : Nat) m, l[j]? = some m → j < i → mkP m) ∧ ∀ (j : Nat) x y, l[j]? = some x → l[j + 1]? = some y → j + 1 < i → x.id < y.id))
  case atStart => exact ⟨0, by omega, rfl, Lib.hid ⟨Below.refl _ _, (fun j m _ h => by omega), fun j x y _ _ h => by omega⟩⟩
  case round =>
    obtain ⟨i, hi, rfl, HW⟩ := hrel
    by_cases hlt : i < l.length
    · obtain ⟨gk1, hgk1⟩ : ∃ x, gk = x + 1 := ⟨gk - 1, by omega⟩
      obtain ⟨m, hm⟩ : ∃ m, l[i]? = some m := ⟨_, List.getElem?_eq_getElem hlt⟩
      obtain ⟨g, o, hA, hg, c0, c1, c2, hok⟩ := (SL.out.below HW.out.1).cells hm
      subst hA
      have a0 : (0 : Int) ≤ (i : Int) := by omega
      have a1 : (i : Int) < (l.length : Int) := by omega
      have HM := Lib.hid hm
      have hcall := mfair_any m hok
      have hb3 : Below wr.heap.size wr (wr.alloc (.cells #[.int .u64 m.id, .int .i64 m.at_, .int .u64 m.by_] 88)) := (Below.refl _ _).alloc (Nat.le_refl _) _
      have hR3 : Blk (wr.alloc (.cells #[.int .u64 m.id, .int .i64 m.at_, .int .u64 m.by_] 88)) wr.heap.size 88 #[.int .u64 m.id, .int .i64 m.at_, .int .u64 m.by_] := Blk.new _ _ _
      have HB3 := Lib.hid (HW.out.1.trans (hb3.mono HW.out.1.size))
      have HR3 := Lib.hid hR3
      clear hR3 hb3 hm
      cases hmb : mkB m with
      | false =>
        have HNO : Hid (upMkB l = false) := Lib.hid (upMkB_no fun h => by
          have := h.1 m (List.mem_of_getElem? HM.out)
          rw [mkB, decide_eq_true this] at hmb
          cases hmb)
        rw [hmb] at hcall
        clear hmb
        go_wp2_with fail
        revert HB3 HR3
        generalize wr.alloc (.cells #[.int .u64 m.id, .int .i64 m.at_, .int .u64 m.by_] 88) = w3
        generalize wr.heap.size = g3
        intro HB3 HR3
        have HS : Hid (∀ u, Below w3.heap.size w3 u → u.cell? ⟨g3, 0, none⟩ = some (.int .u64 m.id) ∧ u.cell? ⟨g3, 1, none⟩ = some (.int .i64 m.at_) ∧ u.cell? ⟨g3, 2, none⟩ = some (.int .u64 m.by_)) := Lib.hid fun u hu => by
          have c := (HR3.out.below hu HR3.out.lt).cell
          exact ⟨c 0, c 1, c 2⟩
        refine wp_region_mix [(0, false), (1, false), (2, true), (3, false), (4, false), (5, false), (6, false), (7, false), (8, false), (9, false), (10, false), (11, false), (12, false), (13, false), (15, false), (16, false), (14, true), (17, true), (18, false), (19, false), (20, false)] (fun u => Below w3.heap.size w3 u) (by kernel_rfl) (by kernel_rfl) (by decide +kernel) rfl (Below.refl _ _).drew ?_
        repeat
          first
            | (refine mix_read (o := ⟨_, _, _, _, _, _⟩) (v := ?_) rfl (by rfl) (fun w' hU => ?_) ?_
               rotate_left
               obtain ⟨z0, z1, z2⟩ := HS.out _ hU
               go_simp
               with_reducible rfl
               try simp only [Act.put, List.setIfInBounds_toArray, List.set_cons_zero, List.set_cons_succ])
            | (refine mix_skip (o := ⟨_, _, _, _, _, _⟩) rfl (by rfl) ?_
               try simp only [Act.put, List.setIfInBounds_toArray, List.set_cons_zero, List.set_cons_succ])
        refine mix_step (o := ⟨_, _, _, _, _, _⟩) rfl (fun K hK => ?_)
        go_simp
        refine (hcall _).mono ?_
        rintro e w4 ⟨rfl, hb4⟩
        refine hK.out _ _ ((Below.refl _ _).drew.trans hb4) ?_
        have HS4 : Hid (Below w3.heap.size w3 w4) := Lib.hid ((Below.refl _ _).drew.trans hb4)
        have HB4 : Hid (Below w.heap.size w w4) := Lib.hid (HB3.out.trans (((Below.refl _ _).drew.trans hb4).mono HB3.out.size))
        clear hK K hb4 hcall
        try simp only [Act.put, List.setIfInBounds_toArray, List.set_cons_zero, List.set_cons_succ]
        repeat
          first
            | (refine mix_read (o := ⟨_, _, _, _, _, _⟩) (v := ?_) rfl (by rfl) (fun w' hU => ?_) ?_
               rotate_left
               obtain ⟨z0, z1, z2⟩ := HS.out _ hU
               go_simp
               with_reducible rfl
               try simp only [Act.put, List.setIfInBounds_toArray, List.set_cons_zero, List.set_cons_succ])
            | (refine mix_skip (o := ⟨_, _, _, _, _, _⟩) rfl (by rfl) ?_
               try simp only [Act.put, List.setIfInBounds_toArray, List.set_cons_zero, List.set_cons_succ])
        refine mix_pass (o := ⟨_, _, _, _, _, _⟩) rfl (by rfl) HS4.out ?_
        try simp only [Act.put, List.setIfInBounds_toArray, List.set_cons_zero, List.set_cons_succ]
        refine mix_pass (o := ⟨_, _, _, _, _, _⟩) rfl (by rfl) HS4.out ?_
        try simp only [Act.put, List.setIfInBounds_toArray, List.set_cons_zero, List.set_cons_succ]
        repeat
          first
            | (refine mix_read (o := ⟨_, _, _, _, _, _⟩) (v := ?_) rfl (by rfl) (fun w' hU => ?_) ?_
               rotate_left
               obtain ⟨z0, z1, z2⟩ := HS.out _ hU
               go_simp
               with_reducible rfl
               try simp only [Act.put, List.setIfInBounds_toArray, List.set_cons_zero, List.set_cons_succ])
            | (refine mix_skip (o := ⟨_, _, _, _, _, _⟩) rfl (by rfl) ?_
               try simp only [Act.put, List.setIfInBounds_toArray, List.set_cons_zero, List.set_cons_succ])
        refine mix_done ?_
        go_wp2_with fail
        go_ret
        rw [HNO.out]
        exact ⟨rfl, HB4.out⟩
      | true =>
        have HP : Hid (mkP m) := Lib.hid (of_decide_eq_true hmb)
        rw [hmb] at hcall
        clear hmb
        by_cases hi0 : i = 0
        · subst hi0
          simp only [Nat.zero_mul, Nat.add_zero] at c0 c1 c2
          go_wp2_with fail
          revert HB3 HR3
          generalize wr.alloc (.cells #[.int .u64 m.id, .int .i64 m.at_, .int .u64 m.by_] 88) = w3
          generalize wr.heap.size = g3
          intro HB3 HR3
          have HS : Hid (∀ u, Below w3.heap.size w3 u → u.cell? ⟨g3, 0, none⟩ = some (.int .u64 m.id) ∧ u.cell? ⟨g3, 1, none⟩ = some (.int .i64 m.at_) ∧ u.cell? ⟨g3, 2, none⟩ = some (.int .u64 m.by_)) := Lib.hid fun u hu => by
            have c := (HR3.out.below hu HR3.out.lt).cell
            exact ⟨c 0, c 1, c 2⟩
          refine wp_region_mix [(0, false), (1, false), (2, true), (3, false), (4, false), (5, false), (6, false), (7, false), (8, false), (9, false), (10, false), (11, false), (12, false), (13, false), (15, false), (16, false), (14, true), (17, true), (18, false), (19, false), (20, false)] (fun u => Below w3.heap.size w3 u) (by kernel_rfl) (by kernel_rfl) (by decide +kernel) rfl (Below.refl _ _).drew ?_
          repeat
            first
              | (refine mix_read (o := ⟨_, _, _, _, _, _⟩) (v := ?_) rfl (by rfl) (fun w' hU => ?_) ?_
                 rotate_left
                 obtain ⟨z0, z1, z2⟩ := HS.out _ hU
                 go_simp
                 with_reducible rfl
                 try simp only [Act.put, List.setIfInBounds_toArray, List.set_cons_zero, List.set_cons_succ])
              | (refine mix_skip (o := ⟨_, _, _, _, _, _⟩) rfl (by rfl) ?_
                 try simp only [Act.put, List.setIfInBounds_toArray, List.set_cons_zero, List.set_cons_succ])
          refine mix_step (o := ⟨_, _, _, _, _, _⟩) rfl (fun K hK => ?_)
          go_simp
          refine (hcall _).mono ?_
          rintro e w4 ⟨rfl, hb4⟩
          refine hK.out _ _ ((Below.refl _ _).drew.trans hb4) ?_
          have HS4 : Hid (Below w3.heap.size w3 w4) := Lib.hid ((Below.refl _ _).drew.trans hb4)
          have HB4 : Hid (Below w.heap.size w w4) := Lib.hid (HB3.out.trans (((Below.refl _ _).drew.trans hb4).mono HB3.out.size))
          clear hK K hb4 hcall
          try simp only [Act.put, List.setIfInBounds_toArray, List.set_cons_zero, List.set_cons_succ]
          repeat
            first
              | (refine mix_read (o := ⟨_, _, _, _, _, _⟩) (v := ?_) rfl (by rfl) (fun w' hU => ?_) ?_
                 rotate_left
                 obtain ⟨z0, z1, z2⟩ := HS.out _ hU
                 go_simp
                 with_reducible rfl
                 try simp only [Act.put, List.setIfInBounds_toArray, List.set_cons_zero, List.set_cons_succ])
              | (refine mix_skip (o := ⟨_, _, _, _, _, _⟩) rfl (by rfl) ?_
                 try simp only [Act.put, List.setIfInBounds_toArray, List.set_cons_zero, List.set_cons_succ])
          refine mix_pass (o := ⟨_, _, _, _, _, _⟩) rfl (by rfl) HS4.out ?_
          try simp only [Act.put, List.setIfInBounds_toArray, List.set_cons_zero, List.set_cons_succ]
          refine mix_pass (o := ⟨_, _, _, _, _, _⟩) rfl (by rfl) HS4.out ?_
          try simp only [Act.put, List.setIfInBounds_toArray, List.set_cons_zero, List.set_cons_succ]
          repeat
            first
              | (refine mix_read (o := ⟨_, _, _, _, _, _⟩) (v := ?_) rfl (by rfl) (fun w' hU => ?_) ?_
                 rotate_left
                 obtain ⟨z0, z1, z2⟩ := HS.out _ hU
                 go_simp
                 with_reducible rfl
                 try simp only [Act.put, List.setIfInBounds_toArray, List.set_cons_zero, List.set_cons_succ])
              | (refine mix_skip (o := ⟨_, _, _, _, _, _⟩) rfl (by rfl) ?_
                 try simp only [Act.put, List.setIfInBounds_toArray, List.set_cons_zero, List.set_cons_succ])
          refine mix_done ?_
          go_wp2_with fail
          go_roundg gk1
          case measure => omega
          case rel => exact ⟨1, by omega, by go_num, Lib.hid ⟨HB4.out, (fun j x hx hj => by
            have : j = 0 := by omega
            subst this
            rw [HM.out] at hx
            exact Option.some.inj hx ▸ HP.out), fun j x y _ _ h => by omega⟩⟩
        · obtain ⟨j, rfl⟩ : ∃ j, i = j + 1 := ⟨i - 1, by omega⟩
          obtain ⟨p, hp⟩ : ∃ p, l[j]? = some p := ⟨_, List.getElem?_eq_getElem (by omega)⟩
          obtain ⟨g', o', hA', hg', d0, d1, d2, _⟩ := (SL.out.below HB3.out).cells hp
          injection hA' with hA'
          injection hA' with e1 e2
          subst e1 e2
          have hpj : (((j + 1 : Nat) : Int) - 1) = (j : Int) := by omega
          have hwj : IntKind.i64.wrap (j : Int) = (j : Int) := IntWalk.i64_in _ (by omega)
          have a2 : (0 : Int) ≤ (j : Int) := by omega
          have a3 : (j : Int) < (l.length : Int) := by omega
          have hpos : (0 : Int) < ((j + 1 : Nat) : Int) := by omega
          have HPV := Lib.hid hp
          have hid1 := rid_K p
          have hid2 := rid_K m
          clear hp
          go_wp2_with fail
          revert HB3 HR3 d0 d1 d2
          generalize wr.alloc (.cells #[.int .u64 m.id, .int .i64 m.at_, .int .u64 m.by_] 88) = w3
          generalize wr.heap.size = g3
          intro HB3 HR3 d0 d1 d2
          have HS : Hid (∀ u, Below w3.heap.size w3 u → (u.cell? ⟨g3, 0, none⟩ = some (.int .u64 m.id) ∧ u.cell? ⟨g3, 1, none⟩ = some (.int .i64 m.at_) ∧ u.cell? ⟨g3, 2, none⟩ = some (.int .u64 m.by_)) ∧ u.cell? ⟨g, o + j * 3, none⟩ = some (.int .u64 p.id) ∧ u.cell? ⟨g, o + j * 3 + 1, none⟩ = some (.int .i64 p.at_) ∧ u.cell? ⟨g, o + j * 3 + 2, none⟩ = some (.int .u64 p.by_)) := Lib.hid fun u hu => by
            have c := (HR3.out.below hu HR3.out.lt).cell
            exact ⟨⟨c 0, c 1, c 2⟩, (hu.cell (World.block_lt_of_cell? w3 _ d0)).trans d0, (hu.cell (World.block_lt_of_cell? w3 _ d1)).trans d1, (hu.cell (World.block_lt_of_cell? w3 _ d2)).trans d2⟩
          clear d0 d1 d2
          refine wp_region_mix [(0, false), (1, false), (2, true), (3, false), (4, false), (5, false), (6, false), (7, false), (8, false), (9, false), (10, false), (11, false), (12, false), (13, false), (15, false), (16, false), (14, true), (17, true), (18, false), (19, false), (20, false)] (fun u => Below w3.heap.size w3 u) (by kernel_rfl) (by kernel_rfl) (by decide +kernel) rfl (Below.refl _ _).drew ?_
          repeat
            first
              | (refine mix_read (o := ⟨_, _, _, _, _, _⟩) (v := ?_) rfl (by rfl) (fun w' hU => ?_) ?_
                 rotate_left
                 obtain ⟨⟨z0, z1, z2⟩, y0, y1, y2⟩ := HS.out _ hU
                 go_simp
                 with_reducible rfl
                 try simp only [Act.put, List.setIfInBounds_toArray, List.set_cons_zero, List.set_cons_succ])
              | (refine mix_skip (o := ⟨_, _, _, _, _, _⟩) rfl (by rfl) ?_
                 try simp only [Act.put, List.setIfInBounds_toArray, List.set_cons_zero, List.set_cons_succ])
          refine mix_step (o := ⟨_, _, _, _, _, _⟩) rfl (fun K hK => ?_)
          go_simp
          refine (hcall _).mono ?_
          rintro e w4 ⟨rfl, hb4⟩
          refine hK.out _ _ ((Below.refl _ _).drew.trans hb4) ?_
          have HB4 : Hid (Below w3.heap.size w3 w4) := Lib.hid ((Below.refl _ _).drew.trans hb4)
          clear hK K hb4 hcall
          try simp only [Act.put, List.setIfInBounds_toArray, List.set_cons_zero, List.set_cons_succ]
          repeat
            first
              | (refine mix_read (o := ⟨_, _, _, _, _, _⟩) (v := ?_) rfl (by rfl) (fun w' hU => ?_) ?_
                 rotate_left
                 obtain ⟨⟨z0, z1, z2⟩, y0, y1, y2⟩ := HS.out _ hU
                 go_simp
                 with_reducible rfl
                 try simp only [Act.put, List.setIfInBounds_toArray, List.set_cons_zero, List.set_cons_succ])
              | (refine mix_skip (o := ⟨_, _, _, _, _, _⟩) rfl (by rfl) ?_
                 try simp only [Act.put, List.setIfInBounds_toArray, List.set_cons_zero, List.set_cons_succ])
          refine mix_step (o := ⟨_, _, _, _, _, _⟩) rfl (fun K hK => ?_)
          go_simp
          refine (hid1 _).mono ?_
          rintro e w5 ⟨rfl, hb5⟩
          refine hK.out _ _ (HB4.out.trans (hb5.mono HB4.out.size)) ?_
          have HB5 : Hid (Below w3.heap.size w3 w5) := Lib.hid (HB4.out.trans (hb5.mono HB4.out.size))
          clear hK K hb5 hid1 HB4
          try simp only [Act.put, List.setIfInBounds_toArray, List.set_cons_zero, List.set_cons_succ]
          refine mix_step (o := ⟨_, _, _, _, _, _⟩) rfl (fun K hK => ?_)
          go_simp
          refine (hid2 _).mono ?_
          rintro e w6 ⟨rfl, hb6⟩
          refine hK.out _ _ (HB5.out.trans (hb6.mono HB5.out.size)) ?_
          have HB6 : Hid (Below w.heap.size w w6) := Lib.hid (HB3.out.trans ((HB5.out.trans (hb6.mono HB5.out.size)).mono HB3.out.size))
          clear hK K hb6 hid2 HB5
          try simp only [Act.put, List.setIfInBounds_toArray, List.set_cons_zero, List.set_cons_succ]
          by_cases hup : p.id < m.id
          · have hge : decide (m.id ≤ p.id) = false := decide_eq_false (by omega)
            have HUP := Lib.hid hup
            clear hup
            repeat
              first
                | (refine mix_read (o := ⟨_, _, _, _, _, _⟩) (v := ?_) rfl (by rfl) (fun w' hU => ?_) ?_
                   rotate_left
                   obtain ⟨⟨z0, z1, z2⟩, y0, y1, y2⟩ := HS.out _ hU
                   go_simp
                   with_reducible rfl
                   try simp only [Act.put, List.setIfInBounds_toArray, List.set_cons_zero, List.set_cons_succ])
                | (refine mix_skip (o := ⟨_, _, _, _, _, _⟩) rfl (by rfl) ?_
                   try simp only [Act.put, List.setIfInBounds_toArray, List.set_cons_zero, List.set_cons_succ])
            refine mix_done ?_
            go_wp2_with fail
            go_roundg gk1
            case measure => omega
            case rel => exact ⟨j + 1 + 1, by omega, by go_num, Lib.hid ⟨HB6.out, (fun i x hx hi => by
              by_cases hij : i = j + 1
              · subst hij
                rw [HM.out] at hx
                exact Option.some.inj hx ▸ HP.out
              · exact HW.out.2.1 i x hx (by omega)), fun i x y hx hy hi => by
              by_cases hij : i = j
              · subst hij
                rw [HPV.out] at hx
                rw [HM.out] at hy
                obtain rfl := Option.some.inj hx
                obtain rfl := Option.some.inj hy
                exact HUP.out
              · exact HW.out.2.2 i x y hx hy (by omega)⟩⟩
          · have hge : decide (m.id ≤ p.id) = true := decide_eq_true (by omega)
            have HNO : Hid (upMkB l = false) := Lib.hid (upMkB_no fun h => hup (upM_at h.2.1 HPV.out HM.out))
            clear hup
            repeat
              first
                | (refine mix_read (o := ⟨_, _, _, _, _, _⟩) (v := ?_) rfl (by rfl) (fun w' hU => ?_) ?_
                   rotate_left
                   obtain ⟨⟨z0, z1, z2⟩, y0, y1, y2⟩ := HS.out _ hU
                   go_simp
                   with_reducible rfl
                   try simp only [Act.put, List.setIfInBounds_toArray, List.set_cons_zero, List.set_cons_succ])
                | (refine mix_skip (o := ⟨_, _, _, _, _, _⟩) rfl (by rfl) ?_
                   try simp only [Act.put, List.setIfInBounds_toArray, List.set_cons_zero, List.set_cons_succ])
            refine mix_done ?_
            go_wp2_with fail
            go_ret
            rw [HNO.out]
            exact ⟨rfl, HB6.out⟩
    · have hil : i = l.length := by omega
      subst hil
      have hL : (l.length : Int) ≤ 9223372036854775807 := by omega
      have HE : Hid (upMkB l = decide ((l.length : Int) ≤ 1000)) := Lib.hid (by
        have h1 : (∀ m ∈ l, mkP m) := fun m hm => by
          obtain ⟨j, hj⟩ := List.getElem?_of_mem hm
          exact HW.out.2.1 j m hj (List.getElem?_eq_some_iff.1 hj).1
        have h2 : UpM (l.map (·.id)) := upM_of fun j x y hx hy => HW.out.2.2 j x y hx hy (List.getElem?_eq_some_iff.1 hy).1
        by_cases h3 : l.length ≤ 1000
        · rw [upMkB_yes ⟨h1, h2, h3⟩, decide_eq_true (by omega)]
        · rw [upMkB_no fun h => h3 h.2.2, decide_eq_false (by omega)])
      go_wp2_with fail
      go_ret
      rw [HE.out]
      exact ⟨rfl, HW.out.1⟩

set_option maxHeartbeats 1600000 in
theorem risro_any {w : World} {a b : Value} {l : List Me} {k : List Mk} (h : Mes w a l) (q : Mks w b k) (hl : l.length ≤ 1000000000) (hk : k.length ≤ 1000000000) :
    Calls Tryz.prog 38 #[roV a b] w fun e w' => e = .returned (.bool (goodB l k)) ∧ Below w.heap.size w w' := by
  obtain ⟨A, c, rfl, _, _⟩ := h.form
  obtain ⟨B, d, rfl, _, _⟩ := q.form
  have hb0 : Below w.heap.size w (w.alloc (.cells #[.slice A l.length c, .slice B k.length d] 41)) := (Below.refl _ _).alloc (Nat.le_refl _) _
  have HR0 : Hid (Blk (w.alloc (.cells #[.slice A l.length c, .slice B k.length d] 41)) w.heap.size 41 #[.slice A l.length c, .slice B k.length d]) := Lib.hid (Blk.new _ _ _)
  have HB0 := Lib.hid hb0
  have hc1 := rmay_M (h.below hb0) hl
  have HC2 := Lib.hid fun (u : World) (hu : Below w.heap.size w u) => rmay_K (q.below hu) hk
  rw [goodB_two]
  clear h q hb0
  revert hc1 HC2
  generalize upMeB l = ub
  generalize upMkB k = uk
  intro hc1 HC2
  go_enter Tryz.func38, Tryz.ntmps38
  go_wp2_with fail
  revert HR0 HB0 hc1
  generalize w.alloc (.cells #[.slice A l.length c, .slice B k.length d] 41) = w0
  intro HR0 HB0 hc1
  refine hc1.mono ?_
  rintro e w1 ⟨rfl, hb1⟩
  have HB1 := Lib.hid (HB0.out.trans (hb1.mono HB0.out.size))
  have HR1 := Lib.hid (HR0.out.below hb1 HR0.out.lt)
  have hc2 := HC2.out _ HB1.out
  clear hc1 hb1 HR0 HB0 HC2
  cases ub with
  | false =>
    go_wp2_with fail
    go_ret
    exact ⟨rfl, HB1.out⟩
  | true =>
    have r1 := HR1.out.cell 1
    simp at r1
    go_wp2_with fail
    refine hc2.mono ?_
    rintro e w2 ⟨rfl, hb2⟩
    have HB2 := Lib.hid (HB1.out.trans (hb2.mono HB1.out.size))
    clear hc2 hb2
    go_wp2_with fail
    go_ret
    exact ⟨rfl, HB2.out⟩

set_option maxHeartbeats 3200000 in
theorem rbare_M {w : World} {B : Nat} {bv v : Value} {b0 : List UInt8} {l : List Me} (hO : Own w B 5 bv b0) (hB : B ≤ w.heap.size) (hV : ∀ u, Below B w u → Mes u v l) (hm : ∀ m ∈ l, meP m) (hb0 : b0.length ≤ 1000000) (hl : l.length ≤ 1000) :
    Calls Tryz.prog 40 #[bv, v, .func (.func 41) #[] #[]] w fun e w' => ∃ y, e = .returned y ∧ Own w' B 5 y (b0 ++ l.flatMap meRaw) ∧ Below B w w' := by
  obtain ⟨A, c, rfl, _, _⟩ := (hV w (Below.refl _ _)).form
  have HO := Lib.hid hO
  have SV := Lib.hid hV
  have HM := Lib.hid hm
  clear hO hV hm
  go_enter Tryz.func40, Tryz.ntmps40
  go_wp2_with fail
  go_loopg [0, 15] l.length (fun gk ov iv wr => ∃ i : Nat, i + gk = l.length ∧ iv = .int .i64 (i : Int) ∧ Hid (Below B w wr ∧ Own wr B 5 ov (b0 ++ (l.take i).flatMap meRaw)))
  case atStart => exact ⟨0, by omega, rfl, Lib.hid ⟨Below.refl _ _, by simpa using HO.out⟩⟩
  case round =>
    obtain ⟨i, hi, rfl, HW⟩ := hrel
    by_cases hlt : i < l.length
    · obtain ⟨gk1, hgk1⟩ : ∃ x, gk = x + 1 := ⟨gk - 1, by omega⟩
      obtain ⟨m, hm⟩ : ∃ m, l[i]? = some m := ⟨_, List.getElem?_eq_getElem hlt⟩
      obtain ⟨g, o, hA, hg, c0, c1, c2, c3, c4, c5, hok⟩ := (SV.out wr HW.out.1).cells hm
      subst hA
      have a0 : (0 : Int) ≤ (i : Int) := by omega
      have a1 : (i : Int) < (l.length : Int) := by omega
      have HT : Hid (l.take (i + 1) = l.take i ++ [m]) := Lib.hid (by rw [List.take_add_one, hm]; rfl)
      have hcall := mput_ok m hok
      have hmay := HM.out m (List.mem_of_getElem? hm)
      have HLen : Hid ((b0 ++ (l.take i).flatMap meRaw).length ≤ 1100000) := Lib.hid (by
        simp only [List.length_append, flat_mes, List.length_take]
        omega)
      have hb3 : Below wr.heap.size wr (wr.alloc (.cells #[.int .u64 m.id, .int .i64 m.lv, .int .i64 m.st, .int .i64 m.en, .int .i64 m.pg, .int .i64 m.tr] 84)) := (Below.refl _ _).alloc (Nat.le_refl _) _
      have HO3 := Lib.hid (HW.out.2.below hb3)
      have HB3 := Lib.hid (HW.out.1.trans (hb3.mono (Nat.le_trans hB HW.out.1.size)))
      clear hm hb3 HW
      go_wp2_with fail
      revert HO3 HB3
      generalize wr.alloc (.cells #[.int .u64 m.id, .int .i64 m.lv, .int .i64 m.st, .int .i64 m.en, .int .i64 m.pg, .int .i64 m.tr] 84) = w3
      intro HO3 HB3
      refine (hcall _ (decide_eq_true hmay)).mono ?_
      rintro e w5 ⟨y, rfl, hy, hb5⟩
      have HO5 := Lib.hid (HO3.out.below hb5)
      have HB5 := Lib.hid (HB3.out.trans (hb5.mono (Nat.le_trans hB HB3.out.size)))
      have HY5 := Lib.hid hy.bs
      have HYL : Hid (4 ≤ (sealedOf (meRaw m)).length ∧ (sealedOf (meRaw m)).length ≤ 140737488355328) := Lib.hid (by rw [sealedOf_length, meRaw_length]; omega)
      clear hcall hy hb5 hmay HO3 HB3
      go_wp2_with fail
      refine (open_long _ _ _ HYL.out.1 HYL.out.2 HY5.out).mono ?_
      rintro e w6 ⟨x, f, rfl, hOp, hb6⟩
      obtain ⟨rfl, hx⟩ := hOp.yes (tail_sealed _)
      rw [body_sealed] at hx
      have HO6 := Lib.hid (HO5.out.below hb6)
      have HB6 := Lib.hid (HB5.out.trans (hb6.mono (Nat.le_trans hB HB5.out.size)))
      have HX6 := Lib.hid hx.bs
      have HS6 : Hid (B ≤ w6.heap.size) := Lib.hid (Nat.le_trans hB HB6.out.size)
      clear hOp hb6 hx HO5 HB5 HY5 HYL
      go_wp2_with (at_builtin; refine wpList_append_v _ byteT rfl _ _ rfl B _ _ rfl HO6.out _ _ rfl HX6.out (by rw [meRaw_length]; have := HLen.out; omega) HS6.out ?_)
      intro v7 w7 ho7 hg7 _
      have HO7 : Hid (Own w7 B 5 v7 (b0 ++ (l.take (i + 1)).flatMap meRaw)) := Lib.hid (by
        rw [HT.out, List.flatMap_append, List.flatMap_singleton]
        exact ho7)
      have HB7 := Lib.hid (HB6.out.grown hg7 HS6.out (fun z hz => HO6.out.ge z hz))
      clear ho7 hg7 HO6 HB6 HX6
      go_wp2_with fail
      go_roundg gk1
      case measure => omega
      case rel => exact ⟨i + 1, by omega, by go_num, Lib.hid ⟨HB7.out, HO7.out⟩⟩
    · have hil : i = l.length := by omega
      subst hil
      have HBW := Lib.hid HW.out.1
      have HOW := Lib.hid HW.out.2
      rw [List.take_length] at HOW
      clear HW hlt
      go_wp2_with fail
      go_ret
      exact ⟨_, rfl, HOW.out, HBW.out⟩

set_option maxHeartbeats 3200000 in
theorem rbare_K {w : World} {B : Nat} {bv v : Value} {b0 : List UInt8} {l : List Mk} (hO : Own w B 5 bv b0) (hB : B ≤ w.heap.size) (hV : ∀ u, Below B w u → Mks u v l) (hm : ∀ m ∈ l, mkP m) (hb0 : b0.length ≤ 1000000) (hl : l.length ≤ 1000) :
    Calls Tryz.prog 42 #[bv, v, .func (.func 43) #[] #[]] w fun e w' => ∃ y, e = .returned y ∧ Own w' B 5 y (b0 ++ l.flatMap mkRaw) ∧ Below B w w' := by
  obtain ⟨A, c, rfl, _, _⟩ := (hV w (Below.refl _ _)).form
  have HO := Lib.hid hO
  have SV := Lib.hid hV
  have HM := Lib.hid hm
  clear hO hV hm
  go_enter Tryz.func42, Tryz.ntmps42
  go_wp2_with fail
  go_loopg [0, 15] l.length (fun gk ov iv wr => ∃ i : Nat, i + gk = l.length ∧ iv = .int .i64 (i : Int) ∧ Hid (Below B w wr ∧ Own wr B 5 ov (b0 ++ (l.take i).flatMap mkRaw)))
  case atStart => exact ⟨0, by omega, rfl, Lib.hid ⟨Below.refl _ _, by simpa using HO.out⟩⟩
  case round =>
    obtain ⟨i, hi, rfl, HW⟩ := hrel
    by_cases hlt : i < l.length
    · obtain ⟨gk1, hgk1⟩ : ∃ x, gk = x + 1 := ⟨gk - 1, by omega⟩
      obtain ⟨m, hm⟩ : ∃ m, l[i]? = some m := ⟨_, List.getElem?_eq_getElem hlt⟩
      obtain ⟨g, o, hA, hg, c0, c1, c2, hok⟩ := (SV.out wr HW.out.1).cells hm
      subst hA
      have a0 : (0 : Int) ≤ (i : Int) := by omega
      have a1 : (i : Int) < (l.length : Int) := by omega
      have HT : Hid (l.take (i + 1) = l.take i ++ [m]) := Lib.hid (by rw [List.take_add_one, hm]; rfl)
      have hcall := mmark_ok m hok
      have hmay := HM.out m (List.mem_of_getElem? hm)
      have HLen : Hid ((b0 ++ (l.take i).flatMap mkRaw).length ≤ 1100000) := Lib.hid (by
        simp only [List.length_append, flat_mks, List.length_take]
        omega)
      have hb3 : Below wr.heap.size wr (wr.alloc (.cells #[.int .u64 m.id, .int .i64 m.at_, .int .u64 m.by_] 88)) := (Below.refl _ _).alloc (Nat.le_refl _) _
      have HO3 := Lib.hid (HW.out.2.below hb3)
      have HB3 := Lib.hid (HW.out.1.trans (hb3.mono (Nat.le_trans hB HW.out.1.size)))
      clear hm hb3 HW
      go_wp2_with fail
      revert HO3 HB3
      generalize wr.alloc (.cells #[.int .u64 m.id, .int .i64 m.at_, .int .u64 m.by_] 88) = w3
      intro HO3 HB3
      refine (hcall _ (decide_eq_true hmay)).mono ?_
      rintro e w5 ⟨y, rfl, hy, hb5⟩
      have HO5 := Lib.hid (HO3.out.below hb5)
      have HB5 := Lib.hid (HB3.out.trans (hb5.mono (Nat.le_trans hB HB3.out.size)))
      have HY5 := Lib.hid hy.bs
      have HYL : Hid (4 ≤ (sealedOf (mkRaw m)).length ∧ (sealedOf (mkRaw m)).length ≤ 140737488355328) := Lib.hid (by rw [sealedOf_length, mkRaw_length]; omega)
      clear hcall hy hb5 hmay HO3 HB3
      go_wp2_with fail
      refine (open_long _ _ _ HYL.out.1 HYL.out.2 HY5.out).mono ?_
      rintro e w6 ⟨x, f, rfl, hOp, hb6⟩
      obtain ⟨rfl, hx⟩ := hOp.yes (tail_sealed _)
      rw [body_sealed] at hx
      have HO6 := Lib.hid (HO5.out.below hb6)
      have HB6 := Lib.hid (HB5.out.trans (hb6.mono (Nat.le_trans hB HB5.out.size)))
      have HX6 := Lib.hid hx.bs
      have HS6 : Hid (B ≤ w6.heap.size) := Lib.hid (Nat.le_trans hB HB6.out.size)
      clear hOp hb6 hx HO5 HB5 HY5 HYL
      go_wp2_with (at_builtin; refine wpList_append_v _ byteT rfl _ _ rfl B _ _ rfl HO6.out _ _ rfl HX6.out (by rw [mkRaw_length]; have := HLen.out; omega) HS6.out ?_)
      intro v7 w7 ho7 hg7 _
      have HO7 : Hid (Own w7 B 5 v7 (b0 ++ (l.take (i + 1)).flatMap mkRaw)) := Lib.hid (by
        rw [HT.out, List.flatMap_append, List.flatMap_singleton]
        exact ho7)
      have HB7 := Lib.hid (HB6.out.grown hg7 HS6.out (fun z hz => HO6.out.ge z hz))
      clear ho7 hg7 HO6 HB6 HX6
      go_wp2_with fail
      go_roundg gk1
      case measure => omega
      case rel => exact ⟨i + 1, by omega, by go_num, Lib.hid ⟨HB7.out, HO7.out⟩⟩
    · have hil : i = l.length := by omega
      subst hil
      have HBW := Lib.hid HW.out.1
      have HOW := Lib.hid HW.out.2
      rw [List.take_length] at HOW
      clear HW hlt
      go_wp2_with fail
      go_ret
      exact ⟨_, rfl, HOW.out, HBW.out⟩

set_option maxHeartbeats 6400000 in
theorem rput_any {w : World} {a b : Value} {l : List Me} {k : List Mk} (h : Mes w a l) (q : Mks w b k) (hl : l.length ≤ 1000) (hk : k.length ≤ 1000) :
    Calls Tryz.prog 19 #[roV a b] w fun e w' => ∃ y, e = .returned (.tuple #[y, errV (if goodB l k = true then 0 else 1)]) ∧ Bs w' y (if goodB l k = true then sealedOf (rosRaw l k) else []) ∧ Below w.heap.size w w' := by
  obtain ⟨A, c, rfl, _, _⟩ := h.form
  obtain ⟨B, d, rfl, _, _⟩ := q.form
  have hb0 : Below w.heap.size w (w.alloc (.cells #[.slice A l.length c, .slice B k.length d] 41)) := (Below.refl _ _).alloc (Nat.le_refl _) _
  have HR0 : Hid (Blk (w.alloc (.cells #[.slice A l.length c, .slice B k.length d] 41)) w.heap.size 41 #[.slice A l.length c, .slice B k.length d]) := Lib.hid (Blk.new _ _ _)
  have HB0 := Lib.hid hb0
  have hc1 := risro_any (h.below hb0) (q.below hb0) (by omega) (by omega)
  have SL := Lib.hid fun (u : World) (hu : Below w.heap.size w u) => h.below hu
  have SK := Lib.hid fun (u : World) (hu : Below w.heap.size w u) => q.below hu
  have hwl : IntKind.u64.wrap ((l.length : Nat) : Int) = ((l.length : Nat) : Int) := wrapU l.length (by omega)
  have hwk : IntKind.u64.wrap ((k.length : Nat) : Int) = ((k.length : Nat) : Int) := wrapU k.length (by omega)
  have P0 := Lib.hid (putOkN 2 l.length rfl (by show l.length < 65536; omega))
  have P1 := Lib.hid (putOkN 2 k.length rfl (by show k.length < 65536; omega))
  clear h q hb0
  have HGB : Hid (goodB l k = true → RosG l k) := Lib.hid fun hg => Classical.byContradiction fun h => by
    rw [goodB_no h] at hg
    cases hg
  revert hc1 HGB
  generalize goodB l k = gb
  intro hc1 HGB
  go_enter Tryz.func19, Tryz.ntmps19
  go_wp2_with fail
  revert HR0 HB0 hc1
  generalize w.alloc (.cells #[.slice A l.length c, .slice B k.length d] 41) = w0
  intro HR0 HB0 hc1
  refine hc1.mono ?_
  rintro e w1 ⟨rfl, hb1⟩
  have HB1 := Lib.hid (HB0.out.trans (hb1.mono HB0.out.size))
  have HR1 := Lib.hid (HR0.out.below hb1 HR0.out.lt)
  clear hc1 hb1 HR0 HB0
  cases gb with
  | false =>
    go_wp2_with fail
    go_ret2
    exact ⟨_, rfl, Bs.nil _, HB1.out⟩
  | true =>
    have HG := Lib.hid (HGB.out rfl)
    have r0 := HR1.out.cell 0
    simp at r0
    clear HGB
    go_wp2_with fail
    refine (put_ok [] _ 2 ((l.length : Nat) : Int) _ (by omega) P0.out (by simp) (Bs.nil _)).mono ?_
    rintro e w2 ⟨y1, rfl, hy, hb⟩
    rw [List.nil_append] at hy
    have HY2 := Lib.hid hy.bs
    have HR2 := Lib.hid (HR1.out.below hb HR1.out.lt)
    have HB2 := Lib.hid (HB1.out.trans (hb.mono HB1.out.size))
    have r1 := HR2.out.cell 1
    simp at r1
    clear hy hb r0 HR1 HB1
    go_wp2_with fail
    refine (put_ok _ _ 2 ((k.length : Nat) : Int) _ (by omega) P1.out (by rw [bet_length]; omega) HY2.out).mono ?_
    rintro e w3 ⟨y2, rfl, hy, hb⟩
    have HO3 : Hid (Own w3 w2.heap.size 5 y2 (bet l.length 2 ++ bet k.length 2)) := Lib.hid hy
    have HR3 := Lib.hid (HR2.out.below hb HR2.out.lt)
    have HB3 := Lib.hid (HB2.out.trans (hb.mono HB2.out.size))
    have HZ : Hid (w.heap.size < w2.heap.size ∧ w2.heap.size ≤ w3.heap.size) := Lib.hid ⟨HR2.out.lt, hb.size⟩
    have r0 := HR3.out.cell 0
    simp at r0
    clear hy hb r1 HR2 HB2 HY2
    have hbm := rbare_M (v := .slice A l.length c) (l := l) HO3.out HZ.out.2 (fun u hu => SL.out u (HB3.out.trans (hu.mono (Nat.le_of_lt HZ.out.1)))) HG.out.may (by simp only [List.length_append, bet_length]; omega) hl
    go_wp2_with fail
    refine hbm.mono ?_
    rintro e w4 ⟨y3, rfl, ho4, hb4⟩
    have HO4 := Lib.hid ho4
    have HR4 : Hid (Blk w4 w.heap.size 41 #[.slice A l.length c, .slice B k.length d]) := Lib.hid ((hb4.block _ HZ.out.1).trans HR3.out)
    have HB4 := Lib.hid (HB3.out.trans (hb4.mono (Nat.le_of_lt HZ.out.1)))
    have HZ4 : Hid (w2.heap.size ≤ w4.heap.size) := Lib.hid (Nat.le_trans HZ.out.2 hb4.size)
    have r1 := HR4.out.cell 1
    simp at r1
    clear hbm ho4 hb4 r0 HR3 HB3 HO3
    have hbk := rbare_K (v := .slice B k.length d) (l := k) HO4.out HZ4.out (fun u hu => SK.out u (HB4.out.trans (hu.mono (Nat.le_of_lt HZ.out.1)))) HG.out.fair (by simp only [List.length_append, bet_length, flat_mes]; omega) hk
    go_wp2_with fail
    refine hbk.mono ?_
    rintro e w5 ⟨y4, rfl, ho5, hb5⟩
    have HO5 := Lib.hid ho5.bs
    have HB5 := Lib.hid (HB4.out.trans (hb5.mono (Nat.le_of_lt HZ.out.1)))
    have hseal := fun u vv (hu : Bs u vv (rosRaw l k)) => seal_any _ vv u (by rw [rosRaw_length]; omega) hu
    clear hbk ho5 hb5 r1 HR4 HB4 HO4
    go_wp2_with fail
    refine (hseal _ _ HO5.out).mono ?_
    rintro e w6 ⟨y5, rfl, hy, hb6⟩
    have HY6 := Lib.hid hy.bs
    have HB6 := Lib.hid (HB5.out.trans (hb6.mono HB5.out.size))
    clear hseal hy hb6
    go_wp2_with fail
    go_ret2
    exact ⟨_, rfl, HY6.out, HB6.out⟩

end Go.Proofs.YtmlemclehfdneaaGreatDoor
