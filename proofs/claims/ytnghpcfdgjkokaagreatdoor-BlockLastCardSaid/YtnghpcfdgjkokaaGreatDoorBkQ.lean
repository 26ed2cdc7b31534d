/-
  BlockLast, walked: what is got of a block, whatever call of its Write fails. Conditions: what each says; of the library's tables: Ld.
-/
import Derived.Test.YtnghpcfdgjkokaaGreatDoorBkP
namespace Go.Proofs.YtnghpcfdgjkokaaGreatDoor
open Go.RowKit
set_option maxRecDepth 100000

theorem used_mem {l : List Ob} {o : Ob} (h : o ∈ l) : o.b.length ≤ usedL l := by
  obtain ⟨i, hi⟩ := List.getElem?_of_mem h
  have h1 := usedL_split l i
  have hil := (List.getElem?_eq_some_iff.1 hi).1
  have hd : l.drop i = o :: l.drop (i + 1) := by rw [List.drop_eq_getElem_cons hil, (List.getElem?_eq_some_iff.1 hi).2]
  rw [hd, usedL_cons] at h1
  omega
theorem fnd_used {n : List UInt8} {l : List Ob} {o : Ob} (h : fnd n l = some o) : o.b.length ≤ usedL l := by
  obtain ⟨i, _, hi⟩ := fnd_at h
  exact used_mem (List.mem_of_getElem? hi)
/-- traces' numbers, of traces that lie in memory -/
theorem ids_of {w : World} {v : Value} {l : List Tn} (h : Ts w v l) : ∀ t ∈ l, (0 ≤ t.id ∧ t.id ≤ 18446744073709551615) ∧ ∀ s ∈ t.sp, s.ok := fun t ht => by
  obtain ⟨xs, _, h4⟩ := h
  obtain ⟨i, hi⟩ := List.mem_iff_getElem?.1 ht
  obtain ⟨x, _, hid, d, _, hd⟩ := h4.right hi
  refine ⟨hid, fun s hs => ?_⟩
  obtain ⟨k, hk⟩ := List.mem_iff_getElem?.1 hs
  exact hd.ok hk
theorem pages_valP {l : List Tn} (h : IsT l) (s : Sz) (hok : ∀ t ∈ l, (0 ≤ t.id ∧ t.id ≤ 18446744073709551615) ∧ ∀ s ∈ t.sp, s.ok) : ∀ p ∈ pagesOf l s, ValP p := fun p hp => by
  obtain ⟨h1, h2⟩ := pgB_iff.1 (pages_pgB h s p hp)
  have hm : ∀ t ∈ p, t ∈ l := fun t ht => by
    rw [← pages_flat l s]
    exact List.mem_flatten.2 ⟨p, hp, ht⟩
  exact ⟨h2, h1, fun t ht => (hok t (hm t ht)).1, fun t ht => (hok t (hm t ht)).2⟩
theorem wrA_ok {m : Sm} {id : Nat} {lv : Int} {l : List Tn} {s : Sz} (h : (wrA m id lv l s).2 = 0) : BkOk id lv l s ∧ wrA m id lv l s = wrL m (bkObs id lv l s) := by
  by_cases hk : BkOk id lv l s
  · obtain ⟨h1, _, h3⟩ := bk_ok hk
    exact ⟨hk, by rw [wrA, if_pos h3, h1]⟩
  · obtain ⟨_, _, h3⟩ := bk_no hk
    rw [wrA, if_neg (by rw [h3]; omega), h3] at h
    simp at h
theorem wrA_room (m : Sm) (id : Nat) (lv : Int) (l : List Tn) (s : Sz) : (wrA m id lv l s).1.room = m.room := by
  unfold wrA
  split
  · exact wrL_room _ _
  · rfl
/-- all of it is there if Write tells no error -/
theorem last_has {m : Sm} {id N : Nat} {l : List Tn} {s : Sz} (hF : (wrA m id 0 l s).1.fine N) (hid : id < 18446744073709551616) (hl : l.length ≤ 200) (hok : ∀ t ∈ l, (0 ≤ t.id ∧ t.id ≤ 18446744073709551615) ∧ ∀ s ∈ t.sp, s.ok) (hz : (wrA m id 0 l s).2 = 0) : HasBk (wrA m id 0 l s).1 id (bkMe id 0 l s) (pagesOf l s) := by
  obtain ⟨hk, he⟩ := wrA_ok hz
  have hp : (pagesOf l s).length ≤ 200 := Nat.le_trans (pages_len l s) hl
  have hfu := hF.used
  rw [he] at hz hfu ⊢
  have hall := wrL_all (bkObs id 0 l s) m (bkObs_names hp) hz
  obtain ⟨hmb, hmo⟩ := bkMe_ok hk hid hp (by omega)
  refine ⟨?_, hmb, hmo, rfl, rfl, by rw [pages_flat]; rfl, by rw [pages_flat]; exact hk.is, fun i p hi => ?_, hp, by rw [pages_flat]; omega⟩
  · exact hall (bkMeOb id 0 l s) (by rw [bkObs_fore]; exact List.mem_append_right _ (List.mem_singleton_self _))
  · obtain ⟨o, h1, h2⟩ := hall (obPg id p i) (by rw [bkObs]; exact List.mem_append_left _ (obPages_at hi))
    refine ⟨o, h1, h2, pages_valP hk.is s hok p (List.mem_of_getElem? hi), ?_⟩
    have h3 := fnd_used h1
    rw [h2] at h3
    exact Nat.le_trans h3 hfu
/-- no meta is there if it tells one -/
theorem last_no {m : Sm} {id : Nat} {l : List Tn} {s : Sz} (hm : m.l = []) (hz : (wrA m id 0 l s).2 ≠ 0) : fnd (nmOf id [109] 0) (wrA m id 0 l s).1.l = none := by
  by_cases hk : BkOk id 0 l s
  · obtain ⟨h1, _, h3⟩ := bk_ok hk
    have he : wrA m id 0 l s = wrL m (bkFore id l s ++ [bkMeOb id 0 l s]) := by rw [wrA, if_pos h3, h1, bkObs_fore]
    rw [he] at hz ⊢
    exact wrL_last _ m bkFore_ne (by rw [hm]; rfl) hz
  · obtain ⟨_, _, h3⟩ := bk_no hk
    rw [wrA, if_neg (by rw [h3]; omega), hm]
    rfl
theorem HasBk.same {m m' : Sm} {id : Nat} {M : Me} {ps : List (List Tn)} (h : HasBk m id M ps) (e : m'.l = m.l) : HasBk m' id M ps :=
  ⟨by rw [e]; exact h.me, h.mb, h.mo, h.mi, h.mp, h.mt, h.is, by rw [e]; exact h.pages, h.few, h.many⟩
theorem sList_all {m : Sm} (hl : m.left = -1) : sList m [] = (m.l.map fun o => o.nm, 0) := by
  rw [sList, if_neg (by rw [(left_call hl).1]; simp), sNames_all]
/-- is it no error -/
theorem eqNil14 (c : Int) {z : Bool} (hz : z = decide (c = 0)) (u : World) : (binOp .eql 32 (errV c) .nilIface).run Tryz.prog u = .ok (.bool z) u := by
  subst hz
  by_cases h : c = 0
  · subst h
    rw [errV_zero]
    go_simp
    try simp
  · rw [errV_code h]
    go_simp
    try simp [h]
theorem neNil14 (c : Int) {z : Bool} (hz : z = decide (c = 0)) (u : World) : (binOp .neq 32 (errV c) .nilIface).run Tryz.prog u = .ok (.bool (!z)) u := by
  subst hz
  by_cases h : c = 0
  · subst h
    rw [errV_zero]
    go_simp
    try simp
  · rw [errV_code h]
    go_simp
    try simp [h]
theorem eqG14 (t : Nat) (c : Int) (u : World) : (eqGuard .eql 32 (.tmp t) (.const .nilIface) (errV c) .nilIface).run Tryz.prog u = .ok () u := by
  by_cases h : c = 0
  · subst h
    rw [errV_zero]
    simp [eqGuard, go_sem]
  · rw [errV_code h]
    simp [eqGuard, go_sem]
theorem neG14 (t : Nat) (c : Int) (u : World) : (eqGuard .neq 32 (.tmp t) (.const .nilIface) (errV c) .nilIface).run Tryz.prog u = .ok () u := by
  by_cases h : c = 0
  · subst h
    rw [errV_zero]
    simp [eqGuard, go_sem]
  · rw [errV_code h]
    simp [eqGuard, go_sem]
/-- nothing beside -/
def nB : World → (Nat → Prop) → Prop := fun _ G => ∀ q, ¬ G q
theorem nB_thing : Thing nB := ⟨fun h _ => h, fun h q hq => (h q hq).elim⟩

set_option maxHeartbeats 12800000 in
theorem blockLast_any (fails : Int) (id : Nat) (v : Value) (l : List Tn) (s : Sz) (w : World) (h : Ts w v l) (hf0 : -9223372036854775808 ≤ fails) (hf1 : fails ≤ 9223372036854775807) (hid : id < 18446744073709551616) (hll : l.length ≤ 140737488355328) (hL : Ld w) :
    Calls Tryz.prog 5 #[.int .i64 fails, .int .u64 (id : Int), v, szV s] w fun e w' => e = .returned (.bool true) ∧ Below w.heap.size w w' := by
  have hids := ids_of h
  obtain ⟨pg, sh, bi, hs⟩ := s
  obtain ⟨A, c, rfl, hc1, hc2⟩ := h.form
  have HIDS := Lib.hid hids
  have H := Lib.hid h
  have HLD := Lib.hid hL
  have HB0 : Hid (Below w.heap.size w (w.alloc (.cells #[.int .i64 pg, .int .i64 sh, .int .i64 bi, .int .i64 hs] 25))) := Lib.hid ((Below.refl _ _).alloc (Nat.le_refl _) _)
  have HS0 : Hid (Blk (w.alloc (.cells #[.int .i64 pg, .int .i64 sh, .int .i64 bi, .int .i64 hs] 25)) w.heap.size 25 #[.int .i64 pg, .int .i64 sh, .int .i64 bi, .int .i64 hs]) := Lib.hid (Blk.new _ _ _)
  have hFew := fun u (hu : Ts u (.slice A l.length c) l) => FewTraces_any _ l 200 u hu hll
  simp only [szV]
  clear h hL hids
  go_enter Tryz.func5, Tryz.ntmps5
  go_wp2_with fail
  revert HB0 HS0
  generalize w.alloc (.cells #[.int .i64 pg, .int .i64 sh, .int .i64 bi, .int .i64 hs] 25) = w0
  intro HB0 HS0
  refine (up14_any _ (HLD.out.below HB0.out)).mono ?_
  rintro e w1 ⟨rfl, hb1⟩
  have HB1 := Lib.hid (HB0.out.trans (hb1.mono HB0.out.size))
  have HS1 := Lib.hid (HS0.out.below hb1 HS0.out.lt)
  clear hb1 HB0 HS0
  go_wp2_with fail
  refine (hFew _ (H.out.below HB1.out)).mono ?_
  rintro e w2 ⟨rfl, rfl⟩
  clear hFew
  have hnew := snew_ok 1000000 w1 (by omega) (by omega)
  cases hf : fewT l 200 with
  | false =>
    go_wp2_with fail
    refine hnew.mono ?_
    rintro e w3 ⟨g, F, rfl, _, hb3, _⟩
    have HB3 := Lib.hid (HB1.out.trans (hb3.mono HB1.out.size))
    clear hb3 hnew hf
    go_wp2_with fail
    go_ret
    exact ⟨rfl, HB3.out⟩
  | true =>
    obtain ⟨f1, f2, _⟩ := pfew (n := 200) hf
    clear hf
    go_wp2_with fail
    refine hnew.mono ?_
    rintro e w3 ⟨g, F, rfl, hP3, hb3, hF3⟩
    have HS3 := Lib.hid (HS1.out.below hb3 HS1.out.lt)
    have hgs := HS1.out.lt
    have HW3 : Hid (W2 (fun u => Blk u w.heap.size 25 #[.int .i64 pg, .int .i64 sh, .int .i64 bi, .int .i64 hs]) w1 w3 (stA g ⟨1000000, -1, 0, []⟩) F nB (fun _ => False)) := Lib.hid
      ⟨hb3, hP3, fun _ h => h, hF3, fun _ h => h.elim, fun _ _ h => h, keepBlk HS3.out fun hbad => by
        rcases hbad with h | h
        · have := hF3 _ h
          omega
        · exact h⟩
    clear hnew hP3 hb3 hF3 HS3 HS1 hgs
    have hfl := sfail_any (n := fails) HW3.out.a hf0 hf1
    go_wp2_with fail
    refine hfl.mono ?_
    rintro e w5 ⟨rfl, hP5, hg5⟩
    obtain ⟨m1, hm1⟩ : ∃ m, m = failS ⟨1000000, -1, 0, []⟩ fails := ⟨_, rfl⟩
    have HW5 : Hid (W2 (fun u => Blk u w.heap.size 25 #[.int .i64 pg, .int .i64 sh, .int .i64 bi, .int .i64 hs]) w1 w5 (stA g m1) F nB (fun _ => False)) := Lib.hid (by
      rw [hm1]
      exact HW3.out.stepA (A' := stA g (failS ⟨1000000, -1, 0, []⟩ fails)) (stA_thing _ _) nB_thing hP5 (Apt.of_grown hg5 fun q hq => by rw [← Option.some.inj hq]; exact hP5.Fg) fun q hq => .inl hq)
    have HK1 : Hid (Kept m1 ∧ m1.fine 0 ∧ m1.l = [] ∧ m1.room = 1000000) := Lib.hid (by rw [hm1]; exact ⟨Kept.start 1000000 (by omega) fails, (fine_start 1000000 (by omega) (by omega)).fail fails hf1, rfl, rfl⟩)
    clear hfl hP5 hg5 HW3 hm1
    have HTS : Hid (∀ u, Below w1.heap.size w1 u → Ts u (.slice A l.length c) l ∧ Ld u) := Lib.hid fun u hu => by
      have h1 := HB1.out.trans (hu.mono HB1.out.size)
      exact ⟨H.out.below h1, HLD.out.below h1⟩
    obtain ⟨sz, hsz⟩ : ∃ z : Sz, z = ⟨pg, sh, bi, hs⟩ := ⟨_, rfl⟩
    obtain ⟨M, hMe⟩ : ∃ z, z = wrM m1 id 0 l sz := ⟨_, rfl⟩
    obtain ⟨mr, hmr⟩ : ∃ z, z = (wrA m1 id 0 l sz).1 := ⟨_, rfl⟩
    obtain ⟨cd, hcd⟩ : ∃ z, z = (wrA m1 id 0 l sz).2 := ⟨_, rfl⟩
    have hNR : mr.fine (0 + 203) := by rw [hmr]; exact wrA_fine HK1.out.2.1 _ _ _ _ (by omega)
    have HKR : Hid (Kept mr ∧ mr.fine (0 + 203) ∧ mr.room = 1000000) := Lib.hid ⟨by rw [hmr]; exact HK1.out.1.wrA _ _ _ _, hNR, by rw [hmr, wrA_room]; exact HK1.out.2.2.2⟩
    obtain ⟨z, hz⟩ : ∃ z, z = decide (cd = 0) := ⟨_, rfl⟩
    have HYES : Hid (z = true → HasBk mr id (bkMe id 0 l sz) (pagesOf l sz)) := Lib.hid fun e => by
      rw [hz] at e
      have := of_decide_eq_true e
      rw [hcd] at this
      rw [hmr] at hNR ⊢
      exact last_has hNR hid (by omega) HIDS.out this
    have HNO : Hid (z = false → fnd (nmOf id [109] 0) mr.l = none) := Lib.hid fun e => by
      rw [hz] at e
      have := of_decide_eq_false e
      rw [hcd] at this
      rw [hmr]
      exact last_no HK1.out.2.2.1 this
    have hWr := bwrite_any (N := 0) id 0 _ l sz w5 HW5.out.a HK1.out.2.1 (by omega) (fun u hu => (HTS.out u (HW5.out.below.trans (hu.mono HW5.out.below.size))).1) hid (by omega) (HTS.out _ HW5.out.below).2
    rw [← hMe, ← hmr, ← hcd, hsz] at hWr
    have e1 := eqNil14 cd hz
    have e3 := neNil14 cd hz
    have e4 := eqG14
    have e5 := neG14
    clear hMe hmr hcd hNR hz hsz
    obtain ⟨mi, ml, ms, mn, mp, mt⟩ := M
    simp only [meV, szV] at hWr
    have b0 := HW5.out.x.cell 0
    have b1 := HW5.out.x.cell 1
    have b2 := HW5.out.x.cell 2
    have b3 := HW5.out.x.cell 3
    simp at b0 b1 b2 b3
    go_wp2_with fail
    refine hWr.mono ?_
    rintro e w7 ⟨rfl, F7, hP7, hG7⟩
    have hb8 : Below w7.heap.size w7 (w7.alloc (.cells #[.int .u64 mi, .int .i64 ml, .int .i64 ms, .int .i64 mn, .int .i64 mp, .int .i64 mt] 30)) := (Below.refl _ _).alloc (Nat.le_refl _) _
    have HW8 : Hid (W2 (fun _ => True) w1 (w7.alloc (.cells #[.int .u64 mi, .int .i64 ml, .int .i64 ms, .int .i64 mn, .int .i64 mp, .int .i64 mt] 30)) (stA g mr) F7 nB (fun _ => False)) := Lib.hid (((HW5.out.stepA (A' := stA g mr) (stA_thing _ _) nB_thing hP7 hG7.apt hG7.new).say (X' := fun _ => True) fun _ _ => trivial).later (stA_thing _ _) nB_thing hb8)
    clear hWr hP7 hG7 HW5 b0 b1 b2 b3 hb8
    go_wp2_with fail
    revert HW8
    generalize w7.alloc (.cells #[.int .u64 mi, .int .i64 ml, .int .i64 ms, .int .i64 mn, .int .i64 mp, .int .i64 mt] 30) = w8
    intro HW8
    refine (sfail_any (n := -1) HW8.out.a (by omega) (by omega)).mono ?_
    rintro e w9 ⟨rfl, hP9, hg9⟩
    obtain ⟨m2, hm2⟩ : ∃ m, m = failS mr (-1) := ⟨_, rfl⟩
    have HW9 : Hid (W2 (fun _ => True) w1 w9 (stA g m2) F7 nB (fun _ => False)) := Lib.hid (by
      rw [hm2]
      exact HW8.out.stepA (A' := stA g (failS mr (-1))) (stA_thing _ _) nB_thing hP9 (Apt.of_grown hg9 fun q hq => by rw [← Option.some.inj hq]; exact hP9.Fg) fun q hq => .inl hq)
    have HK2 : Hid (Kept m2 ∧ m2.left = -1 ∧ m2.fine 203 ∧ m2.l = mr.l ∧ m2.room = 1000000) := Lib.hid (by
      rw [hm2]
      exact ⟨⟨HKR.out.1.rise, HKR.out.1.named, HKR.out.1.fits⟩, rfl, HKR.out.2.1.fail (-1) (by omega), rfl, HKR.out.2.2⟩)
    clear hP9 hg9 HW8 hm2
    go_wp2_with fail
    refine (Name_any id [109] 0 _ hid (by omega)).mono ?_
    rintro e w10 ⟨rfl, hb10⟩
    have HW10 := Lib.hid (HW9.out.later (stA_thing _ _) nB_thing hb10)
    have hGt := stGet_any (n := nmOf id [109] 0) HW10.out.a HK2.out.2.2.1 (by omega) (by rw [nmOf_sort sW_m]; simp [nmHead_length])
    obtain ⟨c2, hc2⟩ : ∃ c2, c2 = (sGet m2 (nmOf id [109] 0)).2 := ⟨_, rfl⟩
    rw [← hc2] at hGt
    have hz2 : z = decide (c2 = 0) := by
      rw [hc2]
      cases z with
      | true =>
        obtain ⟨o, hf, _⟩ := (HYES.out rfl).me
        rw [sGet_fnd (left_call HK2.out.2.1).1 (by rw [HK2.out.2.2.2.1]; exact hf)]
        rfl
      | false =>
        rw [sGet_no (left_call HK2.out.2.1).1 (by rw [HK2.out.2.2.2.1]; exact HNO.out rfl)]
        rfl
    have e2 := eqNil14 c2 hz2
    clear hb10 HW9 hc2 hz2
    go_wp2_with fail
    refine hGt.mono ?_
    rintro e w11 ⟨x, F11, rfl, _, hP11, hA11, hn11, _⟩
    obtain ⟨m3, hm3⟩ : ∃ m, m = callS m2 := ⟨_, rfl⟩
    have HW11 : Hid (W2 (fun _ => True) w1 w11 (stA g m3) F11 nB (fun _ => False)) := Lib.hid (by
      rw [hm3]
      exact HW10.out.stepA (A' := stA g (callS m2)) (stA_thing _ _) nB_thing hP11 hA11 hn11)
    have HK3 : Hid (Kept m3 ∧ m3.left = -1 ∧ m3.fine 204 ∧ m3.l = mr.l ∧ m3.room = 1000000) := Lib.hid (by
      rw [hm3]
      exact ⟨⟨HK2.out.1.rise, HK2.out.1.named, HK2.out.1.fits⟩, (left_call HK2.out.2.1).2, HK2.out.2.2.1.call, HK2.out.2.2.2.1, HK2.out.2.2.2.2⟩)
    clear hGt hP11 hA11 hn11 HW10 hm3 HK2
    go_wp2_with fail
    refine wp_region_mix [(0, false), (1, false), (2, false), (3, false), (4, false)] (fun u => Below w11.heap.size w11 u) (by kernel_rfl) (by kernel_rfl) (by kernel_rfl) rfl (Below.refl _ _).drew ?_
    iterate 4
      (refine mix_read (o := ⟨_, _, _, _, _, _⟩) (v := ?_) rfl (by rfl) (fun w' hS => ?_) ?_
       rotate_left
       go_simp
       with_reducible rfl
       try simp only [Act.put, List.setIfInBounds_toArray, List.set_cons_zero, List.set_cons_succ])
    refine mix_read (o := ⟨_, _, _, _, _, _⟩) (v := .bool false) rfl (by rfl) (fun w' hS => by
      go_simp
      try simp) ?_
    try simp only [Act.put, List.setIfInBounds_toArray, List.set_cons_zero, List.set_cons_succ]
    refine mix_done ?_
    have hLi := fun u (hu : Below w11.heap.size w11 u) => stList_any (p := []) ((HW11.out.later (stA_thing _ _) nB_thing hu).a) HK3.out.2.2.1 (by omega) (by simp)
    simp only [sList_all HK3.out.2.1, HK3.out.2.2.2.1, errV_zero] at hLi
    have HW12 := Lib.hid (HW11.out.later (stA_thing _ _) nB_thing (Below.refl _ w11).drew)
    clear HW11
    go_wp2_with fail
    refine (hLi _ (Below.refl _ _).drew).mono ?_
    rintro e w13 ⟨nv, F13, rfl, hK13, hP13, hA13, hn13⟩
    obtain ⟨m4, hm4⟩ : ∃ m, m = callS m3 := ⟨_, rfl⟩
    have HW13 : Hid (W2 (fun u => StL u nv (mr.l.map fun o => o.nm)) w1 w13 (stA g m4) F13 nB (fun _ => False)) := Lib.hid (by
      rw [hm4]
      exact (HW12.out.stepA (A' := stA g (callS m3)) (stA_thing _ _) nB_thing hP13 hA13 hn13).say (hK13.less fun q hq => hq.elim (fun h => .inl (.inr h)) fun h => h.elim))
    have HK4 : Hid (Kept m4 ∧ m4.left = -1 ∧ m4.fine 205 ∧ m4.l = mr.l ∧ m4.room = 1000000) := Lib.hid (by
      rw [hm4]
      exact ⟨⟨HK3.out.1.rise, HK3.out.1.named, HK3.out.1.fits⟩, (left_call HK3.out.2.1).2, HK3.out.2.2.1.call, HK3.out.2.2.2.1, HK3.out.2.2.2.2⟩)
    clear hLi hK13 hP13 hA13 hn13 HW12 hm4 HK3
    obtain ⟨An, cn, hnv, _, _⟩ := HW13.out.x.form
    rw [List.length_map] at hnv
    subst hnv
    have HLN : Hid (mr.l.length ≤ 203) := Lib.hid HKR.out.2.1.len
    have hb14 : Below w13.heap.size w13 (w13.alloc (.cells #[.int .i64 1000000, .int .i64 (-1), .int .i64 0, .slice none 0 0] 51)) := (Below.refl _ _).alloc (Nat.le_refl _) _
    have hyF : ∀ q, yF w13.heap.size (.slice none 0 0) q → q = w13.heap.size := fun q hq => hq.elim (fun h => h) fun h => by cases h
    have HW14 : Hid (W2 (fun u => StL u (.slice An mr.l.length cn) (mr.l.map fun o => o.nm)) w1 (w13.alloc (.cells #[.int .i64 1000000, .int .i64 (-1), .int .i64 0, .slice none 0 0] 51)) (stA g m4) F13 (stB w13.heap.size w13.heap.size ⟨1000000, -1, 0, []⟩) (yF w13.heap.size (.slice none 0 0))) := Lib.hid
      ⟨HW13.out.below.trans (hb14.mono HW13.out.below.size), (stA_thing _ _).keep HW13.out.a (Apt.of_below hb14), ⟨_, ⟨Blk.new w13 _ _, OwnL.nil _ _ _ _, by simp [Value.ownBlock], Nat.le_refl _⟩, rfl⟩, HW13.out.fge, (fun q hq => by
        rw [hyF q hq]
        exact HW13.out.below.size), (fun q hq hG => by
        have := (stA_thing _ _).lt HW13.out.a q hq
        have := hyF q hG
        omega), HW13.out.kx.go (Apt.of_below hb14) fun q hq => by
        rcases hq with h | h
        · exact .inl (.inl h)
        · exact .inr (Nat.le_of_eq (hyF q h).symm)⟩
    have HGY : Hid (w1.heap.size ≤ w13.heap.size) := Lib.hid HW13.out.below.size
    clear hb14 hyF HW13
    go_wp2_with fail
    revert HW14 HGY
    generalize w13.alloc (.cells #[.int .i64 1000000, .int .i64 (-1), .int .i64 0, .slice none 0 0] 51) = w14
    generalize w13.heap.size = gy
    intro HW14 HGY
    clear hf0 hf1
    go_loopg [20] mr.l.length (fun gk iv wr => ∃ (k : Nat) (Fk Gk : Nat → Prop) (mk yk : Sm), k + gk = mr.l.length ∧ iv = .int .i64 (k : Int) ∧ Hid (W2 (fun u => StL u (.slice An mr.l.length cn) (mr.l.map fun o => o.nm)) w1 wr (stA g mk) Fk (stB gy gy yk) Gk ∧ (Kept mk ∧ mk.left = -1 ∧ mk.fine (205 + k) ∧ mk.l = mr.l ∧ mk.room = 1000000) ∧ yk.l = mr.l.take k ∧ yk.room = 1000000 ∧ yk.left = -1 ∧ yk.fine k))
    case atStart => exact ⟨0, F13, _, m4, _, by omega, rfl, Lib.hid ⟨HW14.out, HK4.out, rfl, rfl, rfl, fine_start 1000000 (by omega) (by omega)⟩⟩
    case round =>
      obtain ⟨k, Fk, Gk, mk, yk, hk, rfl, HW⟩ := hrel
      clear HW14 HK4
      by_cases hlt : k < mr.l.length
      · obtain ⟨gk1, hgk1⟩ : ∃ x, gk = x + 1 := ⟨gk - 1, by omega⟩
        obtain ⟨o, hko⟩ : ∃ o, mr.l[k]? = some o := ⟨_, List.getElem?_eq_getElem hlt⟩
        obtain ⟨gx, px, hAx, hgx, x0⟩ := StL.cell HW.out.1.x (i := k) (s := o.nm) (by rw [List.getElem?_map, hko]; rfl)
        subst hAx
        have hmk := HW.out.2.1
        have hGet := get_at (k := k) (o := o) hmk.1 hmk.2.1 (by rw [hmk.2.2.2.1]; exact hko)
        have hnm : nameB o.nm = true := hmk.1.named o (by rw [hmk.2.2.2.1]; exact List.mem_of_getElem? hko)
        have hnl : o.nm.length ≤ 32 := by
          simp only [nameB, Bool.and_eq_true, decide_eq_true_iff] at hnm
          omega
        have hbl : o.b.length ≤ 1000000 := by
          have h1 := used_mem (l := mk.l) (o := o) (by rw [hmk.2.2.2.1]; exact List.mem_of_getElem? hko)
          have h2 := hmk.1.fits
          have h3 := hmk.2.2.2.2
          omega
        have hG := stGet_any (n := o.nm) HW.out.1.a hmk.2.2.1 (by have := HLN.out; omega) (by omega)
        rw [hGet] at hG
        simp only [errV_zero] at hG
        have hcp := copy_step (y := yk) (m := mk) (k := k) (o := o) hmk.1 (by rw [hmk.2.2.2.1]; exact HW.out.2.2.1) (by rw [hmk.2.2.2.2, HW.out.2.2.2.1]; omega) HW.out.2.2.2.2.1 (by rw [hmk.2.2.2.1]; exact hko)
        rw [hmk.2.2.2.1] at hcp
        have HCP : Hid ((sPut yk o.nm o.b).1.l = mr.l.take (k + 1) ∧ (sPut yk o.nm o.b).1.room = 1000000 ∧ (sPut yk o.nm o.b).1.left = -1 ∧ (sPut yk o.nm o.b).1.fine (k + 1)) := Lib.hid ⟨hcp.2.1, hcp.2.2.1.trans HW.out.2.2.2.1, hcp.2.2.2, HW.out.2.2.2.2.2.put _ _⟩
        have hPut := fun u (vk : Value) (hD : DS u gy gy vk yk) => DPut_any gy gy vk yk o.nm o.b u hD (HW.out.2.2.2.2.2.ok (by have := HLN.out; omega)) (by have := HW.out.2.2.2.2.2.calls1; have := HLN.out; omega) (by omega) hbl
        have a0 : (0 : Int) ≤ (k : Int) := by omega
        have a1 : (k : Int) < (mr.l.length : Int) := by omega
        have HKO := Lib.hid hko
        have hgkl := (stB_thing _ _ _).lt HW.out.1.b
        clear hko hmk hGet hnm hnl hbl hcp hgx
        go_wp2_with fail
        refine hG.mono ?_
        rintro e w15 ⟨x, F15, rfl, hox, hP15, hA15, hn15, _⟩
        have HW15 := Lib.hid (HW.out.1.stepA (A' := stA g (callS mk)) (stA_thing _ _) (stB_thing _ _ _) hP15 hA15 hn15)
        have HK15 : Hid (Kept (callS mk) ∧ (callS mk).left = -1 ∧ (callS mk).fine (205 + (k + 1)) ∧ (callS mk).l = mr.l ∧ (callS mk).room = 1000000) := Lib.hid ⟨⟨HW.out.2.1.1.rise, HW.out.2.1.1.named, HW.out.2.1.1.fits⟩, (left_call HW.out.2.1.2.1).2, HW.out.2.1.2.2.1.call, HW.out.2.1.2.2.2.1, HW.out.2.1.2.2.2.2⟩
        have hxG : ∀ q, x.ownBlock = some q → ¬ Gk q := fun q hq hG => by
          have h1 := hox.ge q hq
          have h2 := hgkl q hG
          omega
        have HC15 : Hid (∀ u, Apt Gk w15 u → u.cell? ⟨gx, px + k, none⟩ = some (.string (Bstr o.nm)) ∧ (convert 40 9 x).run Tryz.prog u = .ok (.string (Bstr o.b)) u) := Lib.hid fun u hu => by
          obtain ⟨q', p', e, _, hc⟩ := StL.cell (HW15.out.kx u (hu.mono fun _ _ hq => .inr hq)) (i := k) (s := o.nm) (by rw [List.getElem?_map, HKO.out]; rfl)
          injection e with e
          injection e with e1 e2
          subst e1
          subst e2
          exact ⟨hc, strOf (hox.apt hu hxG).bs⟩
        obtain ⟨Ad, cd', hx, _, _⟩ := hox.form
        obtain ⟨nb, hnb⟩ : ∃ n, n = o.b.length := ⟨_, rfl⟩
        rw [← hnb] at hx
        subst hx
        obtain ⟨vk, hDk, hGk⟩ := HW15.out.b
        have HGK := Lib.hid hGk
        have HDK := Lib.hid hDk
        clear hG hP15 hA15 hn15 hox hxG HW x0 hgkl hnb hDk hGk
        have hcl := HC15.out
        go_wp2_with fail
        refine wp_region_mix [(0, false), (1, false), (2, false), (3, false), (4, false), (5, false), (6, false), (7, true)] (fun u => Apt Gk w15 u) (by kernel_rfl) (by kernel_rfl) (by kernel_rfl) rfl (Apt.of_below (Below.refl _ _).drew) ?_
        iterate 7
          (refine mix_read (o := ⟨_, _, _, _, _, _⟩) (v := ?_) rfl (by rfl) (fun w' hS => ?_) ?_
           rotate_left
           obtain ⟨j0, j1⟩ := hcl w' hS
           go_simp
           with_reducible rfl
           try simp only [Act.put, List.setIfInBounds_toArray, List.set_cons_zero, List.set_cons_succ])
        refine mix_step (o := ⟨_, _, _, _, _, _⟩) rfl (fun K hK => ?_)
        go_simp
        refine (hPut _ vk (HDK.out.below (Below.refl _ _).drew)).mono ?_
        rintro e w16 ⟨rfl, v16, hD16, hA16, hn16⟩
        have hA' : Apt Gk w15 w16 := (Apt.of_below (Below.refl _ w15).drew).trans (hA16.mono fun q _ hq => by rw [HGK.out]; exact hq)
        refine hK.out _ _ hA' ?_
        clear hK K
        try simp only [Act.put, List.setIfInBounds_toArray, List.set_cons_zero, List.set_cons_succ]
        refine mix_done ?_
        have HW16 := Lib.hid (HW15.out.stepB (B' := stB gy gy (sPut yk o.nm o.b).1) (stA_thing _ _) ⟨v16, hD16, rfl⟩ hA' fun q hq => by
          rcases hq with h | h
          · exact .inl (by rw [HGK.out]; exact .inl h)
          · rcases hn16 q h with h | h
            · exact .inl (by rw [HGK.out]; exact .inr h)
            · exact .inr h)
        clear hcl HC15 HW15 hD16 hA16 hn16 hA' hPut HDK
        have hk203 := HLN.out
        go_wp2_with fail
        go_roundg gk1
        case measure => omega
        case rel => exact ⟨k + 1, F15, _, callS mk, _, by omega, by go_num, Lib.hid ⟨HW16.out, HK15.out, HCP.out⟩⟩
      · have hkn : k = mr.l.length := by omega
        subst hkn
        have hyl : yk.l = mr.l := by
          have := HW.out.2.2.1
          rwa [List.take_length] at this
        have hyf := HW.out.2.2.2.2.2
        have hyL := HW.out.2.2.2.2.1
        have hkl := HLN.out
        obtain ⟨vk, hDk, hGk⟩ := HW.out.1.b
        have HBW := Lib.hid HW.out.1.below
        have HFin : Hid (∀ u, Apt (fun q => q = gy) wr u → Below w1.heap.size w1 u) := Lib.hid fun u hu => below_apt HBW.out hu (fun q hq => by rw [hq]; exact HGY.out) HBW.out.size
        cases z with
        | false =>
          have hAll := DAll_none id wr hDk (hyf.ok (by omega)) (by have := hyf.calls1; omega) hyL hid (by rw [hyl]; exact HNO.out rfl)
          clear HW hyf hyL hDk hGk hyl
          go_wp2_with fail
          refine hAll.mono ?_
          rintro e w17 ⟨rfl, hA17⟩
          have HB17 := Lib.hid (HB1.out.trans ((HFin.out _ hA17).mono HB1.out.size))
          clear hAll hA17
          go_wp2_with fail
          go_ret
          exact ⟨rfl, HB17.out⟩
        | true =>
          have hAll := DAll_ok id wr hDk hyf (by omega) hyL hid ((HYES.out rfl).same hyl)
          rw [pages_flat] at hAll
          clear HW hyf hyL hDk hGk hyl
          go_wp2_with fail
          refine hAll.mono ?_
          rintro e w17 ⟨y, rfl, hT17, hA17⟩
          have HB17 := Lib.hid (HFin.out _ hA17)
          have hSm := Traces_same y (.slice A l.length c) l w17 hT17 (HTS.out _ HB17.out).1
          clear hAll hA17 hT17
          go_wp2_with fail
          refine hSm.mono ?_
          rintro e w18 ⟨rfl, hb18⟩
          have HB18 := Lib.hid (HB1.out.trans ((HB17.out.trans (hb18.mono HB17.out.size)).mono HB1.out.size))
          clear hSm hb18
          go_wp2_with fail
          go_ret
          exact ⟨rfl, HB18.out⟩

theorem blockLast_int (fails id : Int) (v : Value) (l : List Tn) (s : Sz) (w : World) (h : Ts w v l) (hf0 : -9223372036854775808 ≤ fails) (hf1 : fails ≤ 9223372036854775807) (h0 : 0 ≤ id) (h1 : id ≤ 18446744073709551615) (hll : l.length ≤ 140737488355328) (hL : Ld w) :
    Calls Tryz.prog 5 #[.int .i64 fails, .int .u64 id, v, szV s] w fun e w' => e = .returned (.bool true) ∧ Below w.heap.size w w' := by
  obtain ⟨z, rfl⟩ := nat_of h0
  exact blockLast_any fails z v l s w h hf0 hf1 (by omega) hll hL

end Go.Proofs.YtnghpcfdgjkokaaGreatDoor
