/-
  CONTRACTS of the document's Gather and Of. Conditions: at most 1000000 spans.
-/
import Derived.Test.YtalljllloffieaaTrH
namespace Go.Proofs.Ytalljllloffieaa
open Go.RowKit

/-- what the document has gathered of l's first i -/
structure Gin (l : List Sn) (i : Nat) (r : List Sn) : Prop where
  up : r.Pairwise fun a b => cmpS a b < 0
  mem : ∀ s, s ∈ r ↔ ∃ j, j < i ∧ l[j]? = some s ∧ cntB l s j = true

theorem Gin.zero (l : List Sn) : Gin l 0 [] := ⟨List.Pairwise.nil, fun s => by simp⟩
theorem Gin.skip {l r : List Sn} {i : Nat} {s : Sn} (h : Gin l i r) (hs : l[i]? = some s) (hc : cntB l s i = false) : Gin l (i + 1) r := by
  refine ⟨h.up, fun t => (h.mem t).trans ⟨fun ⟨j, h1, h2⟩ => ⟨j, by omega, h2⟩, fun ⟨j, h1, h2, h3⟩ => ?_⟩⟩
  rcases Nat.lt_or_eq_of_le (Nat.le_of_lt_succ h1) with h4 | h4
  · exact ⟨j, h4, h2, h3⟩
  · subst h4
    rw [hs] at h2
    injection h2 with h2
    subst h2
    rw [hc] at h3
    cases h3
theorem cnt_apart {l : List Sn} {s y : Sn} {i j : Nat} (hs : l[i]? = some s) (hy : l[j]? = some y) (hi : cntB l s i = true) (hj : cntB l y j = true) (hji : j < i) (hk : keyB y s = true) : False := by
  have h1 := cntB_true.1 hi j (List.getElem?_eq_some_iff.1 hy).1
  have h2 := cntB_true.1 hj i (List.getElem?_eq_some_iff.1 hs).1
  rw [badC, hy] at h1
  rw [badC, hs] at h2
  simp only [hk, key_symm hk, Bool.true_and, Bool.or_eq_false_iff, hji, decide_true, Bool.and_true] at h1 h2
  have e1 := (not_less_iff _ _).1 h1.1
  have e2 := (not_less_iff _ _).1 h2.1
  have e3 := three_cmpL.anti y s
  have e4 := three_cmpL.anti s y
  have e := cmpL_zero hk (by omega)
  subst e
  rw [(same_iff y y).2 rfl] at h1
  cases h1.2
theorem Gin.put {l r : List Sn} {i m : Nat} {s : Sn} (h : Gin l i r) (hs : l[i]? = some s) (hc : cntB l s i = true) (h1 : ∀ x ∈ r.take m, cmpS x s < 0) (h2 : ∀ x ∈ r.drop m, ¬ cmpS x s < 0) : Gin l (i + 1) (r.take m ++ [s] ++ r.drop m) := by
  have hup := h.up
  rw [← List.take_append_drop m r, List.pairwise_append] at hup
  have h3 : ∀ y ∈ r.drop m, cmpS s y < 0 := by
    intro y hy
    have h4 := three_cmpS.le_of_not (h2 y hy)
    rcases Int.lt_or_le (cmpS s y) 0 with h5 | h5
    · exact h5
    · exfalso
      have hk := key_symm (cmpS_key (a := s) (b := y) (by omega))
      obtain ⟨j, hj, hyj, hcy⟩ := (h.mem y).1 (List.mem_of_mem_drop hy)
      exact cnt_apart hs hyj hc hcy hj hk
  refine ⟨?_, fun t => ?_⟩
  · rw [List.pairwise_append, List.pairwise_append]
    refine ⟨⟨hup.1, by simp, fun a ha b hb => ?_⟩, hup.2.1, fun a ha b hb => ?_⟩
    · simp at hb
      subst hb
      exact h1 a ha
    · rcases List.mem_append.1 ha with ha | ha
      · exact hup.2.2 a ha b hb
      · simp at ha
        subst ha
        exact h3 b hb
  · have hm : t ∈ r.take m ++ [s] ++ r.drop m ↔ t ∈ r ∨ t = s := by
      have : t ∈ r ↔ t ∈ r.take m ∨ t ∈ r.drop m := by rw [← List.mem_append, List.take_append_drop]
      rw [this]
      simp only [List.mem_append, List.mem_singleton]
      constructor
      · rintro ((h | h) | h)
        · exact .inl (.inl h)
        · exact .inr h
        · exact .inl (.inr h)
      · rintro ((h | h) | h)
        · exact .inl (.inl h)
        · exact .inr h
        · exact .inl (.inr h)
    rw [hm, h.mem]
    constructor
    · rintro (⟨j, h4, h5⟩ | rfl)
      · exact ⟨j, by omega, h5⟩
      · exact ⟨i, by omega, hs, hc⟩
    · rintro ⟨j, h4, h5, h6⟩
      rcases Nat.lt_or_eq_of_le (Nat.le_of_lt_succ h4) with h7 | h7
      · exact .inl ⟨j, h7, h5, h6⟩
      · subst h7
        rw [hs] at h5
        injection h5 with h5
        exact .inr h5.symm
theorem first_of {s : Sn} : ∀ {l : List Sn}, s ∈ l → ∃ j : Nat, l[j]? = some s ∧ ∀ k : Nat, k < j → l[k]? ≠ some s
  | [], h => by cases h
  | x :: l, h => by
    by_cases hx : x = s
    · exact ⟨0, by simp [hx], fun k hk => absurd hk (Nat.not_lt_zero _)⟩
    · rcases List.mem_cons.1 h with h | h
      · exact absurd h.symm hx
      · obtain ⟨j, h1, h2⟩ := first_of h
        refine ⟨j + 1, by simpa using h1, fun k hk => ?_⟩
        cases k with
        | zero => simpa using hx
        | succ k => simpa using h2 k (by omega)
theorem Gin.done {l r : List Sn} (h : Gin l l.length r) : Gat l r := by
  refine ⟨h.up, fun s => (h.mem s).trans ⟨fun ⟨j, h1, h2, h3⟩ => ⟨List.mem_of_getElem? h2, fun t ht hk => ?_⟩, fun hc => ?_⟩⟩
  · obtain ⟨k, hk'⟩ := List.mem_iff_getElem?.1 ht
    have h4 := cntB_true.1 h3 k (List.getElem?_eq_some_iff.1 hk').1
    rw [badC, hk'] at h4
    simp only [hk, Bool.true_and, Bool.or_eq_false_iff] at h4
    exact h4.1
  · obtain ⟨j, h1, h2⟩ := first_of hc.1
    refine ⟨j, (List.getElem?_eq_some_iff.1 h1).1, h1, cntB_true.2 fun k hk => ?_⟩
    have hkt : l[k]? = some l[k] := List.getElem?_eq_getElem hk
    rw [badC, hkt]
    simp only
    cases hkey : keyB l[k] s with
    | false => rfl
    | true =>
      rw [hc.2 _ (List.getElem_mem hk) hkey]
      cases hsm : sameB l[k] s with
      | false => rfl
      | true =>
        have e := (same_iff _ _).1 hsm
        have : ¬ k < j := fun hkj => h2 k hkj (by rw [hkt, e])
        simp [this]
theorem Gin.len {l r : List Sn} {i : Nat} (h : Gin l i r) : r.length ≤ l.length := by
  refine nodup_le ?_ (fun s hs => ?_)
  · exact h.up.imp fun {a b} hab e => by
      subst e
      have := three_cmpS.rf a
      omega
  · obtain ⟨j, _, hj, _⟩ := (h.mem s).1 hs
    exact List.mem_of_getElem? hj
/-- where it goes -/
theorem place_of {r : List Sn} (hup : r.Pairwise fun a b => cmpS a b < 0) {s : Sn} {m : Nat} (h1 : ∀ j x, m ≤ j → r[j]? = some x → aheadB x s = false) (h2 : m = 0 ∨ ∃ x, r[m - 1]? = some x ∧ aheadB x s = true) :
    (∀ x ∈ r.take m, cmpS x s < 0) ∧ ∀ x ∈ r.drop m, ¬ cmpS x s < 0 := by
  constructor
  · intro x hx
    rcases h2 with rfl | ⟨y, hy, hya⟩
    · simp at hx
    · rw [ahead_iff] at hya
      have hya := of_decide_eq_true hya
      obtain ⟨j, hj⟩ := List.mem_iff_getElem?.1 hx
      rw [List.getElem?_take] at hj
      split at hj
      · rename_i hjm
        rcases Nat.lt_or_eq_of_le (show j ≤ m - 1 by omega) with h3 | h3
        · obtain ⟨hj1, hj2⟩ := List.getElem?_eq_some_iff.1 hj
          obtain ⟨hm1, hm2⟩ := List.getElem?_eq_some_iff.1 hy
          have := List.pairwise_iff_getElem.1 hup j (m - 1) hj1 hm1 h3
          rw [hj2, hm2] at this
          exact three_cmpS.lt_le this (by omega)
        · subst h3
          rw [hj] at hy
          injection hy with hy
          subst hy
          exact hya
      · cases hj
  · intro x hx
    obtain ⟨j, hj⟩ := List.mem_iff_getElem?.1 hx
    rw [List.getElem?_drop] at hj
    have := h1 (m + j) x (by omega) hj
    rw [ahead_iff] at this
    exact of_decide_eq_false this

set_option maxHeartbeats 3200000 in
set_option maxRecDepth 100000 in
theorem Gather_any (v : Value) (l : List Sn) (w : World) (h : Ss w v l) (hl : l.length ≤ 1000000) :
    Calls Try.prog 11 #[v] w fun e w' => ∃ v' r, e = .returned v' ∧ Own5 w' w.heap.size v' r ∧ Gat l r ∧ Below w.heap.size w w' := by
  obtain ⟨A, c, rfl, hc1, hc2⟩ := h.form
  have H := Lib.hid h
  clear h
  go_enter Try.func11, Try.ntmps11
  go_wp2_with fail
  go_loopw [3, 4, 5, 6, 7, 8, 9] (fun ov iv _ _ _ _ _ wr => ∃ (i : Nat) (r : List Sn), i ≤ l.length ∧ iv = .int .i64 (i : Int) ∧ Own5 wr w.heap.size ov r ∧ Below w.heap.size w wr ∧ Hid (Gin l i r)) (fun _ iv _ _ _ _ _ _ => l.length - (intOf iv).toNat)
  case atStart => exact ⟨0, [], Nat.zero_le _, rfl, Own5.nil _ _, Below.refl _ _, Lib.hid (Gin.zero l)⟩
  case round =>
    obtain ⟨i, r, hi, rfl, hO, hB, HG⟩ := hrel
    by_cases hlt : i < l.length
    · obtain ⟨s, hs⟩ : ∃ s, l[i]? = some s := ⟨_, List.getElem?_eq_getElem hlt⟩
      have HS := Lib.hid hs
      have HO := Lib.hid hO
      have hrl := HG.out.len
      obtain ⟨Ao, co, rfl, hco1, hco2⟩ := hO.ss.form
      clear hO
      go_wp2_with fail
      refine (counts_any _ l i s _ (H.out.below hB) hs).mono ?_
      rintro e w1 ⟨rfl, hb1⟩
      have hB1 := hB.trans (hb1.mono hB.size)
      have HO1 := Lib.hid (HO.out.below hb1)
      clear hs hb1 hB
      cases hcb : cntB l s i with
      | false =>
        have HCB := Lib.hid hcb
        clear hcb
        go_wp2_with fail
        refine ⟨⟨i + 1, r, by omega, by go_num, HO1.out, hB1, Lib.hid (HG.out.skip HS.out HCB.out)⟩, by simp [intOf]; omega⟩
      | true =>
        have HCB := Lib.hid hcb
        clear hcb
        go_wp2_with fail
        go_loopw [6, 7, 8] (fun mv kv _ wr => ∃ m k : Nat, k ≤ r.length ∧ m ≤ k ∧ kv = .int .i64 (k : Int) ∧ mv = .int .i64 (m : Int) ∧ Below w1.heap.size w1 wr ∧ Hid ((∀ j x, m ≤ j → j < k → r[j]? = some x → aheadB x s = false) ∧ (m = 0 ∨ ∃ x, r[m - 1]? = some x ∧ aheadB x s = true))) (fun _ kv _ _ => r.length - (intOf kv).toNat)
        case atStart => exact ⟨0, 0, Nat.zero_le _, Nat.le_refl _, rfl, rfl, Below.refl _ _, Lib.hid ⟨fun j x _ h => absurd h (Nat.not_lt_zero _), .inl rfl⟩⟩
        case round =>
          obtain ⟨m, k, hk, hmk, rfl, rfl, hB2, HA⟩ := hrel
          by_cases hkl : k < r.length
          · obtain ⟨t, hkt⟩ : ∃ t, r[k]? = some t := ⟨_, List.getElem?_eq_getElem hkl⟩
            obtain ⟨g, o, d, rfl, hg, c0, c1, c2, c3, c4, hdd, hok⟩ := (H.out.below hB1).cells HS.out
            obtain ⟨g', o', d', rfl, hg', x0, x1, x2, x3, x4, hdd', hok'⟩ := HO1.out.ss.cells hkt
            have HKT := Lib.hid hkt
            have hq := Nat.lt_of_lt_of_le hg hB2.size
            have hq' := Nat.lt_of_lt_of_le hg' hB2.size
            have r0 : ∀ u, Below wr.heap.size wr u → u.cell? ⟨g, o + i * 5, none⟩ = some (.int .u64 s.tr) := fun u h => (h.cell hq).trans ((hB2.cell (p := ⟨g, _, none⟩) hg).trans c0)
            have r1 : ∀ u, Below wr.heap.size wr u → u.cell? ⟨g, o + i * 5 + 1, none⟩ = some (.int .u64 s.id) := fun u h => (h.cell hq).trans ((hB2.cell (p := ⟨g, _, none⟩) hg).trans c1)
            have r2 : ∀ u, Below wr.heap.size wr u → u.cell? ⟨g, o + i * 5 + 2, none⟩ = some (.int .i64 s.st) := fun u h => (h.cell hq).trans ((hB2.cell (p := ⟨g, _, none⟩) hg).trans c2)
            have r3 : ∀ u, Below wr.heap.size wr u → u.cell? ⟨g, o + i * 5 + 3, none⟩ = some (.int .i64 s.en) := fun u h => (h.cell hq).trans ((hB2.cell (p := ⟨g, _, none⟩) hg).trans c3)
            have r4 : ∀ u, Below wr.heap.size wr u → u.cell? ⟨g, o + i * 5 + 4, none⟩ = some d := fun u h => (h.cell hq).trans ((hB2.cell (p := ⟨g, _, none⟩) hg).trans c4)
            have t0 : ∀ u, Below wr.heap.size wr u → u.cell? ⟨g', o' + k * 5, none⟩ = some (.int .u64 t.tr) := fun u h => (h.cell hq').trans ((hB2.cell (p := ⟨g', _, none⟩) hg').trans x0)
            have t1 : ∀ u, Below wr.heap.size wr u → u.cell? ⟨g', o' + k * 5 + 1, none⟩ = some (.int .u64 t.id) := fun u h => (h.cell hq').trans ((hB2.cell (p := ⟨g', _, none⟩) hg').trans x1)
            have t2 : ∀ u, Below wr.heap.size wr u → u.cell? ⟨g', o' + k * 5 + 2, none⟩ = some (.int .i64 t.st) := fun u h => (h.cell hq').trans ((hB2.cell (p := ⟨g', _, none⟩) hg').trans x2)
            have t3 : ∀ u, Below wr.heap.size wr u → u.cell? ⟨g', o' + k * 5 + 3, none⟩ = some (.int .i64 t.en) := fun u h => (h.cell hq').trans ((hB2.cell (p := ⟨g', _, none⟩) hg').trans x3)
            have t4 : ∀ u, Below wr.heap.size wr u → u.cell? ⟨g', o' + k * 5 + 4, none⟩ = some d' := fun u h => (h.cell hq').trans ((hB2.cell (p := ⟨g', _, none⟩) hg').trans x4)
            have V1 : SV wr.drew (.agg #[.int .u64 s.tr, .int .u64 s.id, .int .i64 s.st, .int .i64 s.en, d]) s := ⟨hok, d, rfl, show Bs wr d s.data from hdd.below hB2⟩
            have V2 : SV wr.drew (.agg #[.int .u64 t.tr, .int .u64 t.id, .int .i64 t.st, .int .i64 t.en, d']) t := ⟨hok', d', rfl, show Bs wr d' t.data from hdd'.below hB2⟩
            have hb0 : (0 : Int) ≤ (k : Int) := by omega
            have hb1 : (k : Int) < (r.length : Int) := by omega
            have hb2 : (0 : Int) ≤ (i : Int) := by omega
            have hb3 : (i : Int) < (l.length : Int) := by omega
            clear c0 c1 c2 c3 c4 x0 x1 x2 x3 x4 hdd hdd' hok hok' hkt
            go_wp2_with fail
            refine wp_region_mix [(0, false), (1, false), (2, false), (3, false), (4, false), (5, false), (6, false), (7, false), (8, true), (9, true)] (fun u => Below wr.heap.size wr u) (by kernel_rfl) (by kernel_rfl) (by kernel_rfl) rfl (Below.refl _ _).drew ?_
            have hS0 : Below wr.heap.size wr wr.drew := (Below.refl _ _).drew
            repeat
              (refine mix_read (o := ⟨_, _, _, _, _, _⟩) (v := ?_) rfl (by rfl) (fun w' hS => ?_) ?_
               rotate_left
               go_simp
               with_reducible rfl
               try simp only [Act.put, List.setIfInBounds_toArray, List.set_cons_zero, List.set_cons_succ])
            clear r0 r1 r2 r3 r4 t0 t1 t2 t3 t4
            refine mix_step (o := ⟨_, _, _, _, _, _⟩) rfl (fun K hK => ?_)
            go_simp
            refine (Ahead_any _ _ t s _ V2 V1).mono ?_
            rintro e u1 ⟨rfl, hu1⟩
            have hU1 : Below wr.heap.size wr u1 := ⟨hu1.os, hu1.tape, hu1.output, hu1.size, hu1.block⟩
            refine hK.out _ _ hU1 ?_
            clear hK K
            try simp only [Act.put, List.setIfInBounds_toArray, List.set_cons_zero, List.set_cons_succ]
            refine mix_step (o := ⟨_, _, _, _, _, _⟩) rfl (fun K hK => ?_)
            go_simp
            refine hK.out _ _ hU1 ?_
            clear hK K V1 V2
            refine mix_done ?_
            have hB3 := hB2.trans (hU1.mono hB2.size)
            cases ha : aheadB t s with
            | true =>
              have HAT := Lib.hid ha
              clear ha
              go_wp2_with fail
              refine ⟨⟨k + 1, k + 1, by omega, by omega, by go_num, by go_num, hB3, Lib.hid ⟨fun j x h1 h2 => absurd h2 (by omega), .inr ⟨t, by simpa using HKT.out, HAT.out⟩⟩⟩, by simp [intOf]; omega⟩
            | false =>
              have HAT := Lib.hid ha
              clear ha
              go_wp2_with fail
              refine ⟨⟨m, k + 1, by omega, by omega, by go_num, rfl, hB3, Lib.hid ⟨fun j x h1 h2 hx => ?_, HA.out.2⟩⟩, by simp [intOf]; omega⟩
              rcases Nat.lt_or_eq_of_le (Nat.le_of_lt_succ h2) with h3 | h3
              · exact HA.out.1 j x h1 h3 hx
              · subst h3
                rw [HKT.out] at hx
                injection hx with hx
                subst hx
                exact HAT.out
          · have hB3 := hB1.trans (hB2.mono hB1.size)
            have hpl := place_of HG.out.up (s := s) (m := m) (fun j x h1 hx => HA.out.1 j x h1 (by have := (List.getElem?_eq_some_iff.1 hx).1; omega) hx) HA.out.2
            have HPL := Lib.hid hpl
            have hOr := HO1.out.below hB2
            obtain ⟨V, U, hV, hU, hVs, hUs⟩ := ss_cut hOr.ss m (by omega)
            obtain ⟨ta, hta⟩ : ∃ ta, ta = r.take m := ⟨_, rfl⟩
            obtain ⟨td, htd⟩ : ∃ td, td = r.drop m := ⟨_, rfl⟩
            have hrm : ta.length ≤ 1000000 := by rw [hta, List.length_take]; omega
            have hrd : td.length ≤ 1000000 := by rw [htd, List.length_drop]; omega
            rw [← hta] at hVs
            rw [← htd] at hUs
            have HTA := Lib.hid hta
            have HTD := Lib.hid htd
            clear hta htd
            obtain ⟨AV, cV, rfl, _⟩ := hVs.form
            obtain ⟨AU, cU, rfl, _⟩ := hUs.form
            have hSl := H.out.below hB3
            obtain ⟨g, o, d, rfl, hg, c0, c1, c2, c3, c4, hdd, hok⟩ := hSl.cells HS.out
            have W1 : Below wr.heap.size wr (wr.alloc (.cells #[] 40)) := (Below.refl _ wr).alloc (Nat.le_refl _) _
            have hsf1 : Hid (Sf (wr.alloc (.cells #[] 40)) (Value.slice (some ⟨wr.heap.size, 0, none⟩) 0 0).ownBlock _ ta) := Lib.hid (Sf.of_ss hVs W1 (fun q hq => by have : wr.heap.size = q := Option.some.inj hq; omega))
            have HUS := Lib.hid hUs
            have HDD := Lib.hid hdd
            have HOK := Lib.hid hok
            obtain ⟨Ad, cd, hdv, _⟩ := hdd
            subst hdv
            have C0 := Lib.hid c0
            have C1 := Lib.hid c1
            have C2 := Lib.hid c2
            have C3 := Lib.hid c3
            have C4 := Lib.hid c4
            clear hpl hOr hVs hUs hSl hok c0 c1 c2 c3 c4
            go_wp2_with (at_builtin; refine wpList_append_own5 (v := .slice (some ⟨wr.heap.size, 0, none⟩) 0 0) (l := []) _ rfl _ _ rfl rfl (Own5.made wr) rfl hsf1.out (by simp only [List.length_nil]; omega) (by simp) ?_)
            intro v2 w2 ho2 hg2 _
            have W2 : Below wr.heap.size wr w2 := W1.grown hg2 W1.size (fun q hq => by have : wr.heap.size = q := Option.some.inj hq; omega)
            have HO2 := Lib.hid ho2
            have c0 := (W2.cell (p := ⟨g, o + i * 5, none⟩) hg).trans C0.out
            have c1 := (W2.cell (p := ⟨g, o + i * 5 + 1, none⟩) hg).trans C1.out
            have c2 := (W2.cell (p := ⟨g, o + i * 5 + 2, none⟩) hg).trans C2.out
            have c3 := (W2.cell (p := ⟨g, o + i * 5 + 3, none⟩) hg).trans C3.out
            have c4 := (W2.cell (p := ⟨g, o + i * 5 + 4, none⟩) hg).trans C4.out
            have HO2' := Lib.hid (HO2.out.below ((Below.refl w2.heap.size w2).alloc (Nat.le_refl _) (.cells #[.int .u64 s.tr, .int .u64 s.id, .int .i64 s.st, .int .i64 s.en, .slice Ad s.data.length cd] 40)))
            have W2' : Below wr.heap.size wr (w2.alloc (.cells #[.int .u64 s.tr, .int .u64 s.id, .int .i64 s.st, .int .i64 s.en, .slice Ad s.data.length cd] 40)) := W2.alloc W2.size _
            have hsf2 : Hid (Sf (w2.alloc (.cells #[.int .u64 s.tr, .int .u64 s.id, .int .i64 s.st, .int .i64 s.en, .slice Ad s.data.length cd] 40)) v2.ownBlock (.slice (some ⟨w2.heap.size, 0, none⟩) 1 1) [s]) := Lib.hid (Sf.lit W2 HOK.out HDD.out rfl (fun q hq => (HO2.out.lt q hq).1))
            clear ho2 hg2 hsf1 W1
            go_wp2_with (at_builtin; refine wpList_append_own5 _ rfl _ _ rfl rfl HO2'.out rfl hsf2.out (by simp only [List.length_singleton]; omega) W2'.size ?_)
            intro v3 w3 ho3 hg3 _
            have W3 : Below wr.heap.size wr w3 := W2'.grown hg3 W2'.size (fun q hq => (HO2.out.lt q hq).1)
            have HO3 := Lib.hid ho3
            have hsf3 : Hid (Sf w3 v3.ownBlock (.slice AU td.length cU) td) := Lib.hid (Sf.of_ss HUS.out W3 (fun q hq => (HO3.out.lt q hq).1))
            clear ho3 hg3 c0 c1 c2 c3 c4 W2'
            go_wp2_with (at_builtin; refine wpList_append_own5 _ rfl _ _ rfl rfl HO3.out rfl hsf3.out (by simp only [List.length_append, List.length_singleton]; omega) W3.size ?_)
            intro v4 w4 ho4 hg4 _
            have W4 : Below wr.heap.size wr w4 := W3.grown hg4 W3.size (fun q hq => (HO3.out.lt q hq).1)
            have ho5 := ho4.lower hB3.size
            clear ho4 hg4
            go_wp2_with fail
            refine ⟨⟨i + 1, r.take m ++ [s] ++ r.drop m, by omega, by go_num, by rw [← HTA.out, ← HTD.out]; simpa using ho5, hB3.trans (W4.mono hB3.size), Lib.hid (HG.out.put HS.out HCB.out HPL.out.1 (fun x hx => by have := HPL.out.2 x hx; omega))⟩, by simp [intOf]; omega⟩
    · have hii : i = l.length := by omega
      subst hii
      have HO := Lib.hid hO
      obtain ⟨Ao, co, rfl, hco1, hco2⟩ := hO.ss.form
      clear hO
      go_wp2_with fail
      go_ret
      exact ⟨_, r, rfl, HO.out, HG.out.done, hB⟩

set_option maxHeartbeats 1600000 in
set_option maxRecDepth 100000 in
theorem Of_any (v : Value) (l : List Sn) (i : Int) (w : World) (h : Ss w v l) (hl : l.length ≤ 1000000) :
    Calls Try.prog 14 #[v, .int .u64 i] w fun e w' => ∃ v' r, e = .returned v' ∧ Own5 w' w.heap.size v' r ∧ Gat (ofT l i) r ∧ Below w.heap.size w w' := by
  go_enter Try.func14, Try.ntmps14
  go_wp2_with fail
  refine (Gather_any v l _ h hl).mono ?_
  rintro e w1 ⟨v1, a, rfl, ho1, hG, hb1⟩
  have hal := hG.len
  have H := Lib.hid ho1.ss
  have HG := Lib.hid hG
  obtain ⟨A, c, rfl, hc1, hc2⟩ := ho1.ss.form
  clear ho1 hG h
  go_wp2_with fail
  go_loopw [5, 7] (fun ov kv wr => ∃ k : Nat, k ≤ a.length ∧ kv = .int .i64 (k : Int) ∧ Own5 wr w1.heap.size ov ((a.take k).filter fun s => decide (s.tr = i)) ∧ Below w1.heap.size w1 wr) (fun _ kv _ => a.length - (intOf kv).toNat)
  case atStart => exact ⟨0, Nat.zero_le _, rfl, Own5.nil _ _, Below.refl _ _⟩
  case round =>
    obtain ⟨k, hk, rfl, hO, hB⟩ := hrel
    by_cases hlt : k < a.length
    · obtain ⟨s, hks⟩ : ∃ s, a[k]? = some s := ⟨_, List.getElem?_eq_getElem hlt⟩
      obtain ⟨g, o, d, rfl, hg, c0, c1, c2, c3, c4, hdd, hok⟩ := H.out.cells hks
      replace c0 := (hB.cell (p := ⟨g, o + k * 5, none⟩) hg).trans c0
      replace c1 := (hB.cell (p := ⟨g, o + k * 5 + 1, none⟩) hg).trans c1
      replace c2 := (hB.cell (p := ⟨g, o + k * 5 + 2, none⟩) hg).trans c2
      replace c3 := (hB.cell (p := ⟨g, o + k * 5 + 3, none⟩) hg).trans c3
      replace c4 := (hB.cell (p := ⟨g, o + k * 5 + 4, none⟩) hg).trans c4
      have HT := Lib.hid (take_snoc_at hks)
      have hb2 : Below w1.heap.size w1 (wr.alloc (.cells #[.int .u64 s.tr, .int .u64 s.id, .int .i64 s.st, .int .i64 s.en, d] 40)) := hB.alloc hB.size _
      have ho2 := hO.below ((Below.refl wr.heap.size wr).alloc (Nat.le_refl _) (.cells #[.int .u64 s.tr, .int .u64 s.id, .int .i64 s.st, .int .i64 s.en, d] 40))
      have HSF : Hid (Sf (wr.alloc (.cells #[.int .u64 s.tr, .int .u64 s.id, .int .i64 s.st, .int .i64 s.en, d] 40)) u5.ownBlock (.slice (some ⟨wr.heap.size, 0, none⟩) 1 1) [s]) := Lib.hid (Sf.lit hB hok hdd rfl (fun q hq => (hO.lt q hq).1))
      have HO := Lib.hid hO
      have HO2 := Lib.hid ho2
      have hfl : ((a.take k).filter fun s => decide (s.tr = i)).length ≤ 1000000 := by
        have := List.length_filter_le (fun s : Sn => decide (s.tr = i)) (a.take k)
        rw [List.length_take] at this
        omega
      have HFL := Lib.hid hfl
      obtain ⟨A1, cc1, hdv, _⟩ := hdd
      subst hdv
      clear hO ho2 hks hfl
      by_cases he : s.tr = i
      · have k1 : (s.tr == i) = true := by simpa using he
        have HE := Lib.hid he
        clear he
        go_wp2_with (at_builtin; refine wpList_append_own5 _ rfl _ _ rfl rfl HO2.out rfl HSF.out (by have := HFL.out; simp only [List.length_singleton]; omega) hb2.size ?_)
        intro v5 w5 ho5 hg5 _
        go_wp2_with fail
        refine ⟨⟨k + 1, by omega, by go_num, ?_, hb2.grown hg5 hb2.size (fun q hq => (HO2.out.lt q hq).1)⟩, by simp [intOf]; omega⟩
        rw [HT.out, List.filter_append]
        simpa [HE.out] using ho5
      · have k1 : (s.tr == i) = false := by simpa using he
        have HE := Lib.hid he
        clear he
        go_wp2_with fail
        refine ⟨⟨k + 1, by omega, by go_num, ?_, hB⟩, by simp [intOf]; omega⟩
        rw [HT.out, List.filter_append]
        simpa [HE.out] using HO.out
    · have hkk : k = a.length := by omega
      subst hkk
      rw [List.take_length] at hO
      go_wp2_with fail
      go_ret
      exact ⟨_, _, rfl, hO.lower hb1.size, HG.out.of i, hb1.trans (hB.mono hb1.size)⟩

end Go.Proofs.Ytalljllloffieaa
