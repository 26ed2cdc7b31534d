/-
  CONTRACTS of the document's Gather and Of. Conditions: at most 1000000 spans.
  CONTRACT of the document's Group. Condition: at most 1000000 spans.
-/
import Derived.Test.YtfccfnbmmgfgcaaGreatDoorTrG
namespace Go.Proofs.YtfccfnbmmgfgcaaGreatDoor
open Go.RowKit
set_option maxRecDepth 100000


structure Gin (l : List Sn) (i : Nat) (r : List Sn) : Prop where
  up : r.Pairwise fun a b => cmpS a b < 0
  mem : ∀ s, s ∈ r ↔ ∃ j, j < i ∧ l[j]? = some s ∧ cntB l s j = true

theorem Gin.zero (l : List Sn) : Gin l 0 [] := ⟨List.Pairwise.nil, fun s => by simp⟩
theorem Gin.skip {l r : List Sn} {i : Nat} {s : Sn} (h : Gin l i r) (hs : l[i]? = some s) (hc : cntB l s i = false) : Gin l (i + 1) r := by
  refine ⟨h.up, fun t => (h.mem t).trans ⟨fun ⟨j, h1, h2⟩ => ⟨j, by omega, h2⟩, fun ⟨j, h1, h2, h3⟩ => ?_⟩⟩
  rcases Nat.lt_or_eq_of_le (Nat.le_of_lt_succ h1) with h4 | h4
  · exact ⟨j, h4, h2, h3⟩
  · subst h4
    rw [hs] at h2
    injection h2 with h2
    subst h2
    rw [hc] at h3
    cases h3
theorem cnt_apart {l : List Sn} {s y : Sn} {i j : Nat} (hs : l[i]? = some s) (hy : l[j]? = some y) (hi : cntB l s i = true) (hj : cntB l y j = true) (hji : j < i) (hk : keyB y s = true) : False := by
  have h1 := cntB_true.1 hi j (List.getElem?_eq_some_iff.1 hy).1
  have h2 := cntB_true.1 hj i (List.getElem?_eq_some_iff.1 hs).1
  rw [badC, hy] at h1
  rw [badC, hs] at h2
  simp only [hk, key_symm hk, Bool.true_and, Bool.or_eq_false_iff, hji, decide_true, Bool.and_true] at h1 h2
  have e1 := (not_less_iff _ _).1 h1.1
  have e2 := (not_less_iff _ _).1 h2.1
  have e3 := three_cmpL.anti y s
  have e4 := three_cmpL.anti s y
  have e := cmpL_zero hk (by omega)
  subst e
  rw [(same_iff y y).2 rfl] at h1
  cases h1.2
theorem Gin.put {l r : List Sn} {i m : Nat} {s : Sn} (h : Gin l i r) (hs : l[i]? = some s) (hc : cntB l s i = true) (h1 : ∀ x ∈ r.take m, cmpS x s < 0) (h2 : ∀ x ∈ r.drop m, ¬ cmpS x s < 0) : Gin l (i + 1) (r.take m ++ [s] ++ r.drop m) := by
  have hup := h.up
  rw [← List.take_append_drop m r, List.pairwise_append] at hup
  have h3 : ∀ y ∈ r.drop m, cmpS s y < 0 := by
    intro y hy
    have h4 := three_cmpS.le_of_not (h2 y hy)
    rcases Int.lt_or_le (cmpS s y) 0 with h5 | h5
    · exact h5
    · exfalso
      have hk := key_symm (cmpS_key (a := s) (b := y) (by omega))
      obtain ⟨j, hj, hyj, hcy⟩ := (h.mem y).1 (List.mem_of_mem_drop hy)
      exact cnt_apart hs hyj hc hcy hj hk
  refine ⟨?_, fun t => ?_⟩
  · rw [List.pairwise_append, List.pairwise_append]
    refine ⟨⟨hup.1, by simp, fun a ha b hb => ?_⟩, hup.2.1, fun a ha b hb => ?_⟩
    · simp at hb
      subst hb
      exact h1 a ha
    · rcases List.mem_append.1 ha with ha | ha
      · exact hup.2.2 a ha b hb
      · simp at ha
        subst ha
        exact h3 b hb
  · have hm : t ∈ r.take m ++ [s] ++ r.drop m ↔ t ∈ r ∨ t = s := by
      have : t ∈ r ↔ t ∈ r.take m ∨ t ∈ r.drop m := by rw [← List.mem_append, List.take_append_drop]
      rw [this]
      simp only [List.mem_append, List.mem_singleton]
      constructor
      · rintro ((h | h) | h)
        · exact .inl (.inl h)
        · exact .inr h
        · exact .inl (.inr h)
      · rintro ((h | h) | h)
        · exact .inl (.inl h)
        · exact .inr h
        · exact .inl (.inr h)
    rw [hm, h.mem]
    constructor
    · rintro (⟨j, h4, h5⟩ | rfl)
      · exact ⟨j, by omega, h5⟩
      · exact ⟨i, by omega, hs, hc⟩
    · rintro ⟨j, h4, h5, h6⟩
      rcases Nat.lt_or_eq_of_le (Nat.le_of_lt_succ h4) with h7 | h7
      · exact .inl ⟨j, h7, h5, h6⟩
      · subst h7
        rw [hs] at h5
        injection h5 with h5
        exact .inr h5.symm
theorem first_of {s : Sn} : ∀ {l : List Sn}, s ∈ l → ∃ j : Nat, l[j]? = some s ∧ ∀ k : Nat, k < j → l[k]? ≠ some s
  | [], h => by cases h
  | x :: l, h => by
    by_cases hx : x = s
    · exact ⟨0, by simp [hx], fun k hk => absurd hk (Nat.not_lt_zero _)⟩
    · rcases List.mem_cons.1 h with h | h
      · exact absurd h.symm hx
      · obtain ⟨j, h1, h2⟩ := first_of h
        refine ⟨j + 1, by simpa using h1, fun k hk => ?_⟩
        cases k with
        | zero => simpa using hx
        | succ k => simpa using h2 k (by omega)
theorem Gin.done {l r : List Sn} (h : Gin l l.length r) : Gat l r := by
  refine ⟨h.up, fun s => (h.mem s).trans ⟨fun ⟨j, h1, h2, h3⟩ => ⟨List.mem_of_getElem? h2, fun t ht hk => ?_⟩, fun hc => ?_⟩⟩
  · obtain ⟨k, hk'⟩ := List.mem_iff_getElem?.1 ht
    have h4 := cntB_true.1 h3 k (List.getElem?_eq_some_iff.1 hk').1
    rw [badC, hk'] at h4
    simp only [hk, Bool.true_and, Bool.or_eq_false_iff] at h4
    exact h4.1
  · obtain ⟨j, h1, h2⟩ := first_of hc.1
    refine ⟨j, (List.getElem?_eq_some_iff.1 h1).1, h1, cntB_true.2 fun k hk => ?_⟩
    have hkt : l[k]? = some l[k] := List.getElem?_eq_getElem hk
    rw [badC, hkt]
    simp only
    cases hkey : keyB l[k] s with
    | false => rfl
    | true =>
      rw [hc.2 _ (List.getElem_mem hk) hkey]
      cases hsm : sameB l[k] s with
      | false => rfl
      | true =>
        have e := (same_iff _ _).1 hsm
        have : ¬ k < j := fun hkj => h2 k hkj (by rw [hkt, e])
        simp [this]
theorem Gin.len {l r : List Sn} {i : Nat} (h : Gin l i r) : r.length ≤ l.length := by
  refine nodup_le ?_ (fun s hs => ?_)
  · exact h.up.imp fun {a b} hab e => by
      subst e
      have := three_cmpS.rf a
      omega
  · obtain ⟨j, _, hj, _⟩ := (h.mem s).1 hs
    exact List.mem_of_getElem? hj
theorem place_of {r : List Sn} (hup : r.Pairwise fun a b => cmpS a b < 0) {s : Sn} {m : Nat} (h1 : ∀ j x, m ≤ j → r[j]? = some x → aheadB x s = false) (h2 : m = 0 ∨ ∃ x, r[m - 1]? = some x ∧ aheadB x s = true) :
    (∀ x ∈ r.take m, cmpS x s < 0) ∧ ∀ x ∈ r.drop m, ¬ cmpS x s < 0 := by
  constructor
  · intro x hx
    rcases h2 with rfl | ⟨y, hy, hya⟩
    · simp at hx
    · rw [ahead_iff] at hya
      have hya := of_decide_eq_true hya
      obtain ⟨j, hj⟩ := List.mem_iff_getElem?.1 hx
      rw [List.getElem?_take] at hj
      split at hj
      · rename_i hjm
        rcases Nat.lt_or_eq_of_le (show j ≤ m - 1 by omega) with h3 | h3
        · obtain ⟨hj1, hj2⟩ := List.getElem?_eq_some_iff.1 hj
          obtain ⟨hm1, hm2⟩ := List.getElem?_eq_some_iff.1 hy
          have := List.pairwise_iff_getElem.1 hup j (m - 1) hj1 hm1 h3
          rw [hj2, hm2] at this
          exact three_cmpS.lt_le this (by omega)
        · subst h3
          rw [hj] at hy
          injection hy with hy
          subst hy
          exact hya
      · cases hj
  · intro x hx
    obtain ⟨j, hj⟩ := List.mem_iff_getElem?.1 hx
    rw [List.getElem?_drop] at hj
    have := h1 (m + j) x (by omega) hj
    rw [ahead_iff] at this
    exact of_decide_eq_false this

section
variable {w0 w w' : World} {base : Nat} {v : Value} {l m : List Sn}
theorem OwnO.lower {base' : Nat} (h : OwnO w0 w base v l) (hb : base' ≤ base) : OwnO w0 w base' v l := by
  obtain ⟨xs, ⟨h1, h1'⟩, h2⟩ := h
  refine ⟨xs, ⟨⟨h1.1, ?_⟩, h1'⟩, h2⟩
  rcases h1.2 with h0 | ⟨g, cap, cur, hv, hg, hr⟩
  · exact .inl h0
  · exact .inr ⟨g, cap, cur, hv, by omega, hr⟩
theorem OwnO.own5 (h : OwnO w0 w w0.heap.size v l) (hb : Below w0.heap.size w0 w) : Own5 w w0.heap.size v l := by
  obtain ⟨xs, h1, h2⟩ := h
  refine ⟨xs, h1, h2.mono fun s x hs => ?_⟩
  obtain ⟨ho, d, hx, hd⟩ := hs
  refine ⟨ho, d, hx, hd.below hb, fun hne e => ?_⟩
  obtain ⟨k, hk, hk'⟩ := hd.block hne
  rw [hk] at e
  have := h1.ge k e.symm
  omega
theorem OwnO.made (w0 w : World) : OwnO w0 (w.alloc (.cells #[] 87)) w.heap.size (.slice (some ⟨w.heap.size, 0, none⟩) 0 0) [] :=
  ⟨[], ⟨World.ownsRow_made w #[] 0 (Nat.le_refl _) (by simp [maxLen]) (by simp), fun x hx => by cases hx⟩, Two.nil⟩
theorem wpList_append_ownO (w : World) {ops : Array Oper} {rest : List Oper} {o : Oper} {a : Act} {Q : Exit → Act → World → Prop} (hgd : o.guard = none) (sx x : Operand)
    (ho : o.op = .call { callee := .builtin .append, args := #[sx, x], argTypes := #[41, 41] })
    (hs : a.eval sx = v) (h : OwnO w0 w base v l) {V : Value} {ys : List (List Value)} (hx : a.eval x = V) (hV : Lv 5 w V ys) (hys : Two (SpC w0) m ys) (hl : l.length + m.length ≤ 1000000000) (hbase : base ≤ w.heap.size)
    (hK : ∀ v' w', OwnO w0 w' base v' (l ++ m) → w.grownBy w' v.ownBlock → (v'.ownBlock = v.ownBlock ∨ v'.ownBlock = some w.heap.size) → wpList Tryz.prog ops Q rest (a.put o.dst v') w') : wpList Tryz.prog ops Q (o :: rest) a w := by
  refine wpList_plain hgd fun K hK' => ?_
  obtain ⟨v', w', hrun, h2, h3, h4⟩ := run_append_ownO w o.type h hV hys hl hbase
  unfold Oper.wp execOp
  simp only [ho, resolve, invoke, builtin, Sem.run_bind, Sem.run_pure, Result.andThen_ok, List.map_toArray, List.map_cons, List.map_nil, hs, hx, hrun]
  exact hK' _ _ (hK v' w' h2 h3 h4)
theorem own_cut {A : Option Addr} {n c : Nat} (h : OwnO w0 w base (.slice A n c) l) (m : Nat) (hm : m ≤ l.length) :
    ∃ (V U : Value) (xs : List (List Value)), (∀ u, (Instr.slice 41 (.slice A n c) none (some (.int .i64 (m : Int))) none).run Tryz.prog u = .ok V u) ∧ (∀ u, (Instr.slice 41 (.slice A n c) (some (.int .i64 (m : Int))) none none).run Tryz.prog u = .ok U u) ∧ Lv 5 w V (xs.take m) ∧ Lv 5 w U (xs.drop m) ∧ Two (SpC w0) (l.take m) (xs.take m) ∧ Two (SpC w0) (l.drop m) (xs.drop m) := by
  obtain ⟨xs, h1, h2⟩ := h
  have hv := h1.lv
  obtain ⟨A', c', e, hc, _⟩ := hv.form
  injection e with e1 e2 e3
  subst e1 e3
  rw [← h2.len] at e2 hc
  subst e2
  exact ⟨_, _, xs, run_slice_upto spT spE m hm hc, run_slice_from spT spE m hm hc, hv.upto m hm, hv.from_ m hm, h2.take m, h2.drop m⟩
end

set_option maxHeartbeats 3200000 in
set_option maxRecDepth 100000 in
theorem Gather_own (v : Value) (l : List Sn) (w0 w : World) (h : Ss w0 v l) (hb0 : Below w0.heap.size w0 w) (hl : l.length ≤ 1000000) :
    Calls Tryz.prog 103 #[v] w fun e w' => ∃ v' r, e = .returned v' ∧ OwnO w0 w' w.heap.size v' r ∧ Gat l r ∧ Below w.heap.size w w' := by
  obtain ⟨A, c, rfl, hc1, hc2⟩ := h.form
  have H := Lib.hid h
  have HB0 : Hid (∀ u, Below w.heap.size w u → Below w0.heap.size w0 u) := Lib.hid (fun u h => hb0.trans (h.mono hb0.size))
  clear h hb0
  go_enter Tryz.func103, Tryz.ntmps103
  go_wp2_with fail
  go_loopw [3, 4, 5, 6, 7, 8, 9] (fun ov iv _ _ _ _ _ wr => ∃ (i : Nat) (r : List Sn), i ≤ l.length ∧ iv = .int .i64 (i : Int) ∧ OwnO w0 wr w.heap.size ov r ∧ Below w.heap.size w wr ∧ Hid (Gin l i r)) (fun _ iv _ _ _ _ _ _ => l.length - (intOf iv).toNat)
  case atStart => exact ⟨0, [], Nat.zero_le _, rfl, OwnO.nil _ _ _, Below.refl _ _, Lib.hid (Gin.zero l)⟩
  case round =>
    obtain ⟨i, r, hi, rfl, hO, hB, HG⟩ := hrel
    by_cases hlt : i < l.length
    · obtain ⟨s, hs⟩ : ∃ s, l[i]? = some s := ⟨_, List.getElem?_eq_getElem hlt⟩
      have HS := Lib.hid hs
      have HO := Lib.hid hO
      have hrl := HG.out.len
      obtain ⟨Ao, co, rfl, hco1, hco2⟩ := (hO.ss (HB0.out _ hB)).form
      clear hO
      go_wp2_with fail
      refine (counts_any _ l i s _ (H.out.below (HB0.out _ hB)) hs).mono ?_
      rintro e w1 ⟨rfl, hb1⟩
      have hB1 := hB.trans (hb1.mono hB.size)
      have HO1 := Lib.hid (HO.out.below hb1)
      clear hs hb1 hB
      cases hcb : cntB l s i with
      | false =>
        have HCB := Lib.hid hcb
        clear hcb
        go_wp2_with fail
        refine ⟨⟨i + 1, r, by omega, by go_num, HO1.out, hB1, Lib.hid (HG.out.skip HS.out HCB.out)⟩, by simp [intOf]; omega⟩
      | true =>
        have HCB := Lib.hid hcb
        clear hcb
        go_wp2_with fail
        go_loopw [6, 7, 8] (fun mv kv _ wr => ∃ m k : Nat, k ≤ r.length ∧ m ≤ k ∧ kv = .int .i64 (k : Int) ∧ mv = .int .i64 (m : Int) ∧ Below w1.heap.size w1 wr ∧ Hid ((∀ j x, m ≤ j → j < k → r[j]? = some x → aheadB x s = false) ∧ (m = 0 ∨ ∃ x, r[m - 1]? = some x ∧ aheadB x s = true))) (fun _ kv _ _ => r.length - (intOf kv).toNat)
        case atStart => exact ⟨0, 0, Nat.zero_le _, Nat.le_refl _, rfl, rfl, Below.refl _ _, Lib.hid ⟨fun j x _ h => absurd h (Nat.not_lt_zero _), .inl rfl⟩⟩
        case round =>
          obtain ⟨m, k, hk, hmk, rfl, rfl, hB2, HA⟩ := hrel
          by_cases hkl : k < r.length
          · obtain ⟨t, hkt⟩ : ∃ t, r[k]? = some t := ⟨_, List.getElem?_eq_getElem hkl⟩
            obtain ⟨g, o, d, rfl, hg, c0, c1, c2, c3, c4, hdd, hok⟩ := (H.out.below (HB0.out _ hB1)).cells HS.out
            obtain ⟨g', o', d', rfl, hg', x0, x1, x2, x3, x4, hdd', hok'⟩ := (HO1.out.ss (HB0.out _ hB1)).cells hkt
            have HKT := Lib.hid hkt
            have hq := Nat.lt_of_lt_of_le hg hB2.size
            have hq' := Nat.lt_of_lt_of_le hg' hB2.size
            have r0 : ∀ u, Below wr.heap.size wr u → u.cell? ⟨g, o + i * 5, none⟩ = some (.int .u64 s.tr) := fun u h => (h.cell hq).trans ((hB2.cell (p := ⟨g, _, none⟩) hg).trans c0)
            have r1 : ∀ u, Below wr.heap.size wr u → u.cell? ⟨g, o + i * 5 + 1, none⟩ = some (.int .u64 s.id) := fun u h => (h.cell hq).trans ((hB2.cell (p := ⟨g, _, none⟩) hg).trans c1)
            have r2 : ∀ u, Below wr.heap.size wr u → u.cell? ⟨g, o + i * 5 + 2, none⟩ = some (.int .i64 s.st) := fun u h => (h.cell hq).trans ((hB2.cell (p := ⟨g, _, none⟩) hg).trans c2)
            have r3 : ∀ u, Below wr.heap.size wr u → u.cell? ⟨g, o + i * 5 + 3, none⟩ = some (.int .i64 s.en) := fun u h => (h.cell hq).trans ((hB2.cell (p := ⟨g, _, none⟩) hg).trans c3)
            have r4 : ∀ u, Below wr.heap.size wr u → u.cell? ⟨g, o + i * 5 + 4, none⟩ = some d := fun u h => (h.cell hq).trans ((hB2.cell (p := ⟨g, _, none⟩) hg).trans c4)
            have t0 : ∀ u, Below wr.heap.size wr u → u.cell? ⟨g', o' + k * 5, none⟩ = some (.int .u64 t.tr) := fun u h => (h.cell hq').trans ((hB2.cell (p := ⟨g', _, none⟩) hg').trans x0)
            have t1 : ∀ u, Below wr.heap.size wr u → u.cell? ⟨g', o' + k * 5 + 1, none⟩ = some (.int .u64 t.id) := fun u h => (h.cell hq').trans ((hB2.cell (p := ⟨g', _, none⟩) hg').trans x1)
            have t2 : ∀ u, Below wr.heap.size wr u → u.cell? ⟨g', o' + k * 5 + 2, none⟩ = some (.int .i64 t.st) := fun u h => (h.cell hq').trans ((hB2.cell (p := ⟨g', _, none⟩) hg').trans x2)
            have t3 : ∀ u, Below wr.heap.size wr u → u.cell? ⟨g', o' + k * 5 + 3, none⟩ = some (.int .i64 t.en) := fun u h => (h.cell hq').trans ((hB2.cell (p := ⟨g', _, none⟩) hg').trans x3)
            have t4 : ∀ u, Below wr.heap.size wr u → u.cell? ⟨g', o' + k * 5 + 4, none⟩ = some d' := fun u h => (h.cell hq').trans ((hB2.cell (p := ⟨g', _, none⟩) hg').trans x4)
            have V1 : SV wr.drew (.agg #[.int .u64 s.tr, .int .u64 s.id, .int .i64 s.st, .int .i64 s.en, d]) s := ⟨hok, d, rfl, show Bs wr d s.data from hdd.below hB2⟩
            have V2 : SV wr.drew (.agg #[.int .u64 t.tr, .int .u64 t.id, .int .i64 t.st, .int .i64 t.en, d']) t := ⟨hok', d', rfl, show Bs wr d' t.data from hdd'.below hB2⟩
            have hb0 : (0 : Int) ≤ (k : Int) := by omega
            have hb1 : (k : Int) < (r.length : Int) := by omega
            have hb2 : (0 : Int) ≤ (i : Int) := by omega
            have hb3 : (i : Int) < (l.length : Int) := by omega
            clear c0 c1 c2 c3 c4 x0 x1 x2 x3 x4 hdd hdd' hok hok' hkt
            go_wp2_with fail
            refine wp_region_mix [(0, false), (1, false), (2, false), (3, false), (4, false), (5, false), (6, false), (7, false), (8, true), (9, true)] (fun u => Below wr.heap.size wr u) (by kernel_rfl) (by kernel_rfl) (by kernel_rfl) rfl (Below.refl _ _).drew ?_
            have hS0 : Below wr.heap.size wr wr.drew := (Below.refl _ _).drew
            repeat
              (refine mix_read (o := ⟨_, _, _, _, _, _⟩) (v := ?_) rfl (by rfl) (fun w' hS => ?_) ?_
               rotate_left
               go_simp
               with_reducible rfl
               try simp only [Act.put, List.setIfInBounds_toArray, List.set_cons_zero, List.set_cons_succ])
            clear r0 r1 r2 r3 r4 t0 t1 t2 t3 t4
            refine mix_step (o := ⟨_, _, _, _, _, _⟩) rfl (fun K hK => ?_)
            go_simp
            refine (Ahead_any _ _ t s _ V2 V1).mono ?_
            rintro e u1 ⟨rfl, hu1⟩
            have hU1 : Below wr.heap.size wr u1 := ⟨hu1.os, hu1.tape, hu1.output, hu1.size, hu1.block⟩
            refine hK.out _ _ hU1 ?_
            clear hK K
            try simp only [Act.put, List.setIfInBounds_toArray, List.set_cons_zero, List.set_cons_succ]
            refine mix_step (o := ⟨_, _, _, _, _, _⟩) rfl (fun K hK => ?_)
            go_simp
            refine hK.out _ _ hU1 ?_
            clear hK K V1 V2
            refine mix_done ?_
            have hB3 := hB2.trans (hU1.mono hB2.size)
            cases ha : aheadB t s with
            | true =>
              have HAT := Lib.hid ha
              clear ha
              go_wp2_with fail
              refine ⟨⟨k + 1, k + 1, by omega, by omega, by go_num, by go_num, hB3, Lib.hid ⟨fun j x h1 h2 => absurd h2 (by omega), .inr ⟨t, by simpa using HKT.out, HAT.out⟩⟩⟩, by simp [intOf]; omega⟩
            | false =>
              have HAT := Lib.hid ha
              clear ha
              go_wp2_with fail
              refine ⟨⟨m, k + 1, by omega, by omega, by go_num, rfl, hB3, Lib.hid ⟨fun j x h1 h2 hx => ?_, HA.out.2⟩⟩, by simp [intOf]; omega⟩
              rcases Nat.lt_or_eq_of_le (Nat.le_of_lt_succ h2) with h3 | h3
              · exact HA.out.1 j x h1 h3 hx
              · subst h3
                rw [HKT.out] at hx
                injection hx with hx
                subst hx
                exact HAT.out
          · have hB3 := hB1.trans (hB2.mono hB1.size)
            have hpl := place_of HG.out.up (s := s) (m := m) (fun j x h1 hx => HA.out.1 j x h1 (by have := (List.getElem?_eq_some_iff.1 hx).1; omega) hx) HA.out.2
            have HPL := Lib.hid hpl
            have hOr := HO1.out.below hB2
            obtain ⟨V, U, xs, hV, hU, hVs, hUs, hVt, hUt⟩ := own_cut hOr m (by omega)
            obtain ⟨AV, cV, rfl, _⟩ := hVs.form
            obtain ⟨AU, cU, rfl, _⟩ := hUs.form
            have hVl := hVt.len
            have hUl := hUt.len
            obtain ⟨xa, hxa⟩ : ∃ xa, xa = xs.take m := ⟨_, rfl⟩
            obtain ⟨xd, hxd⟩ : ∃ xd, xd = xs.drop m := ⟨_, rfl⟩
            obtain ⟨ta, hta⟩ : ∃ ta, ta = r.take m := ⟨_, rfl⟩
            obtain ⟨td, htd⟩ : ∃ td, td = r.drop m := ⟨_, rfl⟩
            have hrm : ta.length ≤ 1000000 := by rw [hta, List.length_take]; omega
            have hrd : td.length ≤ 1000000 := by rw [htd, List.length_drop]; omega
            rw [← hxa] at hVs hVt hV
            rw [← hxd] at hUs hUt hU
            rw [← hta] at hVt
            rw [← htd] at hUt
            have HTA := Lib.hid hta
            have HTD := Lib.hid htd
            obtain ⟨g, o, d, rfl, hg0, c0, c1, c2, c3, c4, hdd, hok⟩ := H.out.cells HS.out
            replace c0 := ((HB0.out _ hB3).cell (p := ⟨g, o + i * 5, none⟩) hg0).trans c0
            replace c1 := ((HB0.out _ hB3).cell (p := ⟨g, o + i * 5 + 1, none⟩) hg0).trans c1
            replace c2 := ((HB0.out _ hB3).cell (p := ⟨g, o + i * 5 + 2, none⟩) hg0).trans c2
            replace c3 := ((HB0.out _ hB3).cell (p := ⟨g, o + i * 5 + 3, none⟩) hg0).trans c3
            replace c4 := ((HB0.out _ hB3).cell (p := ⟨g, o + i * 5 + 4, none⟩) hg0).trans c4
            have hg := Nat.lt_of_lt_of_le hg0 (HB0.out _ hB3).size
            have W1 : Below wr.heap.size wr (wr.alloc (.cells #[] 87)) := (Below.refl _ wr).alloc (Nat.le_refl _) _
            have HV1 := Lib.hid (hVs.below W1)
            have HVT := Lib.hid hVt
            have HUS := Lib.hid hUs
            have HUT := Lib.hid hUt
            have HDD := Lib.hid hdd
            have HOK := Lib.hid hok
            obtain ⟨Ad, cd, hdv, _⟩ := hdd
            subst hdv
            have C0 := Lib.hid c0
            have C1 := Lib.hid c1
            have C2 := Lib.hid c2
            have C3 := Lib.hid c3
            have C4 := Lib.hid c4
            clear hpl hOr hVs hUs hVt hUt hVl hUl hxa hxd hta htd hok c0 c1 c2 c3 c4
            go_wp2_with (at_builtin; refine wpList_append_ownO (v := .slice (some ⟨wr.heap.size, 0, none⟩) 0 0) (l := []) _ rfl _ _ rfl rfl (OwnO.made w0 wr) rfl HV1.out HVT.out (by simp only [List.length_nil]; omega) (by simp) ?_)
            intro v2 w2 ho2 hg2 _
            have W2 : Below wr.heap.size wr w2 := W1.grown hg2 W1.size (fun q hq => by have : wr.heap.size = q := Option.some.inj hq; omega)
            have HO2 := Lib.hid ho2
            have c0 := (W2.cell (p := ⟨g, o + i * 5, none⟩) hg).trans C0.out
            have c1 := (W2.cell (p := ⟨g, o + i * 5 + 1, none⟩) hg).trans C1.out
            have c2 := (W2.cell (p := ⟨g, o + i * 5 + 2, none⟩) hg).trans C2.out
            have c3 := (W2.cell (p := ⟨g, o + i * 5 + 3, none⟩) hg).trans C3.out
            have c4 := (W2.cell (p := ⟨g, o + i * 5 + 4, none⟩) hg).trans C4.out
            have HO2' := Lib.hid (HO2.out.below ((Below.refl w2.heap.size w2).alloc (Nat.le_refl _) (.cells #[.int .u64 s.tr, .int .u64 s.id, .int .i64 s.st, .int .i64 s.en, .slice Ad s.data.length cd] 87)))
            have W2' : Below wr.heap.size wr (w2.alloc (.cells #[.int .u64 s.tr, .int .u64 s.id, .int .i64 s.st, .int .i64 s.en, .slice Ad s.data.length cd] 87)) := W2.alloc W2.size _
            have HL2 : Hid (Lv 5 (w2.alloc (.cells #[.int .u64 s.tr, .int .u64 s.id, .int .i64 s.st, .int .i64 s.en, .slice Ad s.data.length cd] 87)) (.slice (some ⟨w2.heap.size, 0, none⟩) 1 1) [spCells s (.slice Ad s.data.length cd)]) := Lib.hid (Lv.lit1 (w := w2) (spCells s (.slice Ad s.data.length cd)) 87)
            have HT2 : Hid (Two (SpC w0) [s] [spCells s (.slice Ad s.data.length cd)]) := Lib.hid (Two.nil.snoc (l := []) (m := []) ⟨HOK.out, _, rfl, HDD.out⟩)
            clear ho2 hg2 W1
            go_wp2_with (at_builtin; refine wpList_append_ownO _ rfl _ _ rfl rfl HO2'.out rfl HL2.out HT2.out (by simp only [List.length_singleton]; omega) W2'.size ?_)
            intro v3 w3 ho3 hg3 _
            have W3 : Below wr.heap.size wr w3 := W2'.grown hg3 W2'.size (fun q hq => (HO2.out.lt q hq).1)
            have HO3 := Lib.hid ho3
            have HU3 := Lib.hid (HUS.out.below W3)
            clear ho3 hg3 c0 c1 c2 c3 c4 W2'
            go_wp2_with (at_builtin; refine wpList_append_ownO _ rfl _ _ rfl rfl HO3.out rfl HU3.out HUT.out (by simp only [List.length_append, List.length_singleton]; omega) W3.size ?_)
            intro v4 w4 ho4 hg4 _
            have W4 : Below wr.heap.size wr w4 := W3.grown hg4 W3.size (fun q hq => (HO3.out.lt q hq).1)
            have ho5 := ho4.lower hB3.size
            clear ho4 hg4
            go_wp2_with fail
            refine ⟨⟨i + 1, r.take m ++ [s] ++ r.drop m, by omega, by go_num, by rw [← HTA.out, ← HTD.out]; simpa using ho5, hB3.trans (W4.mono hB3.size), Lib.hid (HG.out.put HS.out HCB.out HPL.out.1 (fun x hx => by have := HPL.out.2 x hx; omega))⟩, by simp [intOf]; omega⟩
    · have hii : i = l.length := by omega
      subst hii
      have HO := Lib.hid hO
      obtain ⟨Ao, co, rfl, hco1, hco2⟩ := (hO.ss (HB0.out _ hB)).form
      clear hO
      go_wp2_with fail
      go_ret
      exact ⟨_, r, rfl, HO.out, HG.out.done, hB⟩

theorem Gather_any (v : Value) (l : List Sn) (w : World) (h : Ss w v l) (hl : l.length ≤ 1000000) :
    Calls Tryz.prog 103 #[v] w fun e w' => ∃ v' r, e = .returned v' ∧ Own5 w' w.heap.size v' r ∧ Gat l r ∧ Below w.heap.size w w' :=
  (Gather_own v l w w h (Below.refl _ _) hl).mono fun _ _ ⟨v', r, he, ho, hG, hb⟩ => ⟨v', r, he, ho.own5 hb, hG, hb⟩

structure Gro (l : List Sn) (i : Nat) (r : List Tn) : Prop where
  up : r.Pairwise fun a b => a.id < b.id
  sp : ∀ t ∈ r, Gat (ofT l t.id) t.sp
  ids : ∀ x, (∃ t, t ∈ r ∧ t.id = x) ↔ ∃ j s, j < i ∧ l[j]? = some s ∧ s.tr = x

theorem Gro.zero (l : List Sn) : Gro l 0 [] := ⟨List.Pairwise.nil, fun t h => (by cases h), fun x => by simp⟩
theorem Gro.done {l : List Sn} {r : List Tn} (h : Gro l l.length r) : Grp l r := by
  refine ⟨h.up, h.sp, fun x => (h.ids x).trans ⟨fun ⟨j, s, _, h2, h3⟩ => ⟨s, List.mem_of_getElem? h2, h3⟩, fun ⟨s, hs, h3⟩ => ?_⟩⟩
  obtain ⟨j, hj⟩ := List.mem_iff_getElem?.1 hs
  exact ⟨j, s, (List.getElem?_eq_some_iff.1 hj).1, hj, h3⟩
theorem ids_succ {l : List Sn} {i : Nat} {s : Sn} (hs : l[i]? = some s) (x : Int) : (∃ j s, j < i + 1 ∧ l[j]? = some s ∧ s.tr = x) ↔ (∃ j s, j < i ∧ l[j]? = some s ∧ s.tr = x) ∨ s.tr = x := by
  constructor
  · rintro ⟨j, t, h1, h2, h3⟩
    rcases Nat.lt_or_eq_of_le (Nat.le_of_lt_succ h1) with h4 | h4
    · exact .inl ⟨j, t, h4, h2, h3⟩
    · subst h4
      rw [hs] at h2
      injection h2 with h2
      subst h2
      exact .inr h3
  · rintro (⟨j, t, h1, h2, h3⟩ | h)
    · exact ⟨j, t, by omega, h2, h3⟩
    · exact ⟨i, s, by omega, hs, h⟩
theorem Gro.skip {l : List Sn} {i : Nat} {r : List Tn} {s : Sn} (h : Gro l i r) (hs : l[i]? = some s) {t : Tn} (ht : t ∈ r) (he : t.id = s.tr) : Gro l (i + 1) r := by
  refine ⟨h.up, h.sp, fun x => ?_⟩
  rw [ids_succ hs, ← h.ids]
  constructor
  · exact fun h => .inl h
  · rintro (h | h)
    · exact h
    · exact ⟨t, ht, he.trans h⟩
theorem Gro.put {l : List Sn} {i m : Nat} {r : List Tn} {s : Sn} (h : Gro l i r) (hs : l[i]? = some s) {q : List Sn} (hq : Gat (ofT l s.tr) q) (h1 : ∀ x ∈ r.take m, x.id < s.tr) (h2 : ∀ x ∈ r.drop m, s.tr < x.id) : Gro l (i + 1) (r.take m ++ [⟨s.tr, q⟩] ++ r.drop m) := by
  have hup := h.up
  rw [← List.take_append_drop m r, List.pairwise_append] at hup
  have hm : ∀ t, t ∈ r.take m ++ [(⟨s.tr, q⟩ : Tn)] ++ r.drop m ↔ t ∈ r ∨ t = ⟨s.tr, q⟩ := by
    intro t
    have : t ∈ r ↔ t ∈ r.take m ∨ t ∈ r.drop m := by rw [← List.mem_append, List.take_append_drop]
    rw [this]
    simp only [List.mem_append, List.mem_singleton]
    constructor
    · rintro ((h | h) | h)
      · exact .inl (.inl h)
      · exact .inr h
      · exact .inl (.inr h)
    · rintro ((h | h) | h)
      · exact .inl (.inl h)
      · exact .inr h
      · exact .inl (.inr h)
  refine ⟨?_, fun t ht => ?_, fun x => ?_⟩
  · rw [List.pairwise_append, List.pairwise_append]
    refine ⟨⟨hup.1, by simp, fun a ha b hb => ?_⟩, hup.2.1, fun a ha b hb => ?_⟩
    · simp at hb
      subst hb
      exact h1 a ha
    · rcases List.mem_append.1 ha with ha | ha
      · exact hup.2.2 a ha b hb
      · simp at ha
        subst ha
        exact h2 b hb
  · rcases (hm t).1 ht with ht | rfl
    · exact h.sp t ht
    · exact hq
  · rw [ids_succ hs, ← h.ids]
    constructor
    · rintro ⟨t, ht, he⟩
      rcases (hm t).1 ht with ht | rfl
      · exact .inl ⟨t, ht, he⟩
      · exact .inr he
    · rintro (⟨t, ht, he⟩ | he)
      · exact ⟨t, (hm t).2 (.inl ht), he⟩
      · exact ⟨_, (hm _).2 (.inr rfl), he⟩
theorem Gro.len {l : List Sn} {i : Nat} {r : List Tn} (h : Gro l i r) : r.length ≤ l.length := by
  have hs : ∀ t ∈ r, ∃ s, s ∈ l ∧ s.tr = t.id := fun t ht => by
    obtain ⟨j, s, _, h2, h3⟩ := (h.ids t.id).1 ⟨t, ht, rfl⟩
    exact ⟨s, List.mem_of_getElem? h2, h3⟩
  have hup := h.up
  clear h
  -- r's Ids are among l's Traces, each once
  have key : ∀ (r : List Tn) (l : List Int), r.Pairwise (fun a b => a.id < b.id) → (∀ t ∈ r, t.id ∈ l) → r.length ≤ l.length := by
    intro r
    induction r with
    | nil => intro l _ _; simp
    | cons t r ih =>
      intro l hup hs
      rw [List.pairwise_cons] at hup
      obtain ⟨p, q, rfl⟩ := List.append_of_mem (hs t (List.mem_cons_self ..))
      have := ih (p ++ q) hup.2 fun u hu => by
        have h1 := hup.1 u hu
        rcases List.mem_append.1 (hs u (List.mem_cons_of_mem _ hu)) with h2 | h2
        · exact List.mem_append_left _ h2
        · rcases List.mem_cons.1 h2 with h3 | h3
          · omega
          · exact List.mem_append_right _ h3
      simp only [List.length_append, List.length_cons] at this ⊢
      omega
  have := key r (l.map (·.tr)) hup fun t ht => by
    obtain ⟨s, hs, he⟩ := hs t ht
    exact List.mem_map.2 ⟨s, hs, he⟩
  simpa using this

theorem trE : Tryz.prog.elem 23 = 43 := by kernel_rfl

theorem ts_cut {w : World} {A : Option Addr} {n c : Nat} {l : List Tn} (h : Ts w (.slice A n c) l) (m : Nat) (hm : m ≤ l.length) :
    ∃ V U, (∀ u, (Instr.slice 23 (.slice A n c) none (some (.int .i64 (m : Int))) none).run Tryz.prog u = .ok V u) ∧ (∀ u, (Instr.slice 23 (.slice A n c) (some (.int .i64 (m : Int))) none none).run Tryz.prog u = .ok U u) ∧ Ts w V (l.take m) ∧ Ts w U (l.drop m) := by
  obtain ⟨A', c', hv, h1, h2⟩ := h.form
  injection hv with e1 e2 e3
  subst e1 e2 e3
  obtain ⟨xs, hx, ht⟩ := h
  exact ⟨_, _, run_slice_upto trT trE m hm h1, run_slice_from trT trE m hm h1, ⟨_, hx.upto m hm, ht.take m⟩, ⟨_, hx.from_ m hm, ht.drop m⟩⟩

def OwnT (w0 w : World) (base : Nat) (v : Value) (l : List Tn) : Prop := ∃ xs, OwnL 2 w base 43 v xs ∧ Two (TnC w0) l xs

section
variable {w0 w w' : World} {base : Nat} {v : Value} {l m : List Tn}
theorem OwnT.ts (h : OwnT w0 w base v l) (hb : Below w0.heap.size w0 w) : Ts w v l := by
  obtain ⟨xs, h1, h2⟩ := h
  exact ⟨xs, h1.lv, h2.mono fun _ _ h => h.below hb⟩
theorem OwnT.below (h : OwnT w0 w base v l) (hb : Below w.heap.size w w') : OwnT w0 w' base v l := by
  obtain ⟨xs, h1, h2⟩ := h
  exact ⟨xs, h1.below hb, h2⟩
theorem OwnT.later {w1 : World} (h : OwnT w0 w base v l) (hb : Below w0.heap.size w0 w1) : OwnT w1 w base v l := by
  obtain ⟨xs, h1, h2⟩ := h
  exact ⟨xs, h1, h2.mono fun _ _ h => h.below hb⟩
theorem OwnT.lt (h : OwnT w0 w base v l) : ∀ g, v.ownBlock = some g → base ≤ g ∧ g < w.heap.size := fun g hg => by
  obtain ⟨xs, h1, _⟩ := h
  exact ⟨h1.ge g hg, h1.lt g hg⟩
theorem TnC.one {t : Tn} {x : List Value} (h : TnC w t x) : ∀ u ∈ x, u.oneCell' = true := by
  obtain ⟨_, d, rfl, hd⟩ := h
  obtain ⟨A, c, rfl, _⟩ := hd.form
  intro u hu
  simp only [List.mem_cons, List.not_mem_nil, or_false] at hu
  rcases hu with rfl | rfl <;> rfl
variable (w)
theorem run_append_ownT (ty : TypeId) (h : OwnT w0 w base v l) {V : Value} {ys : List (List Value)} (hV : Lv 2 w V ys) (hys : Two (TnC w0) m ys) (hl : l.length + m.length ≤ 1000000000) (hbase : base ≤ w.heap.size) :
    ∃ v' w', (Builtin.append_ #[23, 23] ty #[v, V]).run Tryz.prog w = .ok v' w' ∧ OwnT w0 w' base v' (l ++ m) ∧ w.grownBy w' v.ownBlock := by
  obtain ⟨xs, h1, h2⟩ := h
  have e1 := h2.len
  have e2 := hys.len
  obtain ⟨v', w', hrun, ho, hg, hv⟩ := run_append_elems w trT ty base v xs h1 V ys hV (fun y hy => by
    obtain ⟨a, _, ha⟩ := hys.right_mem hy
    exact ha.one) (by simp only [maxLen]; omega) (by omega) hbase
  exact ⟨v', w', hrun, ⟨xs ++ ys, ho, h2.append hys⟩, hg⟩
theorem wpList_append_ownT {ops : Array Oper} {rest : List Oper} {o : Oper} {a : Act} {Q : Exit → Act → World → Prop} (hgd : o.guard = none) (sx x : Operand)
    (ho : o.op = .call { callee := .builtin .append, args := #[sx, x], argTypes := #[23, 23] })
    (hs : a.eval sx = v) (h : OwnT w0 w base v l) {V : Value} {ys : List (List Value)} (hx : a.eval x = V) (hV : Lv 2 w V ys) (hys : Two (TnC w0) m ys) (hl : l.length + m.length ≤ 1000000000) (hbase : base ≤ w.heap.size)
    (hK : ∀ v' w', OwnT w0 w' base v' (l ++ m) → w.grownBy w' v.ownBlock → wpList Tryz.prog ops Q rest (a.put o.dst v') w') : wpList Tryz.prog ops Q (o :: rest) a w := by
  refine wpList_plain hgd fun K hK' => ?_
  obtain ⟨v', w', hrun, h2, h3⟩ := run_append_ownT w o.type h hV hys hl hbase
  unfold Oper.wp execOp
  simp only [ho, resolve, invoke, builtin, Sem.run_bind, Sem.run_pure, Result.andThen_ok, List.map_toArray, List.map_cons, List.map_nil, hs, hx, hrun]
  exact hK' _ _ (hK v' w' h2 h3)
theorem OwnT.made : OwnT w (w.alloc (.cells #[] 43)) w.heap.size (.slice (some ⟨w.heap.size, 0, none⟩) 0 0) [] :=
  ⟨[], ⟨World.ownsRow_made w #[] 0 (Nat.le_refl _) (by simp [maxLen]) (by simp), fun x hx => by cases hx⟩, Two.nil⟩
end

theorem OwnT.own {w : World} (h : OwnT w (w.alloc (.cells #[] 43)) w.heap.size (.slice (some ⟨w.heap.size, 0, none⟩) 0 0) []) : OwnL 2 (w.alloc (.cells #[] 43)) w.heap.size 43 (.slice (some ⟨w.heap.size, 0, none⟩) 0 0) [] := by
  obtain ⟨xs, h1, h2⟩ := h
  have : xs = [] := List.eq_nil_of_length_eq_zero (by have := h2.len; simpa using this.symm)
  subst this
  exact h1

end Go.Proofs.YtfccfnbmmgfgcaaGreatDoor
