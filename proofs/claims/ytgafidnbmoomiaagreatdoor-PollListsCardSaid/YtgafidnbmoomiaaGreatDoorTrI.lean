/-
  CONTRACTS of the document's Gather and Of. Conditions: at most 1000000 spans.
  CONTRACT of the document's Group. Condition: at most 1000000 spans.
-/
import Derived.Test.YtgafidnbmoomiaaGreatDoorTrG
namespace Go.Proofs.YtgafidnbmoomiaaGreatDoor
open Go.RowKit
set_option maxRecDepth 100000


structure Gin (l : List Sn) (i : Nat) (r : List Sn) : Prop where
  up : r.Pairwise fun a b => cmpS a b < 0
  mem : ∀ s, s ∈ r ↔ ∃ j, j < i ∧ l[j]? = some s ∧ cntB l s j = true

theorem Gin.zero (l : List Sn) : Gin l 0 [] := ⟨List.Pairwise.nil, fun s => by simp⟩

theorem cnt_apart {l : List Sn} {s y : Sn} {i j : Nat} (hs : l[i]? = some s) (hy : l[j]? = some y) (hi : cntB l s i = true) (hj : cntB l y j = true) (hji : j < i) (hk : keyB y s = true) : False := by
  have h1 := cntB_true.1 hi j (List.getElem?_eq_some_iff.1 hy).1
  have h2 := cntB_true.1 hj i (List.getElem?_eq_some_iff.1 hs).1
  rw [badC, hy] at h1
  rw [badC, hs] at h2
  simp only [hk, key_symm hk, Bool.true_and, Bool.or_eq_false_iff, hji, decide_true, Bool.and_true] at h1 h2
  have e1 := (not_less_iff _ _).1 h1.1
  have e2 := (not_less_iff _ _).1 h2.1
  have e3 := three_cmpL.anti y s
  have e4 := three_cmpL.anti s y
  have e := cmpL_zero hk (by omega)
  subst e
  rw [(same_iff y y).2 rfl] at h1
  cases h1.2

theorem Gin.put {l r : List Sn} {i m : Nat} {s : Sn} (h : Gin l i r) (hs : l[i]? = some s) (hc : cntB l s i = true) (h1 : ∀ x ∈ r.take m, cmpS x s < 0) (h2 : ∀ x ∈ r.drop m, ¬ cmpS x s < 0) : Gin l (i + 1) (r.take m ++ [s] ++ r.drop m) := by
  have hup := h.up
  rw [← List.take_append_drop m r, List.pairwise_append] at hup
  have h3 : ∀ y ∈ r.drop m, cmpS s y < 0 := by
    intro y hy
    have h4 := three_cmpS.le_of_not (h2 y hy)
    rcases Int.lt_or_le (cmpS s y) 0 with h5 | h5
    · exact h5
    · exfalso
      have hk := key_symm (cmpS_key (a := s) (b := y) (by omega))
      obtain ⟨j, hj, hyj, hcy⟩ := (h.mem y).1 (List.mem_of_mem_drop hy)
      exact cnt_apart hs hyj hc hcy hj hk
  refine ⟨?_, fun t => ?_⟩
  · rw [List.pairwise_append, List.pairwise_append]
    refine ⟨⟨hup.1, by simp, fun a ha b hb => ?_⟩, hup.2.1, fun a ha b hb => ?_⟩
    · simp at hb
      subst hb
      exact h1 a ha
    · rcases List.mem_append.1 ha with ha | ha
      · exact hup.2.2 a ha b hb
      · simp at ha
        subst ha
        exact h3 b hb
  · have hm : t ∈ r.take m ++ [s] ++ r.drop m ↔ t ∈ r ∨ t = s := by
      have : t ∈ r ↔ t ∈ r.take m ∨ t ∈ r.drop m := by rw [← List.mem_append, List.take_append_drop]
      rw [this]
      simp only [List.mem_append, List.mem_singleton]
      constructor
      · rintro ((h | h) | h)
        · exact .inl (.inl h)
        · exact .inr h
        · exact .inl (.inr h)
      · rintro ((h | h) | h)
        · exact .inl (.inl h)
        · exact .inr h
        · exact .inl (.inr h)
    rw [hm, h.mem]
    constructor
    · rintro (⟨j, h4, h5⟩ | rfl)
      · exact ⟨j, by omega, h5⟩
      · exact ⟨i, by omega, hs, hc⟩
    · rintro ⟨j, h4, h5, h6⟩
      rcases Nat.lt_or_eq_of_le (Nat.le_of_lt_succ h4) with h7 | h7
      · exact .inl ⟨j, h7, h5, h6⟩
      · subst h7
        rw [hs] at h5
        injection h5 with h5
        exact .inr h5.symm

theorem first_of {s : Sn} : ∀ {l : List Sn}, s ∈ l → ∃ j : Nat, l[j]? = some s ∧ ∀ k : Nat, k < j → l[k]? ≠ some s
  | [], h => by cases h
  | x :: l, h => by
    by_cases hx : x = s
    · exact ⟨0, by simp [hx], fun k hk => absurd hk (Nat.not_lt_zero _)⟩
    · rcases List.mem_cons.1 h with h | h
      · exact absurd h.symm hx
      · obtain ⟨j, h1, h2⟩ := first_of h
        refine ⟨j + 1, by simpa using h1, fun k hk => ?_⟩
        cases k with
        | zero => simpa using hx
        | succ k => simpa using h2 k (by omega)

theorem Gin.done {l r : List Sn} (h : Gin l l.length r) : Gat l r := by
  refine ⟨h.up, fun s => (h.mem s).trans ⟨fun ⟨j, h1, h2, h3⟩ => ⟨List.mem_of_getElem? h2, fun t ht hk => ?_⟩, fun hc => ?_⟩⟩
  · obtain ⟨k, hk'⟩ := List.mem_iff_getElem?.1 ht
    have h4 := cntB_true.1 h3 k (List.getElem?_eq_some_iff.1 hk').1
    rw [badC, hk'] at h4
    simp only [hk, Bool.true_and, Bool.or_eq_false_iff] at h4
    exact h4.1
  · obtain ⟨j, h1, h2⟩ := first_of hc.1
    refine ⟨j, (List.getElem?_eq_some_iff.1 h1).1, h1, cntB_true.2 fun k hk => ?_⟩
    have hkt : l[k]? = some l[k] := List.getElem?_eq_getElem hk
    rw [badC, hkt]
    simp only
    cases hkey : keyB l[k] s with
    | false => rfl
    | true =>
      rw [hc.2 _ (List.getElem_mem hk) hkey]
      cases hsm : sameB l[k] s with
      | false => rfl
      | true =>
        have e := (same_iff _ _).1 hsm
        have : ¬ k < j := fun hkj => h2 k hkj (by rw [hkt, e])
        simp [this]

theorem Gin.len {l r : List Sn} {i : Nat} (h : Gin l i r) : r.length ≤ l.length := by
  refine nodup_le ?_ (fun s hs => ?_)
  · exact h.up.imp fun {a b} hab e => by
      subst e
      have := three_cmpS.rf a
      omega
  · obtain ⟨j, _, hj, _⟩ := (h.mem s).1 hs
    exact List.mem_of_getElem? hj

section
variable {w0 w w' : World} {base : Nat} {v : Value} {l m : List Sn}
end

structure Gro (l : List Sn) (i : Nat) (r : List Tn) : Prop where
  up : r.Pairwise fun a b => a.id < b.id
  sp : ∀ t ∈ r, Gat (ofT l t.id) t.sp
  ids : ∀ x, (∃ t, t ∈ r ∧ t.id = x) ↔ ∃ j s, j < i ∧ l[j]? = some s ∧ s.tr = x

theorem Gro.zero (l : List Sn) : Gro l 0 [] := ⟨List.Pairwise.nil, fun t h => (by cases h), fun x => by simp⟩

theorem Gro.done {l : List Sn} {r : List Tn} (h : Gro l l.length r) : Grp l r := by
  refine ⟨h.up, h.sp, fun x => (h.ids x).trans ⟨fun ⟨j, s, _, h2, h3⟩ => ⟨s, List.mem_of_getElem? h2, h3⟩, fun ⟨s, hs, h3⟩ => ?_⟩⟩
  obtain ⟨j, hj⟩ := List.mem_iff_getElem?.1 hs
  exact ⟨j, s, (List.getElem?_eq_some_iff.1 hj).1, hj, h3⟩

theorem ids_succ {l : List Sn} {i : Nat} {s : Sn} (hs : l[i]? = some s) (x : Int) : (∃ j s, j < i + 1 ∧ l[j]? = some s ∧ s.tr = x) ↔ (∃ j s, j < i ∧ l[j]? = some s ∧ s.tr = x) ∨ s.tr = x := by
  constructor
  · rintro ⟨j, t, h1, h2, h3⟩
    rcases Nat.lt_or_eq_of_le (Nat.le_of_lt_succ h1) with h4 | h4
    · exact .inl ⟨j, t, h4, h2, h3⟩
    · subst h4
      rw [hs] at h2
      injection h2 with h2
      subst h2
      exact .inr h3
  · rintro (⟨j, t, h1, h2, h3⟩ | h)
    · exact ⟨j, t, by omega, h2, h3⟩
    · exact ⟨i, s, by omega, hs, h⟩

theorem Gro.put {l : List Sn} {i m : Nat} {r : List Tn} {s : Sn} (h : Gro l i r) (hs : l[i]? = some s) {q : List Sn} (hq : Gat (ofT l s.tr) q) (h1 : ∀ x ∈ r.take m, x.id < s.tr) (h2 : ∀ x ∈ r.drop m, s.tr < x.id) : Gro l (i + 1) (r.take m ++ [⟨s.tr, q⟩] ++ r.drop m) := by
  have hup := h.up
  rw [← List.take_append_drop m r, List.pairwise_append] at hup
  have hm : ∀ t, t ∈ r.take m ++ [(⟨s.tr, q⟩ : Tn)] ++ r.drop m ↔ t ∈ r ∨ t = ⟨s.tr, q⟩ := by
    intro t
    have : t ∈ r ↔ t ∈ r.take m ∨ t ∈ r.drop m := by rw [← List.mem_append, List.take_append_drop]
    rw [this]
    simp only [List.mem_append, List.mem_singleton]
    constructor
    · rintro ((h | h) | h)
      · exact .inl (.inl h)
      · exact .inr h
      · exact .inl (.inr h)
    · rintro ((h | h) | h)
      · exact .inl (.inl h)
      · exact .inr h
      · exact .inl (.inr h)
  refine ⟨?_, fun t ht => ?_, fun x => ?_⟩
  · rw [List.pairwise_append, List.pairwise_append]
    refine ⟨⟨hup.1, by simp, fun a ha b hb => ?_⟩, hup.2.1, fun a ha b hb => ?_⟩
    · simp at hb
      subst hb
      exact h1 a ha
    · rcases List.mem_append.1 ha with ha | ha
      · exact hup.2.2 a ha b hb
      · simp at ha
        subst ha
        exact h2 b hb
  · rcases (hm t).1 ht with ht | rfl
    · exact h.sp t ht
    · exact hq
  · rw [ids_succ hs, ← h.ids]
    constructor
    · rintro ⟨t, ht, he⟩
      rcases (hm t).1 ht with ht | rfl
      · exact .inl ⟨t, ht, he⟩
      · exact .inr he
    · rintro (⟨t, ht, he⟩ | he)
      · exact ⟨t, (hm t).2 (.inl ht), he⟩
      · exact ⟨_, (hm _).2 (.inr rfl), he⟩

theorem Gro.len {l : List Sn} {i : Nat} {r : List Tn} (h : Gro l i r) : r.length ≤ l.length := by
  have hs : ∀ t ∈ r, ∃ s, s ∈ l ∧ s.tr = t.id := fun t ht => by
    obtain ⟨j, s, _, h2, h3⟩ := (h.ids t.id).1 ⟨t, ht, rfl⟩
    exact ⟨s, List.mem_of_getElem? h2, h3⟩
  have hup := h.up
  clear h
  -- r's Ids are among l's Traces, each once
  have key : ∀ (r : List Tn) (l : List Int), r.Pairwise (fun a b => a.id < b.id) → (∀ t ∈ r, t.id ∈ l) → r.length ≤ l.length := by
    intro r
    induction r with
    | nil => intro l _ _; simp
    | cons t r ih =>
      intro l hup hs
      rw [List.pairwise_cons] at hup
      obtain ⟨p, q, rfl⟩ := List.append_of_mem (hs t (List.mem_cons_self ..))
      have := ih (p ++ q) hup.2 fun u hu => by
        have h1 := hup.1 u hu
        rcases List.mem_append.1 (hs u (List.mem_cons_of_mem _ hu)) with h2 | h2
        · exact List.mem_append_left _ h2
        · rcases List.mem_cons.1 h2 with h3 | h3
          · omega
          · exact List.mem_append_right _ h3
      simp only [List.length_append, List.length_cons] at this ⊢
      omega
  have := key r (l.map (·.tr)) hup fun t ht => by
    obtain ⟨s, hs, he⟩ := hs t ht
    exact List.mem_map.2 ⟨s, hs, he⟩
  simpa using this

section
variable {w0 w w' : World} {base : Nat} {v : Value} {l m : List Tn}
theorem TnC.one {t : Tn} {x : List Value} (h : TnC w t x) : ∀ u ∈ x, u.oneCell' = true := by
  obtain ⟨_, d, rfl, hd⟩ := h
  obtain ⟨A, c, rfl, _⟩ := hd.form
  intro u hu
  simp only [List.mem_cons, List.not_mem_nil, or_false] at hu
  rcases hu with rfl | rfl <;> rfl

variable (w)
end

end Go.Proofs.YtgafidnbmoomiaaGreatDoor
