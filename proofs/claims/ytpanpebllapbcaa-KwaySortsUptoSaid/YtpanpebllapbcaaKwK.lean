/-
  TRACES' GROUPS ONE BY ONE: they are there ('gat_ex', 'grp_ex'); what rows of canonical traces come to, in order ('MgL'), and group by group ('MgI'); as plain lists. No condition but what each theorem says.
-/
import Derived.Test.YtpanpebllapbcaaKwC
import Derived.Test.YtpanpebllapbcaaKwA
namespace Go.Proofs.Ytpanpebllapbcaa

theorem gat_ex (l : List Sn) : ∃ g, Gat l g := by
  have hW : (l.mergeSort fun a b => decide (cmpW a b ≤ 0)).Pairwise fun a b => cmpW a b ≤ 0 := by
    refine (List.pairwise_mergeSort (fun a b c h1 h2 => ?_) (fun a b => ?_) l).imp fun h => of_decide_eq_true h
    · exact decide_eq_true (three_cmpW.tr _ _ _ (of_decide_eq_true h1) (of_decide_eq_true h2))
    · have := three_cmpW.anti a b
      rw [Bool.or_eq_true, decide_eq_true_eq, decide_eq_true_eq]
      omega
  have hS : ((dedL (l.mergeSort fun a b => decide (cmpW a b ≤ 0))).mergeSort fun a b => decide (cmpS a b ≤ 0)).Pairwise fun a b => cmpS a b ≤ 0 := by
    refine (List.pairwise_mergeSort (fun a b c h1 h2 => ?_) (fun a b => ?_) _).imp fun h => of_decide_eq_true h
    · exact decide_eq_true (three_cmpS.tr _ _ _ (of_decide_eq_true h1) (of_decide_eq_true h2))
    · have := three_cmpS.anti a b
      rw [Bool.or_eq_true, decide_eq_true_eq, decide_eq_true_eq]
      omega
  exact ⟨_, Gat.made (List.mergeSort_perm ..) hW (List.mergeSort_perm ..) hS⟩
/-- numbers in order, each once -/
theorem ids_ex : ∀ l : List Int, ∃ r : List Int, r.Pairwise (fun a b => a < b) ∧ ∀ x, x ∈ r ↔ x ∈ l
  | [] => ⟨[], List.Pairwise.nil, fun x => Iff.rfl⟩
  | y :: l => by
    obtain ⟨r, h1, h2⟩ := ids_ex l
    refine ⟨r.filter (fun x => decide (x < y)) ++ y :: r.filter (fun x => decide (y < x)), ?_, fun x => ?_⟩
    · rw [List.pairwise_append, List.pairwise_cons]
      refine ⟨List.Pairwise.sublist List.filter_sublist h1, ⟨fun b hb => of_decide_eq_true (List.mem_filter.1 hb).2, List.Pairwise.sublist List.filter_sublist h1⟩, fun a ha b hb => ?_⟩
      have h3 := of_decide_eq_true (List.mem_filter.1 ha).2
      rcases List.mem_cons.1 hb with rfl | hb
      · exact h3
      · have := of_decide_eq_true (List.mem_filter.1 hb).2
        omega
    · rw [List.mem_append, List.mem_cons, List.mem_filter, List.mem_filter, List.mem_cons, h2, decide_eq_true_eq, decide_eq_true_eq]
      constructor
      · rintro (h | h | h)
        · exact .inr h.1
        · exact .inl h
        · exact .inr h.1
      · rintro (h | h)
        · exact .inr (.inl h)
        · rcases Int.lt_trichotomy x y with h3 | h3 | h3
          · exact .inl ⟨h, h3⟩
          · exact .inr (.inl h3)
          · exact .inr (.inr ⟨h, h3⟩)
theorem grp_ex (l : List Sn) : ∃ g, Grp l g := by
  obtain ⟨r, h1, h2⟩ := ids_ex (l.map (·.tr))
  refine ⟨r.map fun i => ⟨i, Classical.choose (gat_ex (ofT l i))⟩, ?_, fun t ht => ?_, fun i => ?_⟩
  · rw [List.pairwise_map]
    exact h1
  · obtain ⟨i, _, rfl⟩ := List.mem_map.1 ht
    exact Classical.choose_spec (gat_ex (ofT l i))
  · constructor
    · rintro ⟨t, ht, rfl⟩
      obtain ⟨i, hi, rfl⟩ := List.mem_map.1 ht
      obtain ⟨s, hs, he⟩ := List.mem_map.1 ((h2 i).1 hi)
      exact ⟨s, hs, he⟩
    · rintro ⟨s, hs, rfl⟩
      exact ⟨_, List.mem_map.2 ⟨s.tr, (h2 _).2 (List.mem_map.2 ⟨s, hs, rfl⟩), rfl⟩, rfl⟩
theorem Gat.congr {l m g : List Sn} (h : Gat l g) (hm : ∀ s, s ∈ l ↔ s ∈ m) : Gat m g := ⟨h.up, fun s => (h.mem s).trans (Cnt.congr hm s)⟩
theorem Grp.congr {l m : List Sn} {g : List Tn} (h : Grp l g) (hm : ∀ s, s ∈ l ↔ s ∈ m) : Grp m g :=
  ⟨h.up, fun t ht => (h.sp t ht).congr fun s => by rw [mem_ofT, mem_ofT, hm], fun i => (h.ids i).trans ⟨fun ⟨s, a, b⟩ => ⟨s, (hm s).1 a, b⟩, fun ⟨s, a, b⟩ => ⟨s, (hm s).2 a, b⟩⟩⟩
theorem Grp.nil : Grp [] [] := ⟨List.Pairwise.nil, fun t h => absurd h (by simp), fun i => by simp⟩
/-- one more, behind all others -/
theorem Grp.snoc {l m : List Sn} {r : List Tn} {i : Int} {g : List Sn} (h : Grp l r) (hl : ∀ s ∈ l, s.tr < i) (hm : ∀ s ∈ m, s.tr = i) (hne : m ≠ []) (hg : Gat m g) : Grp (l ++ m) (r ++ [⟨i, g⟩]) := by
  have hlt : ∀ t ∈ r, t.id < i := fun t ht => by
    obtain ⟨s, hs, he⟩ := (h.ids t.id).1 ⟨t, ht, rfl⟩
    have := hl s hs
    omega
  refine ⟨?_, fun t ht => ?_, fun j => ?_⟩
  · rw [List.pairwise_append]
    refine ⟨h.up, List.pairwise_singleton _ _, fun a ha b hb => ?_⟩
    simp at hb
    subst hb
    exact hlt a ha
  · rcases List.mem_append.1 ht with ht | ht
    · have h3 := hlt t ht
      refine (h.sp t ht).congr fun s => ?_
      rw [mem_ofT, mem_ofT, List.mem_append]
      constructor
      · rintro ⟨a, b⟩
        exact ⟨.inl a, b⟩
      · rintro ⟨a | a, b⟩
        · exact ⟨a, b⟩
        · have := hm s a
          omega
    · simp at ht
      subst ht
      refine hg.congr fun s => ?_
      rw [mem_ofT, List.mem_append]
      constructor
      · intro a
        exact ⟨.inr a, hm s a⟩
      · rintro ⟨a | a, b⟩
        · have := hl s a
          simp only at b
          omega
        · exact a
  · constructor
    · rintro ⟨t, ht, rfl⟩
      rcases List.mem_append.1 ht with ht | ht
      · obtain ⟨s, hs, he⟩ := (h.ids t.id).1 ⟨t, ht, rfl⟩
        exact ⟨s, List.mem_append_left _ hs, he⟩
      · simp at ht
        subst ht
        obtain ⟨s, m', rfl⟩ := List.exists_cons_of_ne_nil hne
        exact ⟨s, List.mem_append_right _ (List.mem_cons_self ..), hm s (List.mem_cons_self ..)⟩
    · rintro ⟨s, hs, rfl⟩
      rcases List.mem_append.1 hs with hs | hs
      · obtain ⟨t, ht, he⟩ := (h.ids s.tr).2 ⟨s, hs, rfl⟩
        exact ⟨t, List.mem_append_left _ ht, he⟩
      · exact ⟨⟨i, g⟩, List.mem_append_right _ (List.mem_singleton.2 rfl), (hm s hs).symm⟩

/-- L are all traces of canonical rows, rising -/
structure MgL (rows : List (List Tn)) (L : List Tn) : Prop where
  perm : L.Perm rows.flatten
  up : L.Pairwise fun a b => a.id ≤ b.id
  own : ∀ t ∈ L, t.sp ≠ [] ∧ ∀ s ∈ t.sp, s.tr = t.id
/-- those ahead of q are grouped -/
structure MgI (L p q res : List Tn) : Prop where
  eq : L = p ++ q
  grp : Grp (flatT p) res
  lt : ∀ a ∈ p, ∀ b ∈ q, a.id < b.id
theorem IsT.own {r : List Tn} (h : IsT r) {t : Tn} (ht : t ∈ r) : t.sp ≠ [] ∧ ∀ s ∈ t.sp, s.tr = t.id := by
  obtain ⟨k, hk⟩ := List.getElem?_of_mem ht
  have hc := h.each k t hk
  refine ⟨List.length_pos_iff.1 hc.lo, fun s hs => ?_⟩
  obtain ⟨j, hj⟩ := List.getElem?_of_mem hs
  exact (hc.one j s hj).1
theorem IsT.rise {r : List Tn} (h : IsT r) : r.Pairwise fun a b => a.id < b.id := by
  rw [List.pairwise_iff_getElem]
  intro i j hi hj hij
  have key : ∀ (d : Nat) (hd : i + (d + 1) < r.length), r[i].id < r[i + (d + 1)].id := by
    intro d
    induction d with
    | zero => intro hd; exact h.up i _ _ (List.getElem?_eq_getElem hi) (List.getElem?_eq_getElem hd)
    | succ d ih =>
      intro hd
      have h1 := ih (by omega)
      have h2 := h.up (i + (d + 1)) _ _ (List.getElem?_eq_getElem (by omega)) (List.getElem?_eq_getElem (by omega : i + (d + 1) + 1 < r.length))
      have h3 : r[i + (d + 1) + 1].id = r[i + (d + 1 + 1)].id := rfl
      omega
  obtain ⟨d, rfl⟩ : ∃ d, j = i + (d + 1) := ⟨j - i - 1, by omega⟩
  exact key d hj
theorem flatT_mem {l : List Tn} {s : Sn} : s ∈ flatT l ↔ ∃ t ∈ l, s ∈ t.sp := by simp [flatT]
theorem flatT_append (a b : List Tn) : flatT (a ++ b) = flatT a ++ flatT b := by simp [flatT]
theorem MgL.mem {rows : List (List Tn)} {L : List Tn} (h : MgL rows L) (s : Sn) : s ∈ flatT L ↔ s ∈ flatR rows := by
  rw [flatT_mem, mem_flatR]
  constructor
  · rintro ⟨t, ht, hs⟩
    obtain ⟨r, hr, htr⟩ := List.mem_flatten.1 (h.perm.mem_iff.1 ht)
    exact ⟨r, hr, flatT_mem.2 ⟨t, htr, hs⟩⟩
  · rintro ⟨r, hr, hs⟩
    obtain ⟨t, ht, hst⟩ := flatT_mem.1 hs
    exact ⟨t, h.perm.mem_iff.2 (List.mem_flatten.2 ⟨r, hr, ht⟩), hst⟩
theorem MgL.tr {rows : List (List Tn)} {L p : List Tn} (h : MgL rows L) (hp : ∀ t ∈ p, t ∈ L) {s : Sn} (hs : s ∈ flatT p) : ∃ t ∈ p, s ∈ t.sp ∧ s.tr = t.id := by
  obtain ⟨t, ht, hst⟩ := flatT_mem.1 hs
  exact ⟨t, ht, hst, (h.own t (hp t ht)).2 s hst⟩
theorem MgI.start (L : List Tn) : MgI L [] L [] := ⟨rfl, Grp.nil, fun a h => absurd h (by simp)⟩
section
variable {rows : List (List Tn)} {L p q1 q2 res : List Tn} {x : Tn} {g : List Sn}
/-- those of the first one's trace -/
theorem MgI.run (h : MgI L p (q1 ++ q2) res) (hL : MgL rows L) (hx : ∀ t ∈ q1, t.id = x.id) (hne : q1 ≠ []) (hq : ∀ t, q2.head? = some t → t.id ≠ x.id) :
    (∀ s ∈ flatT p, s.tr < x.id) ∧ (∀ s ∈ flatT q1, s.tr = x.id) ∧ flatT q1 ≠ [] ∧ ∀ s ∈ flatT q2, x.id < s.tr := by
  obtain ⟨y, q1', rfl⟩ := List.exists_cons_of_ne_nil hne
  have hyx := hx y (List.mem_cons_self ..)
  have hm1 : ∀ t ∈ p, t ∈ L := fun t ht => by rw [h.eq]; exact List.mem_append_left _ ht
  have hm2 : ∀ t ∈ y :: q1', t ∈ L := fun t ht => by rw [h.eq]; exact List.mem_append_right _ (List.mem_append_left _ ht)
  have hm3 : ∀ t ∈ q2, t ∈ L := fun t ht => by rw [h.eq]; exact List.mem_append_right _ (List.mem_append_right _ ht)
  refine ⟨fun s hs => ?_, fun s hs => ?_, ?_, fun s hs => ?_⟩
  · obtain ⟨t, ht, _, he⟩ := hL.tr hm1 hs
    have := h.lt t ht y (by simp)
    omega
  · obtain ⟨t, ht, _, he⟩ := hL.tr hm2 hs
    rw [he, hx t ht]
  · obtain ⟨s, hs⟩ := List.exists_mem_of_ne_nil _ (hL.own y (hm2 y (List.mem_cons_self ..))).1
    exact List.ne_nil_of_mem (flatT_mem.2 ⟨y, List.mem_cons_self .., hs⟩)
  · obtain ⟨t, ht, _, he⟩ := hL.tr hm3 hs
    obtain ⟨z, q2', rfl⟩ : ∃ z q2', q2 = z :: q2' := List.exists_cons_of_ne_nil (List.ne_nil_of_mem ht)
    have h1 := hq z rfl
    have hup := hL.up
    rw [h.eq, List.pairwise_append, List.pairwise_append] at hup
    have h2 := hup.2.1.2.2 y (List.mem_cons_self ..) z (List.mem_cons_self ..)
    have h3 : z.id ≤ t.id := by
      rcases List.mem_cons.1 ht with rfl | ht
      · exact Int.le_refl _
      · exact (List.pairwise_cons.1 hup.2.1.2.1).1 t ht
    omega
theorem MgI.step (h : MgI L p (q1 ++ q2) res) (hL : MgL rows L) (hx : ∀ t ∈ q1, t.id = x.id) (hne : q1 ≠ []) (hq : ∀ t, q2.head? = some t → t.id ≠ x.id) (hg : Gat (flatT q1) g) : MgI L (p ++ q1) q2 (res ++ [⟨x.id, g⟩]) := by
  obtain ⟨h1, h2, h3, h4⟩ := h.run hL hx hne hq
  refine ⟨by rw [h.eq, List.append_assoc], ?_, fun a ha b hb => ?_⟩
  · rw [flatT_append]
    exact h.grp.snoc h1 h2 h3 hg
  · have hbL : b ∈ L := by rw [h.eq]; exact List.mem_append_right _ (List.mem_append_right _ hb)
    obtain ⟨s, hs⟩ := List.exists_mem_of_ne_nil _ (hL.own b hbL).1
    have h5 := h4 s (flatT_mem.2 ⟨b, hb, hs⟩)
    have h6 := (hL.own b hbL).2 s hs
    rcases List.mem_append.1 ha with ha1 | ha1
    · obtain ⟨y, q1', rfl⟩ := List.exists_cons_of_ne_nil hne
      have h7 := h.lt a ha1 y (by simp)
      have h8 := hx y (List.mem_cons_self ..)
      omega
    · have := hx a ha1
      omega
/-- one that is gathered is too long: so is a trace of all -/
theorem MgI.large (h : MgI L p (q1 ++ q2) res) (hL : MgL rows L) (hx : ∀ t ∈ q1, t.id = x.id) (hne : q1 ≠ []) (hq : ∀ t, q2.head? = some t → t.id ≠ x.id) (hg : Gat (flatT q1) g) (hl : 100 < g.length) : ∃ y, Grp (flatR rows) y ∧ ∃ t ∈ y, 100 < t.sp.length := by
  obtain ⟨h1, h2, h3, h4⟩ := h.run hL hx hne hq
  obtain ⟨y, hy⟩ := grp_ex (flatR rows)
  obtain ⟨s, hs⟩ := List.exists_mem_of_ne_nil _ h3
  have hall : ∀ s, s ∈ flatR rows ↔ s ∈ flatT p ∨ s ∈ flatT q1 ∨ s ∈ flatT q2 := fun s => by
    rw [← hL.mem, h.eq, flatT_append, flatT_append, List.mem_append, List.mem_append]
  obtain ⟨t, ht, he⟩ := (hy.ids x.id).2 ⟨s, (hall s).2 (.inr (.inl hs)), h2 s hs⟩
  have hgt := hy.sp t ht
  rw [he] at hgt
  have := hgt.unique hg fun s => Cnt.congr (fun s => by
    rw [mem_ofT, hall]
    constructor
    · rintro ⟨a | a | a, b⟩
      · have := h1 s a
        omega
      · exact a
      · have := h4 s a
        omega
    · intro a
      exact ⟨.inr (.inl a), h2 s a⟩) s
  exact ⟨y, hy, t, ht, by rw [this]; exact hl⟩
theorem MgI.done (h : MgI L p [] res) (hL : MgL rows L) : Grp (flatR rows) res := by
  refine h.grp.congr fun s => ?_
  rw [← hL.mem, h.eq, List.append_nil]
end
end Go.Proofs.Ytpanpebllapbcaa
