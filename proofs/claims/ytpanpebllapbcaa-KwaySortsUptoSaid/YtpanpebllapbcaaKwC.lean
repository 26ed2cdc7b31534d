/-
  ROWS OF TRACES, MERGED, as plain lists: in parts, or at once. No condition but what each theorem says.
-/
import Derived.Test.YtpanpebllapbcaaTrK
namespace Go.Proofs.Ytpanpebllapbcaa
open Go.RowKit

/-- all spans of rows -/
def flatR (rows : List (List Tn)) : List Sn := rows.flatMap flatT
theorem flatR_append (a b : List (List Tn)) : flatR (a ++ b) = flatR a ++ flatR b := by simp [flatR]
theorem flatR_two (a b : List Tn) : flatR [a, b] = flatT a ++ flatT b := by simp [flatR]
theorem mem_flatR {rows : List (List Tn)} {s : Sn} : s ∈ flatR rows ↔ ∃ r ∈ rows, s ∈ flatT r := by simp [flatR]

theorem few_100 {l : List Tn} (h : fewT l 100 = true) : l.length ≤ 100 ∧ (flatT l).length ≤ 100 ∧ ∀ s ∈ flatT l, s.data.length ≤ 200 := by
  simp only [fewT, fewB, Bool.and_eq_true, decide_eq_true_iff, List.all_eq_true] at h
  refine ⟨by omega, by omega, fun s hs => ?_⟩
  simp only [flatT, List.mem_flatMap] at hs
  obtain ⟨t, ht, hs⟩ := hs
  exact (h.1 t ht).1 s hs
/-- one that has no two alike is no longer than what has all of it -/
theorem rows_nodup_le {α : Type} [DecidableEq α] : ∀ {l m : List α}, l.Nodup → (∀ x ∈ l, x ∈ m) → l.length ≤ m.length
  | [], _, _, _ => Nat.zero_le _
  | x :: l, m, hn, hs => by
    rw [List.nodup_cons] at hn
    have hxm := hs x (List.mem_cons_self ..)
    have h1 : l.length ≤ (m.erase x).length := rows_nodup_le hn.2 fun y hy => by
      have hne : y ≠ x := fun e => hn.1 (e ▸ hy)
      exact (List.mem_erase_of_ne hne).2 (hs y (List.mem_cons_of_mem _ hy))
    rw [List.length_erase_of_mem hxm] at h1
    have := List.length_pos_of_mem hxm
    simp only [List.length_cons]
    omega
theorem Gat.keys_nodup {l r : List Sn} (h : Gat l r) : (r.map fun s => (s.tr, s.id)).Nodup := by
  unfold List.Nodup
  rw [List.pairwise_map]
  rw [List.pairwise_iff_getElem]
  intro i j hi hj hij e
  have h1 := (h.mem r[i]).1 (List.getElem_mem hi)
  have h2 := (h.mem r[j]).1 (List.getElem_mem hj)
  injection e with e1 e2
  have h3 := h1.eq h2 (key_iff.2 ⟨e1, e2⟩)
  have h4 := (List.pairwise_iff_getElem.1 h.up) i j hi hj hij
  rw [h3, three_cmpS.rf] at h4
  omega
/-- what is gathered of less is no longer -/
theorem Gat.le {l m r q : List Sn} (h : Gat l r) (h' : Gat m q) (hs : ∀ s ∈ l, s ∈ m) : r.length ≤ q.length := by
  have := rows_nodup_le h.keys_nodup (m := q.map fun s => (s.tr, s.id)) fun x hx => by
    obtain ⟨s, hs1, rfl⟩ := List.mem_map.1 hx
    obtain ⟨t, ht, hk, _⟩ := Cnt.least (hs s ((h.mem s).1 hs1).1)
    obtain ⟨e1, e2⟩ := key_iff.1 hk
    exact List.mem_map.2 ⟨t, (h'.mem t).2 ht, by rw [e1, e2]⟩
  simpa using this
/-- what is grouped of less: each trace is no longer -/
theorem Grp.le {l m : List Sn} {r q : List Tn} (h : Grp l r) (h' : Grp m q) (hs : ∀ s ∈ l, s ∈ m) {t : Tn} (ht : t ∈ r) : ∃ u ∈ q, u.id = t.id ∧ t.sp.length ≤ u.sp.length := by
  obtain ⟨s, hs1, hs2⟩ := (h.ids t.id).1 ⟨t, ht, rfl⟩
  obtain ⟨u, hu, hut⟩ := (h'.ids t.id).2 ⟨s, hs s hs1, hs2⟩
  refine ⟨u, hu, hut, (h.sp t ht).le (h'.sp u hu) fun x hx => ?_⟩
  rw [mem_ofT] at hx ⊢
  exact ⟨hs x hx.1, by rw [hut]; exact hx.2⟩
theorem Grp.small {l m : List Sn} {r q : List Tn} (h : Grp l r) (h' : Grp m q) (hs : ∀ s ∈ l, s ∈ m) (hq : ∀ u ∈ q, u.sp.length ≤ 100) : ∀ t ∈ r, t.sp.length ≤ 100 := fun t ht => by
  obtain ⟨u, hu, _, hle⟩ := h.le h' hs ht
  have := hq u hu
  omega
/-- groups of canonical rows are canonical -/
theorem Grp.isT {rows : List (List Tn)} {r : List Tn} (h : Grp (flatR rows) r) (hI : ∀ x ∈ rows, IsT x) (hs : ∀ t ∈ r, t.sp.length ≤ 100) : IsT r := by
  refine ⟨fun k t hk => ?_, fun k t u h1 h2 => ?_⟩
  · have ht := List.mem_of_getElem? hk
    have hg := h.sp t ht
    have hlo : 1 ≤ t.sp.length := by
      obtain ⟨s, hs1, hs2⟩ := (h.ids t.id).1 ⟨t, ht, rfl⟩
      obtain ⟨y, hy, _, _⟩ := Cnt.least (l := ofT (flatR rows) t.id) (s := s) (mem_ofT.2 ⟨hs1, hs2⟩)
      exact List.length_pos_of_mem ((hg.mem y).2 hy)
    refine gat_can hlo (hs t ht) (fun j s hj => ?_) ?_
    · have h1 := ((hg.mem s).1 (List.mem_of_getElem? hj)).1
      rw [mem_ofT] at h1
      obtain ⟨x, hx, hsx⟩ := mem_flatR.1 h1.1
      obtain ⟨y, hy, hsy⟩ := List.mem_flatMap.1 hsx
      obtain ⟨a, ha⟩ := List.getElem?_of_mem hy
      obtain ⟨b, hb⟩ := List.getElem?_of_mem hsy
      exact ⟨h1.2, (((hI x hx).each a y ha).one b s hb).2⟩
    · exact ⟨hg.up, fun s => by
        rw [hg.mem s]
        exact (Gat.cnt_self hg.mem s).symm⟩
  · obtain ⟨hi1, rfl⟩ := List.getElem?_eq_some_iff.1 h1
    obtain ⟨hi2, rfl⟩ := List.getElem?_eq_some_iff.1 h2
    exact (List.pairwise_iff_getElem.1 h.up) k (k + 1) hi1 hi2 (by omega)
/-- merged in parts it is what it is at once -/
theorem Grp.parts {l m : List Sn} {a b g y : List Tn} (ha : Grp l a) (hb : Grp m b) (hg : Grp (l ++ m) g) (hy : Grp (flatT a ++ flatT b) y) : y = g := by
  refine hy.unique hg (fun i => ?_) fun s => ?_
  · constructor
    · rintro ⟨s, hs, rfl⟩
      rcases List.mem_append.1 hs with h | h
      · exact ⟨s, List.mem_append_left _ (ha.flat_sub s h), rfl⟩
      · exact ⟨s, List.mem_append_right _ (hb.flat_sub s h), rfl⟩
    · rintro ⟨s, hs, rfl⟩
      rcases List.mem_append.1 hs with h | h
      · obtain ⟨t, ht, hk, _⟩ := Cnt.least h
        exact ⟨t, List.mem_append_left _ ((ha.flat_mem t).2 ht), (key_iff.1 hk).1⟩
      · obtain ⟨t, ht, hk, _⟩ := Cnt.least h
        exact ⟨t, List.mem_append_right _ ((hb.flat_mem t).2 ht), (key_iff.1 hk).1⟩
  · rw [Gat.cnt_append ha.flat_mem, Cnt.comm, Gat.cnt_append hb.flat_mem, Cnt.comm]

/-- the head's rows -/
def kuA : Sn := ⟨1, 2, 0, 0, []⟩
def kuB : Sn := ⟨1, 1, 0, 0, []⟩
theorem ku_gat : Gat [kuA, kuB] [kuB, kuA] := by
  refine Gat.made (d := [kuB, kuA]) ?_ ?_ (r := [kuB, kuA]) ?_ ?_
  · exact List.Perm.swap ..
  · simp [kuA, kuB, cmpW, cmpL, lexC, cmpI]
  · have : dedL [kuB, kuA] = [kuB, kuA] := by simp [dedL, ded, keyB, kuA, kuB]
    rw [this]
  · simp [kuA, kuB, cmpS, orI, cmpI]
theorem ku_one (s : Sn) (h : s = kuA ∨ s = kuB) : IsT [⟨1, [s]⟩] := by
  refine ⟨fun k t hk => ?_, fun k t u h1 h2 => ?_⟩
  · match k, hk with
    | 0, hk =>
      simp at hk
      subst hk
      refine ⟨by simp, by simp, fun j x hj => ?_, fun j x y h1 h2 => ?_, fun j k x y hjk h1 h2 => ?_⟩
      · match j, hj with
        | 0, hj =>
          simp at hj
          subst hj
          rcases h with rfl | rfl <;> exact ⟨rfl, by decide⟩
      · simp at h2
      · have a := (List.getElem?_eq_some_iff.1 h1).1
        have b := (List.getElem?_eq_some_iff.1 h2).1
        simp at a b
        omega
  · simp at h2
theorem ku_grp : Grp (flatR [[⟨1, [kuA]⟩], [⟨1, [kuB]⟩]]) [⟨1, [kuB, kuA]⟩] := by
  have e : flatR [[⟨1, [kuA]⟩], [⟨1, [kuB]⟩]] = [kuA, kuB] := rfl
  rw [e]
  refine ⟨by simp, fun t ht => ?_, fun i => ?_⟩
  · simp at ht
    subst ht
    have : ofT [kuA, kuB] 1 = [kuA, kuB] := by simp [ofT, kuA, kuB]
    rw [this]
    exact ku_gat
  · constructor
    · rintro ⟨t, ht, rfl⟩
      simp at ht
      subst ht
      exact ⟨kuA, by simp, rfl⟩
    · rintro ⟨s, hs, rfl⟩
      simp at hs
      rcases hs with rfl | rfl <;> exact ⟨_, List.mem_singleton.2 rfl, rfl⟩
theorem ku_zero : ¬ IsT [⟨0, []⟩] := fun h => by
  have := (h.each 0 _ rfl).lo
  simp at this
end Go.Proofs.Ytpanpebllapbcaa
