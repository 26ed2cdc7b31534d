/-
  TRACES' GROUPS, as plain lists; whether traces are canonical. No condition but what each theorem says.
  A SLICE OF TRACES THAT GROWS, its last one's spans too ('GInv'); CONTRACT of trace.Group. Conditions: at most 1000000 spans, Data of at most 1000000 bytes.
  CONTRACTS of the document's counts, Gather, Of. Conditions: at most 1000000 spans.
-/
import Derived.Test.YtgafidnbmoomiaaGreatDoorTrF
import Derived.Test.YtgafidnbmoomiaaGreatDoorMix
import Derived.Test.YtgafidnbmoomiaaGreatDoorKee
namespace Go.Proofs.YtgafidnbmoomiaaGreatDoor
open Go.RowKit
set_option maxRecDepth 100000


def ofT (l : List Sn) (i : Int) : List Sn := l.filter fun s => decide (s.tr = i)

theorem mem_ofT {l : List Sn} {i : Int} {s : Sn} : s ∈ ofT l i ↔ s ∈ l ∧ s.tr = i := by simp [ofT]

theorem Cnt.ofT_iff {l : List Sn} {i : Int} {s : Sn} : Cnt (ofT l i) s ↔ Cnt l s ∧ s.tr = i := by
  simp only [Cnt, mem_ofT]
  constructor
  · rintro ⟨⟨h1, h3⟩, h2⟩
    exact ⟨⟨h1, fun t ht htk => h2 t ⟨ht, ((key_iff.1 htk).1).trans h3⟩ htk⟩, h3⟩
  · rintro ⟨⟨h1, h2⟩, h3⟩
    exact ⟨⟨h1, h3⟩, fun t ht htk => h2 t ht.1 htk⟩

structure Grp (l : List Sn) (r : List Tn) : Prop where
  up : r.Pairwise fun a b => a.id < b.id
  sp : ∀ t ∈ r, Gat (ofT l t.id) t.sp
  ids : ∀ i, (∃ t, t ∈ r ∧ t.id = i) ↔ ∃ s, s ∈ l ∧ s.tr = i

theorem Grp.unique {l m : List Sn} {r r' : List Tn} (h : Grp l r) (h' : Grp m r') (hi : ∀ i, (∃ s, s ∈ l ∧ s.tr = i) ↔ ∃ s, s ∈ m ∧ s.tr = i) (hc : ∀ s, Cnt l s ↔ Cnt m s) : r = r' := by
  have key : ∀ {l m : List Sn} {r r' : List Tn}, Grp l r → Grp m r' → (∀ i, (∃ s, s ∈ l ∧ s.tr = i) ↔ ∃ s, s ∈ m ∧ s.tr = i) → (∀ s, Cnt l s ↔ Cnt m s) → ∀ t ∈ r, t ∈ r' := by
    intro l m r r' h h' hi hc t ht
    obtain ⟨u, hu, he⟩ := (h'.ids t.id).2 ((hi t.id).1 ((h.ids t.id).1 ⟨t, ht, rfl⟩))
    have h1 := h.sp t ht
    have h2 := h'.sp u hu
    rw [he] at h2
    have h3 := h1.unique h2 fun s => by rw [Cnt.ofT_iff, Cnt.ofT_iff, hc]
    obtain ⟨i, p⟩ := t
    obtain ⟨j, q⟩ := u
    simp only at he h3
    subst he h3
    exact hu
  exact sorted_unique (R := fun a b : Tn => a.id < b.id) (fun a b h => by omega) h.up h'.up fun t => ⟨key h h' hi hc t, key h' h (fun i => (hi i).symm) (fun s => (hc s).symm) t⟩

theorem Grp.one {l : List Sn} {r r' : List Tn} (h : Grp l r) (h' : Grp l r') : r = r' := h.unique h' (fun _ => Iff.rfl) fun _ => Iff.rfl

structure Par (p : List Sn) (out : List Tn) : Prop where
  up : out.Pairwise fun a b => a.id < b.id
  sp : ∀ t ∈ out, t.sp = ofT p t.id
  ids : ∀ i, (∃ t, t ∈ out ∧ t.id = i) ↔ ∃ s, s ∈ p ∧ s.tr = i

theorem Par.nil : Par [] [] := ⟨List.Pairwise.nil, fun t h => (by cases h), fun i => by simp⟩

theorem Par.new {p : List Sn} {out : List Tn} (h : Par p out) {s : Sn} (hs : ∀ t ∈ out, t.id < s.tr) : Par (p ++ [s]) (out ++ [⟨s.tr, [s]⟩]) := by
  refine ⟨?_, fun t ht => ?_, fun i => ?_⟩
  · rw [List.pairwise_append]
    exact ⟨h.up, by simp, fun a ha b hb => by simp at hb; subst hb; exact hs a ha⟩
  · rcases List.mem_append.1 ht with ht | ht
    · have h1 := hs t ht
      rw [ofT, List.filter_append, h.sp t ht]
      have : ¬ s.tr = t.id := by omega
      simp [ofT, this]
    · simp at ht
      subst ht
      have : ofT p s.tr = [] := by
        rw [ofT, List.filter_eq_nil_iff]
        intro x hx hxt
        simp at hxt
        obtain ⟨t, ht, he⟩ := (h.ids s.tr).2 ⟨x, hx, hxt⟩
        have := hs t ht
        omega
      simp only [ofT] at this ⊢
      rw [List.filter_append, this]
      simp
  · constructor
    · rintro ⟨t, ht, he⟩
      rcases List.mem_append.1 ht with ht | ht
      · obtain ⟨x, hx, hxt⟩ := (h.ids i).1 ⟨t, ht, he⟩
        exact ⟨x, List.mem_append_left _ hx, hxt⟩
      · simp at ht
        subst ht
        exact ⟨s, by simp, he⟩
    · rintro ⟨x, hx, hxt⟩
      rcases List.mem_append.1 hx with hx | hx
      · obtain ⟨t, ht, he⟩ := (h.ids i).2 ⟨x, hx, hxt⟩
        exact ⟨t, List.mem_append_left _ ht, he⟩
      · simp at hx
        subst hx
        exact ⟨⟨x.tr, [x]⟩, by simp, hxt⟩

theorem Par.more {p : List Sn} {o : List Tn} {t : Tn} (h : Par p (o ++ [t])) {s : Sn} (hs : t.id = s.tr) : Par (p ++ [s]) (o ++ [⟨t.id, t.sp ++ [s]⟩]) := by
  have hu := h.up
  rw [List.pairwise_append] at hu
  refine ⟨?_, fun u hum => ?_, fun i => ?_⟩
  · rw [List.pairwise_append]
    refine ⟨hu.1, by simp, fun a ha b hb => ?_⟩
    simp at hb
    subst hb
    exact hu.2.2 a ha t (by simp)
  · rcases List.mem_append.1 hum with hum | hum
    · have h1 := hu.2.2 u hum t (by simp)
      rw [ofT, List.filter_append, h.sp u (List.mem_append_left _ hum)]
      have : ¬ s.tr = u.id := by omega
      simp [ofT, this]
    · simp at hum
      subst hum
      have := h.sp t (by simp)
      simp only
      rw [this, ofT, ofT, List.filter_append]
      simp [hs]
  · constructor
    · rintro ⟨u, hum, he⟩
      rcases List.mem_append.1 hum with hum | hum
      · obtain ⟨x, hx, hxt⟩ := (h.ids i).1 ⟨u, List.mem_append_left _ hum, he⟩
        exact ⟨x, List.mem_append_left _ hx, hxt⟩
      · simp at hum
        subst hum
        exact ⟨s, by simp, by simp only at he; omega⟩
    · rintro ⟨x, hx, hxt⟩
      rcases List.mem_append.1 hx with hx | hx
      · obtain ⟨u, hum, he⟩ := (h.ids i).2 ⟨x, hx, hxt⟩
        rcases List.mem_append.1 hum with hum | hum
        · exact ⟨u, List.mem_append_left _ hum, he⟩
        · simp at hum
          subst hum
          exact ⟨_, List.mem_append_right _ (List.mem_singleton.2 rfl), he⟩
      · simp at hx
        subst hx
        exact ⟨_, List.mem_append_right _ (List.mem_singleton.2 rfl), by simp only; omega⟩

theorem cmpT_same {a b : Sn} (h : a.tr = b.tr) : cmpT a b = cmpS a b := by
  have := (cmpI_zero a.tr b.tr).2 h
  simp only [cmpT, lexC]
  rw [if_neg (by omega)]

theorem Grp.made {l d g : List Sn} {r : List Tn} (h1 : d.Perm l) (h2 : d.Pairwise fun a b => cmpW a b ≤ 0) (h3 : g.Perm (dedL d)) (h4 : g.Pairwise fun a b => cmpT a b ≤ 0) (h : Par g r) : Grp l r := by
  have hm : ∀ s, s ∈ g ↔ Cnt l s := fun s => by
    rw [h3.mem_iff, dedL_mem h2]
    exact Cnt.congr (fun s => h1.mem_iff) s
  have ha : g.Pairwise fun a b => keyB a b = false := by
    refine (List.Perm.pairwise_iff (fun {x y} h => ?_) h3).2 (dedL_apart h2)
    cases hk : keyB y x with
    | false => rfl
    | true => rw [key_symm hk] at h; cases h
  refine ⟨h.up, fun t ht => ?_, fun i => ?_⟩
  · rw [h.sp t ht]
    refine ⟨?_, fun s => ?_⟩
    · rw [ofT, List.pairwise_filter]
      refine (h4.and ha).imp ?_
      rintro a b ⟨hab, hk⟩ hat hbt
      simp only [decide_eq_true_iff] at hat hbt
      rw [cmpT_same (hat.trans hbt.symm)] at hab
      rcases Int.lt_or_le (cmpS a b) 0 with hlt | hlt
      · exact hlt
      · have := cmpS_key (a := a) (b := b) (by omega)
        rw [hk] at this
        cases this
    · rw [mem_ofT, hm, Cnt.ofT_iff]
  · rw [h.ids i]
    constructor
    · rintro ⟨s, hs, he⟩
      exact ⟨s, ((hm s).1 hs).1, he⟩
    · rintro ⟨s, hs, he⟩
      obtain ⟨t, ht, hk, _⟩ := Cnt.least hs
      exact ⟨t, (hm t).2 ht, ((key_iff.1 hk).1).trans he⟩

theorem Grp.len {l : List Sn} {r : List Tn} (h : Grp l r) : r.length ≤ l.length := by
  have hn : (r.map (·.id)).Nodup := by
    rw [List.Nodup, List.pairwise_map]
    exact h.up.imp fun h => by omega
  have : ∀ {a b : List Int}, a.Nodup → (∀ s ∈ a, s ∈ b) → a.length ≤ b.length := by
    intro a
    induction a with
    | nil => intro b _ _; simp
    | cons x a ih =>
      intro b hn hs
      rw [List.nodup_cons] at hn
      obtain ⟨p, q, rfl⟩ := List.append_of_mem (hs x (List.mem_cons_self ..))
      have := ih (b := p ++ q) hn.2 fun s h => by
        have := hs s (List.mem_cons_of_mem _ h)
        rcases List.mem_append.1 this with h1 | h1
        · exact List.mem_append_left _ h1
        · rcases List.mem_cons.1 h1 with h2 | h2
          · subst h2; exact absurd h hn.1
          · exact List.mem_append_right _ h2
      simp only [List.length_append, List.length_cons] at this ⊢
      omega
  have h1 := this hn (b := l.map (·.tr)) fun i hi => by
    obtain ⟨t, ht, rfl⟩ := List.mem_map.1 hi
    obtain ⟨s, hs, he⟩ := (h.ids t.id).1 ⟨t, ht, rfl⟩
    exact List.mem_map.2 ⟨s, hs, he⟩
  simpa using h1

section
variable {w0 w w' : World} {base : Nat} {v v' d : Value} {l m : List Sn} {row : Option Nat}
theorem SpC.one {s : Sn} {x : List Value} (h : SpC w s x) : ∀ u ∈ x, u.oneCell' = true := by
  obtain ⟨ho, d, rfl, ⟨A, c, rfl, _⟩⟩ := h
  intro u hu
  simp only [spCells, List.mem_cons, List.not_mem_nil, or_false] at hu
  rcases hu with rfl | rfl | rfl | rfl | rfl <;> rfl

end

section
variable {w0 w w' : World} {base : Nat} {bad bad' : Nat → Prop} {t : Tn} {x : List Value} {row : Option Nat}
end

section
variable {w0 w w' : World} {base hi : Nat} {ov : Value} {out : List Tn}
end

def badC (l : List Sn) (s : Sn) (i k : Nat) : Bool := match l[k]? with
  | some t => keyB t s && (lessB t s || (sameB t s && decide (k < i)))
  | none => false

def cntB (l : List Sn) (s : Sn) (i : Nat) : Bool := (List.range l.length).all fun k => !badC l s i k

theorem cntB_true {l : List Sn} {s : Sn} {i : Nat} : cntB l s i = true ↔ ∀ k, k < l.length → badC l s i k = false := by
  simp [cntB, List.all_eq_true]

end Go.Proofs.YtgafidnbmoomiaaGreatDoor
