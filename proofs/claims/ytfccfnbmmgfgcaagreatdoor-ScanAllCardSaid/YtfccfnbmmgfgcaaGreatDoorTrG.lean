/-
  TRACES' GROUPS, as plain lists; whether traces are canonical. No condition but what each theorem says.
  A SLICE OF TRACES THAT GROWS, its last one's spans too ('GInv'); CONTRACT of trace.Group. Conditions: at most 1000000 spans, Data of at most 1000000 bytes.
  CONTRACTS of the document's counts, Gather, Of. Conditions: at most 1000000 spans.
-/
import Derived.Test.YtfccfnbmmgfgcaaGreatDoorTrF
import Derived.Test.YtfccfnbmmgfgcaaGreatDoorMix
import Derived.Test.YtfccfnbmmgfgcaaGreatDoorKee
namespace Go.Proofs.YtfccfnbmmgfgcaaGreatDoor
open Go.RowKit
set_option maxRecDepth 100000


def ofT (l : List Sn) (i : Int) : List Sn := l.filter fun s => decide (s.tr = i)
theorem mem_ofT {l : List Sn} {i : Int} {s : Sn} : s ∈ ofT l i ↔ s ∈ l ∧ s.tr = i := by simp [ofT]
theorem Cnt.ofT_iff {l : List Sn} {i : Int} {s : Sn} : Cnt (ofT l i) s ↔ Cnt l s ∧ s.tr = i := by
  simp only [Cnt, mem_ofT]
  constructor
  · rintro ⟨⟨h1, h3⟩, h2⟩
    exact ⟨⟨h1, fun t ht htk => h2 t ⟨ht, ((key_iff.1 htk).1).trans h3⟩ htk⟩, h3⟩
  · rintro ⟨⟨h1, h2⟩, h3⟩
    exact ⟨⟨h1, h3⟩, fun t ht htk => h2 t ht.1 htk⟩

structure Grp (l : List Sn) (r : List Tn) : Prop where
  up : r.Pairwise fun a b => a.id < b.id
  sp : ∀ t ∈ r, Gat (ofT l t.id) t.sp
  ids : ∀ i, (∃ t, t ∈ r ∧ t.id = i) ↔ ∃ s, s ∈ l ∧ s.tr = i

theorem Grp.unique {l m : List Sn} {r r' : List Tn} (h : Grp l r) (h' : Grp m r') (hi : ∀ i, (∃ s, s ∈ l ∧ s.tr = i) ↔ ∃ s, s ∈ m ∧ s.tr = i) (hc : ∀ s, Cnt l s ↔ Cnt m s) : r = r' := by
  have key : ∀ {l m : List Sn} {r r' : List Tn}, Grp l r → Grp m r' → (∀ i, (∃ s, s ∈ l ∧ s.tr = i) ↔ ∃ s, s ∈ m ∧ s.tr = i) → (∀ s, Cnt l s ↔ Cnt m s) → ∀ t ∈ r, t ∈ r' := by
    intro l m r r' h h' hi hc t ht
    obtain ⟨u, hu, he⟩ := (h'.ids t.id).2 ((hi t.id).1 ((h.ids t.id).1 ⟨t, ht, rfl⟩))
    have h1 := h.sp t ht
    have h2 := h'.sp u hu
    rw [he] at h2
    have h3 := h1.unique h2 fun s => by rw [Cnt.ofT_iff, Cnt.ofT_iff, hc]
    obtain ⟨i, p⟩ := t
    obtain ⟨j, q⟩ := u
    simp only at he h3
    subst he h3
    exact hu
  exact sorted_unique (R := fun a b : Tn => a.id < b.id) (fun a b h => by omega) h.up h'.up fun t => ⟨key h h' hi hc t, key h' h (fun i => (hi i).symm) (fun s => (hc s).symm) t⟩
theorem Grp.one {l : List Sn} {r r' : List Tn} (h : Grp l r) (h' : Grp l r') : r = r' := h.unique h' (fun _ => Iff.rfl) fun _ => Iff.rfl

structure Par (p : List Sn) (out : List Tn) : Prop where
  up : out.Pairwise fun a b => a.id < b.id
  sp : ∀ t ∈ out, t.sp = ofT p t.id
  ids : ∀ i, (∃ t, t ∈ out ∧ t.id = i) ↔ ∃ s, s ∈ p ∧ s.tr = i

theorem Par.nil : Par [] [] := ⟨List.Pairwise.nil, fun t h => (by cases h), fun i => by simp⟩
theorem Par.new {p : List Sn} {out : List Tn} (h : Par p out) {s : Sn} (hs : ∀ t ∈ out, t.id < s.tr) : Par (p ++ [s]) (out ++ [⟨s.tr, [s]⟩]) := by
  refine ⟨?_, fun t ht => ?_, fun i => ?_⟩
  · rw [List.pairwise_append]
    exact ⟨h.up, by simp, fun a ha b hb => by simp at hb; subst hb; exact hs a ha⟩
  · rcases List.mem_append.1 ht with ht | ht
    · have h1 := hs t ht
      rw [ofT, List.filter_append, h.sp t ht]
      have : ¬ s.tr = t.id := by omega
      simp [ofT, this]
    · simp at ht
      subst ht
      have : ofT p s.tr = [] := by
        rw [ofT, List.filter_eq_nil_iff]
        intro x hx hxt
        simp at hxt
        obtain ⟨t, ht, he⟩ := (h.ids s.tr).2 ⟨x, hx, hxt⟩
        have := hs t ht
        omega
      simp only [ofT] at this ⊢
      rw [List.filter_append, this]
      simp
  · constructor
    · rintro ⟨t, ht, he⟩
      rcases List.mem_append.1 ht with ht | ht
      · obtain ⟨x, hx, hxt⟩ := (h.ids i).1 ⟨t, ht, he⟩
        exact ⟨x, List.mem_append_left _ hx, hxt⟩
      · simp at ht
        subst ht
        exact ⟨s, by simp, he⟩
    · rintro ⟨x, hx, hxt⟩
      rcases List.mem_append.1 hx with hx | hx
      · obtain ⟨t, ht, he⟩ := (h.ids i).2 ⟨x, hx, hxt⟩
        exact ⟨t, List.mem_append_left _ ht, he⟩
      · simp at hx
        subst hx
        exact ⟨⟨x.tr, [x]⟩, by simp, hxt⟩
theorem Par.more {p : List Sn} {o : List Tn} {t : Tn} (h : Par p (o ++ [t])) {s : Sn} (hs : t.id = s.tr) : Par (p ++ [s]) (o ++ [⟨t.id, t.sp ++ [s]⟩]) := by
  have hu := h.up
  rw [List.pairwise_append] at hu
  refine ⟨?_, fun u hum => ?_, fun i => ?_⟩
  · rw [List.pairwise_append]
    refine ⟨hu.1, by simp, fun a ha b hb => ?_⟩
    simp at hb
    subst hb
    exact hu.2.2 a ha t (by simp)
  · rcases List.mem_append.1 hum with hum | hum
    · have h1 := hu.2.2 u hum t (by simp)
      rw [ofT, List.filter_append, h.sp u (List.mem_append_left _ hum)]
      have : ¬ s.tr = u.id := by omega
      simp [ofT, this]
    · simp at hum
      subst hum
      have := h.sp t (by simp)
      simp only
      rw [this, ofT, ofT, List.filter_append]
      simp [hs]
  · constructor
    · rintro ⟨u, hum, he⟩
      rcases List.mem_append.1 hum with hum | hum
      · obtain ⟨x, hx, hxt⟩ := (h.ids i).1 ⟨u, List.mem_append_left _ hum, he⟩
        exact ⟨x, List.mem_append_left _ hx, hxt⟩
      · simp at hum
        subst hum
        exact ⟨s, by simp, by simp only at he; omega⟩
    · rintro ⟨x, hx, hxt⟩
      rcases List.mem_append.1 hx with hx | hx
      · obtain ⟨u, hum, he⟩ := (h.ids i).2 ⟨x, hx, hxt⟩
        rcases List.mem_append.1 hum with hum | hum
        · exact ⟨u, List.mem_append_left _ hum, he⟩
        · simp at hum
          subst hum
          exact ⟨_, List.mem_append_right _ (List.mem_singleton.2 rfl), he⟩
      · simp at hx
        subst hx
        exact ⟨_, List.mem_append_right _ (List.mem_singleton.2 rfl), by simp only; omega⟩

theorem cmpT_same {a b : Sn} (h : a.tr = b.tr) : cmpT a b = cmpS a b := by
  have := (cmpI_zero a.tr b.tr).2 h
  simp only [cmpT, lexC]
  rw [if_neg (by omega)]
theorem Grp.made {l d g : List Sn} {r : List Tn} (h1 : d.Perm l) (h2 : d.Pairwise fun a b => cmpW a b ≤ 0) (h3 : g.Perm (dedL d)) (h4 : g.Pairwise fun a b => cmpT a b ≤ 0) (h : Par g r) : Grp l r := by
  have hm : ∀ s, s ∈ g ↔ Cnt l s := fun s => by
    rw [h3.mem_iff, dedL_mem h2]
    exact Cnt.congr (fun s => h1.mem_iff) s
  have ha : g.Pairwise fun a b => keyB a b = false := by
    refine (List.Perm.pairwise_iff (fun {x y} h => ?_) h3).2 (dedL_apart h2)
    cases hk : keyB y x with
    | false => rfl
    | true => rw [key_symm hk] at h; cases h
  refine ⟨h.up, fun t ht => ?_, fun i => ?_⟩
  · rw [h.sp t ht]
    refine ⟨?_, fun s => ?_⟩
    · rw [ofT, List.pairwise_filter]
      refine (h4.and ha).imp ?_
      rintro a b ⟨hab, hk⟩ hat hbt
      simp only [decide_eq_true_iff] at hat hbt
      rw [cmpT_same (hat.trans hbt.symm)] at hab
      rcases Int.lt_or_le (cmpS a b) 0 with hlt | hlt
      · exact hlt
      · have := cmpS_key (a := a) (b := b) (by omega)
        rw [hk] at this
        cases this
    · rw [mem_ofT, hm, Cnt.ofT_iff]
  · rw [h.ids i]
    constructor
    · rintro ⟨s, hs, he⟩
      exact ⟨s, ((hm s).1 hs).1, he⟩
    · rintro ⟨s, hs, he⟩
      obtain ⟨t, ht, hk, _⟩ := Cnt.least hs
      exact ⟨t, (hm t).2 ht, ((key_iff.1 hk).1).trans he⟩

theorem Grp.len {l : List Sn} {r : List Tn} (h : Grp l r) : r.length ≤ l.length := by
  have hn : (r.map (·.id)).Nodup := by
    rw [List.Nodup, List.pairwise_map]
    exact h.up.imp fun h => by omega
  have : ∀ {a b : List Int}, a.Nodup → (∀ s ∈ a, s ∈ b) → a.length ≤ b.length := by
    intro a
    induction a with
    | nil => intro b _ _; simp
    | cons x a ih =>
      intro b hn hs
      rw [List.nodup_cons] at hn
      obtain ⟨p, q, rfl⟩ := List.append_of_mem (hs x (List.mem_cons_self ..))
      have := ih (b := p ++ q) hn.2 fun s h => by
        have := hs s (List.mem_cons_of_mem _ h)
        rcases List.mem_append.1 this with h1 | h1
        · exact List.mem_append_left _ h1
        · rcases List.mem_cons.1 h1 with h2 | h2
          · subst h2; exact absurd h hn.1
          · exact List.mem_append_right _ h2
      simp only [List.length_append, List.length_cons] at this ⊢
      omega
  have h1 := this hn (b := l.map (·.tr)) fun i hi => by
    obtain ⟨t, ht, rfl⟩ := List.mem_map.1 hi
    obtain ⟨s, hs, he⟩ := (h.ids t.id).1 ⟨t, ht, rfl⟩
    exact List.mem_map.2 ⟨s, hs, he⟩
  simpa using h1
theorem trT : ElemT Tryz.prog 23 43 2 32 := ⟨Tryz.underlying23, by omega, by
  refine ⟨_, _, rfl, rfl, rfl, rfl, ?_⟩
  rfl⟩

def OwnO (w0 w : World) (base : Nat) (v : Value) (l : List Sn) : Prop := ∃ xs, OwnL 5 w base 87 v xs ∧ Two (SpC w0) l xs

section
variable {w0 w w' : World} {base : Nat} {v v' d : Value} {l m : List Sn} {row : Option Nat}
theorem OwnO.nil (w0 w : World) (base : Nat) : OwnO w0 w base (.slice none 0 0) [] := ⟨[], OwnL.nil _ _ _ _, Two.nil⟩
theorem OwnO.kept (h : OwnO w0 w base v l) (hg : w.grownBy w' row) (hne : v.ownBlock = none ∨ v.ownBlock ≠ row) : OwnO w0 w' base v l := by
  obtain ⟨xs, h1, h2⟩ := h
  exact ⟨xs, h1.kept hg hne, h2⟩
theorem OwnO.below (h : OwnO w0 w base v l) (hb : Below w.heap.size w w') : OwnO w0 w' base v l := by
  obtain ⟨xs, h1, h2⟩ := h
  exact ⟨xs, h1.below hb, h2⟩
theorem OwnO.ss (h : OwnO w0 w base v l) (hb : Below w0.heap.size w0 w) : Ss w v l := by
  obtain ⟨xs, h1, h2⟩ := h
  exact ⟨xs, h1.lv, h2.mono fun _ _ h => h.below hb⟩
theorem OwnO.lt (h : OwnO w0 w base v l) : ∀ g, v.ownBlock = some g → base ≤ g ∧ g < w.heap.size := fun g hg => by
  obtain ⟨xs, h1, _⟩ := h
  exact ⟨h1.ge g hg, h1.lt g hg⟩
theorem SpC.one {s : Sn} {x : List Value} (h : SpC w s x) : ∀ u ∈ x, u.oneCell' = true := by
  obtain ⟨ho, d, rfl, ⟨A, c, rfl, _⟩⟩ := h
  intro u hu
  simp only [spCells, List.mem_cons, List.not_mem_nil, or_false] at hu
  rcases hu with rfl | rfl | rfl | rfl | rfl <;> rfl
theorem Two.right_mem {α β : Type} {R : α → β → Prop} {l : List α} {m : List β} (h : Two R l m) {y : β} (hy : y ∈ m) : ∃ a, a ∈ l ∧ R a y := by
  obtain ⟨i, hi⟩ := List.mem_iff_getElem?.1 hy
  have hil : i < l.length := by have := (List.getElem?_eq_some_iff.1 hi).1; have := h.len; omega
  exact ⟨l[i], List.getElem_mem hil, h.at_ i l[i] y (List.getElem?_eq_getElem hil) hi⟩
theorem run_append_ownO (w : World) (ty : TypeId) (h : OwnO w0 w base v l) {V : Value} {ys : List (List Value)} (hV : Lv 5 w V ys) (hys : Two (SpC w0) m ys) (hl : l.length + m.length ≤ 1000000000) (hbase : base ≤ w.heap.size) :
    ∃ v' w', (Builtin.append_ #[41, 41] ty #[v, V]).run Tryz.prog w = .ok v' w' ∧ OwnO w0 w' base v' (l ++ m) ∧ w.grownBy w' v.ownBlock ∧ (v'.ownBlock = v.ownBlock ∨ v'.ownBlock = some w.heap.size) := by
  obtain ⟨xs, h1, h2⟩ := h
  have e1 := h2.len
  have e2 := hys.len
  obtain ⟨v', w', hrun, ho, hg, hv⟩ := run_append_elems w spT ty base v xs h1 V ys hV (fun y hy => by
    obtain ⟨a, _, ha⟩ := hys.right_mem hy
    exact ha.one) (by simp only [maxLen]; omega) (by omega) hbase
  exact ⟨v', w', hrun, ⟨xs ++ ys, ho, h2.append hys⟩, hg, hv⟩
end

def idOk (i : Int) : Prop := 0 ≤ i ∧ i ≤ 18446744073709551615

def TnO (w0 w : World) (base : Nat) (bad : Nat → Prop) (t : Tn) (x : List Value) : Prop := idOk t.id ∧ ∃ d, x = [.int .u64 t.id, d] ∧ OwnO w0 w base d t.sp ∧ ∀ q, d.ownBlock = some q → ¬ bad q

section
variable {w0 w w' : World} {base : Nat} {bad bad' : Nat → Prop} {t : Tn} {x : List Value} {row : Option Nat}
theorem TnO.tnc (h : TnO w0 w base bad t x) (hb : Below w0.heap.size w0 w) : TnC w t x := by
  obtain ⟨h1, d, h2, h3, _⟩ := h
  exact ⟨h1, d, h2, h3.ss hb⟩
theorem TnO.kept (h : TnO w0 w base bad t x) (hg : w.grownBy w' row) (hr : ∀ q, row = some q → bad q) (hb : ∀ q, bad' q → bad q ∨ w.heap.size ≤ q) : TnO w0 w' base bad' t x := by
  obtain ⟨h1, d, h2, h3, h4⟩ := h
  refine ⟨h1, d, h2, h3.kept hg ?_, fun q hq hbq => ?_⟩
  · cases hd : d.ownBlock with
    | none => exact .inl rfl
    | some q => exact .inr fun e => h4 q hd (hr q e.symm)
  · rcases hb q hbq with h | h
    · exact h4 q hq h
    · have := (h3.lt q hq).2
      omega
theorem TnO.one (h : TnO w0 w base bad t x) : ∀ u ∈ x, u.oneCell' = true := by
  obtain ⟨h1, d, rfl, ⟨xs, ho, _⟩, _⟩ := h
  obtain ⟨A, c, rfl, _⟩ := ho.lv.form
  intro u hu
  simp only [List.mem_cons, List.not_mem_nil, or_false] at hu
  rcases hu with rfl | rfl <;> rfl
end

def GInv (w0 w : World) (base hi : Nat) (ov : Value) (out : List Tn) : Prop :=
  (out = [] ∧ ov = .slice none 0 0) ∨
  ∃ o t xs dl, out = o ++ [t] ∧ OwnL 2 w base 43 ov (xs ++ [[.int .u64 t.id, dl]]) ∧ idOk t.id ∧ OwnO w0 w base dl t.sp ∧ (∀ q, dl.ownBlock = some q → ov.ownBlock ≠ some q ∧ q < hi) ∧
    Two (TnO w0 w base fun q => ov.ownBlock = some q ∨ dl.ownBlock = some q) o xs

section
variable {w0 w w' : World} {base hi : Nat} {ov : Value} {out : List Tn}
theorem GInv.below (h : GInv w0 w base hi ov out) (hb : Below w.heap.size w w') : GInv w0 w' base hi ov out := by
  rcases h with h | ⟨o, t, xs, dl, h1, h2, h3, h4, h5, h6⟩
  · exact .inl h
  · exact .inr ⟨o, t, xs, dl, h1, h2.below hb, h3, h4.below hb, h5, h6.mono fun _ _ h => h.kept (row := none) (grown_of_below hb none) (fun q h => by cases h) fun q h => .inl h⟩
theorem GInv.lt (h : GInv w0 w base hi ov out) : ∀ q, ov.ownBlock = some q → base ≤ q ∧ q < w.heap.size := by
  rcases h with ⟨_, rfl⟩ | ⟨o, t, xs, dl, h1, h2, _⟩
  · intro q hq; cases hq
  · exact fun q hq => ⟨h2.ge q hq, h2.lt q hq⟩
theorem GInv.ts (h : GInv w0 w base hi ov out) (hb : Below w0.heap.size w0 w) : Ts w ov out := by
  rcases h with ⟨rfl, rfl⟩ | ⟨o, t, xs, dl, h1, h2, h3, h4, h5, h6⟩
  · exact Ts.nil w
  · subst h1
    exact ⟨_, h2.lv, (h6.mono fun _ _ h => h.tnc hb).snoc ⟨h3, dl, rfl, h4.ss hb⟩⟩
theorem GInv.form (h : GInv w0 w base hi ov out) : ∃ A c, ov = .slice A out.length c ∧ out.length ≤ c ∧ c ≤ 9223372036854775807 := by
  rcases h with ⟨rfl, rfl⟩ | ⟨o, t, xs, dl, h1, h2, h3, h4, h5, h6⟩
  · exact ⟨none, 0, rfl, Nat.le_refl _, by omega⟩
  · subst h1
    obtain ⟨A, c, hv, hc1, hc2⟩ := h2.lv.form
    have e : (xs ++ [[.int .u64 t.id, dl]]).length = (o ++ [t]).length := by simp [h6.len]
    rw [e] at hv hc1
    exact ⟨A, c, hv, hc1, hc2⟩
theorem GInv.app (h : GInv w0 w base hi ov out) (hi' : Nat) : ∃ XS, OwnL 2 w base 43 ov XS ∧ XS.length = out.length ∧
    ∀ v' w' i, idOk i → OwnL 2 w' base 43 v' (XS ++ [[.int .u64 i, .slice none 0 0]]) → w.grownBy w' ov.ownBlock → (v'.ownBlock = ov.ownBlock ∨ v'.ownBlock = some w.heap.size) → GInv w0 w' base hi' v' (out ++ [⟨i, []⟩]) := by
  rcases h with ⟨rfl, rfl⟩ | ⟨o, t, xs, dl, h1, h2, h3, h4, h5, h6⟩
  · refine ⟨[], OwnL.nil _ _ _ _, rfl, fun v' w' i hi ho hg hv => ?_⟩
    exact .inr ⟨[], ⟨i, []⟩, [], .slice none 0 0, rfl, ho, hi, OwnO.nil _ _ _, (fun q hq => by cases hq), Two.nil⟩
  · refine ⟨_, h2, by subst h1; simp [h6.len], fun v' w' i hi ho hg hv => ?_⟩
    refine .inr ⟨out, ⟨i, []⟩, _, .slice none 0 0, rfl, ho, hi, OwnO.nil _ _ _, (fun q hq => by cases hq), ?_⟩
    subst h1
    have hb : ∀ q, (v'.ownBlock = some q ∨ (Value.slice none 0 0).ownBlock = some q) → (ov.ownBlock = some q ∨ dl.ownBlock = some q) ∨ w.heap.size ≤ q := by
      intro q hq
      rcases hq with hq | hq
      · rcases hv with e | e
        · exact .inl (.inl (by rw [← e]; exact hq))
        · rw [e] at hq
          injection hq with hq
          exact .inr (by omega)
      · cases hq
    refine (h6.mono fun _ _ h => h.kept hg (fun q hq => .inl hq) hb).snoc ⟨h3, dl, rfl, h4.kept hg ?_, fun q hq hbq => ?_⟩
    · cases hd : dl.ownBlock with
      | none => exact .inl rfl
      | some q => exact .inr fun e => (h5 q hd).1 e.symm
    · have hlt := (h4.lt q hq).2
      rcases hbq with hbq | hbq
      · rcases hv with e | e
        · rw [e] at hbq
          exact (h5 q hq).1 hbq
        · rw [e] at hbq
          injection hbq with hbq
          omega
      · cases hbq
theorem GInv.more {o : List Tn} {t : Tn} (h : GInv w0 w base hi ov (o ++ [t])) : ∃ g c dl, ov = .slice (some ⟨g, 0, none⟩) (o.length + 1) c ∧ o.length + 1 ≤ c ∧ c ≤ 9223372036854775807 ∧ g < w.heap.size ∧ base ≤ g ∧
    w.cell? ⟨g, o.length * 2, none⟩ = some (.int .u64 t.id) ∧ w.cell? ⟨g, o.length * 2 + 1, none⟩ = some dl ∧ OwnO w0 w base dl t.sp ∧ (∀ q, dl.ownBlock = some q → q ≠ g ∧ q < hi) ∧
    ∀ d' w' l', OwnO w0 w' base d' l' → w.grownBy w' dl.ownBlock → (d'.ownBlock = dl.ownBlock ∨ ∃ n, d'.ownBlock = some n ∧ w.heap.size ≤ n) →
      w'.cell? ⟨g, o.length * 2 + 1, none⟩ = some dl ∧ w'.frozen? ⟨g, o.length * 2 + 1, none⟩ = false ∧ GInv w0 (w'.setCell ⟨g, o.length * 2 + 1, none⟩ d') base (w'.setCell ⟨g, o.length * 2 + 1, none⟩ d').heap.size ov (o ++ [⟨t.id, l'⟩]) ∧ w'.grownBy (w'.setCell ⟨g, o.length * 2 + 1, none⟩ d') (some g) := by
  rcases h with ⟨h, _⟩ | ⟨o', t', xs, dl, h1, h2, h3, h4, h5, h6⟩
  · simp at h
  · obtain ⟨rfl, ht⟩ := List.append_inj' h1 rfl
    simp only [List.cons.injEq, and_true] at ht
    subst ht
    have hxl := h6.len
    have hlen : (xs ++ [[Value.int .u64 t.id, dl]]).length = o.length + 1 := by simp [hxl]
    have h2' := h2
    obtain ⟨ho, hk⟩ := h2
    rcases ho.2 with ⟨_, h0⟩ | ⟨g, c, cur, hv, hb, hg, hn, hm, hcs, htk⟩
    · omega
    rw [hlen] at hv hn
    subst hv
    have hlast : (xs ++ [[Value.int .u64 t.id, dl]])[o.length]? = some [.int .u64 t.id, dl] := by rw [hxl]; simp
    obtain ⟨g', off, hA, hg', hc⟩ := h2'.lv.cells (by omega) hlast
    injection hA with hA
    injection hA with e1 e2
    subst e1 e2
    refine ⟨g, c, dl, rfl, hn, by simp only [maxLen] at hm; exact hm, hg', hb, by simpa using hc 0 _ rfl, by simpa using hc 1 _ rfl, h4, fun q hq => ⟨fun e => (h5 q hq).1 (by rw [e]; rfl), (h5 q hq).2⟩, ?_⟩
    intro d' w' l' hd' hgr hb'
    have hdg : ∀ q, dl.ownBlock = some q → q ≠ g := fun q hq e => (h5 q hq).1 (by rw [e]; rfl)
    have hne : (Value.slice (some ⟨g, 0, none⟩) (o.length + 1) c).ownBlock = none ∨ (Value.slice (some ⟨g, 0, none⟩) (o.length + 1) c).ownBlock ≠ dl.ownBlock := by
      right
      intro e
      exact hdg g e.symm rfl
    have h7 := h2'.kept hgr hne
    obtain ⟨ho7, hk7⟩ := h7
    have ho8 := ho7
    rw [hlen] at ho8
    obtain ⟨s1, g1⟩ := ho8.stored (o.length * 2 + 1) d'
    rw [flat_set1 hk7 d' hlast (show 1 < 2 by omega)] at s1
    have hset : (xs ++ [[Value.int .u64 t.id, dl]]).set o.length ([Value.int .u64 t.id, dl].set 1 d') = xs ++ [[.int .u64 t.id, d']] := by
      rw [hxl, List.set_append_right _ _ (Nat.le_refl _)]
      simp
    rw [hset] at s1
    have hdb' : ∀ q, d'.ownBlock = some q → q ≠ g := by
      intro q hq
      rcases hb' with e | ⟨n, e, hn⟩
      · rw [e] at hq
        exact hdg q hq
      · rw [e] at hq
        injection hq with hq
        omega
    have hcell := (World.cell?_of_block (a := ⟨g, o.length * 2 + 1, none⟩) (hgr.block g hg' (fun e => hdg g e.symm rfl))).trans (show w.cell? ⟨g, o.length * 2 + 1, none⟩ = some dl by simpa using hc 1 _ rfl)
    have hfr := (World.frozen?_of_block (a := ⟨g, o.length * 2 + 1, none⟩) (hgr.block g hg' (fun e => hdg g e.symm rfl))).trans (show w.frozen? ⟨g, o.length * 2 + 1, none⟩ = false by simp [World.frozen?, hg])
    refine ⟨hcell, hfr, .inr ⟨o, ⟨t.id, l'⟩, xs, d', rfl, ⟨?_, ?_⟩, h3, ?_, fun q hq => ⟨fun e => ?_, ?_⟩, ?_⟩, g1⟩
    · have : (xs ++ [[Value.int .u64 t.id, d']]).length = o.length + 1 := by simp [hxl]
      rw [this]
      exact s1
    · intro y hy
      rcases List.mem_append.1 hy with hy | hy
      · exact hk y (List.mem_append_left _ hy)
      · simp at hy
        subst hy
        rfl
    · refine hd'.kept g1 ?_
      cases hd : d'.ownBlock with
      | none => exact .inl rfl
      | some q => exact .inr fun e => by injection e with e; exact hdb' q hd e
    · injection e with e
      exact hdb' q hq e.symm
    · have := (hd'.lt q hq).2
      simpa [World.setCell] using this
    · refine h6.mono fun t x ht => ?_
      refine TnO.kept (ht.kept (bad' := fun q => some q = some g ∨ d'.ownBlock = some q) hgr (fun q hq => .inr hq) fun q hq => ?_) g1 (fun q hq => .inl hq.symm) fun q hq => .inl (hq.imp (fun e => e.symm) id)
      rcases hq with hq | hq
      · exact .inl (.inl hq.symm)
      · rcases hb' with e | ⟨n, e, hn⟩
        · rw [e] at hq
          exact .inl (.inr hq)
        · rw [e] at hq
          injection hq with hq
          exact .inr (by omega)
end

theorem spE : Tryz.prog.elem 41 = 87 := by kernel_rfl

def badC (l : List Sn) (s : Sn) (i k : Nat) : Bool := match l[k]? with
  | some t => keyB t s && (lessB t s || (sameB t s && decide (k < i)))
  | none => false
def cntB (l : List Sn) (s : Sn) (i : Nat) : Bool := (List.range l.length).all fun k => !badC l s i k

theorem cntB_true {l : List Sn} {s : Sn} {i : Nat} : cntB l s i = true ↔ ∀ k, k < l.length → badC l s i k = false := by
  simp [cntB, List.all_eq_true]
theorem cntB_false {l : List Sn} {s : Sn} {i k : Nat} (hk : k < l.length) (h : badC l s i k = true) : cntB l s i = false := by
  cases hc : cntB l s i with
  | false => rfl
  | true =>
    have := cntB_true.1 hc k hk
    rw [h] at this
    cases this

set_option maxHeartbeats 3200000 in
set_option maxRecDepth 100000 in
theorem counts_any (v : Value) (l : List Sn) (i : Nat) (s : Sn) (w : World) (h : Ss w v l) (hi : l[i]? = some s) :
    Calls Tryz.prog 134 #[v, .int .i64 (i : Int)] w fun e w' => e = .returned (.bool (cntB l s i)) ∧ Below w.heap.size w w' := by
  obtain ⟨A, c, rfl, hc1, hc2⟩ := h.form
  have H := Lib.hid h
  have HI := Lib.hid hi
  have hil : i < l.length := (List.getElem?_eq_some_iff.1 hi).1
  obtain ⟨g, o, d, rfl, hg, c0, c1, c2, c3, c4, hdd, hok⟩ := h.cells hi
  have HDD := Lib.hid hdd
  have HOK := Lib.hid hok
  have C0 := Lib.hid c0
  have C1 := Lib.hid c1
  have C2 := Lib.hid c2
  have C3 := Lib.hid c3
  have C4 := Lib.hid c4
  clear h hi c0 c1 c2 c3 c4 hdd hok
  go_enter Tryz.func134, Tryz.ntmps134
  go_wp2_with fail
  go_loopw [5, 6, 7] (fun kv _ _ wr => ∃ k : Nat, k ≤ l.length ∧ kv = .int .i64 (k : Int) ∧ Below w.heap.size w wr ∧ Hid (∀ j, j < k → badC l s i j = false)) (fun kv _ _ _ => l.length - (intOf kv).toNat)
  case atStart => exact ⟨0, Nat.zero_le _, rfl, Below.refl _ _, Lib.hid (fun j hj => absurd hj (Nat.not_lt_zero _))⟩
  case round =>
    obtain ⟨k, hk, rfl, hB, HBAD⟩ := hrel
    by_cases hkl : k < l.length
    · obtain ⟨t, hkt⟩ : ∃ t, l[k]? = some t := ⟨_, List.getElem?_eq_getElem hkl⟩
      obtain ⟨g', o', d', hA, hg', x0, x1, x2, x3, x4, hdd', hok'⟩ := H.out.cells hkt
      injection hA with hA
      injection hA with e1 e2
      subst e1 e2
      have c0 := (hB.cell (p := ⟨g, o + i * 5, none⟩) hg).trans C0.out
      have c1 := (hB.cell (p := ⟨g, o + i * 5 + 1, none⟩) hg).trans C1.out
      have c2 := (hB.cell (p := ⟨g, o + i * 5 + 2, none⟩) hg).trans C2.out
      have c3 := (hB.cell (p := ⟨g, o + i * 5 + 3, none⟩) hg).trans C3.out
      have c4 := (hB.cell (p := ⟨g, o + i * 5 + 4, none⟩) hg).trans C4.out
      replace x0 := (hB.cell (p := ⟨g, o + k * 5, none⟩) hg).trans x0
      replace x1 := (hB.cell (p := ⟨g, o + k * 5 + 1, none⟩) hg).trans x1
      replace x2 := (hB.cell (p := ⟨g, o + k * 5 + 2, none⟩) hg).trans x2
      replace x3 := (hB.cell (p := ⟨g, o + k * 5 + 3, none⟩) hg).trans x3
      replace x4 := (hB.cell (p := ⟨g, o + k * 5 + 4, none⟩) hg).trans x4
      have hb0 : (0 : Int) ≤ (k : Int) := by omega
      have hb1 : (k : Int) < (l.length : Int) := by omega
      have hb2 : (0 : Int) ≤ (i : Int) := by omega
      have hb3 : (i : Int) < (l.length : Int) := by omega
      have HBA : Hid (badC l s i k = (keyB t s && (lessB t s || (sameB t s && decide (k < i))))) := Lib.hid (by rw [badC, hkt])
      have HDT := Lib.hid hdd'
      have HOT := Lib.hid hok'
      have next : badC l s i k = false → ∀ j, j < k + 1 → badC l s i j = false := fun h j hj => by
        rcases Nat.lt_or_eq_of_le (Nat.le_of_lt_succ hj) with h1 | h1
        · exact HBAD.out j h1
        · rw [h1]; exact h
      have NEXT := Lib.hid next
      clear hkt hdd' hok' next
      by_cases hk1 : t.tr = s.tr
      · have k1 : (t.tr == s.tr) = true := by simpa using hk1
        by_cases hk2 : t.id = s.id
        · have k2 : (t.id == s.id) = true := by simpa using hk2
          have k1' : (t.tr != s.tr) = false := by simpa using hk1
          have k2' : (t.id != s.id) = false := by simpa using hk2
          have HKEY : Hid (keyB t s = true) := Lib.hid (key_iff.2 ⟨hk1, hk2⟩)
          clear hk1 hk2
          go_wp2_with fail
          go_quiet (fail)
          go_wp2_with fail
          have V1 : SV (wr.drewN nq).drew (.agg #[.int .u64 s.tr, .int .u64 s.id, .int .i64 s.st, .int .i64 s.en, d]) s := ⟨HOK.out, d, rfl, show Bs wr d s.data from HDD.out.below hB⟩
          have V2 : SV (wr.drewN nq).drew (.agg #[.int .u64 t.tr, .int .u64 t.id, .int .i64 t.st, .int .i64 t.en, d']) t := ⟨HOT.out, d', rfl, show Bs wr d' t.data from HDT.out.below hB⟩
          have hgr := Nat.lt_of_lt_of_le hg hB.size
          have r0 : ∀ u, Below wr.heap.size wr u → u.cell? ⟨g, o + i * 5, none⟩ = some (.int .u64 s.tr) := fun u h => (h.cell hgr).trans c0
          have r1 : ∀ u, Below wr.heap.size wr u → u.cell? ⟨g, o + i * 5 + 1, none⟩ = some (.int .u64 s.id) := fun u h => (h.cell hgr).trans c1
          have r2 : ∀ u, Below wr.heap.size wr u → u.cell? ⟨g, o + i * 5 + 2, none⟩ = some (.int .i64 s.st) := fun u h => (h.cell hgr).trans c2
          have r3 : ∀ u, Below wr.heap.size wr u → u.cell? ⟨g, o + i * 5 + 3, none⟩ = some (.int .i64 s.en) := fun u h => (h.cell hgr).trans c3
          have r4 : ∀ u, Below wr.heap.size wr u → u.cell? ⟨g, o + i * 5 + 4, none⟩ = some d := fun u h => (h.cell hgr).trans c4
          have t0 : ∀ u, Below wr.heap.size wr u → u.cell? ⟨g, o + k * 5, none⟩ = some (.int .u64 t.tr) := fun u h => (h.cell hgr).trans x0
          have t1 : ∀ u, Below wr.heap.size wr u → u.cell? ⟨g, o + k * 5 + 1, none⟩ = some (.int .u64 t.id) := fun u h => (h.cell hgr).trans x1
          have t2 : ∀ u, Below wr.heap.size wr u → u.cell? ⟨g, o + k * 5 + 2, none⟩ = some (.int .i64 t.st) := fun u h => (h.cell hgr).trans x2
          have t3 : ∀ u, Below wr.heap.size wr u → u.cell? ⟨g, o + k * 5 + 3, none⟩ = some (.int .i64 t.en) := fun u h => (h.cell hgr).trans x3
          have t4 : ∀ u, Below wr.heap.size wr u → u.cell? ⟨g, o + k * 5 + 4, none⟩ = some d' := fun u h => (h.cell hgr).trans x4
          clear c0 c1 c2 c3 c4 x0 x1 x2 x3 x4
          refine wp_region_mix [(0, false), (1, false), (2, false), (3, false), (4, false), (5, false), (6, false), (7, false), (8, true), (9, true)] (fun u => Below wr.heap.size wr u) (by kernel_rfl) (by kernel_rfl) (by kernel_rfl) rfl (below_drewN (Below.refl _ _) nq).drew ?_
          have hS0 : Below wr.heap.size wr (wr.drewN nq).drew := (below_drewN (Below.refl _ _) nq).drew
          repeat
            (refine mix_read (o := ⟨_, _, _, _, _, _⟩) (v := ?_) rfl (by rfl) (fun w' hS => ?_) ?_
             rotate_left
             go_simp
             with_reducible rfl
             try simp only [Act.put, List.setIfInBounds_toArray, List.set_cons_zero, List.set_cons_succ])
          refine mix_step (o := ⟨_, _, _, _, _, _⟩) rfl (fun K hK => ?_)
          go_simp
          refine (Less_any _ _ t s _ V2 V1).mono ?_
          rintro e u1 ⟨rfl, hu1⟩
          have hU1 : Below wr.heap.size wr u1 := ⟨hu1.os, hu1.tape, hu1.output, hu1.size, hu1.block⟩
          refine hK.out _ _ hU1 ?_
          clear hK K
          try simp only [Act.put, List.setIfInBounds_toArray, List.set_cons_zero, List.set_cons_succ]
          refine mix_step (o := ⟨_, _, _, _, _, _⟩) rfl (fun K hK => ?_)
          go_simp
          refine hK.out _ _ hU1 ?_
          clear hK K
          refine mix_done ?_
          generalize lessB t s = bl at HBA ⊢
          have V3 : SV u1.drew (.agg #[.int .u64 s.tr, .int .u64 s.id, .int .i64 s.st, .int .i64 s.en, d]) s := ⟨HOK.out, d, rfl, show Bs u1 d s.data from (HDD.out.below hB).below hU1⟩
          have V4 : SV u1.drew (.agg #[.int .u64 t.tr, .int .u64 t.id, .int .i64 t.st, .int .i64 t.en, d']) t := ⟨HOT.out, d', rfl, show Bs u1 d' t.data from (HDT.out.below hB).below hU1⟩
          clear V1 V2 hS0
          go_wp2_with fail
          refine wp_region_mix [(0, false), (1, false), (2, false), (3, false), (4, false), (5, false), (6, false), (7, false), (8, true), (9, true)] (fun u => Below wr.heap.size wr u) (by kernel_rfl) (by kernel_rfl) (by kernel_rfl) rfl hU1.drew ?_
          repeat
            (refine mix_read (o := ⟨_, _, _, _, _, _⟩) (v := ?_) rfl (by rfl) (fun w' hS => ?_) ?_
             rotate_left
             go_simp
             with_reducible rfl
             try simp only [Act.put, List.setIfInBounds_toArray, List.set_cons_zero, List.set_cons_succ])
          refine mix_step (o := ⟨_, _, _, _, _, _⟩) rfl (fun K hK => ?_)
          go_simp
          refine (Same_any _ _ t s _ V4 V3).mono ?_
          rintro e u2 ⟨rfl, hu2⟩
          have hU2 : Below wr.heap.size wr u2 := hU1.trans (Below.mono ⟨hu2.os, hu2.tape, hu2.output, hu2.size, hu2.block⟩ hU1.size)
          refine hK.out _ _ hU2 ?_
          clear hK K
          try simp only [Act.put, List.setIfInBounds_toArray, List.set_cons_zero, List.set_cons_succ]
          refine mix_step (o := ⟨_, _, _, _, _, _⟩) rfl (fun K hK => ?_)
          go_simp
          refine hK.out _ _ hU2 ?_
          clear hK K
          refine mix_done ?_
          have hB2 := hB.trans (hU2.mono hB.size)
          generalize sameB t s = bs at HBA ⊢
          clear r0 r1 r2 r3 r4 t0 t1 t2 t3 t4 V3 V4
          cases bl with
          | true =>
            go_wp2_with fail
            go_ret
            refine ⟨ret_bool (cntB_false hkl ?_).symm, hB2⟩
            rw [HBA.out, HKEY.out]
            rfl
          | false =>
            cases bs with
            | false =>
              go_wp2_with fail
              refine ⟨⟨k + 1, by omega, by go_num, hB2, Lib.hid (NEXT.out ?_)⟩, by simp [intOf]; omega⟩
              rw [HBA.out]
              simp
            | true =>
              by_cases hki : k < i
              · have hki' : (k : Int) < (i : Int) := by omega
                have HKI := Lib.hid hki
                go_wp2_with fail
                go_ret
                refine ⟨ret_bool (cntB_false hkl ?_).symm, hB2⟩
                rw [HBA.out, HKEY.out]
                simp [HKI.out]
              · have hki' : ¬ (k : Int) < (i : Int) := by omega
                have HKI := Lib.hid hki
                go_wp2_with fail
                refine ⟨⟨k + 1, by omega, by go_num, hB2, Lib.hid (NEXT.out ?_)⟩, by simp [intOf]; omega⟩
                rw [HBA.out]
                have := HKI.out
                simp
                omega
        · have k2 : (t.id == s.id) = false := by simpa using hk2
          have k1' : (t.tr != s.tr) = false := by simpa using hk1
          have k2' : (t.id != s.id) = true := by simpa using hk2
          have HKEY : Hid (keyB t s = false) := Lib.hid (by simp [keyB, hk2])
          clear hk1 hk2
          go_wp2_with fail
          go_quiet (fail)
          go_wp2_with fail
          refine ⟨⟨k + 1, by omega, by go_num, below_drewN hB _, Lib.hid (NEXT.out ?_)⟩, by simp [intOf]; omega⟩
          rw [HBA.out, HKEY.out]
          rfl
      · have k1 : (t.tr == s.tr) = false := by simpa using hk1
        have k1' : (t.tr != s.tr) = true := by simpa using hk1
        have HKEY : Hid (keyB t s = false) := Lib.hid (by simp [keyB, hk1])
        clear hk1
        go_wp2_with fail
        go_quiet (fail)
        go_wp2_with fail
        refine ⟨⟨k + 1, by omega, by go_num, below_drewN hB _, Lib.hid (NEXT.out ?_)⟩, by simp [intOf]; omega⟩
        rw [HBA.out, HKEY.out]
        rfl
    · go_wp2_with fail
      go_ret
      exact ⟨ret_bool (cntB_true.2 fun j hj => HBAD.out j (by omega)).symm, hB⟩

end Go.Proofs.YtfccfnbmmgfgcaaGreatDoor
