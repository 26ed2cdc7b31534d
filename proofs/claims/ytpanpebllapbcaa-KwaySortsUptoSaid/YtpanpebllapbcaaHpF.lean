/-
  A HEAP AS A PLAIN ROW: an order on what was pushed with its turn ('turnB'), a row that is a heap but at one place ('RiseI', 'SinkI'), two of it changed ('swapL'), the least one at its head; and the row against what was pushed ('TurnsOf'). No condition but what each theorem says.
  A HEAP IN MEMORY ('HpM'): its cells, its row and its blocks; over any program. Elements of two and of three cells stored; the end of a row cleared. No condition but what each theorem says.
-/
import Derived.Test.YtpanpebllapbcaaHpA
import Derived.Test.YtpanpebllapbcaaKee
namespace Go.Proofs.Ytpanpebllapbcaa

section
variable {β : Type}
/-- two places of a row changed -/
def swapL (a : List β) (i j : Nat) (x y : β) : List β := (a.set i y).set j x
theorem swapL_len (a : List β) (i j : Nat) (x y : β) : (swapL a i j x y).length = a.length := by simp [swapL]
theorem swapL_at {a : List β} {i j : Nat} {x y : β} (hx : a[i]? = some x) (hy : a[j]? = some y) (m : Nat) :
    (swapL a i j x y)[m]? = if m = j then some x else if m = i then some y else a[m]? := by
  have hi := (List.getElem?_eq_some_iff.1 hx).1
  have hj := (List.getElem?_eq_some_iff.1 hy).1
  unfold swapL
  by_cases h1 : m = j
  · subst h1
    rw [List.getElem?_set_self (by simpa using hj), if_pos rfl]
  · rw [List.getElem?_set_ne (fun e => h1 e.symm), if_neg h1]
    by_cases h2 : m = i
    · subst h2
      rw [List.getElem?_set_self hi, if_pos rfl]
    · rw [List.getElem?_set_ne (fun e => h2 e.symm), if_neg h2]
theorem swapL_perm {a : List β} {i j : Nat} {x y : β} (hx : a[i]? = some x) (hy : a[j]? = some y) : (swapL a i j x y).Perm a := by
  obtain ⟨hi, rfl⟩ := List.getElem?_eq_some_iff.1 hx
  obtain ⟨hj, rfl⟩ := List.getElem?_eq_some_iff.1 hy
  exact List.set_set_perm hi hj

variable {B : β → β → Bool} {D : β → Prop}
theorem WeakO.asym (h : WeakO B D) {x y : β} (hx : D x) (hy : D y) (hxy : B x y = true) : B y x = false := by
  cases hyx : B y x with
  | false => rfl
  | true =>
    have := h.trans x y x hx hy hx hxy hyx
    rw [h.irr x hx] at this
    cases this
theorem WeakO.neg (h : WeakO B D) {x y z : β} (hx : D x) (hy : D y) (hz : D z) (hxy : B x y = false) (hyz : B y z = false) : B x z = false := by
  cases hxz : B x z with
  | false => rfl
  | true =>
    rcases h.split x y z hx hy hz hxz with h1 | h1
    · rw [hxy] at h1; cases h1
    · rw [hyz] at h1; cases h1

/-- none is ahead of the one above it, but for the one at k; and none below k is ahead of the one above k -/
structure RiseI (B : β → β → Bool) (a : List β) (k : Nat) : Prop where
  ok : ∀ (j : Nat) (x y : β), 0 < j → j ≠ k → a[j]? = some x → a[(j - 1) / 2]? = some y → B x y = false
  under : ∀ (j : Nat) (x y : β), 0 < k → 0 < j → (j - 1) / 2 = k → a[j]? = some x → a[(k - 1) / 2]? = some y → B x y = false
/-- none is ahead of the one above it -/
def HeapOk (B : β → β → Bool) (a : List β) : Prop := ∀ (j : Nat) (x y : β), 0 < j → a[j]? = some x → a[(j - 1) / 2]? = some y → B x y = false
theorem RiseI.done {a : List β} {k : Nat} (h : RiseI B a k) (hk : ∀ x y, 0 < k → a[k]? = some x → a[(k - 1) / 2]? = some y → B x y = false) : HeapOk B a := fun j x y h0 hx hy => by
  by_cases e : j = k
  · subst e
    exact hk x y h0 hx hy
  · exact h.ok j x y h0 e hx hy
theorem RiseI.step {a : List β} {k : Nat} {x y : β} (hB : WeakO B D) (hD : ∀ z ∈ a, D z) (h : RiseI B a k) (h0 : 0 < k) (hx : a[k]? = some x) (hy : a[(k - 1) / 2]? = some y) (hxy : B x y = true) : RiseI B (swapL a k ((k - 1) / 2) x y) ((k - 1) / 2) := by
  have hDx := hD x (List.mem_of_getElem? hx)
  have hDy := hD y (List.mem_of_getElem? hy)
  have hat := swapL_at hx hy
  generalize hm : (k - 1) / 2 = m at *
  have hmk : m ≠ k := by omega
  refine ⟨fun j u v hj hjm hu hv => ?_, fun j u v hm0 hj hjm hu hv => ?_⟩
  · rw [hat j, if_neg hjm] at hu
    rw [hat ((j - 1) / 2)] at hv
    by_cases hjk : j = k
    · subst hjk
      rw [if_pos rfl] at hu
      rw [hm, if_pos rfl] at hv
      injection hu with hu
      injection hv with hv
      subst hu hv
      exact hB.asym hDx hDy hxy
    · rw [if_neg hjk] at hu
      have hDu := hD u (List.mem_of_getElem? hu)
      by_cases hpm : (j - 1) / 2 = m
      · rw [if_pos hpm] at hv
        injection hv with hv
        subst hv
        have h1 := h.ok j u y hj hjk hu (by rw [hpm]; exact hy)
        cases hux : B u x with
        | false => rfl
        | true =>
          have := hB.trans u x y hDu hDx hDy hux hxy
          rw [h1] at this
          cases this
      · rw [if_neg hpm] at hv
        by_cases hpk : (j - 1) / 2 = k
        · rw [if_pos hpk] at hv
          injection hv with hv
          subst hv
          exact h.under j u y h0 hj hpk hu (by rw [hm]; exact hy)
        · rw [if_neg hpk] at hv
          exact h.ok j u v hj hjk hu hv
  · have hmm : (m - 1) / 2 ≠ m := by omega
    have hmm2 : (m - 1) / 2 ≠ k := by omega
    rw [hat ((m - 1) / 2), if_neg hmm, if_neg hmm2] at hv
    have h1 := h.ok m y v hm0 hmk hy hv
    rw [hat j, if_neg (by omega)] at hu
    by_cases hjk : j = k
    · subst hjk
      rw [if_pos rfl] at hu
      injection hu with hu
      subst hu
      exact h1
    · rw [if_neg hjk] at hu
      have h2 := h.ok j u y hj hjk hu (by rw [hjm]; exact hy)
      exact hB.neg (hD u (List.mem_of_getElem? hu)) hDy (hD v (List.mem_of_getElem? hv)) h2 h1

theorem HeapOk.push {a : List β} (h : HeapOk B a) (z : β) : RiseI B (a ++ [z]) a.length := by
  refine ⟨fun j x y h0 hj hx hy => ?_, fun j x y hk h0 hj hx hy => ?_⟩
  · have hjl := (List.getElem?_eq_some_iff.1 hx).1
    rw [List.length_append, List.length_singleton] at hjl
    rw [List.getElem?_append_left (by omega)] at hx hy
    exact h j x y h0 hx hy
  · have hjl := (List.getElem?_eq_some_iff.1 hx).1
    rw [List.length_append, List.length_singleton] at hjl
    omega
/-- none is ahead of the one above it, but for those below k; and none below k is ahead of the one above k -/
structure SinkI (B : β → β → Bool) (a : List β) (k : Nat) : Prop where
  ok : ∀ (j : Nat) (x y : β), 0 < j → (j - 1) / 2 ≠ k → a[j]? = some x → a[(j - 1) / 2]? = some y → B x y = false
  under : ∀ (j : Nat) (x y : β), 0 < k → 0 < j → (j - 1) / 2 = k → a[j]? = some x → a[(k - 1) / 2]? = some y → B x y = false
theorem SinkI.done {a : List β} {k : Nat} (h : SinkI B a k) (hk : ∀ (j : Nat) (x y : β), 0 < j → (j - 1) / 2 = k → a[j]? = some x → a[k]? = some y → B x y = false) : HeapOk B a := fun j x y h0 hx hy => by
  by_cases e : (j - 1) / 2 = k
  · rw [e] at hy
    exact hk j x y h0 e hx hy
  · exact h.ok j x y h0 e hx hy
theorem SinkI.step {a : List β} {k f : Nat} {x y : β} (hB : WeakO B D) (hD : ∀ z ∈ a, D z) (h : SinkI B a k) (h0 : 0 < f) (hf : (f - 1) / 2 = k) (hx : a[k]? = some x) (hy : a[f]? = some y) (hyx : B y x = true)
    (hmin : ∀ (j : Nat) (u : β), 0 < j → (j - 1) / 2 = k → a[j]? = some u → B u y = false) : SinkI B (swapL a k f x y) f := by
  have hDx := hD x (List.mem_of_getElem? hx)
  have hDy := hD y (List.mem_of_getElem? hy)
  have hat := swapL_at hx hy
  have hfk : k ≠ f := by omega
  refine ⟨fun j u v hj hjf hu hv => ?_, fun j u v _ hj hjf hu hv => ?_⟩
  · rw [hat j] at hu
    rw [hat ((j - 1) / 2), if_neg hjf] at hv
    by_cases h1 : j = f
    · subst h1
      rw [if_pos rfl] at hu
      rw [if_pos hf] at hv
      injection hu with hu
      injection hv with hv
      subst hu hv
      exact hB.asym hDy hDx hyx
    · rw [if_neg h1] at hu
      by_cases h2 : j = k
      · subst h2
        rw [if_pos rfl] at hu
        injection hu with hu
        subst hu
        rw [if_neg (by omega)] at hv
        exact h.under f y v hj h0 hf hy hv
      · rw [if_neg h2] at hu
        by_cases h3 : (j - 1) / 2 = k
        · rw [if_pos h3] at hv
          injection hv with hv
          subst hv
          exact hmin j u hj h3 hu
        · rw [if_neg h3] at hv
          exact h.ok j u v hj h3 hu hv
  · rw [hat j, if_neg (by omega), if_neg (by omega)] at hu
    rw [hf, hat k, if_neg hfk, if_pos rfl] at hv
    injection hv with hv
    subst hv
    exact h.ok j u y hj (by omega) hu (by rw [hjf]; exact hy)
/-- the head goes, and the last one takes its place -/
theorem HeapOk.behead {a : List β} {z : β} {n : Nat} (h : HeapOk B a) (hn : a.length = n + 1) : SinkI B ((a.set 0 z).take n) 0 := by
  refine ⟨fun j x y h0 hj hx hy => ?_, fun j x y h0 => absurd h0 (Nat.lt_irrefl _)⟩
  have hjl := (List.getElem?_eq_some_iff.1 hx).1
  rw [List.length_take, List.length_set] at hjl
  rw [List.getElem?_take_of_lt (by omega), List.getElem?_set_ne (by omega)] at hx hy
  exact h j x y h0 hx hy
theorem behead_perm {a : List β} {r z : β} {n : Nat} (hn : a.length = n + 1) (hr : a[0]? = some r) (hz : a[n]? = some z) : (r :: (a.set 0 z).take n).Perm a := by
  match a, hn, hr, hz with
  | b :: l, hn, hr, hz =>
    simp at hr
    subst hr
    have hl : l.length = n := by simpa using hn
    rw [List.set_cons_zero]
    match n, hl, hz with
    | 0, hl, _ =>
      have : l = [] := List.eq_nil_of_length_eq_zero hl
      subst this
      exact List.Perm.refl _
    | m + 1, hl, hz =>
      rw [List.getElem?_cons_succ] at hz
      obtain ⟨hm, rfl⟩ := List.getElem?_eq_some_iff.1 hz
      rw [List.take_succ_cons]
      refine List.Perm.cons _ ?_
      have e : l = l.take m ++ [l[m]] := by
        rw [← List.take_succ_eq_append_getElem hm, List.take_of_length_le (by omega)]
      conv => rhs; rw [e]
      exact (List.perm_append_singleton _ _).symm
/-- the least of k and those below it, as far as looked at (those before b) -/
structure FirstI (B : β → β → Bool) (a : List β) (k b f : Nat) : Prop where
  at_ : (f = k ∧ True) ∨ (0 < f ∧ (f - 1) / 2 = k ∧ f < b)
  lt : ∀ (x y : β), f ≠ k → a[f]? = some x → a[k]? = some y → B x y = true
  min : ∀ (j : Nat) (x y : β), 0 < j → (j - 1) / 2 = k → j < b → a[j]? = some x → a[f]? = some y → B x y = false
theorem FirstI.start {a : List β} (k : Nat) : FirstI B a k (2 * k + 1) k := ⟨.inl ⟨rfl, trivial⟩, fun _ _ h => absurd rfl h, fun j _ _ h0 h1 h2 => by omega⟩
theorem FirstI.take {a : List β} {k b f : Nat} {x y : β} (hB : WeakO B D) (hD : ∀ z ∈ a, D z) (h : FirstI B a k b f) (hb0 : 2 * k + 1 ≤ b) (hb : b ≤ 2 * k + 2) (hx : a[b]? = some x) (hy : a[f]? = some y) (hxy : B x y = true) : FirstI B a k (b + 1) b := by
  have hDx := hD x (List.mem_of_getElem? hx)
  have hDy := hD y (List.mem_of_getElem? hy)
  refine ⟨.inr ⟨by omega, by omega, by omega⟩, fun u v _ hu hv => ?_, fun j u v hj0 hj hjb hu hv => ?_⟩
  · rw [hx] at hu
    injection hu with hu
    subst hu
    by_cases hf : f = k
    · subst hf
      rw [hy] at hv
      injection hv with hv
      subst hv
      exact hxy
    · exact hB.trans _ _ _ hDx hDy (hD v (List.mem_of_getElem? hv)) hxy (h.lt y v hf hy hv)
  · rw [hx] at hv
    injection hv with hv
    subst hv
    by_cases hjx : j = b
    · subst hjx
      rw [hx] at hu
      injection hu with hu
      subst hu
      exact hB.irr _ hDx
    · have h1 := h.min j u y hj0 hj (by omega) hu hy
      have hDu := hD u (List.mem_of_getElem? hu)
      cases hux : B u x with
      | false => rfl
      | true =>
        have := hB.trans _ _ _ hDu hDx hDy hux hxy
        rw [h1] at this
        cases this
theorem FirstI.skip {a : List β} {k b f : Nat} {x y : β} (h : FirstI B a k b f) (hx : a[b]? = some x) (hy : a[f]? = some y) (hxy : B x y = false) : FirstI B a k (b + 1) f := by
  refine ⟨h.at_.imp id fun ⟨h1, h2, h3⟩ => ⟨h1, h2, by omega⟩, h.lt, fun j u v hj0 hj hjb hu hv => ?_⟩
  by_cases hjx : j = b
  · subst hjx
    rw [hx] at hu
    rw [hy] at hv
    injection hu with hu
    injection hv with hv
    subst hu hv
    exact hxy
  · exact h.min j u v hj0 hj (by omega) hu hv
/-- the least one stands at the head -/
theorem HeapOk.head {a : List β} {y : β} (hB : WeakO B D) (hD : ∀ z ∈ a, D z) (h : HeapOk B a) (hy : a[0]? = some y) : ∀ (j : Nat) (x : β), a[j]? = some x → B x y = false := by
  intro j
  induction j using Nat.strongRecOn with
  | ind j ih =>
    intro x hx
    have hDx := hD x (List.mem_of_getElem? hx)
    have hDy := hD y (List.mem_of_getElem? hy)
    rcases Nat.eq_zero_or_pos j with rfl | hj
    · rw [hx] at hy
      injection hy with hy
      subst hy
      exact hB.irr _ hDx
    · have hjl := (List.getElem?_eq_some_iff.1 hx).1
      obtain ⟨z, hz⟩ : ∃ z, a[(j - 1) / 2]? = some z := ⟨_, List.getElem?_eq_getElem (by omega)⟩
      exact hB.neg hDx (hD z (List.mem_of_getElem? hz)) hDy (h j x z hj hx hz) (ih _ (by omega) z hz)
end

section
variable {α : Type}
/-- one that was pushed, and how many were pushed ahead of it -/
abbrev Turn (α : Type) := α × Nat
/-- a is popped before b -/
def turnB (R : α → α → Bool) (a b : Turn α) : Bool := if a.2 < b.2 then !R b.1 a.1 else R a.1 b.1
theorem turnB_iff {R : α → α → Bool} {a b : Turn α} : turnB R a b = true ↔ (a.2 < b.2 ∧ R b.1 a.1 = false) ∨ (¬ a.2 < b.2 ∧ R a.1 b.1 = true) := by
  unfold turnB
  split <;> rename_i h <;> simp [h]
theorem turnB_of {R : α → α → Bool} {D : α → Prop} (h : WeakO R D) {a b : Turn α} (ha : D a.1) (hb : D b.1) (hab : R a.1 b.1 = true) : turnB R a b = true := by
  rw [turnB_iff]
  by_cases hlt : a.2 < b.2
  · exact .inl ⟨hlt, h.asym ha hb hab⟩
  · exact .inr ⟨hlt, hab⟩
theorem turnO {R : α → α → Bool} {D : α → Prop} (h : WeakO R D) : WeakO (turnB R) fun a => D a.1 where
  irr a ha := by simp [turnB, h.irr a.1 ha]
  trans a b c ha hb hc h1 h2 := by
    rw [turnB_iff] at h1 h2
    rcases h1 with ⟨l1, r1⟩ | ⟨l1, r1⟩ <;> rcases h2 with ⟨l2, r2⟩ | ⟨l2, r2⟩
    · rw [turnB_iff]
      exact .inl ⟨by omega, h.neg hc hb ha r2 r1⟩
    · refine turnB_of h ha hc ?_
      rcases h.split b.1 a.1 c.1 hb ha hc r2 with e | e
      · rw [r1] at e; cases e
      · exact e
    · refine turnB_of h ha hc ?_
      rcases h.split a.1 c.1 b.1 ha hc hb r1 with e | e
      · exact e
      · rw [r2] at e; cases e
    · exact turnB_of h ha hc (h.trans _ _ _ ha hb hc r1 r2)
  split a b c ha hb hc h1 := by
    rw [turnB_iff] at h1
    rcases h1 with ⟨l1, r1⟩ | ⟨l1, r1⟩
    · by_cases hab : a.2 < b.2
      · cases hba : R b.1 a.1 with
        | false => exact .inl (turnB_iff.2 (.inl ⟨hab, hba⟩))
        | true =>
          rcases h.split b.1 c.1 a.1 hb hc ha hba with e | e
          · exact .inr (turnB_of h hb hc e)
          · rw [r1] at e; cases e
      · cases hcb : R c.1 b.1 with
        | false => exact .inr (turnB_iff.2 (.inl ⟨by omega, hcb⟩))
        | true =>
          rcases h.split c.1 a.1 b.1 hc ha hb hcb with e | e
          · rw [r1] at e; cases e
          · exact .inl (turnB_of h ha hb e)
    · rcases h.split a.1 b.1 c.1 ha hb hc r1 with e | e
      · exact .inl (turnB_of h ha hb e)
      · exact .inr (turnB_of h hb hc e)

/-- the row a holds l, in the order of the pushes, of which there were p -/
def TurnsOf (l : List α) (p : Nat) (a : List (Turn α)) : Prop := ∃ s : List (Turn α), s.Perm a ∧ s.map Prod.fst = l ∧ s.Pairwise (fun x y => x.2 < y.2) ∧ ∀ y ∈ s, y.2 < p
theorem TurnsOf.nil (p : Nat) : TurnsOf ([] : List α) p [] := ⟨[], List.Perm.nil, rfl, List.Pairwise.nil, fun y hy => by cases hy⟩
theorem TurnsOf.len {l : List α} {p : Nat} {a : List (Turn α)} (h : TurnsOf l p a) : a.length = l.length := by
  obtain ⟨s, h1, rfl, _⟩ := h
  rw [List.length_map, h1.length_eq]
theorem TurnsOf.perm {l : List α} {p : Nat} {a a' : List (Turn α)} (h : TurnsOf l p a) (h' : a'.Perm a) : TurnsOf l p a' := by
  obtain ⟨s, h1, h2, h3⟩ := h
  exact ⟨s, h1.trans h'.symm, h2, h3⟩
theorem TurnsOf.mem {l : List α} {p : Nat} {a : List (Turn α)} (h : TurnsOf l p a) : ∀ z ∈ a, z.1 ∈ l ∧ z.2 < p := fun z hz => by
  obtain ⟨s, h1, rfl, h3, h4⟩ := h
  have := h1.mem_iff.2 hz
  exact ⟨List.mem_map_of_mem this, h4 z this⟩
theorem TurnsOf.push {l : List α} {p : Nat} {a : List (Turn α)} (h : TurnsOf l p a) (x : α) : TurnsOf (l ++ [x]) (p + 1) (a ++ [(x, p)]) := by
  obtain ⟨s, h1, rfl, h3, h4⟩ := h
  refine ⟨s ++ [(x, p)], h1.append_right _, by simp, ?_, fun y hy => ?_⟩
  · rw [List.pairwise_append]
    exact ⟨h3, List.pairwise_singleton _ _, fun y hy z hz => by
      simp at hz
      subst hz
      exact h4 y hy⟩
  · rcases List.mem_append.1 hy with hy | hy
    · have := h4 y hy
      omega
    · simp at hy
      subst hy
      simp
theorem TurnsOf.first {R : α → α → Bool} {D : α → Prop} (hR : WeakO R D) {l : List α} {p : Nat} {a a1 : List (Turn α)} {r : Turn α} (h : TurnsOf l p a) (hD : ∀ y ∈ l, D y) (hr : r ∈ a) (hmin : ∀ z ∈ a, turnB R z r = false) {i : Nat} {x : α} (hF : IsFirst R l i x) (ha : (r :: a1).Perm a) :
    r.1 = x ∧ TurnsOf (l.eraseIdx i) p a1 := by
  obtain ⟨s, h1, rfl, h3, h4⟩ := h
  obtain ⟨k, hk⟩ := List.getElem?_of_mem (h1.mem_iff.2 hr)
  obtain ⟨hkl, hke⟩ := List.getElem?_eq_some_iff.1 hk
  have hDr : D r.1 := hD r.1 (List.mem_map_of_mem (h1.mem_iff.2 hr))
  have hK : IsFirst R (s.map Prod.fst) k r.1 := by
    refine ⟨by rw [List.getElem?_map, hk]; rfl, fun j y hj hlt => ?_, fun j y hj => ?_⟩
    · rw [List.getElem?_map, Option.map_eq_some_iff] at hj
      obtain ⟨z, hz, rfl⟩ := hj
      obtain ⟨hjl, hje⟩ := List.getElem?_eq_some_iff.1 hz
      have h5 := (List.pairwise_iff_getElem.1 h3) j k hjl hkl hlt
      rw [hje, hke] at h5
      have h6 := hmin z (h1.mem_iff.1 (List.mem_of_getElem? hz))
      unfold turnB at h6
      rw [if_pos h5] at h6
      simpa using h6
    · rw [List.getElem?_map, Option.map_eq_some_iff] at hj
      obtain ⟨z, hz, rfl⟩ := hj
      have h6 := hmin z (h1.mem_iff.1 (List.mem_of_getElem? hz))
      have hDz : D z.1 := hD z.1 (List.mem_map_of_mem (List.mem_of_getElem? hz))
      unfold turnB at h6
      split at h6
      · exact hR.asym hDr hDz (by simpa using h6)
      · exact h6
  obtain ⟨rfl, rfl⟩ := hK.one hF
  refine ⟨rfl, s.eraseIdx k, ?_, ?_, List.Pairwise.sublist (List.eraseIdx_sublist s k) h3, fun y hy => h4 y ((List.eraseIdx_sublist s k).subset hy)⟩
  · have h7 : (r :: s.eraseIdx k).Perm s := by
      rw [List.eraseIdx_eq_take_drop_succ]
      refine List.perm_middle.symm.trans ?_
      rw [← hke, List.getElem_cons_drop, List.take_append_drop]
    exact (h7.trans (h1.trans ha.symm)).cons_inv
  · rw [List.eraseIdx_eq_take_drop_succ, List.eraseIdx_eq_take_drop_succ, List.map_append, List.map_take, List.map_drop]
end
end Go.Proofs.Ytpanpebllapbcaa

namespace Go.Proofs.Ytpanpebllapbcaa
open Go.RowKit

/-- the cells of what was pushed: its own, and its turn -/
def tuC {α : Type} (C : α → List Value) (z : Turn α) : List Value := C z.1 ++ [.int .u64 (z.2 : Int)]
/-- in the world w the heap in block g has these cells, and this row -/
structure HpM {α : Type} (tH tI : TypeId) (k : Nat) (C : α → List Value) (w : World) (F : Nat → Prop) (g : Nat) (fv : Value) (p : Nat) (a : List (Turn α)) (v : Value) : Prop where
  lt : ∀ q, F q → q < w.heap.size
  Fg : F g
  blk : Blk w g tH #[fv, v, .int .u64 (p : Int)]
  own : OwnL k w 0 tI v (a.map (tuC C))
  Fv : ∀ q, v.ownBlock = some q → F q ∧ q ≠ g
section
variable {α : Type} {tH tI : TypeId} {k : Nat} {C : α → List Value} {w w' : World} {F F' : Nat → Prop} {g p : Nat} {fv v v' : Value} {a a' : List (Turn α)}
theorem HpM.keep (h : HpM tH tI k C w F g fv p a v) (ha : Apt (fun q => ¬ F q) w w') : HpM tH tI k C w' F g fv p a v :=
  ⟨fun q hq => Nat.lt_of_lt_of_le (h.lt q hq) ha.size, h.Fg, (ha.block g h.blk.lt fun hn => hn h.Fg).trans h.blk, h.own.apt ha fun q hq hn => hn (h.Fv q hq).1, h.Fv⟩
theorem HpM.later (h : HpM tH tI k C w F g fv p a v) (hb : Below w.heap.size w w') : HpM tH tI k C w' F g fv p a v := h.keep (Apt.of_below hb)
theorem HpM.drew (h : HpM tH tI k C w F g fv p a v) : HpM tH tI k C w.drew F g fv p a v := h.later (Below.refl _ _).drew
/-- its row turns -/
theorem HpM.row (h : HpM tH tI k C w F g fv p a v) {q : Nat} (hv : v.ownBlock = some q) (hg : w.grownBy w' (some q)) (ho : OwnL k w' 0 tI v (a'.map (tuC C))) : HpM tH tI k C w' F g fv p a' v :=
  ⟨fun z hz => Nat.lt_of_lt_of_le (h.lt z hz) hg.size, h.Fg, h.blk.grown hg (fun e => (h.Fv q hv).2 (by injection e with e; exact e.symm)), ho, h.Fv⟩
theorem HpM.form (h : HpM tH tI k C w F g fv p a v) : (v = .slice none 0 0 ∧ a = []) ∨ ∃ q c, v = .slice (some ⟨q, 0, none⟩) a.length c ∧ a.length ≤ c ∧ c ≤ 9223372036854775807 ∧ (F q ∧ q ≠ g) ∧ q < w.heap.size ∧ ∀ j, w.frozen? ⟨q, j, none⟩ = false := by
  rcases h.own.at_ with ⟨h1, h2⟩ | ⟨q, c, h1, h2, h3, h4, h5, h6⟩
  · exact .inl ⟨h1, by simpa using h2⟩
  · rw [List.length_map] at h1 h2
    exact .inr ⟨q, c, h1, h2, h3, h.Fv q (by rw [h1]; rfl), h5, h6⟩
/-- the cells of one -/
theorem HpM.cell (h : HpM tH tI k C w F g fv p a v) (hk : 0 < k) {q n c : Nat} (hv : v = .slice (some ⟨q, 0, none⟩) n c) {i : Nat} {z : Turn α} (hi : a[i]? = some z) : ∀ j u, (tuC C z)[j]? = some u → w.cell? ⟨q, i * k + j, none⟩ = some u := fun j u hu => by
  have hl := h.own.lv
  rw [hv] at hl
  obtain ⟨g', o, hA, _, hc⟩ := hl.cells hk (i := i) (x := tuC C z) (by rw [List.getElem?_map, hi]; rfl)
  injection hA with hA
  injection hA with e1 e2
  subst e1 e2
  have := hc j u hu
  rwa [Nat.zero_add] at this
theorem HpM.fz (h : HpM tH tI k C w F g fv p a v) {q n c : Nat} (hv : v = .slice (some ⟨q, 0, none⟩) n c) (j : Nat) : w.frozen? ⟨q, j, none⟩ = false := by
  rcases h.own.at_ with ⟨h1, _⟩ | ⟨q', c', h1, _, _, _, _, h6⟩
  · rw [hv] at h1
    cases h1
  · rw [hv] at h1
    injection h1 with h1
    injection h1 with h1
    injection h1 with h1
    subst h1
    exact h6 j
end

theorem OwnL.fz {k : Nat} {w : World} {base : Nat} {e : TypeId} {v : Value} {xs : List (List Value)} (h : OwnL k w base e v xs) {q n c : Nat} (hv : v = .slice (some ⟨q, 0, none⟩) n c) (j : Nat) : w.frozen? ⟨q, j, none⟩ = false := by
  rcases h.at_ with ⟨h1, _⟩ | ⟨q', c', h1, _, _, _, _, h6⟩
  · rw [hv] at h1
    cases h1
  · rw [hv] at h1
    injection h1 with h1
    injection h1 with h1
    injection h1 with h1
    subst h1
    exact h6 j
section
variable {w : World} {base g n c : Nat} {e : TypeId} {xs : List (List Value)}
/-- an element of two cells is stored -/
theorem OwnL.all2 (h : OwnL 2 w base e (.slice (some ⟨g, 0, none⟩) n c) xs) {i : Nat} (hi : i < xs.length) (u0 u1 : Value) :
    OwnL 2 ((w.setCell ⟨g, i * 2, none⟩ u0).setCell ⟨g, i * 2 + 1, none⟩ u1) base e (.slice (some ⟨g, 0, none⟩) n c) (xs.set i [u0, u1]) ∧ w.grownBy ((w.setCell ⟨g, i * 2, none⟩ u0).setCell ⟨g, i * 2 + 1, none⟩ u1) (some g) := by
  have hx : xs[i]? = some xs[i] := List.getElem?_eq_getElem hi
  have hk := h.2 xs[i] (List.getElem_mem hi)
  generalize xs[i] = x at *
  obtain ⟨a0, a1, rfl⟩ : ∃ a0 a1, x = [a0, a1] := by
    match x, hk with
    | [a0, a1], _ => exact ⟨a0, a1, rfl⟩
  obtain ⟨h1, g1⟩ := h.put_ hx (show 0 < 2 by omega) u0
  obtain ⟨h2, g2⟩ := h1.put_ (i := i) (x := [u0, a1]) (by simp [hi]) (show 1 < 2 by omega) u1
  rw [List.set_set] at h2
  exact ⟨h2, grown_trans g1 g2⟩
/-- an element of three cells is stored -/
theorem OwnL.all3 (h : OwnL 3 w base e (.slice (some ⟨g, 0, none⟩) n c) xs) {i : Nat} (hi : i < xs.length) (u0 u1 u2 : Value) :
    OwnL 3 (((w.setCell ⟨g, i * 3, none⟩ u0).setCell ⟨g, i * 3 + 1, none⟩ u1).setCell ⟨g, i * 3 + 2, none⟩ u2) base e (.slice (some ⟨g, 0, none⟩) n c) (xs.set i [u0, u1, u2]) ∧ w.grownBy (((w.setCell ⟨g, i * 3, none⟩ u0).setCell ⟨g, i * 3 + 1, none⟩ u1).setCell ⟨g, i * 3 + 2, none⟩ u2) (some g) := by
  have hx : xs[i]? = some xs[i] := List.getElem?_eq_getElem hi
  have hk := h.2 xs[i] (List.getElem_mem hi)
  generalize xs[i] = x at *
  obtain ⟨a0, a1, a2, rfl⟩ : ∃ a0 a1 a2, x = [a0, a1, a2] := by
    match x, hk with
    | [a0, a1, a2], _ => exact ⟨a0, a1, a2, rfl⟩
  obtain ⟨h1, g1⟩ := h.put_ hx (show 0 < 3 by omega) u0
  obtain ⟨h2, g2⟩ := h1.put_ (i := i) (x := [u0, a1, a2]) (by simp [hi]) (show 1 < 3 by omega) u1
  obtain ⟨h3, g3⟩ := h2.put_ (i := i) (x := [u0, u1, a2]) (by simp [hi]) (show 2 < 3 by omega) u2
  rw [List.set_set, List.set_set] at h3
  exact ⟨h3, grown_trans (grown_trans g1 g2) g3⟩
end

/-- s[:m] of a row of the call's own -/
theorem OwnL.upto {k : Nat} {w : World} {base n c : Nat} {e : TypeId} {A : Option Addr} {xs : List (List Value)} (h : OwnL k w base e (.slice A n c) xs) (m : Nat) (hm : m ≤ xs.length) : OwnL k w base e (.slice A m c) (xs.take m) := by
  have hlen : (xs.take m).length = m := by rw [List.length_take]; omega
  have hk' : ∀ x ∈ xs.take m, x.length = k := fun x hx => h.2 x (List.mem_of_mem_take hx)
  have hfl := flat_length hk'
  rw [hlen] at hfl
  obtain ⟨h1, hk⟩ := h
  refine ⟨⟨by rw [hlen]; exact hfl, ?_⟩, hk'⟩
  rw [hlen]
  rcases h1.2 with ⟨e0, hl⟩ | ⟨g, cap, cur, e0, hb, hg, hnc, hcm, hsz, htk⟩
  · injection e0 with e1 e2 e3
    subst e1 e3
    have : m = 0 := by omega
    subst this
    exact .inl ⟨rfl, rfl⟩
  · injection e0 with e1 e2 e3
    subst e1 e3
    refine .inr ⟨g, _, cur, rfl, hb, hg, by omega, hcm, hsz, ?_⟩
    have hxs : xs.flatten = (xs.take m).flatten ++ (xs.drop m).flatten := by rw [← List.flatten_append, List.take_append_drop]
    have h5 : cur.toList.take (m * k) = (cur.toList.take (xs.length * k)).take (m * k) := by rw [List.take_take, Nat.min_eq_left (Nat.mul_le_mul_right _ hm)]
    rw [h5, htk, hxs, List.take_append_of_le_length (by omega), List.take_of_length_le (by omega)]

/-- a block that is new turns -/
theorem Apt.grown_new {F : Nat → Prop} {w w1 w2 : World} {z : Nat} (ha : Apt F w w1) (hg : w1.grownBy w2 (some z)) (hz : w.heap.size ≤ z) : Apt F w w2 :=
  ⟨hg.os.trans ha.os, hg.tape.trans ha.tape, hg.output.trans ha.output, Nat.le_trans ha.size hg.size, fun g hg' hn => (hg.block g (Nat.lt_of_lt_of_le hg' ha.size) (fun e => by injection e with e; omega)).trans (ha.block g hg' hn)⟩
/-- s[m:] -/
theorem run_slice_end {P : Program} {t e : TypeId} {k bytes : Nat} (HT : ElemT P t e k bytes) (he : P.elem t = e) (q n c m : Nat) (hm : m < n) (hc : n ≤ c) (u : World) : (Instr.slice t (.slice (some ⟨q, 0, none⟩) n c) (some (.int .i64 (m : Int))) none none).run P u = .ok (.slice (some ⟨q, m * k, none⟩) (n - m) (c - m)) u := by
  rw [run_slice_from HT he m (by omega) hc]
  simp [show ¬ c = m by omega, Addr.add_lit]
/-- clear(s[m:]): the first m stay -/
theorem run_clear_own {P : Program} {t e : TypeId} {k bytes : Nat} (HT : ElemT P t e k bytes) {z : Value} (hzero : (P.info? e).bind (·.zero) = some z) (hone : ∀ u ∈ z.cells.toList, u.oneCell' = true) {w : World} {base g n c : Nat} {xs : List (List Value)} (h : OwnL k w base e (.slice (some ⟨g, 0, none⟩) n c) xs) (m : Nat) (hm : m < n) :
    ∃ w', (∀ ty, (Builtin.clear_ #[t] ty #[.slice (some ⟨g, m * k, none⟩) (n - m) (c - m)]).run P w = .ok (.tuple #[]) w') ∧ OwnL k w' base e (.slice (some ⟨g, 0, none⟩) m c) (xs.take m) ∧ w.grownBy w' (some g) := by
  obtain ⟨h1, hk⟩ := h
  rcases h1.2 with ⟨hv, _⟩ | ⟨g', cap, cur, hv, hb, hg, hn, hcm, hcs, htk⟩
  · cases hv
  injection hv with e1 e2 e3
  injection e1 with e1
  injection e1 with e1
  subst e1 e3
  rw [← e2] at hn htk h1
  obtain ⟨i, z', hi, hz, hs, hby, hzs⟩ := HT.info
  have hpos := HT.pos
  rw [hi] at hzero
  simp only [Option.bind_some, hz, Option.some.injEq] at hzero
  subst hzero
  have hone : ∀ v ∈ (Builtin.zeroCells z'.cells (n - m)).toList, v.oneCell' = true := by
    intro v hv
    simp only [Builtin.zeroCells, Array.toList_map, List.mem_map] at hv
    obtain ⟨j, _, rfl⟩ := hv
    have hj : j % z'.cells.size < z'.cells.size := Nat.mod_lt _ (by omega)
    have hmem : z'.cells[j % z'.cells.size] ∈ z'.cells.toList := by simp
    first | exact hone _ hmem | (simp only [Array.getD_eq_getD_getElem?]; rw [Array.getElem?_eq_getElem hj]; exact hone _ hmem) | (rw [getElem!_pos z'.cells _ hj]; exact hone _ hmem)
  have hzl : (Builtin.zeroCells z'.cells (n - m)).toList.length = (n - m) * k := by simp [Builtin.zeroCells, hzs]
  have hle : m * k + (n - m) * k = n * k := by rw [← Nat.add_mul]; congr 1; omega
  have hnc : n * k ≤ c * k := Nat.mul_le_mul_right _ hn
  have hst := run_storeCells_at P g (m * k) e (Builtin.zeroCells z'.cells (n - m)).toList 0 cur w hg (by rw [hzl, hcs]; omega) hone
  have hzv : (zeroValue e).run P w = .ok z' w := by simp [zeroValue, typeInfo, hi, hz]
  have hrun : ∀ ty, (Builtin.clear_ #[t] ty #[.slice (some ⟨g, m * k, none⟩) (n - m) (c - m)]).run P w = .ok (.tuple #[]) (w.setRow g (cur.toList.take (m * k + 0) ++ (Builtin.zeroCells z'.cells (n - m)).toList ++ cur.toList.drop (m * k + 0 + (Builtin.zeroCells z'.cells (n - m)).toList.length)).toArray) := by
    intro ty
    obtain ⟨q, hq⟩ : ∃ q, n - m = q + 1 := ⟨n - m - 1, by omega⟩
    rw [hq] at hst ⊢
    simp only [Builtin.clear_, List.getElem?_toArray, List.getElem?_cons_zero, Sem.run_bind, run_underlying HT.under, Result.andThen_ok, hzv, hst, Sem.run_pure]
  have hgr : w.grownBy (w.setRow g (cur.toList.take (m * k + 0) ++ (Builtin.zeroCells z'.cells (n - m)).toList ++ cur.toList.drop (m * k + 0 + (Builtin.zeroCells z'.cells (n - m)).toList.length)).toArray) (some g) :=
    ⟨rfl, rfl, rfl, by simp [World.setRow], fun k' _ hk' => setRow_other w g k' _ (fun e => hk' (by simp [e]))⟩
  refine ⟨_, hrun, ⟨?_, fun x hx => hk x (List.mem_of_mem_take hx)⟩, hgr⟩
  have hlm : (xs.take m).length = m := by rw [List.length_take]; omega
  have hfl := flat_length (xs := xs.take m) (k := k) fun x hx => hk x (List.mem_of_mem_take hx)
  rw [hlm] at hfl ⊢
  refine ⟨hfl, .inr ⟨g, c, _, rfl, hb, setRow_heap w g cur _ _ _ hg, by omega, hcm, ?_, ?_⟩⟩
  · simp only [List.size_toArray, List.length_append, hzl, List.length_take, List.length_drop, Array.length_toList]
    omega
  · simp only [Nat.add_zero]
    rw [List.append_assoc, List.take_append_of_le_length (by rw [List.length_take, Array.length_toList]; omega), List.take_take, Nat.min_self]
    have hxs : xs.flatten = (xs.take m).flatten ++ (xs.drop m).flatten := by rw [← List.flatten_append, List.take_append_drop]
    have h5 : cur.toList.take (m * k) = (cur.toList.take (n * k)).take (m * k) := by rw [List.take_take, Nat.min_eq_left (by omega)]
    rw [h5, htk, hxs, List.take_append_of_le_length (by omega), List.take_of_length_le (by omega)]
end Go.Proofs.Ytpanpebllapbcaa
