/-
  SLICES OF STRUCTS, over any program: 'Lv': a slice whose elements have these cells; 'OwnL': one of the call's own; 'Two': two lists, element by element. No condition but what each theorem says.
-/
import Derived.Test.YtohcbgchloncmaaMem
namespace Go.Proofs.Ytohcbgchloncmaa
open Go.RowKit

/-- two lists that go together, element by element -/
structure Two {α β : Type} (R : α → β → Prop) (l : List α) (m : List β) : Prop where
  len : l.length = m.length
  at_ : ∀ (i : Nat) (a : α) (b : β), l[i]? = some a → m[i]? = some b → R a b

section
variable {α β : Type} {R S : α → β → Prop} {l : List α} {m : List β}
theorem Two.nil : Two R ([] : List α) ([] : List β) := ⟨rfl, fun i a b h => by simp at h⟩

theorem Two.mono (h : Two R l m) (hR : ∀ a b, R a b → S a b) : Two S l m := ⟨h.len, fun i a b h1 h2 => hR _ _ (h.at_ i a b h1 h2)⟩

theorem Two.snoc (h : Two R l m) {a : α} {b : β} (hab : R a b) : Two R (l ++ [a]) (m ++ [b]) := by
  refine ⟨by simp [h.len], fun i x y h1 h2 => ?_⟩
  rcases Nat.lt_trichotomy i l.length with hi | hi | hi
  · rw [List.getElem?_append_left hi] at h1
    rw [List.getElem?_append_left (by have := h.len; omega)] at h2
    exact h.at_ i x y h1 h2
  · subst hi
    rw [List.getElem?_append_right (Nat.le_refl _)] at h1
    rw [List.getElem?_append_right (by have := h.len; omega)] at h2
    simp [h.len] at h1 h2
    subst h1
    subst h2
    exact hab
  · rw [List.getElem?_eq_none (by simp; omega)] at h1
    cases h1

theorem Two.right (h : Two R l m) {i : Nat} {a : α} (hi : l[i]? = some a) : ∃ b, m[i]? = some b ∧ R a b := by
  have hl := (List.getElem?_eq_some_iff.1 hi).1
  have hm : i < m.length := by have := h.len; omega
  exact ⟨m[i], List.getElem?_eq_getElem hm, h.at_ i a _ hi (List.getElem?_eq_getElem hm)⟩

theorem Two.append {l' : List α} {m' : List β} (h : Two R l m) (h' : Two R l' m') : Two R (l ++ l') (m ++ m') := by
  refine ⟨by simp [h.len, h'.len], fun i x y h1 h2 => ?_⟩
  rcases Nat.lt_or_ge i l.length with hi | hi
  · rw [List.getElem?_append_left hi] at h1
    rw [List.getElem?_append_left (by have := h.len; omega)] at h2
    exact h.at_ i x y h1 h2
  · rw [List.getElem?_append_right hi] at h1
    rw [List.getElem?_append_right (by have := h.len; omega), ← h.len] at h2
    exact h'.at_ _ x y h1 h2

theorem Two.take (h : Two R l m) (k : Nat) : Two R (l.take k) (m.take k) := by
  refine ⟨by simp [h.len], fun i x y h1 h2 => ?_⟩
  rw [List.getElem?_take] at h1 h2
  split at h1
  · rename_i hk
    simp only [hk, if_true] at h2
    exact h.at_ i x y h1 h2
  · cases h1

theorem Two.drop (h : Two R l m) (k : Nat) : Two R (l.drop k) (m.drop k) := by
  refine ⟨by simp [h.len], fun i x y h1 h2 => ?_⟩
  rw [List.getElem?_drop] at h1 h2
  exact h.at_ _ x y h1 h2

end

theorem flat_at {k : Nat} : ∀ {xs : List (List Value)}, (∀ x ∈ xs, x.length = k) → ∀ {i j : Nat} {x : List Value}, xs[i]? = some x → j < k → xs.flatten[i * k + j]? = x[j]?
  | [], _, i, j, x, h, _ => by simp at h
  | y :: ys, hk, 0, j, x, h, hj => by
    simp at h
    subst h
    have hy := hk y (List.mem_cons_self ..)
    rw [List.flatten_cons, List.getElem?_append_left (by omega)]
    simp
  | y :: ys, hk, i + 1, j, x, h, hj => by
    have hy := hk y (List.mem_cons_self ..)
    rw [List.flatten_cons, List.getElem?_append_right (by rw [hy, Nat.succ_mul]; omega)]
    have := flat_at (fun x hx => hk x (List.mem_cons_of_mem _ hx)) (xs := ys) (i := i) (j := j) (x := x) (by simpa using h) hj
    rw [← this]
    congr 1
    rw [hy, Nat.succ_mul]
    omega

theorem flat_length {k : Nat} : ∀ {xs : List (List Value)}, (∀ x ∈ xs, x.length = k) → xs.flatten.length = xs.length * k
  | [], _ => by simp
  | y :: ys, hk => by
    rw [List.flatten_cons, List.length_append, hk y (List.mem_cons_self ..), flat_length fun x hx => hk x (List.mem_cons_of_mem _ hx), List.length_cons, Nat.succ_mul]
    omega

theorem flat_one {k : Nat} (x : List Value) (hx : x.length = k) : ∀ y ∈ [x], y.length = k := by
  intro y hy
  simp at hy
  subst hy
  exact hx

/-- v is a slice whose elements have these cells, each of them k -/
def Lv (k : Nat) (w : World) (v : Value) (xs : List (List Value)) : Prop :=
  ∃ A c, v = .slice A xs.length c ∧ xs.length ≤ c ∧ c ≤ 9223372036854775807 ∧ (∀ x ∈ xs, x.length = k) ∧ Rd w A xs.flatten

section
variable {k : Nat} {w w' : World} {v : Value} {xs : List (List Value)}
theorem Lv.nil (k : Nat) (w : World) : Lv k w (.slice none 0 0) [] := ⟨none, 0, rfl, Nat.le_refl _, by omega, (fun x hx => by cases hx), Rd.zero _ _⟩

theorem Lv.below (h : Lv k w v xs) (hb : Below w.heap.size w w') : Lv k w' v xs := by
  obtain ⟨A, c, hv, h1, h2, h3, hr⟩ := h
  exact ⟨A, c, hv, h1, h2, h3, hr.below hb⟩

theorem Lv.alloc (h : Lv k w v xs) (o : Obj) : Lv k (w.alloc o) v xs := by
  obtain ⟨A, c, hv, h1, h2, h3, hr⟩ := h
  exact ⟨A, c, hv, h1, h2, h3, hr.alloc o⟩

theorem Lv.drew (h : Lv k w v xs) : Lv k w.drew v xs := h

theorem Lv.drewN (h : Lv k w v xs) (n : Nat) : Lv k (w.drewN n) v xs := h

theorem Lv.form (h : Lv k w v xs) : ∃ A c, v = .slice A xs.length c ∧ xs.length ≤ c ∧ c ≤ 9223372036854775807 := by
  obtain ⟨A, c, hv, h1, h2, _⟩ := h
  exact ⟨A, c, hv, h1, h2⟩

theorem Lv.grown {row : Option Nat} (h : Lv k w v xs) (hg : w.grownBy w' row) (hr : xs ≠ [] → v.ownBlock ≠ row) : Lv k w' v xs := by
  obtain ⟨A, c, rfl, h1, h2, h3, hd⟩ := h
  by_cases hx : xs = []
  · subst hx
    exact ⟨A, c, rfl, h1, h2, h3, Rd.zero _ _⟩
  · refine ⟨A, c, rfl, h1, h2, h3, hd.grown hg fun a ha => ?_⟩
    subst ha
    exact hr hx

/-- the cells of one element -/
theorem Lv.cells {A : Option Addr} {n c : Nat} (h : Lv k w (.slice A n c) xs) (hk : 0 < k) {i : Nat} {x : List Value} (hi : xs[i]? = some x) :
    ∃ g o, A = some ⟨g, o, none⟩ ∧ g < w.heap.size ∧ ∀ j u, x[j]? = some u → w.cell? ⟨g, o + i * k + j, none⟩ = some u := by
  obtain ⟨A', c', hv, h1, h2, h3, hr⟩ := h
  injection hv with e1 e2 e3
  subst e1
  have hx : x.length = k := h3 x (List.mem_of_getElem? hi)
  have hat : ∀ j u, x[j]? = some u → ∃ ad, A = some ad ∧ w.cell? (ad.add (i * k + j)) = some u := fun j u hu => by
    have hj : j < k := by have := (List.getElem?_eq_some_iff.1 hu).1; omega
    exact hr (i * k + j) u (by rw [flat_at h3 hi hj]; exact hu)
  have h0 : 0 < x.length := by omega
  obtain ⟨ad, hA, hc⟩ := hat 0 x[0] (List.getElem?_eq_getElem h0)
  have hz : ad.spot = none := by
    have hil := (List.getElem?_eq_some_iff.1 hi).1
    have hxl : 0 < xs.flatten.length := by rw [flat_length h3]; exact Nat.mul_pos (by omega) hk
    obtain ⟨ad0, hA0, hc0⟩ := hr 0 _ (List.getElem?_eq_getElem hxl)
    rw [hA] at hA0
    injection hA0 with hA0
    subst hA0
    have := World.cell?_spot hc0
    simpa [Addr.add] using this
  obtain ⟨g, o, sp⟩ := ad
  have hsp : sp = none := hz
  subst hsp
  refine ⟨g, o, hA, by have := World.block_lt_of_cell? w _ hc; rw [add_block] at this; exact this, fun j u hu => ?_⟩
  obtain ⟨ad, hA', hc'⟩ := hat j u hu
  rw [hA] at hA'
  injection hA' with hA'
  subst hA'
  rw [← hc', Addr.add_lit, Nat.add_assoc]

end

/-- v is a slice of the call's own, its elements having these cells -/
def OwnL (k : Nat) (w : World) (base : Nat) (e : TypeId) (v : Value) (xs : List (List Value)) : Prop := w.ownsRow base e k v xs.length xs.flatten ∧ ∀ x ∈ xs, x.length = k

section
variable {k : Nat} {w w' : World} {base : Nat} {e : TypeId} {v : Value} {xs : List (List Value)}
theorem OwnL.nil (k : Nat) (w : World) (base : Nat) (e : TypeId) : OwnL k w base e (.slice none 0 0) [] := ⟨World.ownsRow_nil w base e k, fun x hx => by cases hx⟩

theorem OwnL.lv (h : OwnL k w base e v xs) : Lv k w v xs := by
  obtain ⟨ho, hk⟩ := h
  rcases ho.2 with ⟨rfl, h0⟩ | ⟨g, cap, cur, rfl, hb, hg, hn, hm, _⟩
  · have hl : xs = [] := List.eq_nil_of_length_eq_zero h0
    subst hl
    exact Lv.nil k w
  · exact ⟨_, _, rfl, hn, by simp only [maxLen] at hm; omega, hk, Rd.of_own ho⟩

theorem OwnL.kept {row : Option Nat} (h : OwnL k w base e v xs) (hg : w.grownBy w' row) (hne : v.ownBlock = none ∨ v.ownBlock ≠ row) : OwnL k w' base e v xs := ⟨World.ownsRow.kept h.1 hg hne, h.2⟩

theorem OwnL.alloc (h : OwnL k w base e v xs) (o : Obj) : OwnL k (w.alloc o) base e v xs := ⟨World.ownsRow.alloc h.1 o, h.2⟩

theorem OwnL.below (h : OwnL k w base e v xs) (hb : Below w.heap.size w w') : OwnL k w' base e v xs :=
  h.kept (row := none) ⟨hb.os, hb.tape, hb.output, hb.size, fun k hk _ => hb.block k hk⟩ (by cases v.ownBlock <;> simp)

theorem OwnL.ge (h : OwnL k w base e v xs) : ∀ g, v.ownBlock = some g → base ≤ g := fun g hg => (World.ownsRow.lt h.1 g hg).1

theorem OwnL.lt (h : OwnL k w base e v xs) : ∀ g, v.ownBlock = some g → g < w.heap.size := fun g hg => (World.ownsRow.lt h.1 g hg).2

theorem OwnL.ne_ (h : OwnL k w base e v xs) {g : Nat} (hg : g < base) : v.ownBlock ≠ some g := fun e => by have := h.ge g e; omega

end

/-- t is a slice's type, e its element's, which has k cells and so many bytes -/
structure ElemT (P : Program) (t e : TypeId) (k bytes : Nat) : Prop where
  under : P.underlying t = some (.slice e)
  pos : 0 < k
  info : ∃ i z, P.info? e = some i ∧ i.zero = some z ∧ i.size = k ∧ i.bytes = bytes ∧ z.cells.size = k

section
variable {P : Program} (w : World)
theorem run_append_elems {t e : TypeId} {k bytes : Nat} (HT : ElemT P t e k bytes) (ty : TypeId) (base : Nat) (v : Value) (xs : List (List Value)) (hown : OwnL k w base e v xs) (V : Value) (ys : List (List Value)) (hr : Lv k w V ys) (h1 : ∀ y ∈ ys, ∀ u ∈ y, u.oneCell' = true)
    (hsum : xs.length + ys.length ≤ maxLen) (hby : (xs.length + ys.length) * bytes ≤ 140737488355328) (hbase : base ≤ w.heap.size) :
    ∃ v' w', (Builtin.append_ #[t, t] ty #[v, V]).run P w = .ok v' w' ∧ OwnL k w' base e v' (xs ++ ys) ∧ w.grownBy w' v.ownBlock ∧ (v'.ownBlock = v.ownBlock ∨ v'.ownBlock = some w.heap.size) := by
  obtain ⟨i, z, hi, hz, hs, hb, hzs⟩ := HT.info
  obtain ⟨A, c, rfl, hc1, hc2, hk, hd⟩ := hr
  have hone : ∀ u ∈ ys.flatten, u.oneCell' = true := by
    intro u hu
    obtain ⟨y, hy, hu⟩ := List.mem_flatten.1 hu
    exact h1 y hy u hu
  have hkk : ∀ x ∈ xs ++ ys, x.length = k := by
    intro x hx
    rcases List.mem_append.1 hx with h | h
    · exact hown.2 x h
    · exact hk x h
  cases A with
  | none =>
    have hy : ys = [] := by
      have := hd.noneEq
      rcases ys with _ | ⟨y, ys⟩
      · rfl
      · have hy := hk y (List.mem_cons_self ..)
        have hp := HT.pos
        have h0 := congrArg List.length this
        rw [List.flatten_cons, List.length_append] at h0
        simp only [List.length_nil] at h0
        omega
    subst hy
    refine ⟨v, w, ?_, by simpa using hown, World.grownBy.refl w _, .inl rfl⟩
    rcases hown.1.2 with ⟨rfl, _⟩ | ⟨g, cap, cur, rfl, _, _, hnc, _⟩
    · simp [Builtin.append_, run_underlying HT.under, sizeOf, typeInfo, hi, Builtin.lenOf, Builtin.firstCells]
    · simp [Builtin.append_, run_underlying HT.under, sizeOf, typeInfo, hi, Builtin.lenOf, Builtin.firstCells, hnc, storeCells]
  | some ad =>
    obtain ⟨v', w', hrun, h3, h4, _, h5⟩ := run_append_own_at (P := P) w base t ty e i z k bytes HT.under hi hz hs hb hzs HT.pos v xs.length xs.flatten hown.1 ad ys.length c ys.flatten (flat_length hk) hd.cells hone hsum hby hbase
    refine ⟨v', w', hrun, ⟨?_, hkk⟩, h4, h5⟩
    rw [List.length_append, List.flatten_append]
    exact h3

theorem wpList_append_elems {t e : TypeId} {k bytes : Nat} (HT : ElemT P t e k bytes) {ops : Array Oper} {rest : List Oper} {o : Oper} {a : Act} {Q : Exit → Act → World → Prop} (hgd : o.guard = none) (s x : Operand)
    (ho : o.op = .call { callee := .builtin .append, args := #[s, x], argTypes := #[t, t] })
    (base : Nat) (v : Value) (xs : List (List Value)) (hs : a.eval s = v) (hown : OwnL k w base e v xs) (V : Value) (ys : List (List Value)) (hx : a.eval x = V) (hr : Lv k w V ys) (h1 : ∀ y ∈ ys, ∀ u ∈ y, u.oneCell' = true)
    (hsum : xs.length + ys.length ≤ maxLen) (hby : (xs.length + ys.length) * bytes ≤ 140737488355328) (hbase : base ≤ w.heap.size)
    (h : ∀ v' w', OwnL k w' base e v' (xs ++ ys) → w.grownBy w' v.ownBlock → (v'.ownBlock = v.ownBlock ∨ v'.ownBlock = some w.heap.size) → wpList P ops Q rest (a.put o.dst v') w') : wpList P ops Q (o :: rest) a w := by
  refine wpList_plain hgd fun K hK => ?_
  obtain ⟨v', w', hrun, h2, h3, h4⟩ := run_append_elems w HT o.type base v xs hown V ys hr h1 hsum hby hbase
  unfold Oper.wp execOp
  simp only [ho, resolve, invoke, builtin, Sem.run_bind, Sem.run_pure, Result.andThen_ok, List.map_toArray, List.map_cons, List.map_nil, hs, hx, hrun]
  exact hK _ _ (h v' w' h2 h3 h4)

/-- a literal of one element -/
theorem Lv.lit1 (x : List Value) (e : TypeId) : Lv x.length (w.alloc (.cells x.toArray e)) (.slice (some ⟨w.heap.size, 0, none⟩) 1 1) [x] :=
  ⟨_, 1, rfl, Nat.le_refl _, by omega, flat_one x rfl, by simpa using Rd.lit w x.toArray e⟩

end

end Go.Proofs.Ytohcbgchloncmaa
