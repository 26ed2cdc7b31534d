/-
  WHAT IS LEFT OF A ROW, and which row it is ('Kr'); rows merged by what is left of each, as plain lists ('Merged.pop', 'KInv'). No condition but what each theorem says.
  ROWS MERGED by what is left of each: what holds as the rows are pushed ('KBeg') and as they are told ('KInv'), as plain lists. No condition but what each theorem says.
-/
import Derived.Test.YtpanpebllapbcaaKwB
namespace Go.Proofs.Ytpanpebllapbcaa

/-- what is left of a row, and which row it is -/
structure Kr (β : Type) where
  A : Option Addr
  n : Nat
  c : Nat
  pl : Nat
  left : List β
def krV {β : Type} (o : Kr β) : Value := .agg #[.slice o.A o.n o.c, .int .i64 (o.pl : Int)]
/-- the order of what is left: by the first ones, and then by the rows -/
def krR {β : Type} (R : β → β → Bool) (a b : Kr β) : Bool := match a.left, b.left with
  | x :: _, y :: _ => if a.pl < b.pl then !R y x else R x y
  | _, _ => false
/-- what the heap is to hold: no row is nothing -/
def krD {β : Type} (k : Nat) (C : β → List Value) (w : World) (o : Kr β) : Prop := o.left ≠ [] ∧ o.n = o.left.length ∧ Lv k w (.slice o.A o.n o.c) (o.left.map C)
theorem krO {β : Type} {R : β → β → Bool} (hR : WeakO R fun _ => True) {D : Kr β → Prop} (hD : ∀ a, D a → a.left ≠ []) : WeakO (krR R) D where
  irr a ha := by
    obtain ⟨x, t, e⟩ := List.exists_cons_of_ne_nil (hD a ha)
    simp [krR, e, hR.irr x trivial]
  trans a b c ha hb hc h1 h2 := by
    obtain ⟨x, _, ex⟩ := List.exists_cons_of_ne_nil (hD a ha)
    obtain ⟨y, _, ey⟩ := List.exists_cons_of_ne_nil (hD b hb)
    obtain ⟨z, _, ez⟩ := List.exists_cons_of_ne_nil (hD c hc)
    simp only [krR, ex, ey, ez] at *
    have t1 := hR.trans x y z trivial trivial trivial
    have t2 := hR.trans z x y trivial trivial trivial
    have t3 := hR.trans y z x trivial trivial trivial
    have s1 := hR.split z y x trivial trivial trivial
    have s2 := hR.split x z y trivial trivial trivial
    have s3 := hR.split y x z trivial trivial trivial
    have s4 := hR.split x y z trivial trivial trivial
    have s5 := hR.split y z x trivial trivial trivial
    have s6 := hR.split z x y trivial trivial trivial
    have i1 := hR.trans x y x trivial trivial trivial
    have i2 := hR.irr x trivial
    have i3 := hR.trans y z y trivial trivial trivial
    have i4 := hR.irr y trivial
    have i5 := hR.trans x z x trivial trivial trivial
    by_cases c1 : a.pl < b.pl <;> by_cases c2 : b.pl < c.pl <;> by_cases c3 : a.pl < c.pl <;> (try omega) <;> simp only [c1, c2, c3, if_true, if_false] at * <;>
      cases e1 : R x y <;> cases e2 : R y x <;> cases e3 : R y z <;> cases e4 : R z y <;> cases e5 : R x z <;> cases e6 : R z x <;> simp_all
  split a b c ha hb hc h1 := by
    obtain ⟨x, _, ex⟩ := List.exists_cons_of_ne_nil (hD a ha)
    obtain ⟨y, _, ey⟩ := List.exists_cons_of_ne_nil (hD b hb)
    obtain ⟨z, _, ez⟩ := List.exists_cons_of_ne_nil (hD c hc)
    simp only [krR, ex, ey, ez] at *
    have t1 := hR.trans x y z trivial trivial trivial
    have t2 := hR.trans z x y trivial trivial trivial
    have t3 := hR.trans y z x trivial trivial trivial
    have t4 := hR.trans z y x trivial trivial trivial
    have s1 := hR.split z y x trivial trivial trivial
    have s2 := hR.split x z y trivial trivial trivial
    have s3 := hR.split y x z trivial trivial trivial
    have s4 := hR.split x y z trivial trivial trivial
    have s5 := hR.split y z x trivial trivial trivial
    have s6 := hR.split z x y trivial trivial trivial
    have i1 := hR.trans x y x trivial trivial trivial
    have i2 := hR.irr x trivial
    have i3 := hR.trans y z y trivial trivial trivial
    have i4 := hR.irr y trivial
    have i5 := hR.trans x z x trivial trivial trivial
    by_cases c1 : a.pl < b.pl <;> by_cases c2 : b.pl < c.pl <;> by_cases c3 : a.pl < c.pl <;> (try omega) <;> simp only [c1, c2, c3, if_true, if_false] at * <;>
      cases e1 : R x y <;> cases e2 : R y x <;> cases e3 : R y z <;> cases e4 : R z y <;> cases e5 : R x z <;> cases e6 : R z x <;> simp_all
end Go.Proofs.Ytpanpebllapbcaa

namespace Go.Proofs.Ytpanpebllapbcaa

/-- the first one of all is told, then the others -/
theorem Merged.pop {β : Type} {R : β → β → Bool} (hR : WeakO R fun _ => True) {pre post : List (List β)} {x : β} {xs out : List β} (hs : ∀ r ∈ pre ++ (x :: xs) :: post, r.Pairwise fun a b => R b a = false)
    (h1 : ∀ y t, y :: t ∈ pre → R x y = true) (h2 : ∀ y t, y :: t ∈ post → R y x = false) (h : Merged R (pre ++ xs :: post) out) : Merged R (pre ++ (x :: xs) :: post) (x :: out) := by
  have hfl : (pre ++ (x :: xs) :: post).flatten = pre.flatten ++ x :: (xs ++ post.flatten) := by simp
  have hfl2 : (pre ++ xs :: post).flatten = pre.flatten ++ (xs ++ post.flatten) := by simp
  have hpre : ∀ b ∈ pre.flatten, R x b = true := fun b hb => by
    obtain ⟨r, hr, hbr⟩ := List.mem_flatten.1 hb
    match r, hr, hbr with
    | y :: t, hr, hbr =>
      have h3 := h1 y t hr
      rcases List.mem_cons.1 hbr with rfl | hbt
      · exact h3
      · have h4 := (List.pairwise_cons.1 (hs (y :: t) (List.mem_append.2 (.inl hr)))).1 b hbt
        rcases hR.split x b y trivial trivial trivial h3 with h5 | h5
        · exact h5
        · rw [h4] at h5
          cases h5
  have hpost : ∀ b ∈ xs ++ post.flatten, R b x = false := fun b hb => by
    rcases List.mem_append.1 hb with hb | hb
    · exact (List.pairwise_cons.1 (hs (x :: xs) (List.mem_append.2 (.inr (List.mem_cons_self ..))))).1 b hb
    · obtain ⟨r, hr, hbr⟩ := List.mem_flatten.1 hb
      match r, hr, hbr with
      | y :: t, hr, hbr =>
        have h3 := h2 y t hr
        rcases List.mem_cons.1 hbr with rfl | hbt
        · exact h3
        · have h4 := (List.pairwise_cons.1 (hs (y :: t) (List.mem_append.2 (.inr (List.mem_cons_of_mem _ hr))))).1 b hbt
          cases h5 : R b x with
          | false => rfl
          | true =>
            rcases hR.split b y x trivial trivial trivial h5 with h6 | h6
            · rw [h4] at h6
              cases h6
            · rw [h3] at h6
              cases h6
  refine ⟨?_, ?_, fun y => ?_⟩
  · rw [hfl]
    refine List.Perm.trans ?_ List.perm_middle.symm
    refine List.Perm.cons x ?_
    rw [← hfl2]
    exact h.perm
  · rw [List.pairwise_cons]
    refine ⟨fun b hb => ?_, h.rise⟩
    have hb2 := h.perm.mem_iff.1 hb
    rw [hfl2] at hb2
    rcases List.mem_append.1 hb2 with hb3 | hb3
    · cases h5 : R b x with
      | false => rfl
      | true =>
        have := hR.trans b x b trivial trivial trivial h5 (hpre b hb3)
        rw [hR.irr b trivial] at this
        cases this
    · exact hpost b hb3
  · have hsm := h.same y
    rw [hfl2, List.filter_append] at hsm
    rw [hfl, List.filter_append, List.filter_cons, List.filter_cons, hsm]
    by_cases hxy : (!R y x && !R x y) = true
    · rw [if_pos hxy, if_pos hxy]
      have hno : pre.flatten.filter (fun z => !R y z && !R z y) = [] := by
        rw [List.filter_eq_nil_iff]
        intro b hb hby
        simp only [Bool.and_eq_true, Bool.not_eq_true'] at hxy hby
        rcases hR.split x y b trivial trivial trivial (hpre b hb) with h6 | h6
        · rw [hxy.2] at h6
          cases h6
        · rw [hby.1] at h6
          cases h6
      rw [hno]
      rfl
    · rw [if_neg hxy, if_neg hxy]

/-- as the rows are pushed -/
structure KBeg {β : Type} (k : Nat) (C : β → List Value) (w : World) (rows : List (List β)) (i : Nat) (l : List (Kr β)) : Prop where
  D : ∀ o ∈ l, krD k C w o ∧ rows[o.pl]? = some o.left ∧ o.pl < i
  all : ∀ (j : Nat) (r : List β), rows[j]? = some r → j < i → r ≠ [] → ∃ o ∈ l, o.pl = j
  apart : l.Pairwise fun a b => a.pl ≠ b.pl
  few : l.length ≤ i
/-- as they are told: 'rest' is what is left of the rows, 'l' what the heap holds -/
structure KInv {β : Type} (R : β → β → Bool) (k : Nat) (C : β → List Value) (w : World) (rows rest : List (List β)) (out : List β) (l : List (Kr β)) : Prop where
  D : ∀ o ∈ l, krD k C w o ∧ rest[o.pl]? = some o.left
  all : ∀ (j : Nat) (r : List β), rest[j]? = some r → r ≠ [] → ∃ o ∈ l, o.pl = j
  apart : l.Pairwise fun a b => a.pl ≠ b.pl
  up : ∀ r ∈ rest, r.Pairwise fun a b => R b a = false
  few : l.length ≤ rows.length
  cnt : out.length + rest.flatten.length = rows.flatten.length
  thus : ∀ o2, Merged R rest o2 → Merged R rows (out ++ o2)
section
variable {β : Type} {R : β → β → Bool} {k : Nat} {C : β → List Value} {w : World} {rows rest : List (List β)} {out : List β} {l : List (Kr β)} {i : Nat}
theorem KBeg.nil : KBeg k C w rows 0 [] := ⟨fun o h => absurd h (by simp), fun j r _ h => absurd h (by omega), List.Pairwise.nil, Nat.le_refl _⟩
theorem KBeg.none (h : KBeg k C w rows i l) (hr : rows[i]? = some []) : KBeg k C w rows (i + 1) l :=
  ⟨fun o ho => ⟨(h.D o ho).1, (h.D o ho).2.1, by have := (h.D o ho).2.2; omega⟩, fun j r hj hlt hne => by
    by_cases e : j = i
    · subst e
      rw [hr] at hj
      injection hj with hj
      exact absurd hj.symm hne
    · exact h.all j r hj (by omega) hne, h.apart, by have := h.few; omega⟩
theorem KBeg.push (h : KBeg k C w rows i l) {o : Kr β} (hD : krD k C w o) (hp : o.pl = i) (hr : rows[i]? = some o.left) : KBeg k C w rows (i + 1) (l ++ [o]) := by
  refine ⟨fun o2 ho => ?_, fun j r hj hlt hne => ?_, ?_, ?_⟩
  · rcases List.mem_append.1 ho with ho | ho
    · exact ⟨(h.D o2 ho).1, (h.D o2 ho).2.1, by have := (h.D o2 ho).2.2; omega⟩
    · simp at ho
      subst ho
      exact ⟨hD, by rw [hp]; exact hr, by omega⟩
  · by_cases e : j = i
    · exact ⟨o, by simp, by rw [hp, e]⟩
    · obtain ⟨o2, h1, h2⟩ := h.all j r hj (by omega) hne
      exact ⟨o2, List.mem_append.2 (.inl h1), h2⟩
  · rw [List.pairwise_append]
    refine ⟨h.apart, List.pairwise_singleton _ _, fun a ha b hb => ?_⟩
    simp at hb
    subst hb
    have := (h.D a ha).2.2
    omega
  · rw [List.length_append, List.length_singleton]
    have := h.few
    omega
theorem KBeg.done (h : KBeg k C w rows rows.length l) (hs : ∀ r ∈ rows, r.Pairwise fun a b => R b a = false) : KInv R k C w rows rows [] l :=
  ⟨fun o ho => ⟨(h.D o ho).1, (h.D o ho).2.1⟩, fun j r hj hne => h.all j r hj (List.getElem?_eq_some_iff.1 hj).1 hne, h.apart, hs, h.few, by simp, fun o2 h2 => h2⟩
theorem KInv.out_le (h : KInv R k C w rows rest out l) : out.length ≤ rows.flatten.length := by have := h.cnt; omega
theorem KInv.done (h : KInv R k C w rows rest out []) : Merged R rows out := by
  have hz : ∀ r ∈ rest, r = [] := fun r hr => by
    obtain ⟨j, hj⟩ := List.getElem?_of_mem hr
    by_cases e : r = []
    · exact e
    · obtain ⟨o, ho, _⟩ := h.all j r hj e
      cases ho
  have hf : rest.flatten = [] := List.flatten_eq_nil_iff.2 hz
  have := h.thus [] ⟨by rw [hf], List.Pairwise.nil, fun x => by rw [hf]⟩
  rwa [List.append_nil] at this
theorem KInv.next (h : KInv R k C w rows rest out l) (hR : WeakO R fun _ => True) {o : Kr β} (hF : IsFirst (krR R) l i o) {x : β} {xs : List β} (hx : o.left = x :: xs) :
    (∀ o2 ∈ l.eraseIdx i, o.pl ≠ o2.pl) ∧ (∀ r ∈ rest.set o.pl xs, r.Pairwise fun a b => R b a = false) ∧ (l.eraseIdx i).Pairwise (fun a b => a.pl ≠ b.pl) ∧ (∀ o2, o2 ∈ l ↔ o2 = o ∨ o2 ∈ l.eraseIdx i) ∧ o.pl < rest.length ∧ (out ++ [x]).length + (rest.set o.pl xs).flatten.length = rows.flatten.length ∧ (∀ o2, Merged R (rest.set o.pl xs) o2 → Merged R rows ((out ++ [x]) ++ o2)) ∧ (l.eraseIdx i).length + 1 = l.length := by
  obtain ⟨hi, he⟩ := List.getElem?_eq_some_iff.1 hF.at_
  have ho := List.mem_of_getElem? hF.at_
  have hr := (h.D o ho).2
  obtain ⟨hpl, hre⟩ := List.getElem?_eq_some_iff.1 hr
  have hperm : (o :: l.eraseIdx i).Perm l := by
    have e1 : l = l.take i ++ o :: l.drop (i + 1) := by rw [← he, List.getElem_cons_drop, List.take_append_drop]
    rw [List.eraseIdx_eq_take_drop_succ]
    conv => rhs; rw [e1]
    exact List.perm_middle.symm
  have hpw : (o :: l.eraseIdx i).Pairwise fun a b => a.pl ≠ b.pl := (hperm.pairwise_iff fun h => h.symm).2 h.apart
  have hsplit : rest = rest.take o.pl ++ (x :: xs) :: rest.drop (o.pl + 1) := by
    rw [← hx, ← hre, List.getElem_cons_drop, List.take_append_drop]
  have hset : rest.set o.pl xs = rest.take o.pl ++ xs :: rest.drop (o.pl + 1) := by rw [List.set_eq_take_append_cons_drop, if_pos hpl]
  have hup := h.up
  rw [hsplit] at hup
  refine ⟨(List.pairwise_cons.1 hpw).1, fun r hr => ?_, (List.pairwise_cons.1 hpw).2, fun o2 => by rw [← hperm.mem_iff, List.mem_cons], hpl, ?_, fun o2 h2 => ?_, by rw [← hperm.length_eq, List.length_cons]⟩
  · rw [hset] at hr
    rcases List.mem_append.1 hr with h1 | h1
    · exact hup r (List.mem_append.2 (.inl h1))
    · rcases List.mem_cons.1 h1 with rfl | h1
      · exact (List.pairwise_cons.1 (hup (x :: r) (List.mem_append.2 (.inr (List.mem_cons_self ..))))).2
      · exact hup r (List.mem_append.2 (.inr (List.mem_cons_of_mem _ h1)))
  · have hc := h.cnt
    have e1 : rest.flatten.length = (rest.take o.pl).flatten.length + (xs.length + 1 + (rest.drop (o.pl + 1)).flatten.length) := by
      conv => lhs; rw [hsplit]
      rw [List.flatten_append, List.flatten_cons]
      simp only [List.length_append, List.length_cons]
    rw [hset, List.flatten_append, List.flatten_cons]
    simp only [List.length_append, List.length_singleton]
    omega
  · rw [List.append_assoc]
    refine h.thus _ ?_
    rw [hset] at h2
    rw [hsplit]
    refine Merged.pop hR hup (fun y t hy => ?_) (fun y t hy => ?_) h2
    · obtain ⟨j, hj⟩ := List.getElem?_of_mem hy
      have hjl := (List.getElem?_eq_some_iff.1 hj).1
      rw [List.length_take] at hjl
      rw [List.getElem?_take_of_lt (by omega)] at hj
      obtain ⟨o3, h3, h4⟩ := h.all j _ hj (by simp)
      obtain ⟨j3, hj3⟩ := List.getElem?_of_mem h3
      have h5 := hF.least j3 o3 hj3
      have h6 := (h.D o3 h3).2
      rw [h4, hj] at h6
      injection h6 with h6
      simp only [krR, ← h6, hx, h4] at h5
      rw [if_pos (by omega)] at h5
      simpa using h5
    · obtain ⟨j, hj⟩ := List.getElem?_of_mem hy
      rw [List.getElem?_drop] at hj
      obtain ⟨o3, h3, h4⟩ := h.all _ _ hj (by simp)
      obtain ⟨j3, hj3⟩ := List.getElem?_of_mem h3
      have h5 := hF.least j3 o3 hj3
      have h6 := (h.D o3 h3).2
      rw [h4, hj] at h6
      injection h6 with h6
      simp only [krR, ← h6, hx, h4] at h5
      rwa [if_neg (by omega)] at h5
/-- nothing is left of its row -/
theorem KInv.last (h : KInv R k C w rows rest out l) (hR : WeakO R fun _ => True) {o : Kr β} (hF : IsFirst (krR R) l i o) {x : β} (hx : o.left = [x]) : KInv R k C w rows (rest.set o.pl []) (out ++ [x]) (l.eraseIdx i) := by
  obtain ⟨h1, h2, h3, h4, h5, h6, h7, h8⟩ := h.next hR hF hx
  refine ⟨fun o2 ho => ?_, fun j r hj hne => ?_, h3, h2, by have := h.few; omega, h6, h7⟩
  · have hd := h.D o2 ((h4 o2).2 (.inr ho))
    refine ⟨hd.1, ?_⟩
    rw [List.getElem?_set_ne (h1 o2 ho)]
    exact hd.2
  · by_cases e : o.pl = j
    · subst e
      rw [List.getElem?_set_self h5] at hj
      injection hj with hj
      exact absurd hj.symm hne
    · rw [List.getElem?_set_ne e] at hj
      obtain ⟨o2, h9, h10⟩ := h.all j r hj hne
      rcases (h4 o2).1 h9 with rfl | h9
      · exact absurd h10 e
      · exact ⟨o2, h9, h10⟩
/-- what is left of its row goes back -/
theorem KInv.again (h : KInv R k C w rows rest out l) (hR : WeakO R fun _ => True) {o o' : Kr β} (hF : IsFirst (krR R) l i o) {x : β} (hx : o.left = x :: o'.left) (hp : o'.pl = o.pl) (hD : krD k C w o') : KInv R k C w rows (rest.set o.pl o'.left) (out ++ [x]) (l.eraseIdx i ++ [o']) := by
  obtain ⟨h1, h2, h3, h4, h5, h6, h7, h8⟩ := h.next hR hF hx
  refine ⟨fun o2 ho => ?_, fun j r hj hne => ?_, ?_, h2, by rw [List.length_append, List.length_singleton]; have := h.few; omega, h6, h7⟩
  · rcases List.mem_append.1 ho with ho | ho
    · have hd := h.D o2 ((h4 o2).2 (.inr ho))
      refine ⟨hd.1, ?_⟩
      rw [List.getElem?_set_ne (h1 o2 ho)]
      exact hd.2
    · simp at ho
      subst ho
      exact ⟨hD, by rw [hp, List.getElem?_set_self h5]⟩
  · by_cases e : o.pl = j
    · exact ⟨o', by simp, by rw [hp, e]⟩
    · rw [List.getElem?_set_ne e] at hj
      obtain ⟨o2, h9, h10⟩ := h.all j r hj hne
      rcases (h4 o2).1 h9 with rfl | h9
      · exact absurd h10 e
      · exact ⟨o2, List.mem_append.2 (.inl h9), h10⟩
  · rw [List.pairwise_append]
    refine ⟨h3, List.pairwise_singleton _ _, fun a ha b hb => ?_⟩
    simp at hb
    subst hb
    rw [hp]
    exact (h1 a ha).symm
end
end Go.Proofs.Ytpanpebllapbcaa
