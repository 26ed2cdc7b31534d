/-
  LISTS OF LISTS OF TRACES, as slices; CONTRACT of the document's own Cut. Conditions: what each says.
  CUTTING, trace by trace, as plain lists; CONTRACTS of page.apart and page.Cut. Conditions: what each says.
-/
import Derived.Test.YtgafidnbmoomiaaGreatDoorPgA
namespace Go.Proofs.YtgafidnbmoomiaaGreatDoor
open Go.RowKit Go.Maps
set_option maxRecDepth 100000

def PaC (w : World) (l : List Tn) (x : List Value) : Prop := ∃ d, x = [d] ∧ Ts w d l

theorem PaC.below {w w' : World} {l : List Tn} {x : List Value} (h : PaC w l x) (hb : Below w.heap.size w w') : PaC w' l x := by
  obtain ⟨d, hx, hd⟩ := h
  exact ⟨d, hx, hd.below hb⟩

theorem PaC.one {w : World} {l : List Tn} {x : List Value} (h : PaC w l x) : ∀ u ∈ x, u.oneCell' = true := by
  obtain ⟨d, rfl, hd⟩ := h
  obtain ⟨A, c, rfl, _⟩ := hd.form
  intro u hu
  simp at hu
  subst hu
  rfl

def Ps (w : World) (v : Value) (p : List (List Tn)) : Prop := ∃ xs, Lv 1 w v xs ∧ Two (PaC w) p xs

theorem Ps.below {w w' : World} {v : Value} {p : List (List Tn)} (h : Ps w v p) (hb : Below w.heap.size w w') : Ps w' v p := by
  obtain ⟨xs, h1, h2⟩ := h
  exact ⟨xs, h1.below hb, h2.mono fun _ _ h => h.below hb⟩

theorem Ps.nil (w : World) : Ps w (.slice none 0 0) [] := ⟨[], Lv.nil 1 w, Two.nil⟩

theorem Ps.form {w : World} {v : Value} {p : List (List Tn)} (h : Ps w v p) : ∃ A c, v = .slice A p.length c ∧ p.length ≤ c ∧ c ≤ 9223372036854775807 := by
  obtain ⟨xs, h1, h2⟩ := h
  obtain ⟨A, c, hv, h3, h4⟩ := h1.form
  rw [← h2.len] at hv h3
  exact ⟨A, c, hv, h3, h4⟩

theorem Ps.cells {w : World} {A : Option Addr} {n c : Nat} {p : List (List Tn)} (h : Ps w (.slice A n c) p) {i : Nat} {l : List Tn} (hi : p[i]? = some l) :
    ∃ g o d, A = some ⟨g, o, none⟩ ∧ g < w.heap.size ∧ w.cell? ⟨g, o + i, none⟩ = some d ∧ Ts w d l := by
  obtain ⟨xs, h1, h2⟩ := h
  obtain ⟨x, hx, d, rfl, hd⟩ := h2.right hi
  obtain ⟨g, o, hA, hg, hc⟩ := h1.cells (by omega) hx
  exact ⟨g, o, d, hA, hg, by simpa using hc 0 _ rfl, hd⟩

theorem IsT.take {l : List Tn} (h : IsT l) (n : Nat) : IsT (l.take n) := IsT.infix (a := []) (c := l.drop n) (by rw [List.nil_append, List.take_append_drop]; exact h)

theorem IsT.drop {l : List Tn} (h : IsT l) (n : Nat) : IsT (l.drop n) := IsT.infix (a := l.take n) (c := []) (by rw [List.append_nil, List.take_append_drop]; exact h)

theorem OwnL.lit1 (w : World) (base : Nat) (e : TypeId) (u : Value) (hb : base ≤ w.heap.size) : OwnL 1 (w.alloc (.cells #[u] e)) base e (.slice (some ⟨w.heap.size, 0, none⟩) 1 1) [[u]] :=
  ⟨by simpa using World.ownsRow_lit (base := base) (e := e) (size := 1) w #[u] 1 hb (by simp [maxLen]) rfl, flat_one [u] rfl⟩

theorem cutN_stop {most : Int} {l : List Tn} {f n : Nat} (h : ¬ (n < l.length ∧ n < 64 ∧ ((pgOf (l.take (n + 1))).length : Int) ≤ most)) : cutN most l f n = n := by
  cases f with
  | zero => rfl
  | succ f => rw [cutN, if_neg h]

theorem cutN_go {most : Int} {l : List Tn} {f n : Nat} (h : n < l.length ∧ n < 64 ∧ ((pgOf (l.take (n + 1))).length : Int) ≤ most) : cutN most l (f + 1) n = cutN most l f (n + 1) := by
  rw [cutN, if_pos h]

theorem cutL_cons (most : Int) (f : Nat) {l : List Tn} (h : l ≠ []) : cutL most (f + 1) l = l.take (cutK most l) :: cutL most f (l.drop (cutK most l)) := by
  cases l with
  | nil => exact absurd rfl h
  | cons t l => rfl

theorem pgOf_snoc (p : List Tn) (t : Tn) : (pgOf (p ++ [t])).length = 6 + (p.flatMap pgOne).length + (pgOne t).length := by
  rw [pgOf_length, List.flatMap_append, List.length_append]
  simp only [List.flatMap_cons, List.flatMap_nil, List.append_nil]
  omega

structure CutAt (most : Int) (f : Nat) (l : List Tn) (k : Nat) (ps : List (List Tn)) (p : List Tn) (size : Nat) : Prop where
  all : ∃ f', (p ++ l.drop k).length ≤ f' ∧ cutL most f l = ps ++ cutL most f' (p ++ l.drop k)
  fit : p ≠ [] → cutK most (p ++ l.drop k) = cutN most (p ++ l.drop k) (65 - p.length) p.length
  le : p.length ≤ 64
  size : size = 6 + (p.flatMap pgOne).length

section
variable {most : Int} {f : Nat} {l : List Tn} {k : Nat} {ps : List (List Tn)} {p : List Tn} {size : Nat} {t : Tn}
theorem CutAt.start (most : Int) (f : Nat) (l : List Tn) (h : l.length ≤ f) : CutAt most f l 0 [] [] 6 := ⟨⟨f, by simpa using h, by simp⟩, fun h => absurd rfl h, by simp, by simp⟩

theorem drop_at (ht : l[k]? = some t) : l.drop k = t :: l.drop (k + 1) := by
  obtain ⟨hk, rfl⟩ := List.getElem?_eq_some_iff.1 ht
  exact List.drop_eq_getElem_cons hk

theorem CutAt.add (h : CutAt most f l k ps p size) (ht : l[k]? = some t) (hp : p = [] ∨ (p.length < 64 ∧ ((size + (pgOne t).length : Nat) : Int) ≤ most)) : CutAt most f l (k + 1) ps (p ++ [t]) (size + (pgOne t).length) := by
  have e : p ++ l.drop k = (p ++ [t]) ++ l.drop (k + 1) := by rw [drop_at ht]; simp
  refine ⟨by rw [← e]; exact h.all, fun _ => ?_, ?_, ?_⟩
  · rw [← e]
    rcases hp with rfl | ⟨h1, h2⟩
    · rfl
    · by_cases hn : p = []
      · subst hn
        rfl
      · rw [h.fit hn, show 65 - p.length = (65 - (p ++ [t]).length) + 1 by simp; omega, cutN_go ⟨?_, h1, ?_⟩]
        · simp
        · rw [e]
          simp
        · rw [e, List.take_append_of_le_length (by simp), List.take_of_length_le (by simp), pgOf_snoc, ← h.size]
          exact h2
  · rcases hp with rfl | ⟨h1, _⟩
    · simp
    · simp
      omega
  · rw [List.flatMap_append, List.length_append, h.size]
    simp only [List.flatMap_cons, List.flatMap_nil, List.append_nil]
    omega

theorem CutAt.done (h : CutAt most f l k ps p size) (hk : l.length ≤ k) : cutL most f l = if p = [] then ps else ps ++ [p] := by
  have e : p ++ l.drop k = p := by rw [List.drop_eq_nil_of_le hk, List.append_nil]
  obtain ⟨f', hf, ha⟩ := h.all
  rw [e] at hf ha
  rw [ha]
  split
  · rename_i hn
    subst hn
    cases f' <;> simp [cutL]
  · rename_i hn
    have hc := h.fit hn
    rw [e] at hc
    have hc2 : cutK most p = p.length := by
      rw [hc]
      exact cutN_stop fun hh => by omega
    have hpl : 0 < p.length := List.length_pos_iff.2 hn
    obtain ⟨f'', rfl⟩ : ∃ f'', f' = f'' + 1 := ⟨f' - 1, by omega⟩
    rw [cutL_cons most f'' hn, hc2, List.take_length, List.drop_length]
    cases f'' <;> simp [cutL]

end

theorem CanS.data {i : Int} {l : List Sn} (h : CanS i l) : ∀ s ∈ l, s.data.length ≤ 64 := fun s hs => by
  have := h.may
  rw [List.all_eq_true] at this
  exact (may_bounds (this s hs)).2.2.2

section
variable {w0 w w' : World} {pv qv : Value} {ps : List (List Tn)} {p : List Tn}
end

end Go.Proofs.YtgafidnbmoomiaaGreatDoor
