/-
  RECORDS, as plain lists: a record's bytes (recB), the record at a place (RecAt), the records that bytes begin with (Pre, Recs): they are one, and their bytes are what stands there. No condition but what each theorem says.
-/
import Derived.Test.YtdfjicjlmejonaaCrcD
import Derived.Test.YtdfjicjlmejonaaWordH
namespace Go.Proofs.Ytdfjicjlmejonaa
open Go.RowKit

/-- a record's bytes -/
def recB (s : List UInt8) : List UInt8 := sealedOf (bet s.length 2 ++ s)
theorem recB_length (s : List UInt8) : (recB s).length = s.length + 6 := by
  rw [recB, sealedOf_length, List.length_append, bet_length]
  omega
/-- at p stands the record s -/
def RecAt (l : List UInt8) (p : Nat) (s : List UInt8) : Prop := 1 ≤ s.length ∧ s.length ≤ 16384 ∧ (l.drop p).take (s.length + 6) = recB s
section
variable {l : List UInt8} {p : Nat} {s s' : List UInt8}
theorem RecAt.len (h : RecAt l p s) : p + s.length + 6 ≤ l.length := by
  have := congrArg List.length h.2.2
  rw [recB_length, List.length_take, List.length_drop] at this
  omega
theorem RecAt.parts (h : RecAt l p s) : (l.drop p).take 2 = bet s.length 2 ∧ (l.drop (p + 2)).take s.length = s := by
  have h1 := h.2.2
  have e2 : ((l.drop p).take (s.length + 6)).take 2 = (l.drop p).take 2 := by
    rw [List.take_take, show min 2 (s.length + 6) = 2 by omega]
  have e3 : (((l.drop p).take (s.length + 6)).drop 2).take s.length = (l.drop (p + 2)).take s.length := by
    rw [List.drop_take, List.take_take, List.drop_drop, show min s.length (s.length + 6 - 2) = s.length by omega]
  rw [← e2, ← e3, h1, recB, sealedOf, List.append_assoc]
  refine ⟨?_, ?_⟩
  · rw [List.take_append_of_le_length (by rw [bet_length]; omega), List.take_of_length_le (by rw [bet_length]; omega)]
  · rw [List.drop_append_of_le_length (by rw [bet_length]; omega), List.drop_of_length_le (by rw [bet_length]; omega), List.nil_append, List.take_append_of_le_length (Nat.le_refl _), List.take_length]
theorem RecAt.size (h : RecAt l p s) : tsize l p = s.length := by
  have h2 := h.2.1
  rw [tsize, h.parts.1]
  exact num_bet 2 s.length (by omega)
theorem RecAt.one (h : RecAt l p s) (h' : RecAt l p s') : s = s' := by
  have e : s.length = s'.length := by rw [← h.size, ← h'.size]
  rw [← h.parts.2, ← h'.parts.2, e]
theorem textOk_iff {most : Int} : textOk l p false most = true ↔ 2 ≤ (l.length : Int) - p ∧ (tsize l p : Int) ≤ (l.length : Int) - p - 2 ∧ (tsize l p : Int) ≤ most := by
  simp [textOk, and_assoc]
/-- how it is found -/
theorem RecAt.text (h : RecAt l p s) : textOk l p false 16384 = true ∧ (l.drop (p + 2)).take (tsize l p) = s := by
  have h1 := h.len
  have h2 := h.2.1
  refine ⟨textOk_iff.2 ?_, by rw [h.size]; exact h.parts.2⟩
  rw [h.size]
  omega
theorem recAt_of (h1 : textOk l p false 16384 = true) (h2 : (l.drop (p + 2)).take (tsize l p) ≠ []) (h3 : (l.drop p).take (tsize l p + 6) = recB ((l.drop (p + 2)).take (tsize l p))) : RecAt l p ((l.drop (p + 2)).take (tsize l p)) := by
  obtain ⟨a, b, c⟩ := textOk_iff.1 h1
  have hl : ((l.drop (p + 2)).take (tsize l p)).length = tsize l p := by
    rw [List.length_take, List.length_drop]
    omega
  refine ⟨?_, by rw [hl]; omega, by rw [hl]; exact h3⟩
  rcases Nat.eq_zero_or_pos ((l.drop (p + 2)).take (tsize l p)).length with h | h
  · exact absurd (List.eq_nil_of_length_eq_zero h) h2
  · exact h
end

/-- from p on to q stand these records -/
def Pre (l : List UInt8) : List (List UInt8) → Nat → Nat → Prop
  | [], p, q => q = p
  | s :: t, p, q => RecAt l p s ∧ Pre l t (p + s.length + 6) q
/-- .. and no more -/
def Recs (l : List UInt8) (t : List (List UInt8)) (p q : Nat) : Prop := Pre l t p q ∧ ∀ s, ¬ RecAt l q s
theorem Pre.snoc {l : List UInt8} {s : List UInt8} : ∀ {t : List (List UInt8)} {p q : Nat}, Pre l t p q → RecAt l q s → Pre l (t ++ [s]) p (q + s.length + 6)
  | [], p, q, h, hs => by
    have h' : q = p := h
    subst h'
    exact ⟨hs, rfl⟩
  | x :: t, p, q, h, hs => ⟨h.1, Pre.snoc h.2 hs⟩
theorem Recs.one {l : List UInt8} : ∀ {t t' : List (List UInt8)} {p q q' : Nat}, Recs l t p q → Recs l t' p q' → t = t' ∧ q = q'
  | [], [], p, q, q', h, h' => ⟨rfl, by rw [show q = p from h.1, show q' = p from h'.1]⟩
  | [], s :: t', p, q, q', h, h' => by
    have e : q = p := h.1
    subst e
    exact absurd h'.1.1 (h.2 s)
  | s :: t, [], p, q, q', h, h' => by
    have e : q' = p := h'.1
    subst e
    exact absurd h.1.1 (h'.2 s)
  | s :: t, s' :: t', p, q, q', h, h' => by
    have e := h.1.1.one h'.1.1
    subst e
    obtain ⟨e1, e2⟩ := Recs.one (l := l) (t := t) (t' := t') ⟨h.1.2, h.2⟩ ⟨h'.1.2, h'.2⟩
    exact ⟨by rw [e1], e2⟩
/-- their bytes -/
def recsB (t : List (List UInt8)) : List UInt8 := (t.map recB).flatten
theorem recsB_nil : recsB [] = [] := rfl
theorem recsB_cons (s : List UInt8) (t : List (List UInt8)) : recsB (s :: t) = recB s ++ recsB t := by simp [recsB]
theorem recsB_append (t u : List (List UInt8)) : recsB (t ++ u) = recsB t ++ recsB u := by simp [recsB]
theorem recsB_snoc (t : List (List UInt8)) (s : List UInt8) : recsB (t ++ [s]) = recsB t ++ recB s := by simp [recsB]
theorem Pre.flat {l : List UInt8} : ∀ {t : List (List UInt8)} {p q : Nat}, Pre l t p q → p ≤ q ∧ q = p + (recsB t).length ∧ (p ≤ l.length → q ≤ l.length) ∧ (l.drop p).take (q - p) = recsB t
  | [], p, q, h => by
    have h' : q = p := h
    subst h'
    exact ⟨Nat.le_refl _, by simp [recsB], id, by simp [recsB]⟩
  | s :: t, p, q, h => by
    obtain ⟨h1, h2⟩ := h
    obtain ⟨a, b, c, d⟩ := Pre.flat h2
    have hl := h1.len
    have hr := recB_length s
    refine ⟨by omega, by rw [recsB_cons, List.length_append, hr]; omega, fun _ => c (by omega), ?_⟩
    have e : q - p = (s.length + 6) + (q - (p + s.length + 6)) := by omega
    rw [e, List.take_add, h1.2.2, List.drop_drop, recsB_cons]
    congr 1
/-- what is no record -/
def RecOk (s : List UInt8) : Prop := 1 ≤ s.length ∧ s.length ≤ 16384
theorem recAt_flat {s : List UInt8} (a k : List UInt8) (hs : RecOk s) : RecAt (a ++ (recB s ++ k)) a.length s := by
  refine ⟨hs.1, hs.2, ?_⟩
  rw [List.drop_left, List.take_append_of_le_length (by rw [recB_length]; omega), List.take_of_length_le (by rw [recB_length]; omega)]
theorem pre_flat : ∀ (t : List (List UInt8)) (a k : List UInt8), (∀ s ∈ t, RecOk s) → Pre (a ++ (recsB t ++ k)) t a.length (a.length + (recsB t).length)
  | [], a, k, _ => by simp [Pre, recsB]
  | s :: t, a, k, h => by
    refine ⟨?_, ?_⟩
    · rw [recsB_cons, List.append_assoc]
      exact recAt_flat a _ (h s (List.mem_cons_self ..))
    · have ih := pre_flat t (a ++ recB s) k fun x hx => h x (List.mem_cons_of_mem _ hx)
      rw [List.length_append, recB_length] at ih
      have e1 : a ++ recB s ++ (recsB t ++ k) = a ++ (recsB (s :: t) ++ k) := by rw [recsB_cons]; simp [List.append_assoc]
      have e2 : a.length + (s.length + 6) + (recsB t).length = a.length + (recsB (s :: t)).length := by
        rw [recsB_cons, List.length_append, recB_length]
        omega
      rw [e1, e2, ← Nat.add_assoc] at ih
      exact ih
/-- the bytes of records are those records, and no more -/
theorem recs_flat (t : List (List UInt8)) (h : ∀ s ∈ t, RecOk s) : Recs (recsB t) t 0 (recsB t).length := by
  have h1 := pre_flat t [] [] h
  simp only [List.length_nil, Nat.zero_add, List.nil_append, List.append_nil] at h1
  exact ⟨h1, fun s hs => by have := hs.len; omega⟩
theorem Pre.ok {l : List UInt8} : ∀ {t : List (List UInt8)} {p q : Nat}, Pre l t p q → ∀ s ∈ t, RecOk s
  | [], _, _, _, s, hs => by cases hs
  | x :: t, p, q, h, s, hs => by
    rcases List.mem_cons.1 hs with rfl | hs
    · exact ⟨h.1.1, h.1.2.1⟩
    · exact Pre.ok h.2 s hs
/-- how many bytes records have -/
theorem recsB_length (t : List (List UInt8)) : (recsB t).length = (t.map fun s => s.length + 6).sum := by
  induction t with
  | nil => rfl
  | cons s t ih => rw [recsB_cons, List.length_append, recB_length, ih, List.map_cons, List.sum_cons]
end Go.Proofs.Ytdfjicjlmejonaa
