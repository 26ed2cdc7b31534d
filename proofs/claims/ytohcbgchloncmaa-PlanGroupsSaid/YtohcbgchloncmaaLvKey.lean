/-
  Slices of structs, element by element; an argument of type string. No condition but what each theorem says.
-/
import Derived.Test.YtohcbgchloncmaaWordA
import Derived.Test.YtohcbgchloncmaaLs
import Derived.Test.YtohcbgchloncmaaRow
namespace Go.Proofs.Ytohcbgchloncmaa
open Go.ChangeShapes Go.WideShapes Go.ChangeAt Go.RowKit
set_option maxRecDepth 100000

theorem Bstr_of (s : ByteArray) : Bstr s.data.toList = s := by
  apply ByteArray.ext
  simp [Bstr]

section
variable {H : Type} {enc : TypeId × Value → H}
theorem lv_of_key {α : Type} {R : World → α → List Value → Prop} {k : Nat} (hk : 0 < k) {W : World} {A : Option Addr} {n c : Nat} (hnc : n ≤ c) (hcm : c ≤ 9223372036854775807)
    (key : ∀ i, i < n → ∃ (x : List Value) (s : α) (g o : Nat), A = some ⟨g, o, none⟩ ∧ R W s x ∧ x.length = k ∧ ∀ j u, x[j]? = some u → W.cell? ⟨g, o + i * k + j, none⟩ = some u) : ∃ (l : List α) (xs : List (List Value)), Lv k W (.slice A n c) xs ∧ Two (R W) l xs := by
  obtain ⟨ps, hpl, hps⟩ := all_of_each (Q := fun i (p : List Value × α) => ∃ (g o : Nat), A = some ⟨g, o, none⟩ ∧ R W p.2 p.1 ∧ p.1.length = k ∧ ∀ j u, p.1[j]? = some u → W.cell? ⟨g, o + i * k + j, none⟩ = some u)
    (fun i hi => by obtain ⟨x, s, h⟩ := key i hi; exact ⟨(x, s), h⟩)
  have hk5 : ∀ x ∈ ps.map (·.1), x.length = k := by
    intro x hx
    obtain ⟨p, hp, rfl⟩ := List.mem_map.1 hx
    obtain ⟨i, hi⟩ := List.mem_iff_getElem?.1 hp
    obtain ⟨g, o, _, _, h5, _⟩ := hps i p hi
    exact h5
  refine ⟨ps.map (·.2), ps.map (·.1), ⟨A, c, by simp [hpl], by simp [hpl, hnc], hcm, hk5, ?_⟩, ⟨by simp, fun i s x h1 h2 => ?_⟩⟩
  · intro j u hu
    have hj := (List.getElem?_eq_some_iff.1 hu).1
    rw [flat_length hk5, List.length_map, hpl] at hj
    have hi : j / k < n := Nat.div_lt_of_lt_mul (by rw [Nat.mul_comm]; exact hj)
    have hp : ps[j / k]? = some (ps[j / k]'(by omega)) := List.getElem?_eq_getElem (by omega)
    obtain ⟨g, o, hA, _, h5, hc⟩ := hps _ _ hp
    have hx : (ps.map (·.1))[j / k]? = some (ps[j / k]'(by omega)).1 := by rw [List.getElem?_map, hp]; rfl
    have hm : j % k < k := Nat.mod_lt _ hk
    have he : j / k * k + j % k = j := by rw [Nat.mul_comm]; exact Nat.div_add_mod j k
    have hfl := flat_at hk5 hx hm
    rw [he] at hfl
    rw [hfl] at hu
    refine ⟨_, hA, ?_⟩
    rw [Addr.add_lit]
    have := hc _ u hu
    rw [Nat.add_assoc, he] at this
    exact this
  · rw [List.getElem?_map] at h1 h2
    cases hp : ps[i]? with
    | none => rw [hp] at h1; cases h1
    | some p =>
      rw [hp] at h1 h2
      simp at h1 h2
      subst h1 h2
      obtain ⟨g, o, _, hs, _⟩ := hps i p hp
      exact hs

/-- an argument of type string -/
theorem str_of_trod {W : World} {base : Nat} {v : Value} {d : DataW H} {p : List MemPlace} (hval : Value.okWide Try.prog W .any base 9 v)
    (h : DataW.Trod enc Try.prog W 0 (fun _ => true) true 9 v d p) : ∃ s : List UInt8, v = .string (Bstr s) ∧ s.length ≤ 9223372036854775807 := by
  obtain ⟨fuel, hf⟩ := h
  obtain ⟨s, e, _, hs⟩ := DataW.trod_string strT hf
  cases v with
  | string s' =>
    simp [Value.cells] at e
    subst e
    exact ⟨s'.data.toList, by rw [Bstr_of], by simpa [maxLen] using hs⟩
  | agg cs => simp [Value.okWide, Cell.okWide, Cell.ok] at hval
  | _ => simp [Value.cells] at e

end

end Go.Proofs.Ytohcbgchloncmaa
