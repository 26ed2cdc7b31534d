/-
  Slices of structs, element by element; an argument of type string. No condition but what each theorem says.
-/
import Derived.Test.YtfaefacefdkjdaaGreatDoorWordA
import Derived.Test.YtfaefacefdkjdaaGreatDoorLs
import Derived.Test.YtfaefacefdkjdaaGreatDoorRow
namespace Go.Proofs.YtfaefacefdkjdaaGreatDoor
open Go.ChangeShapes Go.WideShapes Go.ChangeAt Go.RowKit
set_option maxRecDepth 100000

theorem Bstr_of (s : ByteArray) : Bstr s.data.toList = s := by
  apply ByteArray.ext
  simp [Bstr]

section
variable {H : Type} {enc : TypeId × Value → H}
theorem str_of_trod {W : World} {base : Nat} {v : Value} {d : DataW H} {p : List MemPlace} (hval : Value.okWide Tryz.prog W .any base 9 v)
    (h : DataW.Trod enc Tryz.prog W 0 (fun _ => true) true 9 v d p) : ∃ s : List UInt8, v = .string (Bstr s) ∧ s.length ≤ 9223372036854775807 := by
  obtain ⟨fuel, hf⟩ := h
  obtain ⟨s, e, _, hs⟩ := DataW.trod_string strT hf
  cases v with
  | string s' =>
    simp [Value.cells] at e
    subst e
    exact ⟨s'.data.toList, by rw [Bstr_of], by simpa [maxLen] using hs⟩
  | agg cs => simp [Value.okWide, Cell.okWide, Cell.ok] at hval
  | _ => simp [Value.cells] at e
end

end Go.Proofs.YtfaefacefdkjdaaGreatDoor
