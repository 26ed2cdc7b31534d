/-
  WHETHER TRACES ARE CANONICAL: as plain lists; CONTRACTS of trace.isCanonical, trace.Is and the document's Is. Conditions: what each theorem says.
  CONTRACT of trace.Is. No condition.
  CONTRACT of the document's Is. No condition.
-/
import Derived.Test.YtgafidnbmoomiaaGreatDoorTrI
import Derived.Maps.OwnSet
namespace Go.Proofs.YtgafidnbmoomiaaGreatDoor
open Go.RowKit Go.Maps
set_option maxRecDepth 100000


structure CanS (i : Int) (l : List Sn) : Prop where
  lo : 1 ≤ l.length
  hi : l.length ≤ 100
  one : ∀ (k : Nat) (s : Sn), l[k]? = some s → s.tr = i ∧ mayB s = true
  up : ∀ (k : Nat) (s t : Sn), l[k]? = some s → l[k + 1]? = some t → cmpS s t ≤ 0
  ne : ∀ (j k : Nat) (s t : Sn), j < k → l[j]? = some s → l[k]? = some t → s.id ≠ t.id

theorem CanS.le {i : Int} {l : List Sn} (h : CanS i l) (j : Nat) (s : Sn) (hj : l[j]? = some s) : ∀ (d : Nat) (t : Sn), l[j + d]? = some t → cmpS s t ≤ 0
  | 0, t, ht => by
    rw [Nat.add_zero, hj] at ht
    injection ht with ht
    subst ht
    rw [three_cmpS.rf]
    omega
  | d + 1, t, ht => by
    have hl := (List.getElem?_eq_some_iff.1 ht).1
    have hu : l[j + d]? = some (l[j + d]'(by omega)) := List.getElem?_eq_getElem (by omega)
    exact three_cmpS.tr _ _ _ (h.le j s hj d _ hu) (h.up _ _ _ hu ht)

structure IsT (l : List Tn) : Prop where
  each : ∀ (k : Nat) (t : Tn), l[k]? = some t → CanS t.id t.sp
  up : ∀ (k : Nat) (t u : Tn), l[k]? = some t → l[k + 1]? = some u → t.id < u.id

section
variable {H : Type} {P : Program} {k : TypeId} {R : Value → Option (DataW H × List MemPlace)} {w w' : World} {b n : Nat} {D : DataW H}
end


end Go.Proofs.YtgafidnbmoomiaaGreatDoor
