/-
  WHAT IS READ APART FROM SOME BLOCKS ('Keep'), over any program; spans all of the call's own ('Acc'): CONTRACTS of trace.apart, trace.Flat and trace.Gather, told so. Conditions: at most 10000000 spans, Data of at most 1000000 bytes.
-/
import Derived.Test.YtgafidnbmoomiaaGreatDoorTrF
import Derived.Test.YtgafidnbmoomiaaGreatDoorKee
import Derived.Test.YtgafidnbmoomiaaGreatDoorSpanB
namespace Go.Proofs.YtgafidnbmoomiaaGreatDoor
open Go.RowKit
set_option maxRecDepth 100000

theorem Ss.keep {w : World} {bad : Nat → Prop} {v : Value} {l : List Sn} {xs : List (List Value)} (h : Lv 5 w v xs) (hb : xs ≠ [] → ∀ q, v.ownBlock = some q → ¬ bad q) (h2 : Two (fun s x => Keep bad (fun u => SpC u s x) w) l xs) : Keep bad (fun u => Ss u v l) w :=
  fun _ ha => ⟨xs, h.apt ha hb, h2.mono fun _ _ hk => hk _ ha⟩

section
variable {w w' : World} {base : Nat} {v : Value} {l : List Sn}
end

theorem SpO.grown {w w' : World} {base : Nat} {row r : Option Nat} {s : Sn} {x : List Value} (h : SpO w base row s x) (hg : w.grownBy w' r) (hr : r = row) : SpO w' base row s x := by
  obtain ⟨ho, d, hx, hd, hn⟩ := h
  subst hr
  exact ⟨ho, d, hx, hd.kept hg hn, hn⟩

end Go.Proofs.YtgafidnbmoomiaaGreatDoor
