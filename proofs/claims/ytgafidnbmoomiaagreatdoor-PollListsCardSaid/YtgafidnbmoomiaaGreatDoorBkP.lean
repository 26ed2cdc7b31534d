/-
  CONTRACTS of the document's Meta, Page, All (of a block in a store), where the block isn't there, and where all of it is. Conditions: what each says.
  BlockLast, walked: what is got of a block, whatever call of its Write fails. Conditions: what each says; of the library's tables: Ld.
-/
import Derived.Test.YtgafidnbmoomiaaGreatDoorBkL
import Derived.Test.YtgafidnbmoomiaaGreatDoorPgA
namespace Go.Proofs.YtgafidnbmoomiaaGreatDoor
open Go.RowKit
set_option maxRecDepth 100000

theorem bytesB14 (l : List UInt8) (w : World) (hl : l.length ≤ 1048576) : ∃ G W, (convert 9 42 (.string (Bstr l))).run Tryz.prog w = .ok (.slice (some ⟨w.heap.size, 0, none⟩) l.length G) W ∧ Bs W (.slice (some ⟨w.heap.size, 0, none⟩) l.length G) l ∧ Below w.heap.size w W ∧ w.heap.size < W.heap.size := by
  obtain ⟨G, W, hr, h1, h2, hb, hs, hc⟩ := bytesOf l w hl
  refine ⟨G, W, hr, ⟨_, G, rfl, h1, h2, Rd.of_cells fun j u hu => ?_⟩, hb, hs⟩
  rw [BV_getElem?] at hu
  cases hj : l[j]? with
  | none => rw [hj] at hu; cases hu
  | some y =>
    rw [hj] at hu
    injection hu with hu
    subst hu
    rw [Addr.add_lit, Nat.zero_add]
    exact (hc j y hj).1

section
variable {α : Type} {k : Nat} {w : World} {base : Nat} {e : TypeId} {bad : Nat → Prop} {E : World → α → List Value → Prop} {v : Value} {l : List α}
end

theorem errN {n : Int} (h : n ≠ 0) : (n == 0) = false := by simpa using h

theorem Apt.grown14 {bad : Nat → Prop} {w w1 w2 : World} {r : Nat} (h : Apt bad w w1) (hg : w1.grownBy w2 (some r)) (hr : w.heap.size ≤ r) : Apt bad w w2 :=
  ⟨hg.os.trans h.os, hg.tape.trans h.tape, hg.output.trans h.output, Nat.le_trans h.size hg.size, fun q hq hF => (hg.block q (Nat.lt_of_lt_of_le hq h.size) fun e => by have := Option.some.inj e; omega).trans (h.block q hq hF)⟩

theorem Apt.ofG {w w' : World} {g : Nat} (h : w.grownBy w' (some g)) : Apt (fun q => q = g) w w' := Apt.of_grown h fun _ hq => (Option.some.inj hq).symm

structure HasBk (m : Sm) (id : Nat) (M : Me) (ps : List (List Tn)) : Prop where
  me : ∃ o, fnd (nmOf id [109] 0) m.l = some o ∧ o.b = sealedOf (meRaw M)
  mb : meB M = true
  mo : M.ok
  mi : M.id = (id : Int)
  mp : M.pg = (ps.length : Nat)
  mt : M.tr = (ps.flatten.length : Nat)
  is : IsT ps.flatten
  pages : ∀ (i : Nat) (p : List Tn), ps[i]? = some p → ∃ o, fnd (nmOf id [112] (i : Int)) m.l = some o ∧ o.b = pgOf p ∧ ValP p ∧ (pgOf p).length ≤ 1048576
  few : ps.length ≤ 200
  many : ps.flatten.length ≤ 1000000

theorem DS.grown14 {w w' : World} {base g : Nat} {v : Value} {m : Sm} {row : Option Nat} (h : DS w base g v m) (hg : w.grownBy w' row) (hn : ∀ q, row = some q → ¬ yF g v q) : DS w' base g v m :=
  ⟨h.blk.grown hg fun e => hn g e.symm (.inl rfl), h.row.kept hg (by
    cases hv : v.ownBlock with
    | none => exact .inl rfl
    | some z => exact .inr fun e => hn z e.symm (.inr hv)), h.ne, h.ge⟩

theorem HasBk.same {m m' : Sm} {id : Nat} {M : Me} {ps : List (List Tn)} (h : HasBk m id M ps) (e : m'.l = m.l) : HasBk m' id M ps :=
  ⟨by rw [e]; exact h.me, h.mb, h.mo, h.mi, h.mp, h.mt, h.is, by rw [e]; exact h.pages, h.few, h.many⟩

end Go.Proofs.YtgafidnbmoomiaaGreatDoor
