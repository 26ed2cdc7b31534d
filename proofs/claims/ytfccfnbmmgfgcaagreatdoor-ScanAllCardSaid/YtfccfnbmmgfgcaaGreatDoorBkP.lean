/-
  CONTRACTS of the document's Meta, Page, All (of a block in a store), where the block isn't there, and where all of it is. Conditions: what each says.
  BlockLast, walked: what is got of a block, whatever call of its Write fails. Conditions: what each says; of the library's tables: Ld.
-/
import Derived.Test.YtfccfnbmmgfgcaaGreatDoorBkL
import Derived.Test.YtfccfnbmmgfgcaaGreatDoorPgA
namespace Go.Proofs.YtfccfnbmmgfgcaaGreatDoor
open Go.RowKit
set_option maxRecDepth 100000

section
variable {α : Type} {k : Nat} {w : World} {base : Nat} {e : TypeId} {bad : Nat → Prop} {E : World → α → List Value → Prop} {v : Value} {l : List α}
theorem wpList_append_Ks {P : Program} {t : TypeId} {bytes : Nat} (HT : ElemT P t e k bytes) {ops : Array Oper} {rest : List Oper} {o : Oper} {a : Act} {Q : Exit → Act → World → Prop} (hgd : o.guard = none) (sx x : Operand)
    (ho : o.op = .call { callee := .builtin .append, args := #[sx, x], argTypes := #[t, t] })
    (hs : a.eval sx = v) (h : OwnK k w base e bad E v l) {bs : List α} {ys : List (List Value)} {V : Value} (hx : a.eval x = V) (hV : Lv k w V ys) (hy : Two (fun b y => Keep (fun q => bad q ∨ v.ownBlock = some q) (fun u => E u b y) w) bs ys)
    (h1 : ∀ y ∈ ys, ∀ u ∈ y, u.oneCell' = true) (hl : l.length + bs.length ≤ 1000000000) (hbytes : bytes ≤ 100) (hbase : base ≤ w.heap.size)
    (hK : ∀ v' w', OwnK k w' base e bad E v' (l ++ bs) → w.grownBy w' v.ownBlock → (v'.ownBlock = v.ownBlock ∨ v'.ownBlock = some w.heap.size) → wpList P ops Q rest (a.put o.dst v') w') : wpList P ops Q (o :: rest) a w := by
  refine wpList_plain hgd fun K hK' => ?_
  obtain ⟨v', w', hrun, h2, h3, h4⟩ := run_append_Ks HT o.type h hV hy h1 hl hbytes hbase
  unfold Oper.wp execOp
  simp only [ho, resolve, invoke, builtin, Sem.run_bind, Sem.run_pure, Result.andThen_ok, List.map_toArray, List.map_cons, List.map_nil, hs, hx, hrun]
  exact hK' _ _ (hK v' w' h2 h3 h4)
end

structure HasBk (m : Sm) (id : Nat) (M : Me) (ps : List (List Tn)) : Prop where
  me : ∃ o, fnd (nmOf id [109] 0) m.l = some o ∧ o.b = sealedOf (meRaw M)
  mb : meB M = true
  mo : M.ok
  mi : M.id = (id : Int)
  mp : M.pg = (ps.length : Nat)
  mt : M.tr = (ps.flatten.length : Nat)
  is : IsT ps.flatten
  pages : ∀ (i : Nat) (p : List Tn), ps[i]? = some p → ∃ o, fnd (nmOf id [112] (i : Int)) m.l = some o ∧ o.b = pgOf p ∧ ValP p ∧ (pgOf p).length ≤ 1048576
  few : ps.length ≤ 200
  many : ps.flatten.length ≤ 1000000
theorem HasBk.same {m m' : Sm} {id : Nat} {M : Me} {ps : List (List Tn)} (h : HasBk m id M ps) (e : m'.l = m.l) : HasBk m' id M ps :=
  ⟨by rw [e]; exact h.me, h.mb, h.mo, h.mi, h.mp, h.mt, h.is, by rw [e]; exact h.pages, h.few, h.many⟩
end Go.Proofs.YtfccfnbmmgfgcaaGreatDoor
