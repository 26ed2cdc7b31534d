/-
  ROSTERS read: what holds between two chunks, over any program's sequence. Conditions: what each theorem says.
  CONTRACTS of the program's parseBare, at metas and at markers. Conditions: what each says.
  CONTRACT of the program's parse. Conditions: what it says.
-/
import Derived.RangeFuncRecord
import Derived.RangeFuncSeq
import Derived.Test.YtgafidnbmoomiaaGreatDoorKee
import Derived.RangeFuncCalls
import Derived.OwnWalkIn
import Derived.OrdersIn
import Derived.Test.YtgafidnbmoomiaaGreatDoorMix
import Derived.Test.YtgafidnbmoomiaaGreatDoorWordA
import Derived.Test.YtgafidnbmoomiaaGreatDoorMore
import Derived.Lib.MinMax
import Derived.TacticsInMore
import Derived.WalkKit
import Derived.Deep.LoopGhost
import Derived.Sort.QuietIn
import Derived.Deep.QuietTactic
import Derived.BigQuiet
import Derived.WalkSpells
import Derived.Test.YtgafidnbmoomiaaGreatDoorRoD
import Derived.Test.YtgafidnbmoomiaaGreatDoorMtA
import Derived.Test.YtgafidnbmoomiaaGreatDoorRoI
import Derived.RangeFuncOwn
namespace Go.Proofs.YtgafidnbmoomiaaGreatDoor
open Go.RowKit
set_option maxRecDepth 100000

structure PbJ (w : World) (D : Nat) (G R E : TypeId) (gv : Value) (k : Nat) (cv : Value) (size : Int) (av : Value) (xs : List (List Value)) (lp : Loop) (W : World) : Prop where
  bel : Below w.heap.size w W
  get : Blk W w.heap.size G #[gv]
  res : Blk W (w.heap.size + 1) R #[.slice none 0 0]
  ok : Blk W (w.heap.size + 2) 4 #[.bool false]
  box : Blk W (w.heap.size + 3) R #[av]
  own : OwnL k W (D + 2) E av xs
  c1 : Blk W (w.heap.size + 4) 42 #[cv]
  c2 : Blk W (w.heap.size + 5) 3 #[.int .i64 size]
  lp : W.heap[D + 1]? = some (.loop lp)
  df : W.heap[D]? = some (.deferred (some []))
  dz : w.heap.size + 5 < D

section
variable {w W W' : World} {D k : Nat} {G R E : TypeId} {gv cv av : Value} {size : Int} {xs : List (List Value)} {lp lp' : Loop}
theorem PbJ.lt (h : PbJ w D G R E gv k cv size av xs lp W) : D + 1 < W.heap.size := (Array.getElem?_eq_some_iff.1 h.lp).1

theorem PbJ.later (h : PbJ w D G R E gv k cv size av xs lp W) (hb : Below W.heap.size W W') : PbJ w D G R E gv k cv size av xs lp W' := by
  have hl := h.lt
  exact ⟨h.bel.trans (hb.mono h.bel.size), h.get.below hb h.get.lt, h.res.below hb h.res.lt, h.ok.below hb h.ok.lt, h.box.below hb h.box.lt, h.own.below hb, h.c1.below hb h.c1.lt, h.c2.below hb h.c2.lt, (hb.block _ hl).trans h.lp, (hb.block _ (by omega)).trans h.df, h.dz⟩

theorem PbJ.put (h : PbJ w D G R E gv k cv size av xs lp W) (lp' : Loop) : PbJ w D G R E gv k cv size av xs lp' (W.putObj (D + 1) (.loop lp')) := by
  have hl := h.lt
  have hz := h.dz
  have hg := grownBy_putObj' W (D + 1) (.loop lp')
  have ho : ∀ q, q ≠ D + 1 → (W.putObj (D + 1) (.loop lp')).heap[q]? = W.heap[q]? := fun q hq => World.putObj_heap_other hq
  exact ⟨h.bel.grown hg h.bel.size fun q hq => by have := Option.some.inj hq; omega, (ho _ (by omega)).trans h.get, (ho _ (by omega)).trans h.res, (ho _ (by omega)).trans h.ok, (ho _ (by omega)).trans h.box, h.own.kept hg (.inr (h.own.ne_ (by omega))), (ho _ (by omega)).trans h.c1, (ho _ (by omega)).trans h.c2, World.putObj_heap_same hl, (ho _ (by omega)).trans h.df, hz⟩

theorem PbJ.done (h : PbJ w D G R E gv k cv size av xs lp W) (v : Value) (o : Bool) :
    ((W.setCell ⟨w.heap.size + 1, 0, none⟩ v).setCell ⟨w.heap.size + 2, 0, none⟩ (.bool o)).heap[D]? = some (.deferred (some [])) ∧
    Below w.heap.size w (((W.setCell ⟨w.heap.size + 1, 0, none⟩ v).setCell ⟨w.heap.size + 2, 0, none⟩ (.bool o)).putObj D (.deferred none)) ∧
    (((W.setCell ⟨w.heap.size + 1, 0, none⟩ v).setCell ⟨w.heap.size + 2, 0, none⟩ (.bool o)).putObj D (.deferred none)).cell? ⟨w.heap.size + 1, 0, none⟩ = some v ∧
    (((W.setCell ⟨w.heap.size + 1, 0, none⟩ v).setCell ⟨w.heap.size + 2, 0, none⟩ (.bool o)).putObj D (.deferred none)).cell? ⟨w.heap.size + 2, 0, none⟩ = some (.bool o) ∧
    OwnL k (((W.setCell ⟨w.heap.size + 1, 0, none⟩ v).setCell ⟨w.heap.size + 2, 0, none⟩ (.bool o)).putObj D (.deferred none)) (D + 2) E av xs := by
  have hl := h.lt
  have hz := h.dz
  have hg1 := grown_set W (w.heap.size + 1) 0 v
  have hg2 := grown_set (W.setCell ⟨w.heap.size + 1, 0, none⟩ v) (w.heap.size + 2) 0 (.bool o)
  have hg3 := grownBy_putObj' ((W.setCell ⟨w.heap.size + 1, 0, none⟩ v).setCell ⟨w.heap.size + 2, 0, none⟩ (.bool o)) D (.deferred none)
  have b1 : Blk (W.setCell ⟨w.heap.size + 1, 0, none⟩ v) (w.heap.size + 1) R #[v] := by
    have := h.res.set_ 0 v
    simpa using this
  have b2 : Blk ((W.setCell ⟨w.heap.size + 1, 0, none⟩ v).setCell ⟨w.heap.size + 2, 0, none⟩ (.bool o)) (w.heap.size + 1) R #[v] := (hg2.block _ (by have := hg1.size; omega) fun e => by have := Option.some.inj e; omega).trans b1
  have c1 : Blk (W.setCell ⟨w.heap.size + 1, 0, none⟩ v) (w.heap.size + 2) 4 #[.bool false] := (hg1.block _ (by omega) fun e => by have := Option.some.inj e; omega).trans h.ok
  have c2 : Blk ((W.setCell ⟨w.heap.size + 1, 0, none⟩ v).setCell ⟨w.heap.size + 2, 0, none⟩ (.bool o)) (w.heap.size + 2) 4 #[.bool o] := by
    have := c1.set_ 0 (.bool o)
    simpa using this
  have b3 : Blk (((W.setCell ⟨w.heap.size + 1, 0, none⟩ v).setCell ⟨w.heap.size + 2, 0, none⟩ (.bool o)).putObj D (.deferred none)) (w.heap.size + 1) R #[v] := (World.putObj_heap_other (by omega)).trans b2
  have c3 : Blk (((W.setCell ⟨w.heap.size + 1, 0, none⟩ v).setCell ⟨w.heap.size + 2, 0, none⟩ (.bool o)).putObj D (.deferred none)) (w.heap.size + 2) 4 #[.bool o] := (World.putObj_heap_other (by omega)).trans c2
  have hB1 := h.bel.grown hg1 h.bel.size fun q hq => by have := Option.some.inj hq; omega
  have hB2 := hB1.grown hg2 hB1.size fun q hq => by have := Option.some.inj hq; omega
  have hB3 := hB2.grown hg3 hB2.size fun q hq => by have := Option.some.inj hq; omega
  have hd : ((W.setCell ⟨w.heap.size + 1, 0, none⟩ v).setCell ⟨w.heap.size + 2, 0, none⟩ (.bool o)).heap[D]? = some (.deferred (some [])) := (hg2.block D (by have := hg1.size; omega) fun e => by have := Option.some.inj e; omega).trans ((hg1.block D (by omega) fun e => by have := Option.some.inj e; omega).trans h.df)
  exact ⟨hd, hB3, by simpa using b3.cell 0, by simpa using c3.cell 0, ((h.own.kept hg1 (.inr (h.own.ne_ (by omega)))).kept hg2 (.inr (h.own.ne_ (by omega)))).kept hg3 (.inr (h.own.ne_ (by omega)))⟩

end

def meCl (m : Me) : List Value := [.int .u64 m.id, .int .i64 m.lv, .int .i64 m.st, .int .i64 m.en, .int .i64 m.pg, .int .i64 m.tr]

def mkCl (m : Mk) : List Value := [.int .u64 m.id, .int .i64 m.at_, .int .u64 m.by_]

theorem Mes.of_own {w : World} {B : Nat} {e : TypeId} {v : Value} {l : List Me} (h : OwnL 6 w B e v (l.map meCl)) (ho : ∀ m ∈ l, m.ok) : Mes w v l :=
  ⟨_, h.lv, by simp, fun i a b h1 h2 => by
    rw [List.getElem?_map, h1] at h2
    exact ⟨ho a (List.mem_of_getElem? h1), (Option.some.inj h2).symm⟩⟩

theorem Mks.of_own {w : World} {B : Nat} {e : TypeId} {v : Value} {l : List Mk} (h : OwnL 3 w B e v (l.map mkCl)) (ho : ∀ m ∈ l, m.ok) : Mks w v l :=
  ⟨_, h.lv, by simp, fun i a b h1 h2 => by
    rw [List.getElem?_map, h1] at h2
    exact ⟨ho a (List.mem_of_getElem? h1), (Option.some.inj h2).symm⟩⟩


end Go.Proofs.YtgafidnbmoomiaaGreatDoor
