/-
  CONTRACTS of the program's block.May, told, filtered, indexed. Conditions: what each says.
  CONTRACTS of the program's block.indexed, filtered, objects, Make: what is put of a block. Conditions: what each says; of the library's tables: Ld.
  CONTRACTS of the program's block.objects: what is put of a block. Conditions: what each says; of the library's tables: Ld.
  CONTRACT of the program's block.Make. Conditions: at most 200 traces; of the library's tables: Ld.
-/
import Derived.Test.YtgafidnbmoomiaaGreatDoorBkA
import Derived.Test.YtgafidnbmoomiaaGreatDoorMtA
namespace Go.Proofs.YtgafidnbmoomiaaGreatDoor
open Go.RowKit
set_option maxRecDepth 100000

structure TdM (w : World) (g6 g8 : Nat) (id lv a b n : Int) (u : World) : Prop where
  res : Blk u g6 85 #[.int .u64 0, .int .i64 0, .int .i64 0, .int .i64 0, .int .i64 0, .int .i64 0]
  m : Blk u g8 85 #[.int .u64 id, .int .i64 lv, .int .i64 a, .int .i64 b, .int .i64 0, .int .i64 n]
  bel : Below w.heap.size w u
  h6 : w.heap.size ≤ g6
  h8 : w.heap.size ≤ g8
  ne : g6 ≠ g8

section
variable {w u : World} {g6 g8 : Nat} {id lv a b n : Int}
theorem TdM.alloc (h : TdM w g6 g8 id lv a b n u) (o : Obj) : TdM w g6 g8 id lv a b n (u.alloc o) := ⟨h.res.alloc o, h.m.alloc o, h.bel.alloc h.bel.size o, h.h6, h.h8, h.ne⟩

end

section
variable {w u u' : World} {g4 g7 : Nat} {C4 C7 : Array Value}
end

section
variable {α : Type} {k : Nat} {w : World} {base : Nat} {e : TypeId} {bad : Nat → Prop} {E : World → α → List Value → Prop} {v : Value} {l : List α}
end
section
variable {w u : World} {base base' : Nat} {v : Value} {l : List Ob} {bad : Nat → Prop}
end


abbrev meZ : Array Value := #[.int .u64 0, .int .i64 0, .int .i64 0, .int .i64 0, .int .i64 0, .int .i64 0]

section
variable {w u u' : World} {g7 g9 : Nat} {C7 C9 : Array Value}
end

end Go.Proofs.YtgafidnbmoomiaaGreatDoor
