/-
  CONTRACT of the program's block.Write. Conditions: at most 200 traces; of the library's tables: Ld.
  CONTRACT of the document's Write. Conditions: at most 200 traces, 10000000 spans.
  A program's store beside a document's, the same; block.Write without a store. Conditions: what each says.
-/
import Derived.Test.YtgafidnbmoomiaaGreatDoorBkJ
import Derived.Test.YtgafidnbmoomiaaGreatDoorBkA
import Derived.Test.YtgafidnbmoomiaaGreatDoorStG
namespace Go.Proofs.YtgafidnbmoomiaaGreatDoor
open Go.RowKit
set_option maxRecDepth 100000

theorem Goes.newset {w0 w1 w2 : World} {F0 F1 : Nat → Prop} {g : Nat} (h : Goes w0 F0 w1 F1) (hg : w1.grownBy w2 (some g)) (hn : w0.heap.size ≤ g) : Goes w0 F0 w2 F1 :=
  ⟨⟨hg.os.trans h.apt.os, hg.tape.trans h.apt.tape, hg.output.trans h.apt.output, Nat.le_trans h.apt.size hg.size, fun q hq hF => (hg.block q (Nat.lt_of_lt_of_le hq h.apt.size) fun e => by have := Option.some.inj e; omega).trans (h.apt.block q hq hF)⟩, h.new⟩

def yF (g : Nat) (v : Value) : Nat → Prop := fun q => q = g ∨ v.ownBlock = some q

theorem DS.set9 {w w' : World} {base g q : Nat} {v : Value} {m : Sm} (h : DS w base g v m) (hg : w.grownBy w' (some q)) (hn : ¬ yF g v q) : DS w' base g v m :=
  ⟨h.blk.grown hg fun e => hn (.inl (Option.some.inj e).symm), h.row.kept hg (by
    cases hv : v.ownBlock with
    | none => exact .inl rfl
    | some z => exact .inr fun e => hn (.inr (by rw [hv, e]))), h.ne, h.ge⟩

theorem keepBlk {bad : Nat → Prop} {w : World} {g : Nat} {t : TypeId} {cs : Array Value} (h : Blk w g t cs) (hn : ¬ bad g) : Keep bad (fun u => Blk u g t cs) w := fun _ ha => (ha.block g h.lt hn).trans h

theorem Keep.and {bad : Nat → Prop} {φ ψ : World → Prop} {w : World} (h : Keep bad φ w) (k : Keep bad ψ w) : Keep bad (fun u => φ u ∧ ψ u) w := fun u ha => ⟨h u ha, k u ha⟩

abbrev stA (g : Nat) (m : Sm) : World → (Nat → Prop) → Prop := fun w F => PSt w F g m

def stB (base g : Nat) (m : Sm) : World → (Nat → Prop) → Prop := fun w G => ∃ v, DS w base g v m ∧ G = yF g v

theorem stA_thing (g : Nat) (m : Sm) : Thing (stA g m) := ⟨fun h ha => h.keep ha, fun h => h.lt⟩

theorem stB_thing (base g : Nat) (m : Sm) : Thing (stB base g m) := ⟨fun ⟨v, h, e⟩ ha => ⟨v, by
    subst e
    exact ⟨(ha.block g h.blk.lt fun hn => hn (.inl rfl)).trans h.blk, h.row.apt ha fun q hq hn => hn (.inr hq), h.ne, h.ge⟩, e⟩, fun ⟨v, h, e⟩ q hq => by
    subst e
    rcases hq with hq | hq
    · rw [hq]; exact h.blk.lt
    · exact h.row.lt q hq⟩

theorem Kept.start (room : Int) (h : 1 ≤ room) (n : Int) : Kept (failS ⟨room, -1, 0, []⟩ n) := ⟨Rise.nil, (fun o ho => by cases ho), by show ((usedL [] : Nat) : Int) ≤ room; simp [usedL]; omega⟩

theorem fine_start (room : Int) (h0 : 1 ≤ room) (h1 : room ≤ 1048576) : (⟨room, -1, 0, []⟩ : Sm).fine 0 := ⟨by show 0 ≤ room; omega, h1, by show (-1 : Int) ≤ -1; omega, by show (-1 : Int) ≤ 9223372036854775807; omega, by show (0 : Int) ≤ 0; omega, by show (0 : Int) ≤ ((0 : Nat) : Int); omega, by show 0 ≤ 0; omega, by show usedL [] ≤ 1048576; simp [usedL]⟩

theorem left_call {m : Sm} (h : m.left = -1) : callB m = true ∧ (callS m).left = -1 := by
  refine ⟨by rw [callB, h]; rfl, ?_⟩
  show (if m.left ≤ 0 then (-1 : Int) else m.left - 1) = -1
  rw [h]
  rfl

theorem sPut_left1 {m : Sm} {n b : List UInt8} (h : m.left = -1) : (sPut m n b).1.left = -1 := by
  have := (left_call h).2
  unfold sPut
  repeat' split
  all_goals exact this

end Go.Proofs.YtgafidnbmoomiaaGreatDoor
