/-
  TWO THINGS SIDE BY SIDE in memory, each in its blocks, apart from each other and from whatever X speaks of; over any program. No condition but what each theorem says.
-/
import Derived.Test.YtpcaecnkdcobmaaKee2
namespace Go.Proofs.Ytpcaecnkdcobmaa
open Go.RowKit

/-- R w F: in the world w a thing stands in the blocks F, and stays while these do -/
structure Thing (R : World → (Nat → Prop) → Prop) : Prop where
  keep : ∀ {w w' : World} {F : Nat → Prop}, R w F → Apt (fun q => ¬ F q) w w' → R w' F
  lt : ∀ {w : World} {F : Nat → Prop}, R w F → ∀ q, F q → q < w.heap.size

/-- in the world w, a later one than w0: A stands in F, B in G, and X holds, whatever they do -/
structure W2 (X : World → Prop) (w0 w : World) (A : World → (Nat → Prop) → Prop) (F : Nat → Prop) (B : World → (Nat → Prop) → Prop) (G : Nat → Prop) : Prop where
  below : Below w0.heap.size w0 w
  a : A w F
  b : B w G
  fge : ∀ q, F q → w0.heap.size ≤ q
  gge : ∀ q, G q → w0.heap.size ≤ q
  ne : ∀ q, F q → ¬ G q
  kx : Keep (fun q => F q ∨ G q) X w

section
variable {X X' : World → Prop} {w0 w w' : World} {A A' B B' : World → (Nat → Prop) → Prop} {F F' G G' : Nat → Prop}
/-- what A does -/
theorem W2.stepA (h : W2 X w0 w A F B G) (hA : Thing A) (hB : Thing B) (hp : A' w' F') (ha : Apt F w w') (hn : ∀ q, F' q → F q ∨ w.heap.size ≤ q) : W2 X w0 w' A' F' B G := by
  have _ := hA
  refine ⟨below_apt h.below ha h.fge h.below.size, hp, hB.keep h.b (ha.mono fun q _ hF hG => h.ne q hF hG), fun q hq => ?_, h.gge, fun q hq hG => ?_, h.kx.go (ha.mono fun q _ hq => .inl hq) fun q hq => ?_⟩
  · rcases hn q hq with h1 | h1
    · exact h.fge q h1
    · exact Nat.le_trans h.below.size h1
  · rcases hn q hq with h1 | h1
    · exact h.ne q h1 hG
    · have := hB.lt h.b q hG
      omega
  · rcases hq with hq | hq
    · rcases hn q hq with h1 | h1
      · exact .inl (.inl h1)
      · exact .inr h1
    · exact .inl (.inr hq)
/-- what B does -/
theorem W2.stepB (h : W2 X w0 w A F B G) (hA : Thing A) (hp : B' w' G') (ha : Apt G w w') (hn : ∀ q, G' q → G q ∨ w.heap.size ≤ q) : W2 X w0 w' A F B' G' := by
  refine ⟨below_apt h.below ha h.gge h.below.size, hA.keep h.a (ha.mono fun q _ hG hF => h.ne q hF hG), hp, h.fge, fun q hq => ?_, fun q hq hG => ?_, h.kx.go (ha.mono fun q _ hq => .inr hq) fun q hq => ?_⟩
  · rcases hn q hq with h1 | h1
    · exact h.gge q h1
    · exact Nat.le_trans h.below.size h1
  · rcases hn q hG with h1 | h1
    · exact h.ne q hq h1
    · have := hA.lt h.a q hq
      omega
  · rcases hq with hq | hq
    · exact .inl (.inl hq)
    · rcases hn q hq with h1 | h1
      · exact .inl (.inr h1)
      · exact .inr h1
/-- what is done apart from both: new memory, or a block of its own -/
theorem W2.own {row : Option Nat} (h : W2 X w0 w A F B G) (hA : Thing A) (hB : Thing B) (hg : w.grownBy w' row) (hr : ∀ q, row = some q → w0.heap.size ≤ q ∧ ¬ (F q ∨ G q)) (hX : Keep (fun q => F q ∨ G q) X' w') : W2 X' w0 w' A F B G := by
  have ha : Apt (fun q => row = some q) w w' := Apt.of_grown hg fun q hq => hq
  exact ⟨below_apt h.below ha (fun q hq => (hr q hq).1) h.below.size, hA.keep h.a (ha.mono fun q _ hq hF => (hr q hq).2 (.inl hF)), hB.keep h.b (ha.mono fun q _ hq hG => (hr q hq).2 (.inr hG)), h.fge, h.gge, h.ne, hX⟩
theorem W2.later (h : W2 X w0 w A F B G) (hA : Thing A) (hB : Thing B) (hb : Below w.heap.size w w') : W2 X w0 w' A F B G :=
  h.own (row := none) hA hB (grown_of_below hb _) (fun q hq => by cases hq) (h.kx.below hb)
theorem W2.say (h : W2 X w0 w A F B G) (hX : Keep (fun q => F q ∨ G q) X' w) : W2 X' w0 w A F B G := ⟨h.below, h.a, h.b, h.fge, h.gge, h.ne, hX⟩
theorem W2.x (h : W2 X w0 w A F B G) : X w := h.kx.here
theorem W2.bad_lt (h : W2 X w0 w A F B G) (hA : Thing A) (hB : Thing B) : ∀ q, (F q ∨ G q) → q < w.heap.size := fun q hq => hq.elim (hA.lt h.a q) (hB.lt h.b q)
theorem W2.bad_ge (h : W2 X w0 w A F B G) : ∀ q, (F q ∨ G q) → w0.heap.size ≤ q := fun q hq => hq.elim (h.fge q) (h.gge q)
/-- what is apart stays apart -/
theorem apart_two {ov : Value} {n : Nat} (h : ∀ z, ov.ownBlock = some z → ¬ (F z ∨ G z)) (hlt : ∀ z, ov.ownBlock = some z → z < n) (hF : ∀ q, F' q → F q ∨ n ≤ q) (hG : ∀ q, G' q → G q ∨ n ≤ q) : ∀ z, ov.ownBlock = some z → ¬ (F' z ∨ G' z) := fun z hz hb => by
  have h1 := hlt z hz
  rcases hb with hb | hb
  · rcases hF z hb with h2 | h2
    · exact h z hz (.inl h2)
    · omega
  · rcases hG z hb with h2 | h2
    · exact h z hz (.inr h2)
    · omega
end
end Go.Proofs.Ytpcaecnkdcobmaa
