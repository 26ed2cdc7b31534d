/-
  THE DOCUMENT's FILTER in memory ('DBq': rows of bits, each in a block of its own), and CONTRACTS of its Right and New. Conditions: what each says.
  THE DOCUMENT's FILTER: CONTRACTS of Places, Add, Has. Conditions: what each says.
  THE DOCUMENT's FILTER: CONTRACTS of Add, Has. Conditions: what each says.
  THE DOCUMENT's FILTER: the CONTRACT of New. Conditions: what it says.
  THE DOCUMENT's FILTER: the CONTRACT of Bytes. Conditions: what it says.
  THE DOCUMENT's FILTER: the CONTRACT of Filtered. Conditions: what it says.
-/
import Derived.Test.YtgafidnbmoomiaaGreatDoorBlA
import Derived.Deep.DeepCutAuto
namespace Go.Proofs.YtgafidnbmoomiaaGreatDoor
open Go.RowKit
set_option maxRecDepth 100000

def bC (x : Bool) : List Value := [.bool x]

def DRow (w : World) (q n : Nat) (B : Nat → Bool) : Prop := OwnL 1 w 0 4 (.slice (some ⟨q, 0, none⟩) n n) ((List.range n).map fun p => bC (B p))

section
variable {w w' : World} {q n : Nat} {B B' : Nat → Bool}
theorem DRow.lt (h : DRow w q n B) : q < w.heap.size := OwnL.lt h q rfl

theorem DRow.kept {row : Option Nat} (h : DRow w q n B) (hg : w.grownBy w' row) (hr : row ≠ some q) : DRow w' q n B := OwnL.kept h hg (.inr fun e => hr (by simpa [Value.ownBlock] using e.symm))

theorem DRow.apt {bad : Nat → Prop} (h : DRow w q n B) (ha : Apt bad w w') (hb : ¬ bad q) : DRow w' q n B := OwnL.apt h ha fun z hz => by
  have : z = q := by simpa [Value.ownBlock] using hz.symm
  rwa [this]

theorem DRow.same (h : DRow w q n B) (he : ∀ p, p < n → B' p = B p) : DRow w q n B' := by
  unfold DRow at h ⊢
  rwa [List.map_congr_left fun p hp => by rw [he p (List.mem_range.1 hp)]]

theorem DRow.cell (h : DRow w q n B) {p : Nat} (hp : p < n) : w.cell? ⟨q, p, none⟩ = some (.bool (B p)) ∧ w.frozen? ⟨q, p, none⟩ = false := by
  obtain ⟨g, o, e, _, hc⟩ := (OwnL.lv h).cells (by omega) (i := p) (x := bC (B p)) (by rw [List.getElem?_map, List.getElem?_range hp]; rfl)
  injection e with e
  injection e with e1 e2
  subst e1 e2
  refine ⟨by simpa using hc 0 _ rfl, ?_⟩
  rcases OwnL.at_ h with ⟨e, _⟩ | ⟨g', c', e, _, _, _, _, hf⟩
  · cases e
  · injection e with e
    injection e with e
    injection e with e
    subst e
    exact hf p

theorem DRow.put_ (h : DRow w q n B) {p : Nat} (hp : p < n) (v : Bool) : DRow (w.setCell ⟨q, p, none⟩ (.bool v)) q n (fun z => if z = p then v else B z) ∧ w.grownBy (w.setCell ⟨q, p, none⟩ (.bool v)) (some q) := by
  obtain ⟨h1, h2⟩ := OwnL.put_ h (i := p) (j := 0) (x := bC (B p)) (by rw [List.getElem?_map, List.getElem?_range hp]; rfl) (by omega) (.bool v)
  rw [show p * 1 + 0 = p by omega] at h1 h2
  refine ⟨?_, h2⟩
  unfold DRow
  have e : ((List.range n).map fun z => bC (B z)).set p ((bC (B p)).set 0 (.bool v)) = (List.range n).map fun z => bC (if z = p then v else B z) := by
    refine List.ext_getElem? fun z => ?_
    rw [List.getElem?_set, List.getElem?_map, List.getElem?_map]
    rcases Nat.lt_or_ge z n with hz | hz
    · rw [List.getElem?_range hz]
      by_cases e : p = z
      · subst e
        rw [if_pos rfl, if_pos (by simpa using hp)]
        simp [bC]
      · rw [if_neg e]
        have : ¬ z = p := fun h => e h.symm
        simp [this]
    · rw [if_neg (by omega), List.getElem?_eq_none (by simpa using hz)]
      rfl
  rw [← e]
  exact h1

end

section
variable {w w' : World} {g r c s n hs : Nat} {q : Nat → Nat} {B B' : Nat → Bool}
end





theorem Bs.cells {w : World} {A : Option Addr} {n c : Nat} {l : List UInt8} (h : Bs w (.slice A n c) l) (hl : l ≠ []) : ∃ g o, A = some ⟨g, o, none⟩ ∧ g < w.heap.size ∧ ∀ j z, l[j]? = some z → w.cell? ⟨g, o + j, none⟩ = some (.int .u8 (z.toNat : Int)) := by
  obtain ⟨A', c', e, h1, h2, hr⟩ := h
  injection e with e1 e2 e3
  subst e1
  obtain ⟨x, m, rfl⟩ := List.exists_cons_of_ne_nil hl
  obtain ⟨ad, rfl, h0⟩ := hr 0 (.int .u8 (x.toNat : Int)) rfl
  have hz : ad.spot = none := by
    have := World.cell?_spot h0
    simpa [Addr.add] using this
  obtain ⟨g, o, sp⟩ := ad
  have hsp : sp = none := hz
  subst hsp
  refine ⟨g, o, rfl, by have := World.block_lt_of_cell? w _ h0; rw [add_block] at this; exact this, fun j z hj => ?_⟩
  have := hr.cells j (.int .u8 (z.toNat : Int)) (by rw [BV_getElem?, hj]; rfl)
  rwa [Addr.add_lit] at this

end Go.Proofs.YtgafidnbmoomiaaGreatDoor
