/-
  SLICES OF THE CALL's OWN, apart from bad blocks; a byte of one; over any program. No condition but what each theorem says.
-/
import Derived.Test.YtpcaecnkdcobmaaKee
namespace Go.Proofs.Ytpcaecnkdcobmaa
open Go.RowKit

theorem below_apt {B : Nat} {w w1 w2 : World} {F : Nat → Prop} (h : Below B w w1) (ha : Apt F w1 w2) (hF : ∀ q, F q → B ≤ q) (hB : B ≤ w1.heap.size) : Below B w w2 :=
  ⟨ha.os.trans h.os, ha.tape.trans h.tape, ha.output.trans h.output, Nat.le_trans h.size ha.size, fun g hg => (ha.block g (by omega) fun e => by have := hF g e; omega).trans (h.block g hg)⟩
theorem Apt.mono {bad bad' : Nat → Prop} {w w' : World} (h : Apt bad w w') (hb : ∀ q, q < w.heap.size → bad q → bad' q) : Apt bad' w w' := ⟨h.os, h.tape, h.output, h.size, fun g hg hn => h.block g hg fun e => hn (hb g hg e)⟩
theorem OwnL.apt {bad : Nat → Prop} {k : Nat} {w w' : World} {base : Nat} {e : TypeId} {v : Value} {xs : List (List Value)} (h : OwnL k w base e v xs) (ha : Apt bad w w') (hb : ∀ q, v.ownBlock = some q → ¬ bad q) : OwnL k w' base e v xs := by
  refine ⟨⟨h.1.1, ?_⟩, h.2⟩
  rcases h.1.2 with h0 | ⟨g, cap, cur, hv, hg, hr, hrest⟩
  · exact .inl h0
  · refine .inr ⟨g, cap, cur, hv, hg, ?_, hrest⟩
    have hlt := (Array.getElem?_eq_some_iff.1 hr).1
    exact (ha.block g hlt (hb g (by rw [hv]; rfl))).trans hr
theorem Own.apt {bad : Nat → Prop} {w w' : World} {base : Nat} {e : TypeId} {v : Value} {l : List UInt8} (h : Own w base e v l) (ha : Apt bad w w') (hb : ∀ q, v.ownBlock = some q → ¬ bad q) : Own w' base e v l := by
  refine ⟨h.1, ?_⟩
  rcases h.2 with h0 | ⟨g, cap, cur, hv, hg, hr, hrest⟩
  · exact .inl h0
  · refine .inr ⟨g, cap, cur, hv, hg, ?_, hrest⟩
    have hlt := (Array.getElem?_eq_some_iff.1 hr).1
    exact (ha.block g hlt (hb g (by rw [hv]; rfl))).trans hr

theorem Own.blk_lt {w : World} {base : Nat} {e : TypeId} {v : Value} {l : List UInt8} (h : Own w base e v l) : ∀ z, v.ownBlock = some z → z < w.heap.size := fun z hz => (World.ownsRow.lt h z hz).2
/-- a byte of a slice of the call's own -/
theorem Own.put_ {w : World} {base q n c : Nat} {e : TypeId} {l : List UInt8} (h : Own w base e (.slice (some ⟨q, 0, none⟩) n c) l) (j : Nat) (z : UInt8) :
    Own (w.setCell ⟨q, j, none⟩ (.int .u8 (z.toNat : Int))) base e (.slice (some ⟨q, 0, none⟩) n c) (l.set j z) ∧ w.grownBy (w.setCell ⟨q, j, none⟩ (.int .u8 (z.toNat : Int))) (some q) := by
  obtain ⟨A, c', e', _⟩ := h.form
  injection e' with e1 e2 e3
  subst e2
  have e4 : BV (l.set j z) = (BV l).set j (.int .u8 (z.toNat : Int)) := by simp [BV, List.map_set]
  obtain ⟨h1, h2⟩ := World.ownsRow.stored h j (.int .u8 (z.toNat : Int))
  refine ⟨?_, h2⟩
  unfold Own
  rw [List.length_set, e4]
  exact h1
/-- a byte, one more -/
theorem byte_next (yn : Nat) : ∃ z : UInt8, (z.toNat : Int) = ((yn : Int) + 1) % 256 := ⟨UInt8.ofNat ((yn + 1) % 256), by
  rw [UInt8.toNat_ofNat', Nat.mod_eq_of_lt (by omega)]
  omega⟩
/-- the cell of one byte of it -/
theorem Own.byte {w : World} {base n c : Nat} {e : TypeId} {A : Option Addr} {l : List UInt8} (h : Own w base e (.slice A n c) l) {j : Nat} (hj : j < n) :
    ∃ (q yn : Nat), A = some ⟨q, 0, none⟩ ∧ base ≤ q ∧ yn < 256 ∧ w.cell? ⟨q, j, none⟩ = some (.int .u8 (yn : Int)) ∧ w.frozen? ⟨q, j, none⟩ = false := by
  have h0 := h
  obtain ⟨A', c', e', _⟩ := h.form
  injection e' with e1 e2 e3
  subst e2
  rcases h.2 with ⟨e0, _⟩ | ⟨q, cap, cur, e0, hq, hb, _⟩
  · injection e0 with _ e4
    omega
  · injection e0 with ea
    subst ea
    obtain ⟨y, hy⟩ : ∃ y, l[j]? = some y := ⟨_, List.getElem?_eq_getElem hj⟩
    refine ⟨q, y.toNat, rfl, hq, y.toNat_lt, ?_, by simp [World.frozen?, hb]⟩
    have := h0.rd.cells j (.int .u8 (y.toNat : Int)) (by rw [BV_getElem?, hy]; rfl)
    rw [Addr.add_lit, Nat.zero_add] at this
    exact this
end Go.Proofs.Ytpcaecnkdcobmaa
