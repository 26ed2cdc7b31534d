/-
  THE DOCUMENT's FILTER in memory ('DBq': rows of bits, each in a block of its own), and CONTRACTS of its Right and New. Conditions: what each says.
  THE DOCUMENT's FILTER: CONTRACTS of Places, Add, Has. Conditions: what each says.
  THE DOCUMENT's FILTER: CONTRACTS of Add, Has. Conditions: what each says.
  THE DOCUMENT's FILTER: the CONTRACT of New. Conditions: what it says.
  THE DOCUMENT's FILTER: the CONTRACT of Bytes. Conditions: what it says.
-/
import Derived.Test.YtfaefacefdkjdaaGreatDoorBlA
import Derived.Deep.DeepCutAuto
namespace Go.Proofs.YtfaefacefdkjdaaGreatDoor
open Go.RowKit
set_option maxRecDepth 100000

def bC (x : Bool) : List Value := [.bool x]
def DRow (w : World) (q n : Nat) (B : Nat → Bool) : Prop := OwnL 1 w 0 4 (.slice (some ⟨q, 0, none⟩) n n) ((List.range n).map fun p => bC (B p))
def rowsC (s n : Nat) (q : Nat → Nat) : List (List Value) := (List.range s).map fun i => [.slice (some ⟨q i, 0, none⟩) n n]
section
variable {w w' : World} {q n : Nat} {B B' : Nat → Bool}
theorem DRow.lt (h : DRow w q n B) : q < w.heap.size := OwnL.lt h q rfl
theorem DRow.kept {row : Option Nat} (h : DRow w q n B) (hg : w.grownBy w' row) (hr : row ≠ some q) : DRow w' q n B := OwnL.kept h hg (.inr fun e => hr (by simpa [Value.ownBlock] using e.symm))
theorem DRow.apt {bad : Nat → Prop} (h : DRow w q n B) (ha : Apt bad w w') (hb : ¬ bad q) : DRow w' q n B := OwnL.apt h ha fun z hz => by
  have : z = q := by simpa [Value.ownBlock] using hz.symm
  rwa [this]
theorem DRow.same (h : DRow w q n B) (he : ∀ p, p < n → B' p = B p) : DRow w q n B' := by
  unfold DRow at h ⊢
  rwa [List.map_congr_left fun p hp => by rw [he p (List.mem_range.1 hp)]]
theorem DRow.cell (h : DRow w q n B) {p : Nat} (hp : p < n) : w.cell? ⟨q, p, none⟩ = some (.bool (B p)) ∧ w.frozen? ⟨q, p, none⟩ = false := by
  obtain ⟨g, o, e, _, hc⟩ := (OwnL.lv h).cells (by omega) (i := p) (x := bC (B p)) (by rw [List.getElem?_map, List.getElem?_range hp]; rfl)
  injection e with e
  injection e with e1 e2
  subst e1 e2
  refine ⟨by simpa using hc 0 _ rfl, ?_⟩
  rcases OwnL.at_ h with ⟨e, _⟩ | ⟨g', c', e, _, _, _, _, hf⟩
  · cases e
  · injection e with e
    injection e with e
    injection e with e
    subst e
    exact hf p
theorem DRow.put_ (h : DRow w q n B) {p : Nat} (hp : p < n) (v : Bool) : DRow (w.setCell ⟨q, p, none⟩ (.bool v)) q n (fun z => if z = p then v else B z) ∧ w.grownBy (w.setCell ⟨q, p, none⟩ (.bool v)) (some q) := by
  obtain ⟨h1, h2⟩ := OwnL.put_ h (i := p) (j := 0) (x := bC (B p)) (by rw [List.getElem?_map, List.getElem?_range hp]; rfl) (by omega) (.bool v)
  rw [show p * 1 + 0 = p by omega] at h1 h2
  refine ⟨?_, h2⟩
  unfold DRow
  have e : ((List.range n).map fun z => bC (B z)).set p ((bC (B p)).set 0 (.bool v)) = (List.range n).map fun z => bC (if z = p then v else B z) := by
    refine List.ext_getElem? fun z => ?_
    rw [List.getElem?_set, List.getElem?_map, List.getElem?_map]
    rcases Nat.lt_or_ge z n with hz | hz
    · rw [List.getElem?_range hz]
      by_cases e : p = z
      · subst e
        rw [if_pos rfl, if_pos (by simpa using hp)]
        simp [bC]
      · rw [if_neg e]
        have : ¬ z = p := fun h => e h.symm
        simp [this]
    · rw [if_neg (by omega), List.getElem?_eq_none (by simpa using hz)]
      rfl
  rw [← e]
  exact h1
end

structure DBq (w : World) (g r c : Nat) (q : Nat → Nat) (s n hs : Nat) (B : Nat → Bool) : Prop where
  blk : Blk w g 150 #[.int .i64 (n : Int), .int .i64 (hs : Int), .slice (some ⟨r, 0, none⟩) s c]
  row : OwnL 1 w 0 151 (.slice (some ⟨r, 0, none⟩) s c) (rowsC s n q)
  bits : ∀ i, i < s → DRow w (q i) n fun p => B (i * n + p)
  gr : g ≠ r
  qg : ∀ i, i < s → q i ≠ g
  qr : ∀ i, i < s → q i ≠ r
  qq : ∀ i j, i < s → j < s → q i = q j → i = j
section
variable {w w' : World} {g r c s n hs : Nat} {q : Nat → Nat} {B B' : Nat → Bool}
theorem DBq.apt {bad : Nat → Prop} (h : DBq w g r c q s n hs B) (ha : Apt bad w w') (hb : ∀ z, bad z → z ≠ g ∧ z ≠ r ∧ ∀ i, i < s → z ≠ q i) : DBq w' g r c q s n hs B :=
  ⟨(ha.block g h.blk.lt fun hn => (hb g hn).1 rfl).trans h.blk, h.row.apt ha fun z hz hn => (hb z hn).2.1 (by simpa [Value.ownBlock] using hz.symm), fun i hi => (h.bits i hi).apt ha fun hn => (hb _ hn).2.2 i hi rfl, h.gr, h.qg, h.qr, h.qq⟩
theorem DBq.below (h : DBq w g r c q s n hs B) (hb : Below w.heap.size w w') : DBq w' g r c q s n hs B := h.apt (bad := fun _ => False) (Apt.of_below hb) fun _ h => h.elim
theorem DBq.same (h : DBq w g r c q s n hs B) (he : ∀ z, z < s * n → B' z = B z) : DBq w g r c q s n hs B' :=
  ⟨h.blk, h.row, fun i hi => (h.bits i hi).same fun _ hp => he _ (shard_lt hi hp), h.gr, h.qg, h.qr, h.qq⟩
theorem DBq.put_ (h : DBq w g r c q s n hs B) {i p : Nat} (hi : i < s) (hp : p < n) (v : Bool) (B' : Nat → Bool) (hB : ∀ z, z < s * n → B' z = if z = i * n + p then v else B z) :
    DBq (w.setCell ⟨q i, p, none⟩ (.bool v)) g r c q s n hs B' ∧ w.grownBy (w.setCell ⟨q i, p, none⟩ (.bool v)) (some (q i)) := by
  obtain ⟨h1, h2⟩ := (h.bits i hi).put_ hp v
  refine ⟨⟨h.blk.far (fun e => h.qg i hi e.symm) _, h.row.kept h2 (.inr fun e => h.qr i hi (by simpa [Value.ownBlock] using e.symm)), fun j hj => ?_, h.gr, h.qg, h.qr, h.qq⟩, h2⟩
  by_cases e : j = i
  · subst e
    refine h1.same fun z hz => ?_
    rw [hB _ (shard_lt hj hz)]
    by_cases e : z = p
    · subst e
      simp
    · rw [if_neg (by omega), if_neg e]
  · refine ((h.bits j hj).kept h2 fun e' => e (h.qq j i hj hi (by injection e' with e'; exact e'.symm))).same fun z hz => ?_
    rw [hB _ (shard_lt hj hz), if_neg]
    intro e'
    rcases Nat.lt_or_gt_of_ne e with h3 | h3
    · have := Nat.mul_le_mul_right n (show j + 1 ≤ i by omega)
      rw [Nat.succ_mul] at this
      omega
    · have := Nat.mul_le_mul_right n (show i + 1 ≤ j by omega)
      rw [Nat.succ_mul] at this
      omega
end

def DB (w : World) (F : Nat → Prop) (g : Nat) (b : Bl) : Prop := b.Ok ∧ ∃ (r c : Nat) (q : Nat → Nat), DBq w g r c q b.sh b.bits b.hs (bitAt b.set) ∧ ∀ z, F z ↔ z = g ∨ z = r ∨ ∃ i, i < b.sh ∧ z = q i
theorem DB.thing (g : Nat) (b : Bl) : Thing fun w F => DB w F g b where
  keep := fun ⟨h1, r, c, q, h2, h3⟩ ha => ⟨h1, r, c, q, h2.apt ha fun z hz => ⟨fun e => hz ((h3 z).2 (.inl e)), fun e => hz ((h3 z).2 (.inr (.inl e))), fun i hi e => hz ((h3 z).2 (.inr (.inr ⟨i, hi, e⟩)))⟩, h3⟩
  lt := fun ⟨_, r, c, q, h2, h3⟩ z hz => by
    rcases (h3 z).1 hz with rfl | rfl | ⟨i, hi, rfl⟩
    · exact h2.blk.lt
    · exact h2.row.lt _ rfl
    · exact (h2.bits i hi).lt

end Go.Proofs.YtfaefacefdkjdaaGreatDoor

namespace Go.Proofs.YtfaefacefdkjdaaGreatDoor
open Go.RowKit
set_option maxRecDepth 100000

end Go.Proofs.YtfaefacefdkjdaaGreatDoor

namespace Go.Proofs.YtfaefacefdkjdaaGreatDoor
open Go.RowKit
set_option maxRecDepth 100000

end Go.Proofs.YtfaefacefdkjdaaGreatDoor

namespace Go.Proofs.YtfaefacefdkjdaaGreatDoor
open Go.RowKit
set_option maxRecDepth 100000

end Go.Proofs.YtfaefacefdkjdaaGreatDoor

namespace Go.Proofs.YtfaefacefdkjdaaGreatDoor
open Go.RowKit
set_option maxRecDepth 100000

end Go.Proofs.YtfaefacefdkjdaaGreatDoor
