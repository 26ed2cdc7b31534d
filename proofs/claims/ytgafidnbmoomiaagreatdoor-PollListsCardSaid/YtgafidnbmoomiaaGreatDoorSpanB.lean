/-
  CONTRACTS of span.Compare, span.Same and of the document's Ahead, Same.
  LISTS OF SPANS, as slices; CONTRACTS of the document's Few, of span.one and span.Put.
  SPANS ALL OF THE CALL's OWN, their Data, too ('Acc'). No condition.
-/
import Derived.Test.YtgafidnbmoomiaaGreatDoorSpanA
import Derived.Test.YtgafidnbmoomiaaGreatDoorLs
namespace Go.Proofs.YtgafidnbmoomiaaGreatDoor
open Go.RowKit

def cmpS (a b : Sn) : Int := orI (cmpI a.st b.st) (cmpI a.id b.id) (cmpI a.tr b.tr)

def sameB (a b : Sn) : Bool := decide (a.tr = b.tr) && (decide (a.id = b.id) && (decide (a.st = b.st) && (decide (a.en = b.en) && decide (a.data = b.data))))

theorem cmpI_zero (a b : Int) : cmpI a b = 0 ↔ a = b := by
  unfold cmpI
  split
  · omega
  · split <;> omega

theorem cmpS_zero (a b : Sn) : cmpS a b = 0 ↔ a.st = b.st ∧ a.id = b.id ∧ a.tr = b.tr := by
  have h1 := cmpI_zero a.st b.st
  have h2 := cmpI_zero a.id b.id
  have h3 := cmpI_zero a.tr b.tr
  unfold cmpS orI
  split
  · rename_i h
    simp [h, ← h1]
  · rename_i h
    split
    · rename_i h'
      simp [h', ← h2]
    · rename_i h'
      rw [h3]
      have e1 : a.st = b.st := h1.1 (by omega)
      have e2 : a.id = b.id := h2.1 (by omega)
      simp [e1, e2]

def Ss (w : World) (v : Value) (l : List Sn) : Prop := ∃ xs, Lv 5 w v xs ∧ Two (SpC w) l xs

section
variable {w w' : World} {v : Value} {l : List Sn}
theorem Ss.nil (w : World) : Ss w (.slice none 0 0) [] := ⟨[], Lv.nil 5 w, Two.nil⟩

theorem Ss.below (h : Ss w v l) (hb : Below w.heap.size w w') : Ss w' v l := by
  obtain ⟨xs, h1, h2⟩ := h
  exact ⟨xs, h1.below hb, h2.mono fun _ _ h => h.below hb⟩

theorem Ss.alloc (h : Ss w v l) (o : Obj) : Ss (w.alloc o) v l := h.below ((Below.refl _ _).alloc (Nat.le_refl _) o)

theorem Ss.drewN (h : Ss w v l) (n : Nat) : Ss (w.drewN n) v l := h

theorem Ss.drew (h : Ss w v l) : Ss w.drew v l := h

theorem Ss.form (h : Ss w v l) : ∃ A c, v = .slice A l.length c ∧ l.length ≤ c ∧ c ≤ 9223372036854775807 := by
  obtain ⟨xs, h1, h2⟩ := h
  obtain ⟨A, c, hv, h3, h4⟩ := h1.form
  rw [← h2.len] at hv h3
  exact ⟨A, c, hv, h3, h4⟩

theorem Ss.ok (h : Ss w v l) {i : Nat} {s : Sn} (hi : l[i]? = some s) : s.ok := by
  obtain ⟨xs, h1, h2⟩ := h
  obtain ⟨x, _, hx⟩ := h2.right hi
  exact hx.1

theorem Ss.cells {A : Option Addr} {n c : Nat} (h : Ss w (.slice A n c) l) {i : Nat} {s : Sn} (hi : l[i]? = some s) :
    ∃ g o d, A = some ⟨g, o, none⟩ ∧ g < w.heap.size ∧ w.cell? ⟨g, o + i * 5, none⟩ = some (.int .u64 s.tr) ∧ w.cell? ⟨g, o + i * 5 + 1, none⟩ = some (.int .u64 s.id) ∧ w.cell? ⟨g, o + i * 5 + 2, none⟩ = some (.int .i64 s.st) ∧
      w.cell? ⟨g, o + i * 5 + 3, none⟩ = some (.int .i64 s.en) ∧ w.cell? ⟨g, o + i * 5 + 4, none⟩ = some d ∧ Bs w d s.data ∧ s.ok := by
  obtain ⟨xs, h1, h2⟩ := h
  obtain ⟨x, hx, hok, d, rfl, hd⟩ := h2.right hi
  obtain ⟨g, o, hA, hg, hc⟩ := h1.cells (by omega) hx
  exact ⟨g, o, d, hA, hg, hc 0 _ rfl, hc 1 _ rfl, hc 2 _ rfl, hc 3 _ rfl, hc 4 _ rfl, hd, hok⟩

end

def encOne (s : Sn) : List UInt8 := bet s.tr.toNat 8 ++ (bet s.id.toNat 8 ++ (bet s.st.toNat 8 ++ (bet s.en.toNat 8 ++ (bet s.data.length 2 ++ s.data))))

theorem encOne_length (s : Sn) : (encOne s).length = 34 + s.data.length := by
  simp [encOne, bet_length]
  omega

theorem may_bounds {s : Sn} (h : mayB s = true) : 0 ≤ s.st ∧ s.st ≤ s.en ∧ s.en ≤ 1099511627776 ∧ s.data.length ≤ 64 := by
  simpa [mayB] using h

def SpO (w : World) (base : Nat) (row : Option Nat) (s : Sn) (x : List Value) : Prop := s.ok ∧ ∃ d, x = spCells s d ∧ Own w base 5 d s.data ∧ (d.ownBlock = none ∨ d.ownBlock ≠ row)

section
variable {w w' : World} {base : Nat} {v : Value} {l : List Sn}
end

end Go.Proofs.YtgafidnbmoomiaaGreatDoor
