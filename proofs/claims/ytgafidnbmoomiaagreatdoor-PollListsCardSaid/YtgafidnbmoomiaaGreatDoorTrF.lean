/-
  LISTS OF TRACES, as slices; CONTRACTS of the document's Spans (are spans the same?), Traces, FewTraces, Flat, and of trace.Flat. Conditions: at most 10000000 spans, Data of at most 1000000 bytes.
  SLICES OF SLICES OF TRACES ('TsV' in 'Sls'). No condition but what each theorem says.
-/
import Derived.Test.YtgafidnbmoomiaaGreatDoorTrC
import Derived.Test.YtgafidnbmoomiaaGreatDoorUs
namespace Go.Proofs.YtgafidnbmoomiaaGreatDoor
open Go.RowKit
set_option maxRecDepth 100000


theorem same_iff (a b : Sn) : sameB a b = true ↔ a = b := by
  obtain ⟨t, i, s, e, d⟩ := a
  obtain ⟨t', i', s', e', d'⟩ := b
  simp only [sameB, Bool.and_eq_true, decide_eq_true_iff, Sn.mk.injEq]

structure Tn where
  id : Int
  sp : List Sn

def TnC (w : World) (t : Tn) (x : List Value) : Prop := (0 ≤ t.id ∧ t.id ≤ 18446744073709551615) ∧ ∃ d, x = [.int .u64 t.id, d] ∧ Ss w d t.sp

def Ts (w : World) (v : Value) (l : List Tn) : Prop := ∃ xs, Lv 2 w v xs ∧ Two (TnC w) l xs

section
variable {w w' : World} {v : Value} {l : List Tn} {t : Tn} {x : List Value}
theorem TnC.below (h : TnC w t x) (hb : Below w.heap.size w w') : TnC w' t x := by
  obtain ⟨ho, d, hx, hd⟩ := h
  exact ⟨ho, d, hx, hd.below hb⟩

theorem Ts.below (h : Ts w v l) (hb : Below w.heap.size w w') : Ts w' v l := by
  obtain ⟨xs, h1, h2⟩ := h
  exact ⟨xs, h1.below hb, h2.mono fun _ _ h => h.below hb⟩

theorem Ts.nil (w : World) : Ts w (.slice none 0 0) [] := ⟨[], Lv.nil 2 w, Two.nil⟩

theorem Ts.form (h : Ts w v l) : ∃ A c, v = .slice A l.length c ∧ l.length ≤ c ∧ c ≤ 9223372036854775807 := by
  obtain ⟨xs, h1, h2⟩ := h
  obtain ⟨A, c, hv, h3, h4⟩ := h1.form
  rw [← h2.len] at hv h3
  exact ⟨A, c, hv, h3, h4⟩

theorem Ts.cells {A : Option Addr} {n c : Nat} (h : Ts w (.slice A n c) l) {i : Nat} {t : Tn} (hi : l[i]? = some t) :
    ∃ g o d, A = some ⟨g, o, none⟩ ∧ g < w.heap.size ∧ w.cell? ⟨g, o + i * 2, none⟩ = some (.int .u64 t.id) ∧ w.cell? ⟨g, o + i * 2 + 1, none⟩ = some d ∧ Ss w d t.sp ∧ 0 ≤ t.id ∧ t.id ≤ 18446744073709551615 := by
  obtain ⟨xs, h1, h2⟩ := h
  obtain ⟨x, hx, hok, d, rfl, hd⟩ := h2.right hi
  obtain ⟨g, o, hA, hg, hc⟩ := h1.cells (by omega) hx
  exact ⟨g, o, d, hA, hg, hc 0 _ rfl, hc 1 _ rfl, hd, hok.1, hok.2⟩

end

def flatT (l : List Tn) : List Sn := l.flatMap fun t => t.sp

end Go.Proofs.YtgafidnbmoomiaaGreatDoor
