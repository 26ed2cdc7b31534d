/-
  METAS AND MARKERS, plain and in memory: slices of them; CONTRACTS of the document's Ids, Metas, Same (of what is the same). Conditions: what each says.
-/
import Derived.Test.YtohcbgchloncmaaUs
import Derived.Deep.DeepCutAuto
namespace Go.Proofs.Ytohcbgchloncmaa
open Go.RowKit
set_option maxRecDepth 100000

/-- a meta -/
structure Me where
  id : Int
  lv : Int
  st : Int
  en : Int
  pg : Int
  tr : Int

/-- its numbers are such as its types have -/
structure Me.ok (m : Me) : Prop where
  id0 : 0 ≤ m.id
  id1 : m.id ≤ 18446744073709551615
  lv0 : -9223372036854775808 ≤ m.lv
  lv1 : m.lv ≤ 9223372036854775807
  st0 : -9223372036854775808 ≤ m.st
  st1 : m.st ≤ 9223372036854775807
  en0 : -9223372036854775808 ≤ m.en
  en1 : m.en ≤ 9223372036854775807
  pg0 : -9223372036854775808 ≤ m.pg
  pg1 : m.pg ≤ 9223372036854775807
  tr0 : -9223372036854775808 ≤ m.tr
  tr1 : m.tr ≤ 9223372036854775807

def Me.zero : Me := ⟨0, 0, 0, 0, 0, 0⟩

/-- as a value -/
def meV (m : Me) : Value := .agg #[.int .u64 m.id, .int .i64 m.lv, .int .i64 m.st, .int .i64 m.en, .int .i64 m.pg, .int .i64 m.tr]

def meC (m : Me) : Array Value := #[.int .u64 m.id, .int .i64 m.lv, .int .i64 m.st, .int .i64 m.en, .int .i64 m.pg, .int .i64 m.tr]

/-- a marker -/
structure Mk where
  id : Int
  at_ : Int
  by_ : Int

structure Mk.ok (m : Mk) : Prop where
  id0 : 0 ≤ m.id
  id1 : m.id ≤ 18446744073709551615
  at0 : -9223372036854775808 ≤ m.at_
  at1 : m.at_ ≤ 9223372036854775807
  by0 : 0 ≤ m.by_
  by1 : m.by_ ≤ 18446744073709551615

def Mk.zero : Mk := ⟨0, 0, 0⟩

def mkV (m : Mk) : Value := .agg #[.int .u64 m.id, .int .i64 m.at_, .int .u64 m.by_]

def mkC (m : Mk) : Array Value := #[.int .u64 m.id, .int .i64 m.at_, .int .u64 m.by_]

/-- a meta's cells -/
def MeC (_ : World) (m : Me) (x : List Value) : Prop := m.ok ∧ x = [.int .u64 m.id, .int .i64 m.lv, .int .i64 m.st, .int .i64 m.en, .int .i64 m.pg, .int .i64 m.tr]

/-- a marker's -/
def MkC (_ : World) (m : Mk) (x : List Value) : Prop := m.ok ∧ x = [.int .u64 m.id, .int .i64 m.at_, .int .u64 m.by_]

/-- the value v is a slice of these metas -/
def Mes (w : World) (v : Value) (l : List Me) : Prop := ∃ xs, Lv 6 w v xs ∧ Two (MeC w) l xs

/-- .. of these markers -/
def Mks (w : World) (v : Value) (l : List Mk) : Prop := ∃ xs, Lv 3 w v xs ∧ Two (MkC w) l xs

theorem metaT : ElemT Try.prog 22 35 6 48 := ⟨Try.underlying22, by omega, by
  refine ⟨_, _, rfl, rfl, rfl, rfl, ?_⟩
  rfl⟩

section
variable {w w' : World} {v : Value}

theorem Mes.nil (w : World) : Mes w (.slice none 0 0) [] := ⟨[], Lv.nil 6 w, Two.nil⟩

theorem Mks.nil (w : World) : Mks w (.slice none 0 0) [] := ⟨[], Lv.nil 3 w, Two.nil⟩

theorem Mes.below {l : List Me} (h : Mes w v l) (hb : Below w.heap.size w w') : Mes w' v l := by
  obtain ⟨xs, h1, h2⟩ := h
  exact ⟨xs, h1.below hb, h2.mono fun _ _ h => h⟩

theorem Mks.below {l : List Mk} (h : Mks w v l) (hb : Below w.heap.size w w') : Mks w' v l := by
  obtain ⟨xs, h1, h2⟩ := h
  exact ⟨xs, h1.below hb, h2.mono fun _ _ h => h⟩

theorem Mes.form {l : List Me} (h : Mes w v l) : ∃ A c, v = .slice A l.length c ∧ l.length ≤ c ∧ c ≤ 9223372036854775807 := by
  obtain ⟨xs, h1, h2⟩ := h
  obtain ⟨A, c, hv, h3, h4⟩ := h1.form
  rw [← h2.len] at hv h3
  exact ⟨A, c, hv, h3, h4⟩

theorem Mks.form {l : List Mk} (h : Mks w v l) : ∃ A c, v = .slice A l.length c ∧ l.length ≤ c ∧ c ≤ 9223372036854775807 := by
  obtain ⟨xs, h1, h2⟩ := h
  obtain ⟨A, c, hv, h3, h4⟩ := h1.form
  rw [← h2.len] at hv h3
  exact ⟨A, c, hv, h3, h4⟩

theorem Mes.ok {l : List Me} (h : Mes w v l) : ∀ m ∈ l, m.ok := fun m hm => by
  obtain ⟨xs, h1, h2⟩ := h
  obtain ⟨i, hi⟩ := List.getElem?_of_mem hm
  obtain ⟨x, _, ho, _⟩ := h2.right hi
  exact ho

theorem Mks.ok {l : List Mk} (h : Mks w v l) : ∀ m ∈ l, m.ok := fun m hm => by
  obtain ⟨xs, h1, h2⟩ := h
  obtain ⟨i, hi⟩ := List.getElem?_of_mem hm
  obtain ⟨x, _, ho, _⟩ := h2.right hi
  exact ho

theorem Mes.cells {A : Option Addr} {n c : Nat} {l : List Me} (h : Mes w (.slice A n c) l) {i : Nat} {m : Me} (hi : l[i]? = some m) :
    ∃ g o, A = some ⟨g, o, none⟩ ∧ g < w.heap.size ∧ w.cell? ⟨g, o + i * 6, none⟩ = some (.int .u64 m.id) ∧ w.cell? ⟨g, o + i * 6 + 1, none⟩ = some (.int .i64 m.lv) ∧ w.cell? ⟨g, o + i * 6 + 2, none⟩ = some (.int .i64 m.st) ∧ w.cell? ⟨g, o + i * 6 + 3, none⟩ = some (.int .i64 m.en) ∧ w.cell? ⟨g, o + i * 6 + 4, none⟩ = some (.int .i64 m.pg) ∧ w.cell? ⟨g, o + i * 6 + 5, none⟩ = some (.int .i64 m.tr) ∧ m.ok := by
  obtain ⟨xs, h1, h2⟩ := h
  obtain ⟨x, hx, ho, rfl⟩ := h2.right hi
  obtain ⟨g, o, hA, hg, hc⟩ := h1.cells (by omega) hx
  exact ⟨g, o, hA, hg, hc 0 _ rfl, hc 1 _ rfl, hc 2 _ rfl, hc 3 _ rfl, hc 4 _ rfl, hc 5 _ rfl, ho⟩

theorem Mks.cells {A : Option Addr} {n c : Nat} {l : List Mk} (h : Mks w (.slice A n c) l) {i : Nat} {m : Mk} (hi : l[i]? = some m) :
    ∃ g o, A = some ⟨g, o, none⟩ ∧ g < w.heap.size ∧ w.cell? ⟨g, o + i * 3, none⟩ = some (.int .u64 m.id) ∧ w.cell? ⟨g, o + i * 3 + 1, none⟩ = some (.int .i64 m.at_) ∧ w.cell? ⟨g, o + i * 3 + 2, none⟩ = some (.int .u64 m.by_) ∧ m.ok := by
  obtain ⟨xs, h1, h2⟩ := h
  obtain ⟨x, hx, ho, rfl⟩ := h2.right hi
  obtain ⟨g, o, hA, hg, hc⟩ := h1.cells (by omega) hx
  exact ⟨g, o, hA, hg, hc 0 _ rfl, hc 1 _ rfl, hc 2 _ rfl, ho⟩

end

theorem Metas_same (v v' : Value) (l : List Me) (w : World) (h : Mes w v l) (h' : Mes w v' l) :
    Calls Try.prog 7 #[v, v'] w fun e w' => e = .returned (.bool true) ∧ Below w.heap.size w w' := by
  have SL := Lib.hid h
  have SR := Lib.hid h'
  obtain ⟨A, c, rfl, hc1, hc2⟩ := h.form
  obtain ⟨A', c', rfl, hc1', hc2'⟩ := h'.form
  clear h h'
  go_enter Try.func7, Try.ntmps7
  go_wp2_with fail
  go_loopg [5] l.length (fun gk iv wr => ∃ k : Nat, k + gk = l.length ∧ iv = .int .i64 (k : Int) ∧ Hid (Below w.heap.size w wr))
  case atStart => exact ⟨0, by omega, rfl, Lib.hid (Below.refl _ _)⟩
  case round =>
    obtain ⟨k, hk, rfl, HB⟩ := hrel
    by_cases hlt : k < l.length
    · obtain ⟨gk1, hgk1⟩ : ∃ x, gk = x + 1 := ⟨gk - 1, by omega⟩
      obtain ⟨t, hkt⟩ : ∃ t, l[k]? = some t := ⟨_, List.getElem?_eq_getElem hlt⟩
      obtain ⟨g, o, rfl, hg, c0, c1, c2, c3, c4, c5, _⟩ := (SL.out.below HB.out).cells hkt
      obtain ⟨g', o', rfl, hg', x0, x1, x2, x3, x4, x5, _⟩ := (SR.out.below HB.out).cells hkt
      have hb0 : (0 : Int) ≤ (k : Int) := by omega
      have hb1 : (k : Int) < (l.length : Int) := by omega
      clear hkt
      go_wp2_with fail
      go_quiet (fail)
      go_wp2_with fail
      go_roundg gk1
      case measure => omega
      case rel => exact ⟨k + 1, by omega, by go_num, Lib.hid (below_drewN HB.out _)⟩
    · have hkn : k = l.length := by omega
      go_wp2_with fail
      go_ret
      exact ⟨rfl, HB.out⟩

/-- a roster's value -/
abbrev roV (a b : Value) : Value := .agg #[a, b]

end Go.Proofs.Ytohcbgchloncmaa
