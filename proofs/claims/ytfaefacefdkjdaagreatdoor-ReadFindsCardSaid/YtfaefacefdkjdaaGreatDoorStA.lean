/-
  A STORE, as plain lists; CONTRACTS of the document's store: Call, At, Used, Fail, Get; Named, Begins, Names. Conditions: what each says.
  CONTRACTS of the document's store: Get, List, Delete, Alter, Put. Conditions: what each says.
  CONTRACT of the document's store's Alter; what stays small. Conditions: what each says.
  WHAT A STORE OF THE PROGRAM IS TO KEEP ('StoreK': its contracts, over the plain functions callS, sPut, sGet, sList, sDel, sAlt, failS), so that the laws of layer 6 can be walked apart from how it is built; what is looked up stays, whatever is done with other names. No condition but what each theorem says.
  A STORE's OBJECTS AS PLAIN LISTS: look-ups ('fnd') behind Put, Delete, Alter; names that rise; the names that begin so are what a sort of them gives. No program; no condition but what each theorem says.
-/
import Derived.Test.YtfaefacefdkjdaaGreatDoorWordA
import Derived.Test.YtfaefacefdkjdaaGreatDoorMore
import Derived.Test.YtfaefacefdkjdaaGreatDoorMix
import Derived.Test.YtfaefacefdkjdaaGreatDoorKee
import Derived.Laws.BitsAllLaws
import Derived.Sort.KeysCollected
import Derived.Sort.OwnSorted
import Derived.Maps.RangeWalk
namespace Go.Proofs.YtfaefacefdkjdaaGreatDoor
open Go.RowKit
set_option maxRecDepth 100000

structure Ob where
  nm : List UInt8
  b : List UInt8
def obC (o : Ob) : List Value := [.string (Bstr o.nm), .string (Bstr o.b)]
structure Sm where
  room : Int
  left : Int
  calls : Int
  l : List Ob

structure DS (w : World) (base g : Nat) (v : Value) (m : Sm) : Prop where
  blk : Blk w g 56 #[.int .i64 m.room, .int .i64 m.left, .int .i64 m.calls, v]
  row : OwnL 2 w base 117 v (m.l.map obC)
  ne : v.ownBlock ≠ some g
  ge : base ≤ g
structure Sm.ok (m : Sm) : Prop where
  room0 : 0 ≤ m.room
  room1 : m.room ≤ 1048576
  left0 : -1 ≤ m.left
  left1 : m.left ≤ 9223372036854775807
  calls0 : 0 ≤ m.calls
  calls1 : m.calls ≤ 1000000000
  len : m.l.length ≤ 1000000
  used : (m.l.map fun o => o.b.length).sum ≤ 1048576

section
variable {w w' : World} {base g : Nat} {v : Value} {m : Sm}
theorem DS.below (h : DS w base g v m) (hb : Below w.heap.size w w') : DS w' base g v m := ⟨h.blk.below hb h.blk.lt, h.row.below hb, h.ne, h.ge⟩
theorem DS.form (h : DS w base g v m) : ∃ A c, v = .slice A m.l.length c ∧ m.l.length ≤ c ∧ c ≤ 9223372036854775807 := by
  obtain ⟨A, c, hv, h1, h2⟩ := h.row.lv.form
  rw [List.length_map] at hv h1
  exact ⟨A, c, hv, h1, h2⟩
theorem DS.cells {A : Option Addr} {n c : Nat} (h : DS w base g (.slice A n c) m) {i : Nat} {o : Ob} (hi : m.l[i]? = some o) :
    ∃ q p, A = some ⟨q, p, none⟩ ∧ q < w.heap.size ∧ w.cell? ⟨q, p + i * 2, none⟩ = some (.string (Bstr o.nm)) ∧ w.cell? ⟨q, p + i * 2 + 1, none⟩ = some (.string (Bstr o.b)) := by
  obtain ⟨q, p, hA, hq, hc⟩ := h.row.lv.cells (by omega) (i := i) (x := obC o) (by rw [List.getElem?_map, hi]; rfl)
  exact ⟨q, p, hA, hq, hc 0 _ rfl, hc 1 _ rfl⟩
end

def atI (n : List UInt8) : List Ob → Int
  | [] => -1
  | o :: l => if o.nm = n then 0 else if atI n l < 0 then -1 else atI n l + 1
theorem atI_none {n : List UInt8} : ∀ {l : List Ob}, (∀ o ∈ l, o.nm ≠ n) → atI n l = -1
  | [], _ => rfl
  | o :: l, h => by
    rw [atI, if_neg (h o (List.mem_cons_self ..)), atI_none fun x hx => h x (List.mem_cons_of_mem _ hx)]
    rfl
theorem take_snoc_st {α : Type} {l : List α} {k : Nat} {s : α} (h : l[k]? = some s) : l.take (k + 1) = l.take k ++ [s] := by
  obtain ⟨hk, rfl⟩ := List.getElem?_eq_some_iff.1 h
  exact List.take_succ_eq_append_getElem hk

def usedL (l : List Ob) : Nat := (l.map fun o => o.b.length).sum
def callB (m : Sm) : Bool := !(m.left == 0)
def callS (m : Sm) : Sm := { m with calls := m.calls + 1, left := if m.left ≤ 0 then -1 else m.left - 1 }

def failS (m : Sm) (n : Int) : Sm := { m with left := if n < 0 then -1 else n }
def nameC (c : Nat) : Bool := (decide (97 ≤ c) && decide (c ≤ 122)) || ((decide (48 ≤ c) && decide (c ≤ 57)) || (decide (c = 47) || decide (c = 45)))
def nameB (l : List UInt8) : Bool := l.all (fun c => nameC c.toNat) && (decide (0 < l.length) && decide (l.length ≤ 32))

theorem Bstr_get (n : List UInt8) (k : Nat) (h : k < (Bstr n).size) (h' : k < n.length) : (Bstr n)[k] = n[k] := by
  show (Bstr n).data[k]'h = _
  simp [Bstr]
theorem str_at {n : List UInt8} {k : Nat} {c : UInt8} {x : Nat} (h : n[k]? = some c) (hx : x = c.toNat) (u : World) : (Instr.index 9 (.string (Bstr n)) (.int .i64 (k : Int))).run Tryz.prog u = .ok (.int .u8 (x : Int)) u := by
  obtain ⟨hk, rfl⟩ := List.getElem?_eq_some_iff.1 h
  subst hx
  have hs := Bstr_size n
  rw [run_index_string u _ _ _ _ strT, dif_pos ⟨by omega, by omega⟩]
  simp only [Int.toNat_natCast]
  exact congrArg (fun b : UInt8 => Result.ok (Value.int .u8 (b.toNat : Int)) u) (Bstr_get n k (by omega) hk)

def begB (s p : List UInt8) : Bool := decide (p.length ≤ s.length) && decide (s.take p.length = p)

end Go.Proofs.YtfaefacefdkjdaaGreatDoor

namespace Go.Proofs.YtfaefacefdkjdaaGreatDoor
open Go.RowKit
set_option maxRecDepth 100000

theorem atI_ge (n : List UInt8) : ∀ l : List Ob, atI n l = -1 ∨ ∃ (i : Nat) (o : Ob), atI n l = i ∧ l[i]? = some o ∧ o.nm = n
  | [] => .inl rfl
  | o :: l => by
    rw [atI]
    split
    · rename_i h
      exact .inr ⟨0, o, rfl, rfl, h⟩
    · rcases atI_ge n l with h | ⟨i, x, h, hx, hn⟩
      · rw [h]
        exact .inl rfl
      · rw [h, if_neg (by omega)]
        exact .inr ⟨i + 1, x, by omega, by simpa using hx, hn⟩

def sGet (m : Sm) (n : List UInt8) : List UInt8 × Int :=
  if callB m = false then ([], 8) else match m.l[(atI n m.l).toNat]? with
    | some o => if atI n m.l < 0 then ([], 4) else (o.b, 0)
    | none => ([], 4)
theorem sGet_fail {m : Sm} {n : List UInt8} (h : callB m = false) : sGet m n = ([], 8) := by rw [sGet, if_pos h]
theorem sGet_none {m : Sm} {n : List UInt8} (h : callB m = true) (hn : atI n m.l = -1) : sGet m n = ([], 4) := by
  rw [sGet, if_neg (by rw [h]; simp), hn]
  cases m.l[(-1 : Int).toNat]? <;> simp
theorem sGet_some {m : Sm} {n : List UInt8} {i : Nat} {o : Ob} (h : callB m = true) (hn : atI n m.l = i) (ho : m.l[i]? = some o) : sGet m n = (o.b, 0) := by
  rw [sGet, if_neg (by rw [h]; simp), hn, Int.toNat_natCast, ho]
  simp

def sNames (l : List Ob) (p : List UInt8) : List (List UInt8) := (l.filter fun o => begB o.nm p).map fun o => o.nm
def sList (m : Sm) (p : List UInt8) : List (List UInt8) × Int := if callB m = false then ([], 8) else (sNames m.l p, 0)
theorem OwnL.none (w : World) (k base : Nat) (e : TypeId) (hb : base ≤ w.heap.size) : OwnL k (w.alloc (.cells #[] e)) base e (.slice (some ⟨w.heap.size, 0, none⟩) 0 0) [] :=
  ⟨World.ownsRow_made w #[] 0 hb (by simp [maxLen]) (by simp), fun x hx => by cases hx⟩

def sDel (m : Sm) (n : List UInt8) : Sm × Int :=
  if callB m = false then (callS m, 8) else if atI n m.l < 0 then (callS m, 4) else ({ callS m with l := m.l.take (atI n m.l).toNat ++ m.l.drop ((atI n m.l).toNat + 1) }, 0)
def ltB (a b : List UInt8) : Bool := Op.bytesLess a b
def insP (n : List UInt8) : List Ob → Nat
  | [] => 0
  | o :: l => if ltB o.nm n = true then insP n l + 1 else 0
def restU (m : Sm) (n : List UInt8) : Int := (usedL m.l : Int) - match m.l[(atI n m.l).toNat]? with
  | some o => if atI n m.l < 0 then 0 else (o.b.length : Int)
  | none => 0
theorem restU_none {m : Sm} {n : List UInt8} (h : atI n m.l = -1) : restU m n = usedL m.l := by
  rw [restU, h]
  cases m.l[(-1 : Int).toNat]? <;> simp
theorem restU_some {m : Sm} {n : List UInt8} {i : Nat} {o : Ob} (h : atI n m.l = i) (ho : m.l[i]? = some o) : restU m n = (usedL m.l : Int) - o.b.length := by
  rw [restU, h, Int.toNat_natCast, ho]
  simp only
  rw [if_neg (by omega)]
theorem usedL_at : ∀ {l : List Ob} {i : Nat} {o : Ob}, l[i]? = some o → o.b.length ≤ usedL l
  | [], i, o, h => by simp at h
  | x :: l, 0, o, h => by
    simp at h
    subst h
    simp [usedL]
  | x :: l, i + 1, o, h => by
    have ih := usedL_at (l := l) (i := i) (o := o) (by simpa using h)
    simp [usedL] at ih ⊢
    omega
def sPut (m : Sm) (n b : List UInt8) : Sm × Int :=
  if callB m = false then (callS m, 8) else if nameB n = false then (callS m, 1) else
  if restU m n + b.length > m.room then (callS m, 6) else
  if atI n m.l < 0 then ({ callS m with l := m.l.take (insP n m.l) ++ (⟨n, b⟩ :: m.l.drop (insP n m.l)) }, 0) else ({ callS m with l := m.l.set (atI n m.l).toNat ⟨n, b⟩ }, 0)

end Go.Proofs.YtfaefacefdkjdaaGreatDoor

namespace Go.Proofs.YtfaefacefdkjdaaGreatDoor
open Go.RowKit
set_option maxRecDepth 100000

def sAlt (m : Sm) (n : List UInt8) (at_ : Int) (x : UInt8) : Sm × Bool :=
  if atI n m.l < 0 ∨ x = 0 ∨ at_ < 0 then (m, false) else match m.l[(atI n m.l).toNat]? with
    | some o => match o.b[at_.toNat]? with
      | some y => ({ m with l := m.l.set (atI n m.l).toNat ⟨n, o.b.set at_.toNat (y ^^^ x)⟩ }, true)
      | none => (m, false)
    | none => (m, false)
theorem sAlt_no {m : Sm} {n : List UInt8} {at_ : Int} {x : UInt8} (h : atI n m.l < 0 ∨ x = 0 ∨ at_ < 0) : sAlt m n at_ x = (m, false) := by rw [sAlt, if_pos h]
theorem sAlt_out {m : Sm} {n : List UInt8} {at_ : Int} {x : UInt8} {i : Nat} {o : Ob} (hi : atI n m.l = i) (ho : m.l[i]? = some o) (h : o.b.length ≤ at_.toNat) : sAlt m n at_ x = (m, false) := by
  rw [sAlt]
  split
  · rfl
  · rw [hi, Int.toNat_natCast, ho]
    simp only
    rw [List.getElem?_eq_none h]
theorem sAlt_yes {m : Sm} {n : List UInt8} {k : Nat} {x y : UInt8} {i : Nat} {o : Ob} (hi : atI n m.l = i) (ho : m.l[i]? = some o) (hx : x ≠ 0) (hy : o.b[k]? = some y) : sAlt m n (k : Int) x = ({ m with l := m.l.set i ⟨n, o.b.set k (y ^^^ x)⟩ }, true) := by
  rw [sAlt, if_neg (by rw [hi]; intro h; rcases h with h | h | h <;> first | omega | exact hx h), hi]
  simp only [Int.toNat_natCast]
  rw [ho]
  simp only
  rw [hy]

structure Sm.fine (m : Sm) (N : Nat) : Prop where
  room0 : 0 ≤ m.room
  room1 : m.room ≤ 1048576
  left0 : -1 ≤ m.left
  left1 : m.left ≤ 9223372036854775807
  calls0 : 0 ≤ m.calls
  calls1 : m.calls ≤ N
  len : m.l.length ≤ N
  used : usedL m.l ≤ 1048576
theorem Sm.fine.ok {m : Sm} {N : Nat} (h : m.fine N) (hN : N ≤ 1000000) : m.ok := ⟨h.room0, h.room1, h.left0, h.left1, h.calls0, by have := h.calls1; omega, by have := h.len; omega, h.used⟩
theorem Sm.fine.more {m : Sm} {N M : Nat} (h : m.fine N) (hN : N ≤ M) : m.fine M := ⟨h.room0, h.room1, h.left0, h.left1, h.calls0, by have := h.calls1; omega, by have := h.len; omega, h.used⟩
theorem Sm.fine.call {m : Sm} {N : Nat} (h : m.fine N) : (callS m).fine (N + 1) := by
  have h1 := h.left0
  have h2 := h.left1
  have h3 := h.calls0
  have h4 := h.calls1
  have h5 := h.len
  refine ⟨h.room0, h.room1, ?_, ?_, ?_, ?_, ?_, h.used⟩
  · show -1 ≤ (if m.left ≤ 0 then (-1 : Int) else m.left - 1)
    split <;> omega
  · show (if m.left ≤ 0 then (-1 : Int) else m.left - 1) ≤ _
    split <;> omega
  · show 0 ≤ m.calls + 1
    omega
  · show m.calls + 1 ≤ _
    omega
  · show m.l.length ≤ N + 1
    omega
theorem Sm.fine.fail {m : Sm} {N : Nat} (h : m.fine N) (n : Int) (hn : n ≤ 9223372036854775807) : (failS m n).fine N := by
  refine ⟨h.room0, h.room1, ?_, ?_, h.calls0, h.calls1, h.len, h.used⟩
  · show -1 ≤ (if n < 0 then (-1 : Int) else n)
    split <;> omega
  · show (if n < 0 then (-1 : Int) else n) ≤ _
    split <;> omega
theorem usedL_append (l k : List Ob) : usedL (l ++ k) = usedL l + usedL k := by simp [usedL]
theorem usedL_cons (o : Ob) (l : List Ob) : usedL (o :: l) = o.b.length + usedL l := by simp [usedL]
theorem usedL_split (l : List Ob) (k : Nat) : usedL l = usedL (l.take k) + usedL (l.drop k) := by
  conv => lhs; rw [← List.take_append_drop k l]
  exact usedL_append _ _
theorem usedL_set : ∀ {l : List Ob} {i : Nat} {o : Ob} (p : Ob), l[i]? = some o → usedL (l.set i p) + o.b.length = usedL l + p.b.length
  | [], i, o, p, h => by simp at h
  | x :: l, 0, o, p, h => by
    simp at h
    subst h
    rw [List.set_cons_zero, usedL_cons, usedL_cons]
    omega
  | x :: l, i + 1, o, p, h => by
    have ih := usedL_set (l := l) (i := i) (o := o) p (by simpa using h)
    rw [List.set_cons_succ, usedL_cons, usedL_cons]
    omega
theorem Sm.fine.put {m : Sm} {N : Nat} (h : m.fine N) (n b : List UInt8) : (sPut m n b).1.fine (N + 1) := by
  have hc := h.call
  have hr := h.room1
  have hu := h.used
  have hl := h.len
  unfold sPut
  split
  · exact hc
  split
  · exact hc
  split
  · exact hc
  rename_i hfull
  split
  · rename_i hneg
    have hai : atI n m.l = -1 := by
      rcases atI_ge n m.l with e | ⟨i, o, e, _⟩
      · exact e
      · omega
    rw [restU_none hai] at hfull
    refine ⟨hc.room0, hc.room1, hc.left0, hc.left1, hc.calls0, hc.calls1, ?_, ?_⟩
    · show (m.l.take (insP n m.l) ++ (⟨n, b⟩ :: m.l.drop (insP n m.l))).length ≤ N + 1
      simp only [List.length_append, List.length_take, List.length_cons, List.length_drop]
      omega
    · show usedL (m.l.take (insP n m.l) ++ (⟨n, b⟩ :: m.l.drop (insP n m.l))) ≤ 1048576
      rw [usedL_append, usedL_cons]
      have := usedL_split m.l (insP n m.l)
      simp only
      omega
  · rename_i hneg
    rcases atI_ge n m.l with e | ⟨i, o, e, ho, _⟩
    · omega
    · rw [restU_some e ho] at hfull
      rw [e, Int.toNat_natCast]
      refine ⟨hc.room0, hc.room1, hc.left0, hc.left1, hc.calls0, hc.calls1, ?_, ?_⟩
      · show (m.l.set i ⟨n, b⟩).length ≤ N + 1
        rw [List.length_set]
        omega
      · show usedL (m.l.set i ⟨n, b⟩) ≤ 1048576
        have h1 := usedL_set (⟨n, b⟩ : Ob) ho
        simp only at h1
        omega
theorem Sm.fine.alt {m : Sm} {N : Nat} (h : m.fine N) (n : List UInt8) (at_ : Int) (x : UInt8) : (sAlt m n at_ x).1.fine N := by
  unfold sAlt
  split
  · exact h
  · split
    · rename_i o ho
      split
      · rename_i y hy
        refine ⟨h.room0, h.room1, h.left0, h.left1, h.calls0, h.calls1, ?_, ?_⟩
        · show (m.l.set _ _).length ≤ N
          rw [List.length_set]
          exact h.len
        · show usedL (m.l.set (atI n m.l).toNat ⟨n, o.b.set at_.toNat (y ^^^ x)⟩) ≤ 1048576
          have h1 := usedL_set (⟨n, o.b.set at_.toNat (y ^^^ x)⟩ : Ob) ho
          have h2 := h.used
          simp only [List.length_set] at h1
          omega
      · exact h
    · exact h

end Go.Proofs.YtfaefacefdkjdaaGreatDoor

namespace Go.Proofs.YtfaefacefdkjdaaGreatDoor
open Go.RowKit
set_option maxRecDepth 100000

def fnd (n : List UInt8) (l : List Ob) : Option Ob := l.find? fun o => decide (o.nm = n)
theorem fnd_at {n : List UInt8} : ∀ {l : List Ob} {o : Ob}, fnd n l = some o → ∃ i : Nat, atI n l = i ∧ l[i]? = some o
  | [], o, h => by simp [fnd] at h
  | x :: l, o, h => by
    rw [fnd, List.find?_cons] at h
    by_cases hx : x.nm = n
    · rw [decide_eq_true hx] at h
      injection h with h
      subst h
      exact ⟨0, by rw [atI, if_pos hx]; rfl, rfl⟩
    · rw [decide_eq_false hx] at h
      obtain ⟨i, h1, h2⟩ := fnd_at (n := n) (l := l) h
      exact ⟨i + 1, by rw [atI, if_neg hx, h1, if_neg (by omega)]; omega, by simpa using h2⟩
theorem fnd_append (n : List UInt8) (l k : List Ob) : fnd n (l ++ k) = (fnd n l).or (fnd n k) := by simp [fnd, List.find?_append]
theorem fnd_cons_ne {n : List UInt8} {o : Ob} (h : o.nm ≠ n) (l : List Ob) : fnd n (o :: l) = fnd n l := by rw [fnd, List.find?_cons, decide_eq_false h]; rfl
theorem fnd_split (n : List UInt8) (l : List Ob) (k : Nat) : fnd n l = (fnd n (l.take k)).or (fnd n (l.drop k)) := by
  conv => lhs; rw [← List.take_append_drop k l]
  exact fnd_append _ _ _
theorem fnd_set {n : List UInt8} : ∀ {l : List Ob} {i : Nat} {o : Ob} (p : Ob), l[i]? = some o → o.nm ≠ n → p.nm ≠ n → fnd n (l.set i p) = fnd n l
  | [], i, o, p, h, _, _ => by simp at h
  | x :: l, 0, o, p, h, h1, h2 => by
    simp at h
    subst h
    rw [List.set_cons_zero, fnd_cons_ne h2, fnd_cons_ne h1]
  | x :: l, i + 1, o, p, h, h1, h2 => by
    have ih := fnd_set (n := n) (l := l) (i := i) p (by simpa using h) h1 h2
    rw [List.set_cons_succ, fnd, fnd, List.find?_cons, List.find?_cons]
    cases decide (x.nm = n) with
    | true => rfl
    | false => exact ih
theorem fnd_put {m : Sm} {n n' b : List UInt8} (h : n' ≠ n) : fnd n (sPut m n' b).1.l = fnd n m.l := by
  unfold sPut
  split
  · rfl
  split
  · rfl
  split
  · rfl
  split
  · show fnd n (m.l.take (insP n' m.l) ++ (⟨n', b⟩ :: m.l.drop (insP n' m.l))) = _
    rw [fnd_append, fnd_cons_ne h, ← fnd_split]
  · rename_i hneg
    rcases atI_ge n' m.l with e | ⟨i, o, e, ho, hn⟩
    · omega
    · show fnd n (m.l.set (atI n' m.l).toNat ⟨n', b⟩) = _
      rw [e, Int.toNat_natCast]
      exact fnd_set _ ho (by rw [hn]; exact h) h
theorem fnd_set_same {n : List UInt8} : ∀ {l : List Ob} {i : Nat} {o : Ob} (b : List UInt8), atI n l = i → l[i]? = some o → fnd n (l.set i ⟨n, b⟩) = some ⟨n, b⟩
  | [], i, o, b, h, ho => by simp at ho
  | x :: l, i, o, b, h, ho => by
    rw [atI] at h
    by_cases hx : x.nm = n
    · rw [if_pos hx] at h
      have : i = 0 := by omega
      subst this
      rw [List.set_cons_zero, fnd, List.find?_cons]
      simp
    · rw [if_neg hx] at h
      split at h
      · omega
      · obtain ⟨j, rfl⟩ : ∃ j, i = j + 1 := ⟨i - 1, by omega⟩
        rw [List.set_cons_succ, fnd_cons_ne hx]
        exact fnd_set_same (n := n) (l := l) (i := j) b (by omega) (by simpa using ho)
theorem fnd_same {m : Sm} {n b : List UInt8} (h : (sPut m n b).2 = 0) : ∃ o, fnd n (sPut m n b).1.l = some o ∧ o.b = b := by
  unfold sPut at h ⊢
  split at h
  · cases h
  split at h
  · cases h
  split at h
  · cases h
  rename_i h1 h2 h3
  rw [if_neg h1, if_neg h2, if_neg h3]
  split
  · rename_i hneg
    refine ⟨⟨n, b⟩, ?_, rfl⟩
    show fnd n (m.l.take (insP n m.l) ++ (⟨n, b⟩ :: m.l.drop (insP n m.l))) = _
    have hno : fnd n (m.l.take (insP n m.l)) = none := by
      cases hf : fnd n (m.l.take (insP n m.l)) with
      | none => rfl
      | some o =>
        have : fnd n m.l = some o := by rw [fnd_split n m.l (insP n m.l), hf]; rfl
        obtain ⟨i, e, _⟩ := fnd_at this
        omega
    rw [fnd_append, hno, fnd, List.find?_cons]
    simp
  · rename_i hneg
    rcases atI_ge n m.l with e | ⟨i, o, e, ho, hn⟩
    · omega
    · refine ⟨⟨n, b⟩, ?_, rfl⟩
      show fnd n (m.l.set (atI n m.l).toNat ⟨n, b⟩) = _
      rw [e, Int.toNat_natCast]
      exact fnd_set_same b e ho
theorem sGet_fnd {m : Sm} {n : List UInt8} {o : Ob} (hc : callB m = true) (h : fnd n m.l = some o) : sGet m n = (o.b, 0) := by
  obtain ⟨i, e, ho⟩ := fnd_at h
  exact sGet_some hc e ho

end Go.Proofs.YtfaefacefdkjdaaGreatDoor

namespace Go.Proofs.YtfaefacefdkjdaaGreatDoor
open Go.RowKit

theorem ltB_eq : ∀ (x y : List UInt8), ltB x y = decide (x < y)
  | [], [] => by simp [ltB, Op.bytesLess]
  | _ :: _, [] => by simp [ltB, Op.bytesLess]
  | [], _ :: _ => by simp [ltB, Op.bytesLess]
  | a :: x, b :: y => by
    have ih := ltB_eq x y
    unfold ltB at ih ⊢
    rw [Op.bytesLess, ih]
    simp only [List.cons_lt_cons_iff]
    by_cases h1 : a < b <;> by_cases h2 : a = b <;> by_cases h3 : x < y <;> simp [h1, h2, h3]

def Rise (l : List Ob) : Prop := l.Pairwise fun a b => a.nm < b.nm
theorem Rise.nil : Rise [] := List.Pairwise.nil
theorem Rise.ne {l : List Ob} (h : Rise l) : l.Pairwise fun a b => a.nm ≠ b.nm := h.imp fun {a b} hab e => by rw [e] at hab; exact List.lt_irrefl _ hab

theorem fnd_none_iff {n : List UInt8} {l : List Ob} : fnd n l = none ↔ ∀ o ∈ l, o.nm ≠ n := by
  unfold fnd
  rw [List.find?_eq_none]
  simp
theorem fnd_some_nm {n : List UInt8} {l : List Ob} {o : Ob} (h : fnd n l = some o) : o.nm = n := by
  have := List.find?_some h
  simpa using this
theorem fnd_some_mem {n : List UInt8} {l : List Ob} {o : Ob} (h : fnd n l = some o) : o ∈ l := List.mem_of_find?_eq_some h
theorem fnd_of_mem {l : List Ob} (h : Rise l) {o : Ob} (ho : o ∈ l) : fnd o.nm l = some o := by
  induction l with
  | nil => cases ho
  | cons x l ih =>
    obtain ⟨h1, h2⟩ := List.pairwise_cons.1 h
    rcases List.mem_cons.1 ho with rfl | hm
    · simp [fnd]
    · have hne : x.nm ≠ o.nm := fun e => by
        have := h1 o hm
        rw [e] at this
        exact List.lt_irrefl _ this
      rw [fnd_cons_ne hne]
      exact ih h2 hm
theorem atI_of_none {n : List UInt8} {l : List Ob} (h : fnd n l = none) : atI n l = -1 := atI_none (fnd_none_iff.1 h)
theorem fnd_of_at {n : List UInt8} {l : List Ob} (h : atI n l = -1) : fnd n l = none := by
  cases hf : fnd n l with
  | none => rfl
  | some o =>
    obtain ⟨i, e, _⟩ := fnd_at hf
    omega

/-! ### Put -/
theorem insP_before (n : List UInt8) : ∀ (l : List Ob), ∀ o ∈ l.take (insP n l), o.nm < n
  | [], o, h => by simp at h
  | x :: l, o, h => by
    rw [insP] at h
    split at h
    · rename_i hx
      rw [List.take_succ_cons] at h
      rcases List.mem_cons.1 h with rfl | h
      · rw [ltB_eq] at hx
        simpa using hx
      · exact insP_before n l o h
    · simp at h
theorem insP_behind (n : List UInt8) : ∀ (l : List Ob), Rise l → ∀ o ∈ l.drop (insP n l), ¬ o.nm < n
  | [], _, o, h => by simp at h
  | x :: l, hr, o, h => by
    obtain ⟨h1, h2⟩ := List.pairwise_cons.1 hr
    rw [insP] at h
    split at h
    · rw [List.drop_succ_cons] at h
      exact insP_behind n l h2 o h
    · rename_i hx
      rw [ltB_eq] at hx
      have hx' : ¬ x.nm < n := by simpa using hx
      rw [List.drop_zero] at h
      rcases List.mem_cons.1 h with rfl | h
      · exact hx'
      · exact fun ho => hx' (List.lt_trans (h1 o h) ho)
theorem rise_ins {n b : List UInt8} {l : List Ob} (h : Rise l) (hn : fnd n l = none) : Rise (l.take (insP n l) ++ (⟨n, b⟩ :: l.drop (insP n l))) := by
  have hs : Rise (l.take (insP n l) ++ l.drop (insP n l)) := by rw [List.take_append_drop]; exact h
  obtain ⟨h1, h2, h3⟩ := List.pairwise_append.1 hs
  refine List.pairwise_append.2 ⟨h1, List.pairwise_cons.2 ⟨fun o ho => ?_, h2⟩, fun a ha c hc => ?_⟩
  · show n < o.nm
    have hge := insP_behind n l h o ho
    have hne := fnd_none_iff.1 hn o (List.mem_of_mem_drop ho)
    by_cases hlt : n < o.nm
    · exact hlt
    · exact absurd (List.le_antisymm (List.not_lt.1 hlt) (List.not_lt.1 hge)) hne
  · rcases List.mem_cons.1 hc with rfl | hc
    · exact insP_before n l a ha
    · exact h3 a ha c hc
theorem rise_set {l : List Ob} (h : Rise l) {i : Nat} {o p : Ob} (ho : l[i]? = some o) (hp : p.nm = o.nm) : Rise (l.set i p) := by
  have e : (l.set i p).map (·.nm) = l.map (·.nm) := by
    rw [List.map_set, hp]
    have : (l.map (·.nm))[i]? = some o.nm := by rw [List.getElem?_map, ho]; rfl
    obtain ⟨hi, he⟩ := List.getElem?_eq_some_iff.1 this
    rw [← he, List.set_getElem_self]
  have h1 : (l.map (·.nm)).Pairwise (· < ·) := List.pairwise_map.2 h
  rw [← e] at h1
  exact List.pairwise_map.1 h1

theorem sPut_ok {m : Sm} {n b : List UInt8} (h1 : callB m = true) (h2 : nameB n = true) (h3 : ¬ restU m n + b.length > m.room) (hr : Rise m.l) : ∃ l', sPut m n b = ({ callS m with l := l' }, 0) ∧ Rise l' ∧ (usedL l' : Int) = restU m n + b.length ∧
    fnd n l' = some ⟨n, b⟩ ∧ ∀ s, s ≠ n → fnd s l' = fnd s m.l := by
  have h1' : ¬ callB m = false := by rw [h1]; simp
  have h2' : ¬ nameB n = false := by rw [h2]; simp
  have ho : ∀ s, s ≠ n → fnd s (sPut m n b).1.l = fnd s m.l := fun s hs => fnd_put (Ne.symm hs)
  by_cases hneg : atI n m.l < 0
  · have hai : atI n m.l = -1 := by
      rcases atI_ge n m.l with e | ⟨i, o, e, _⟩
      · exact e
      · omega
    have e : sPut m n b = ({ callS m with l := m.l.take (insP n m.l) ++ (⟨n, b⟩ :: m.l.drop (insP n m.l)) }, 0) := by rw [sPut, if_neg h1', if_neg h2', if_neg h3, if_pos hneg]
    rw [e] at ho
    refine ⟨_, e, rise_ins hr (fnd_of_at hai), ?_, ?_, ho⟩
    · rw [restU_none hai, usedL_append, usedL_cons]
      have := usedL_split m.l (insP n m.l)
      simp only
      omega
    · have hno : fnd n (m.l.take (insP n m.l)) = none := fnd_none_iff.2 fun o ho => fnd_none_iff.1 (fnd_of_at hai) o (List.mem_of_mem_take ho)
      rw [fnd_append, hno, fnd, List.find?_cons]
      simp
  · rcases atI_ge n m.l with e | ⟨i, o, e, ho', hon⟩
    · omega
    · have e' : sPut m n b = ({ callS m with l := m.l.set i ⟨n, b⟩ }, 0) := by rw [sPut, if_neg h1', if_neg h2', if_neg h3, if_neg hneg, e, Int.toNat_natCast]
      rw [e'] at ho
      refine ⟨_, e', rise_set hr ho' hon.symm, ?_, fnd_set_same b e ho', ho⟩
      rw [restU_some e ho']
      have := usedL_set (⟨n, b⟩ : Ob) ho'
      simp only at this
      omega
theorem sPut_e8 {m : Sm} {n b : List UInt8} (h1 : callB m = false) : sPut m n b = (callS m, 8) := by rw [sPut, if_pos h1]
theorem sPut_e1 {m : Sm} {n b : List UInt8} (h1 : callB m = true) (h2 : nameB n = false) : sPut m n b = (callS m, 1) := by rw [sPut, if_neg (by rw [h1]; simp), if_pos h2]
theorem sPut_e6 {m : Sm} {n b : List UInt8} (h1 : callB m = true) (h2 : nameB n = true) (h3 : restU m n + b.length > m.room) : sPut m n b = (callS m, 6) := by rw [sPut, if_neg (by rw [h1]; simp), if_neg (by rw [h2]; simp), if_pos h3]
def obLen : Option Ob → Int
  | some o => (o.b.length : Int)
  | none => 0
theorem restU_fnd {m : Sm} {n : List UInt8} : restU m n = (usedL m.l : Int) - obLen (fnd n m.l) := by
  cases hf : fnd n m.l with
  | none => simp [restU_none (atI_of_none hf), obLen]
  | some o =>
    obtain ⟨i, e, ho⟩ := fnd_at hf
    rw [restU_some e ho]
    rfl
theorem usedL_fnd {n : List UInt8} {l : List Ob} {o : Ob} (h : fnd n l = some o) : o.b.length ≤ usedL l := by
  obtain ⟨i, _, ho⟩ := fnd_at h
  exact usedL_at ho

/-! ### Delete -/
theorem sGet_no {m : Sm} {n : List UInt8} (h1 : callB m = true) (hf : fnd n m.l = none) : sGet m n = ([], 4) := sGet_none h1 (atI_of_none hf)

/-! ### Alter -/
theorem sAlt_no' {m : Sm} {n : List UInt8} {at_ : Int} {x : UInt8} (h : fnd n m.l = none ∨ x = 0 ∨ at_ < 0) : sAlt m n at_ x = (m, false) := by
  refine sAlt_no ?_
  rcases h with h | h
  · exact .inl (by rw [atI_of_none h]; decide)
  · exact .inr h
theorem sAlt_out' {m : Sm} {n : List UInt8} {at_ : Int} {x : UInt8} {o : Ob} (hf : fnd n m.l = some o) (h : (o.b.length : Int) ≤ at_) : sAlt m n at_ x = (m, false) := by
  obtain ⟨i, e, ho⟩ := fnd_at hf
  exact sAlt_out e ho (by omega)
theorem sAlt_ok {m : Sm} {n : List UInt8} {k : Nat} {x y : UInt8} {o : Ob} (hf : fnd n m.l = some o) (hx : x ≠ 0) (hy : o.b[k]? = some y) (hr : Rise m.l) :
    ∃ l', sAlt m n (k : Int) x = ({ m with l := l' }, true) ∧ Rise l' ∧ usedL l' = usedL m.l ∧ fnd n l' = some ⟨n, o.b.set k (y ^^^ x)⟩ ∧ ∀ s, s ≠ n → fnd s l' = fnd s m.l := by
  obtain ⟨i, e, ho⟩ := fnd_at hf
  have hon := fnd_some_nm hf
  refine ⟨_, sAlt_yes e ho hx hy, rise_set hr ho hon.symm, ?_, fnd_set_same _ e ho, fun s hs => ?_⟩
  · have := usedL_set (⟨n, o.b.set k (y ^^^ x)⟩ : Ob) ho
    simp only [List.length_set] at this
    omega
  · exact fnd_set _ ho (by rw [hon]; exact Ne.symm hs) (Ne.symm hs)

/-! ### List -/
end Go.Proofs.YtfaefacefdkjdaaGreatDoor
