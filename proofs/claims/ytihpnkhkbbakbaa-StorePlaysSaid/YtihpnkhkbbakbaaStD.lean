/-
  WHAT A STORE OF THE PROGRAM IS TO KEEP ('StoreK': its contracts, over the plain functions callS, sPut, sGet, sList, sDel, sAlt, failS), so that the laws of layer 6 can be walked apart from how it is built; what is looked up stays, whatever is done with other names. No condition but what each theorem says.
-/
import Derived.Test.YtihpnkhkbbakbaaStC
namespace Go.Proofs.Ytihpnkhkbbakbaa
open Go.RowKit
set_option maxRecDepth 100000

/-- an error, by its number -/
def errV (c : Int) : Value := if c = 0 then .nilIface else code c
theorem errV_zero : errV 0 = .nilIface := rfl
theorem errV_code {c : Int} (h : c ≠ 0) : errV c = code c := by rw [errV, if_neg h]

/-- 'PS w F g m': in the world w the store in block g is m, and lies in the blocks F. Its contracts: F may grow by what is new; what lies elsewhere stays. -/
structure StoreK (PS : World → (Nat → Prop) → Nat → Sm → Prop) : Prop where
  keep : ∀ {w w' : World} {F : Nat → Prop} {g : Nat} {m : Sm}, PS w F g m → Apt (fun q => ¬ F q) w w' → PS w' F g m
  lt : ∀ {w : World} {F : Nat → Prop} {g : Nat} {m : Sm}, PS w F g m → ∀ q, F q → q < w.heap.size
  new_ok : ∀ (room : Int) (w : World), 1 ≤ room → room ≤ 1048576 → Calls Try.prog 6 #[.int .i64 room] w fun e w' => ∃ (g : Nat) (F : Nat → Prop), e = .returned (.tuple #[.pointer (some ⟨g, 0, none⟩), .nilIface]) ∧ PS w' F g ⟨room, -1, 0, []⟩ ∧ Below w.heap.size w w' ∧ ∀ q, F q → w.heap.size ≤ q
  new_no : ∀ (room : Int) (w : World), (room < 1 ∨ 1048576 < room) → Calls Try.prog 6 #[.int .i64 room] w fun e w' => e = .returned (.tuple #[.pointer none, code 1]) ∧ Below w.heap.size w w'
  put : ∀ {w : World} {F : Nat → Prop} {g : Nat} {m : Sm} {N : Nat} {n b : List UInt8} {bv : Value}, PS w F g m → m.fine N → N ≤ 100000 → n.length ≤ 9223372036854775807 → Bs w bv b → (b ≠ [] → ∀ q, bv.ownBlock = some q → ¬ F q) → b.length ≤ 100000 →
    Calls Try.prog 8 #[.pointer (some ⟨g, 0, none⟩), .string (Bstr n), bv] w fun e w' => e = .returned (errV (sPut m n b).2) ∧ ∃ F', PS w' F' g (sPut m n b).1 ∧ Apt F w w' ∧ ∀ q, F' q → F q ∨ w.heap.size ≤ q
  get : ∀ {w : World} {F : Nat → Prop} {g : Nat} {m : Sm} {N : Nat} {n : List UInt8}, PS w F g m → m.fine N → N ≤ 100000 → n.length ≤ 9223372036854775807 →
    Calls Try.prog 10 #[.pointer (some ⟨g, 0, none⟩), .string (Bstr n)] w fun e w' => ∃ x F', e = .returned (.tuple #[x, errV (sGet m n).2]) ∧ Own w' w.heap.size 5 x (sGet m n).1 ∧ PS w' F' g (callS m) ∧ Apt F w w' ∧ (∀ q, F' q → F q ∨ w.heap.size ≤ q) ∧ ∀ q, x.ownBlock = some q → ¬ F' q
  list : ∀ {w : World} {F : Nat → Prop} {g : Nat} {m : Sm} {N : Nat} {p : List UInt8}, PS w F g m → m.fine N → N ≤ 100000 → p.length ≤ 9223372036854775807 →
    Calls Try.prog 12 #[.pointer (some ⟨g, 0, none⟩), .string (Bstr p)] w fun e w' => ∃ x F', e = .returned (.tuple #[x, errV (sList m p).2]) ∧ Keep (fun q => q < w.heap.size ∨ F' q) (fun u => StL u x (sList m p).1) w' ∧ PS w' F' g (callS m) ∧ Apt F w w' ∧ ∀ q, F' q → F q ∨ w.heap.size ≤ q
  del : ∀ {w : World} {F : Nat → Prop} {g : Nat} {m : Sm} {N : Nat} {n : List UInt8}, PS w F g m → m.fine N → N ≤ 100000 → n.length ≤ 9223372036854775807 →
    Calls Try.prog 15 #[.pointer (some ⟨g, 0, none⟩), .string (Bstr n)] w fun e w' => e = .returned (errV (sDel m n).2) ∧ ∃ F', PS w' F' g (sDel m n).1 ∧ Apt F w w' ∧ ∀ q, F' q → F q ∨ w.heap.size ≤ q
  fail : ∀ {w : World} {F : Nat → Prop} {g : Nat} {m : Sm} {N : Nat} {n : Int}, PS w F g m → m.fine N → -9223372036854775808 ≤ n → n ≤ 9223372036854775807 →
    Calls Try.prog 17 #[.pointer (some ⟨g, 0, none⟩), .int .i64 n] w fun e w' => e = .returned (.tuple #[]) ∧ ∃ F', PS w' F' g (failS m n) ∧ Apt F w w' ∧ ∀ q, F' q → F q ∨ w.heap.size ≤ q
  alt : ∀ {w : World} {F : Nat → Prop} {g : Nat} {m : Sm} {N : Nat} {n : List UInt8} {at_ x : Int}, PS w F g m → m.fine N → N ≤ 100000 → n.length ≤ 9223372036854775807 → -9223372036854775808 ≤ at_ → at_ ≤ 9223372036854775807 → 0 ≤ x → x ≤ 255 →
    Calls Try.prog 19 #[.pointer (some ⟨g, 0, none⟩), .string (Bstr n), .int .i64 at_, .int .u8 x] w fun e w' => e = .returned (.bool (sAlt m n at_ (UInt8.ofNat x.toNat)).2) ∧ ∃ F', PS w' F' g (sAlt m n at_ (UInt8.ofNat x.toNat)).1 ∧ Apt F w w' ∧ ∀ q, F' q → F q ∨ w.heap.size ≤ q
  usedQ : ∀ {w : World} {F : Nat → Prop} {g : Nat} {m : Sm} {N : Nat}, PS w F g m → m.fine N → N ≤ 100000 →
    Calls Try.prog 23 #[.pointer (some ⟨g, 0, none⟩)] w fun e w' => e = .returned (.int .i64 ((usedL m.l : Nat) : Int)) ∧ w = w'
  callsQ : ∀ {w : World} {F : Nat → Prop} {g : Nat} {m : Sm} {N : Nat}, PS w F g m → m.fine N → N ≤ 100000 →
    Calls Try.prog 22 #[.pointer (some ⟨g, 0, none⟩)] w fun e w' => e = .returned (.int .i64 m.calls) ∧ w = w'

theorem StoreK.used {PS : World → (Nat → Prop) → Nat → Sm → Prop} (hK : StoreK PS) {w : World} {F : Nat → Prop} {g : Nat} {m : Sm} {N : Nat} (h : PS w F g m) (hm : m.fine N) (hN : N ≤ 100000) :
    Calls Try.prog 23 #[.pointer (some ⟨g, 0, none⟩)] w fun e w' => e = .returned (.int .i64 ((usedL m.l : Nat) : Int)) ∧ Below w.heap.size w w' := (hK.usedQ h hm hN).mono fun _ _ ⟨h1, h2⟩ => ⟨h1, h2 ▸ Below.refl _ _⟩
theorem StoreK.calls {PS : World → (Nat → Prop) → Nat → Sm → Prop} (hK : StoreK PS) {w : World} {F : Nat → Prop} {g : Nat} {m : Sm} {N : Nat} (h : PS w F g m) (hm : m.fine N) (hN : N ≤ 100000) :
    Calls Try.prog 22 #[.pointer (some ⟨g, 0, none⟩)] w fun e w' => e = .returned (.int .i64 m.calls) ∧ Below w.heap.size w w' := (hK.callsQ h hm hN).mono fun _ _ ⟨h1, h2⟩ => ⟨h1, h2 ▸ Below.refl _ _⟩

/-- what a name has -/
def fnd (n : List UInt8) (l : List Ob) : Option Ob := l.find? fun o => decide (o.nm = n)
theorem fnd_at {n : List UInt8} : ∀ {l : List Ob} {o : Ob}, fnd n l = some o → ∃ i : Nat, atI n l = i ∧ l[i]? = some o
  | [], o, h => by simp [fnd] at h
  | x :: l, o, h => by
    rw [fnd, List.find?_cons] at h
    by_cases hx : x.nm = n
    · rw [decide_eq_true hx] at h
      injection h with h
      subst h
      exact ⟨0, by rw [atI, if_pos hx]; rfl, rfl⟩
    · rw [decide_eq_false hx] at h
      obtain ⟨i, h1, h2⟩ := fnd_at (n := n) (l := l) h
      exact ⟨i + 1, by rw [atI, if_neg hx, h1, if_neg (by omega)]; omega, by simpa using h2⟩
theorem at_fnd {n : List UInt8} : ∀ {l : List Ob} {i : Nat} {o : Ob}, atI n l = i → l[i]? = some o → fnd n l = some o
  | [], i, o, h, ho => by simp at ho
  | x :: l, i, o, h, ho => by
    rw [fnd, List.find?_cons]
    rw [atI] at h
    by_cases hx : x.nm = n
    · rw [if_pos hx] at h
      have : i = 0 := by omega
      subst this
      simp at ho
      subst ho
      rw [decide_eq_true hx]
    · rw [if_neg hx] at h
      rw [decide_eq_false hx]
      split at h
      · omega
      · obtain ⟨j, rfl⟩ : ∃ j, i = j + 1 := ⟨i - 1, by omega⟩
        exact at_fnd (n := n) (l := l) (i := j) (by omega) (by simpa using ho)
theorem fnd_append (n : List UInt8) (l k : List Ob) : fnd n (l ++ k) = (fnd n l).or (fnd n k) := by simp [fnd, List.find?_append]
theorem fnd_cons_ne {n : List UInt8} {o : Ob} (h : o.nm ≠ n) (l : List Ob) : fnd n (o :: l) = fnd n l := by rw [fnd, List.find?_cons, decide_eq_false h]; rfl
theorem fnd_split (n : List UInt8) (l : List Ob) (k : Nat) : fnd n l = (fnd n (l.take k)).or (fnd n (l.drop k)) := by
  conv => lhs; rw [← List.take_append_drop k l]
  exact fnd_append _ _ _
theorem fnd_set {n : List UInt8} : ∀ {l : List Ob} {i : Nat} {o : Ob} (p : Ob), l[i]? = some o → o.nm ≠ n → p.nm ≠ n → fnd n (l.set i p) = fnd n l
  | [], i, o, p, h, _, _ => by simp at h
  | x :: l, 0, o, p, h, h1, h2 => by
    simp at h
    subst h
    rw [List.set_cons_zero, fnd_cons_ne h2, fnd_cons_ne h1]
  | x :: l, i + 1, o, p, h, h1, h2 => by
    have ih := fnd_set (n := n) (l := l) (i := i) p (by simpa using h) h1 h2
    rw [List.set_cons_succ, fnd, fnd, List.find?_cons, List.find?_cons]
    cases decide (x.nm = n) with
    | true => rfl
    | false => exact ih
/-- another name's Put leaves it -/
theorem fnd_put {m : Sm} {n n' b : List UInt8} (h : n' ≠ n) : fnd n (sPut m n' b).1.l = fnd n m.l := by
  unfold sPut
  split
  · rfl
  split
  · rfl
  split
  · rfl
  split
  · show fnd n (m.l.take (insP n' m.l) ++ (⟨n', b⟩ :: m.l.drop (insP n' m.l))) = _
    rw [fnd_append, fnd_cons_ne h, ← fnd_split]
  · rename_i hneg
    rcases atI_ge n' m.l with e | ⟨i, o, e, ho, hn⟩
    · omega
    · show fnd n (m.l.set (atI n' m.l).toNat ⟨n', b⟩) = _
      rw [e, Int.toNat_natCast]
      exact fnd_set _ ho (by rw [hn]; exact h) h
/-- another name's Delete leaves it -/
theorem fnd_del {m : Sm} {n n' : List UInt8} (h : n' ≠ n) : fnd n (sDel m n').1.l = fnd n m.l := by
  unfold sDel
  split
  · rfl
  split
  · rfl
  · rename_i hneg
    rcases atI_ge n' m.l with e | ⟨i, o, e, ho, hn⟩
    · omega
    · show fnd n (m.l.take (atI n' m.l).toNat ++ m.l.drop ((atI n' m.l).toNat + 1)) = _
      rw [e, Int.toNat_natCast, fnd_append, fnd_split n m.l i]
      have hil := (List.getElem?_eq_some_iff.1 ho).1
      have hd : m.l.drop i = o :: m.l.drop (i + 1) := by
        rw [List.drop_eq_getElem_cons hil, (List.getElem?_eq_some_iff.1 ho).2]
      rw [hd, fnd_cons_ne (by rw [hn]; exact h)]
theorem fnd_set_same {n : List UInt8} : ∀ {l : List Ob} {i : Nat} {o : Ob} (b : List UInt8), atI n l = i → l[i]? = some o → fnd n (l.set i ⟨n, b⟩) = some ⟨n, b⟩
  | [], i, o, b, h, ho => by simp at ho
  | x :: l, i, o, b, h, ho => by
    rw [atI] at h
    by_cases hx : x.nm = n
    · rw [if_pos hx] at h
      have : i = 0 := by omega
      subst this
      rw [List.set_cons_zero, fnd, List.find?_cons]
      simp
    · rw [if_neg hx] at h
      split at h
      · omega
      · obtain ⟨j, rfl⟩ : ∃ j, i = j + 1 := ⟨i - 1, by omega⟩
        rw [List.set_cons_succ, fnd_cons_ne hx]
        exact fnd_set_same (n := n) (l := l) (i := j) b (by omega) (by simpa using ho)
/-- what was put is there -/
theorem fnd_same {m : Sm} {n b : List UInt8} (h : (sPut m n b).2 = 0) : ∃ o, fnd n (sPut m n b).1.l = some o ∧ o.b = b := by
  unfold sPut at h ⊢
  split at h
  · cases h
  split at h
  · cases h
  split at h
  · cases h
  rename_i h1 h2 h3
  rw [if_neg h1, if_neg h2, if_neg h3]
  split
  · rename_i hneg
    refine ⟨⟨n, b⟩, ?_, rfl⟩
    show fnd n (m.l.take (insP n m.l) ++ (⟨n, b⟩ :: m.l.drop (insP n m.l))) = _
    have hno : fnd n (m.l.take (insP n m.l)) = none := by
      cases hf : fnd n (m.l.take (insP n m.l)) with
      | none => rfl
      | some o =>
        have : fnd n m.l = some o := by rw [fnd_split n m.l (insP n m.l), hf]; rfl
        obtain ⟨i, e, _⟩ := fnd_at this
        omega
    rw [fnd_append, hno, fnd, List.find?_cons]
    simp
  · rename_i hneg
    rcases atI_ge n m.l with e | ⟨i, o, e, ho, hn⟩
    · omega
    · refine ⟨⟨n, b⟩, ?_, rfl⟩
      show fnd n (m.l.set (atI n m.l).toNat ⟨n, b⟩) = _
      rw [e, Int.toNat_natCast]
      exact fnd_set_same b e ho
theorem sGet_fnd {m : Sm} {n : List UInt8} {o : Ob} (hc : callB m = true) (h : fnd n m.l = some o) : sGet m n = (o.b, 0) := by
  obtain ⟨i, e, ho⟩ := fnd_at h
  exact sGet_some hc e ho

end Go.Proofs.Ytihpnkhkbbakbaa
