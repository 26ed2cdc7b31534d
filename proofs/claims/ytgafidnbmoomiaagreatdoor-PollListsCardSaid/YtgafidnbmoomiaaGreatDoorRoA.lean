/-
  ROSTERS (layer 17), plain: which blocks a store has, what a listing tells of any store, a roster's bytes and what any bytes are. No condition but what each says.
  ROSTERS, plain: what was put is got as it was; Ids rise as names do; what List tells without an error. No condition but what each says.
-/
import Derived.Test.YtgafidnbmoomiaaGreatDoorRdA
namespace Go.Proofs.YtgafidnbmoomiaaGreatDoor
open Go.RowKit
set_option maxRecDepth 100000

noncomputable def idOf (s : List UInt8) : Option Nat := open Classical in if h : ∃ id, NamedAs s id [109] 0 then some (Classical.choose h) else none

theorem idOf_some {s : List UInt8} {id : Nat} (h : NamedAs s id [109] 0) : idOf s = some id := by
  have hx : ∃ id, NamedAs s id [109] 0 := ⟨id, h⟩
  rw [idOf, dif_pos hx, (Classical.choose_spec hx).one h |>.1]

theorem idOf_none {s : List UInt8} (h : ∀ id, ¬ NamedAs s id [109] 0) : idOf s = none := by
  rw [idOf, dif_neg fun ⟨id, hx⟩ => h id hx]

theorem sortW_m : sortW [109] := .inl rfl

theorem idOf_no {s : List UInt8} {id : Nat} {what : List UInt8} {n : Int} (h : ParseP s id what n false) : idOf s = none := by
  rcases h with ⟨h, _⟩ | ⟨_, _, _, _, h⟩
  · cases h
  · exact idOf_none fun id hx => h _ _ _ hx

theorem idOf_other {s : List UInt8} {id : Nat} {what : List UInt8} {n : Int} {is : Bool} (h : ParseP s id what n is) (hw : what ≠ [109]) : idOf s = none := by
  rcases h with ⟨_, k, _, h⟩ | ⟨_, _, _, _, h⟩
  · exact idOf_none fun id hx => hw (h.one hx).2.1
  · exact idOf_none fun id hx => h _ _ _ hx

theorem idOf_yes {s : List UInt8} {id : Nat} {n : Int} (h : ParseP s id [109] n true) : idOf s = some id ∧ id < 18446744073709551616 := by
  rcases h with ⟨_, k, _, h⟩ | ⟨h, _⟩
  · rcases h.kind with h1 | ⟨h1, rfl⟩
    · cases h1
    · exact ⟨idOf_some h, h.idlt⟩
  · cases h

noncomputable def lvN (l : List Ob) (ns : List (List UInt8)) : List Nat := (ns.filterMap idOf).filter fun id => decide (atI (nmOf id [120] 0) l < 0)

noncomputable def mkN (l : List Ob) (ns : List (List UInt8)) : List Nat := (ns.filterMap idOf).filter fun id => decide (0 ≤ atI (nmOf id [120] 0) l)

theorem lvN_none {l : List Ob} {ns : List (List UInt8)} {s : List UInt8} (h : idOf s = none) : lvN l (ns ++ [s]) = lvN l ns ∧ mkN l (ns ++ [s]) = mkN l ns := by
  simp [lvN, mkN, List.filterMap_append, h]

theorem lvN_live {l : List Ob} {ns : List (List UInt8)} {s : List UInt8} {id : Nat} (h : idOf s = some id) (ha : atI (nmOf id [120] 0) l < 0) : lvN l (ns ++ [s]) = lvN l ns ++ [id] ∧ mkN l (ns ++ [s]) = mkN l ns := by
  have h2 : ¬ 0 ≤ atI (nmOf id [120] 0) l := by omega
  simp [lvN, mkN, List.filterMap_append, List.filter_append, h, ha, h2]

theorem lvN_mark {l : List Ob} {ns : List (List UInt8)} {s : List UInt8} {id : Nat} (h : idOf s = some id) (ha : 0 ≤ atI (nmOf id [120] 0) l) : lvN l (ns ++ [s]) = lvN l ns ∧ mkN l (ns ++ [s]) = mkN l ns ++ [id] := by
  have h2 : ¬ atI (nmOf id [120] 0) l < 0 := by omega
  simp [lvN, mkN, List.filterMap_append, List.filter_append, h, ha, h2]

theorem lvN_len (l : List Ob) (ns : List (List UInt8)) : (lvN l ns).length + (mkN l ns).length ≤ ns.length := by
  have h1 : ∀ (k : List Nat), (k.filter fun id => decide (atI (nmOf id [120] 0) l < 0)).length + (k.filter fun id => decide (0 ≤ atI (nmOf id [120] 0) l)).length = k.length := by
    intro k
    induction k with
    | nil => rfl
    | cons x k ih =>
      rw [List.filter_cons, List.filter_cons]
      by_cases hx : atI (nmOf x [120] 0) l < 0
      · have h2 : ¬ 0 ≤ atI (nmOf x [120] 0) l := by omega
        simp [hx, h2]
        omega
      · have h2 : 0 ≤ atI (nmOf x [120] 0) l := by omega
        simp [hx, h2]
        omega
  unfold lvN mkN
  rw [h1]
  exact List.length_filterMap_le _ _

noncomputable def nsR (m : Sm) : Int × List Nat × List Nat := if (sList m [98, 47]).2 ≠ 0 then ((sList m [98, 47]).2, [], []) else (0, lvN m.l (sList m [98, 47]).1, mkN m.l (sList m [98, 47]).1)

def mrR (m : Sm) (id : Nat) : Int × Mk := if (sGet m (nmOf id [120] 0)).2 ≠ 0 then ((sGet m (nmOf id [120] 0)).2, Mk.zero) else if (mkX (sGet m (nmOf id [120] 0)).1).1 ≠ 0 then ((mkX (sGet m (nmOf id [120] 0)).1).1, Mk.zero) else if (mkX (sGet m (nmOf id [120] 0)).1).2.id = (id : Int) then (0, (mkX (sGet m (nmOf id [120] 0)).1).2) else (2, Mk.zero)

def loR : List Nat → Sm → List Me → (Int × List Me) × Sm
  | [], m, out => ((0, out), m)
  | id :: r, m, out => if (meR m id).1 ≠ 0 then (((meR m id).1, out), callS m) else loR r (callS m) (out ++ [(meR m id).2])

def moR : List Nat → Sm → List Mk → (Int × List Mk) × Sm
  | [], m, out => ((0, out), m)
  | id :: r, m, out => if (mrR m id).1 ≠ 0 then (((mrR m id).1, out), callS m) else moR r (callS m) (out ++ [(mrR m id).2])

noncomputable def liR (m : Sm) : (Int × List Me × List Mk) × Sm :=
  if (nsR m).1 ≠ 0 then (((nsR m).1, [], []), callS m)
  else if (loR (nsR m).2.1 (callS m) []).1.1 ≠ 0 then (((loR (nsR m).2.1 (callS m) []).1.1, [], []), (loR (nsR m).2.1 (callS m) []).2)
  else if (moR (nsR m).2.2 (loR (nsR m).2.1 (callS m) []).2 []).1.1 ≠ 0 then (((moR (nsR m).2.2 (loR (nsR m).2.1 (callS m) []).2 []).1.1, [], []), (moR (nsR m).2.2 (loR (nsR m).2.1 (callS m) []).2 []).2)
  else if 1000 < (nsR m).2.1.length + (nsR m).2.2.length then ((3, [], []), (moR (nsR m).2.2 (loR (nsR m).2.1 (callS m) []).2 []).2)
  else ((0, (loR (nsR m).2.1 (callS m) []).1.2, (moR (nsR m).2.2 (loR (nsR m).2.1 (callS m) []).2 []).1.2), (moR (nsR m).2.2 (loR (nsR m).2.1 (callS m) []).2 []).2)

theorem lt_append : ∀ {a b : List UInt8} (x y : List UInt8), a.length = b.length → a < b → a ++ x < b ++ y
  | [], [], _, _, _, h => absurd h (List.lt_irrefl _)
  | [], _ :: _, _, _, hl, _ => by simp at hl
  | _ :: _, [], _, _, hl, _ => by simp at hl
  | c :: a, d :: b, x, y, hl, h => by
    rw [List.cons_append, List.cons_append]
    rw [List.cons_lt_cons_iff] at h ⊢
    rcases h with h | ⟨h1, h2⟩
    · exact .inl h
    · exact .inr ⟨h1, lt_append x y (by simpa using hl) h2⟩

theorem append_lt : ∀ (a : List UInt8) {x y : List UInt8}, x < y → a ++ x < a ++ y
  | [], _, _, h => h
  | c :: a, x, y, h => by
    rw [List.cons_append, List.cons_append, List.cons_lt_cons_iff]
    exact .inr ⟨rfl, append_lt a h⟩

theorem dchar_lt {d e : Nat} (h : d < e) (he : e < 16) : dchar d < dchar e := by
  rw [UInt8.lt_iff_toNat_lt, dchar_toNat d (by omega), dchar_toNat e he]
  split <;> split <;> omega

theorem digs_up : ∀ (k m n : Nat), m < n → n < 16 ^ k → digs 16 m k < digs 16 n k
  | 0, m, n, h, hn => by simp at hn; omega
  | k + 1, m, n, h, hn => by
    have hk : n / 16 < 16 ^ k := by
      rw [Nat.div_lt_iff_lt_mul (by omega)]
      rwa [Nat.pow_succ] at hn
    show digs 16 (m / 16) k ++ [dchar (m % 16)] < digs 16 (n / 16) k ++ [dchar (n % 16)]
    by_cases hd : m / 16 = n / 16
    · rw [hd]
      refine append_lt _ ?_
      rw [List.cons_lt_cons_iff]
      exact .inl (dchar_lt (by omega) (by omega))
    · exact lt_append _ _ (by rw [digs_length, digs_length]) (digs_up k _ _ (by omega) hk)

theorem name_lt {i j : Nat} (h : i < j) (hj : j < 18446744073709551616) : nmOf i [109] 0 < nmOf j [109] 0 := by
  rw [nmOf_sort sortW_m, nmOf_sort sortW_m, nmHead, nmHead]
  simp only [List.append_assoc]
  exact append_lt _ (lt_append _ _ (by rw [digs_length, digs_length]) (digs_up 16 i j h (Nat.lt_of_lt_of_le hj (by decide))))

theorem idOf_named {s : List UInt8} {id : Nat} (h : idOf s = some id) : NamedAs s id [109] 0 := by
  by_cases hx : ∃ id, NamedAs s id [109] 0
  · obtain ⟨i, hi⟩ := hx
    rw [idOf_some hi] at h
    exact Option.some.inj h ▸ hi
  · rw [idOf_none fun i hi => hx ⟨i, hi⟩] at h
    cases h

theorem ids_up {ns : List (List UInt8)} (h : ns.Pairwise (· < ·)) : (ns.filterMap idOf).Pairwise (· < ·) := by
  rw [List.pairwise_filterMap]
  refine h.imp fun {a b} hab i hi j hj => ?_
  have h1 := idOf_named hi
  have h2 := idOf_named hj
  rw [h1.eq, h2.eq] at hab
  rcases Nat.lt_trichotomy i j with h3 | h3 | h3
  · exact h3
  · subst h3
    exact absurd hab (List.lt_irrefl _)
  · exact absurd (List.lt_trans hab (name_lt h3 h1.idlt)) (List.lt_irrefl _)

theorem sNames_up {l : List Ob} (h : Rise l) (p : List UInt8) : (sNames l p).Pairwise (· < ·) := by
  rw [sNames, List.pairwise_map]
  exact h.filter _

theorem lvN_lt {l : List Ob} {ns : List (List UInt8)} {i : Nat} (h : i ∈ lvN l ns) : i < 18446744073709551616 := by
  obtain ⟨s, _, hs⟩ := List.mem_filterMap.1 (List.mem_filter.1 h).1
  exact (idOf_named hs).idlt

theorem mkN_lt {l : List Ob} {ns : List (List UInt8)} {i : Nat} (h : i ∈ mkN l ns) : i < 18446744073709551616 := by
  obtain ⟨s, _, hs⟩ := List.mem_filterMap.1 (List.mem_filter.1 h).1
  exact (idOf_named hs).idlt

end Go.Proofs.YtgafidnbmoomiaaGreatDoor
