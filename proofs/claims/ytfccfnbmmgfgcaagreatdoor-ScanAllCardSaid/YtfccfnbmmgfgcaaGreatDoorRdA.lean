/-
  CONTRACTS of the document's Meta, Page, All of a block, whatever the store has. Conditions: what each says.
  CONTRACT of the document's Find (a trace in a block), whatever the store has. Conditions: what it says.
-/
import Derived.Test.YtfccfnbmmgfgcaaGreatDoorBkP
import Derived.Test.YtfccfnbmmgfgcaaGreatDoorBlO
namespace Go.Proofs.YtfccfnbmmgfgcaaGreatDoor
open Go.RowKit
set_option maxRecDepth 100000

theorem sGet_len (m : Sm) (n : List UInt8) : (sGet m n).1.length ≤ usedL m.l := by
  have hmem : ∀ o ∈ m.l, o.b.length ≤ usedL m.l := fun o h => by
    obtain ⟨i, hi⟩ := List.getElem?_of_mem h
    have h1 := usedL_split m.l i
    have hil := (List.getElem?_eq_some_iff.1 hi).1
    have hd : m.l.drop i = o :: m.l.drop (i + 1) := by rw [List.drop_eq_getElem_cons hil, (List.getElem?_eq_some_iff.1 hi).2]
    rw [hd, usedL_cons] at h1
    omega
  unfold sGet
  split
  · simp
  · cases ho : m.l[(atI n m.l).toNat]? with
    | none => simp
    | some o =>
      simp only
      split
      · simp
      · exact hmem o (List.mem_of_getElem? ho)
theorem meX_may {x : List UInt8} (h : (meX x).1 = 0) : meB (meX x).2 = true := by
  unfold meX meOf at h ⊢
  repeat' split
  all_goals simp_all
def meR (m : Sm) (id : Nat) : Int × Me :=
  if (sGet m (nmOf id [109] 0)).2 ≠ 0 then ((sGet m (nmOf id [109] 0)).2, Me.zero)
  else if (meX (sGet m (nmOf id [109] 0)).1).1 ≠ 0 then ((meX (sGet m (nmOf id [109] 0)).1).1, Me.zero)
  else if (meX (sGet m (nmOf id [109] 0)).1).2.id = (id : Int) then (0, (meX (sGet m (nmOf id [109] 0)).1).2) else (2, Me.zero)

open Classical in
noncomputable def pgX (x : List UInt8) : Int × List Tn :=
  if x.length < 4 then (2, []) else if tailOf x = crcOf (bodyOf x) then (if h : ∃ m, ValP m ∧ pgBody m = bodyOf x then (0, Classical.choose h) else (2, [])) else (7, [])
theorem pgX_short {x : List UInt8} (h : x.length < 4) : pgX x = (2, []) := if_pos h
theorem pgX_sum {x : List UInt8} (h : ¬ x.length < 4) (h2 : tailOf x ≠ crcOf (bodyOf x)) : pgX x = (7, []) := by rw [pgX, if_neg h, if_neg h2]
theorem pgX_form {x : List UInt8} (h : ¬ x.length < 4) (h2 : tailOf x = crcOf (bodyOf x)) (h3 : ¬ ∃ m, ValP m ∧ pgBody m = bodyOf x) : pgX x = (2, []) := by rw [pgX, if_neg h, if_pos h2, dif_neg h3]
theorem pgX_yes {x : List UInt8} (h : ¬ x.length < 4) (h2 : tailOf x = crcOf (bodyOf x)) (h3 : ∃ m, ValP m ∧ pgBody m = bodyOf x) : ∃ m, pgX x = (0, m) ∧ ValP m ∧ pgBody m = bodyOf x := by
  refine ⟨Classical.choose h3, ?_, Classical.choose_spec h3⟩
  rw [pgX, if_neg h, if_pos h2, dif_pos h3]
theorem pgX_len (x : List UInt8) : (pgX x).2.length ≤ 64 := by
  by_cases h : x.length < 4
  · rw [pgX_short h]; simp
  · by_cases h2 : tailOf x = crcOf (bodyOf x)
    · by_cases h3 : ∃ m, ValP m ∧ pgBody m = bodyOf x
      · obtain ⟨m, e, hv, _⟩ := pgX_yes h h2 h3
        rw [e]
        exact hv.most
      · rw [pgX_form h h2 h3]; simp
    · rw [pgX_sum h h2]; simp
noncomputable def pgR (m : Sm) (id i : Nat) : Int × List Tn :=
  if (sGet m (nmOf id [112] (i : Int))).2 ≠ 0 then ((sGet m (nmOf id [112] (i : Int))).2, []) else pgX (sGet m (nmOf id [112] (i : Int))).1
theorem pgR_len (m : Sm) (id i : Nat) : (pgR m id i).2.length ≤ 64 := by
  unfold pgR
  split
  · simp
  · exact pgX_len _

noncomputable def rdA (id : Nat) : Nat → Nat → Sm → List Tn → (Int × List Tn) × Sm
  | 0, _, m, out => ((0, out), m)
  | n + 1, k, m, out => if (pgR m id k).1 ≠ 0 then (((pgR m id k).1, []), callS m) else rdA id n (k + 1) (callS m) (out ++ (pgR m id k).2)
noncomputable def alR (m : Sm) (id : Nat) : (Int × List Tn) × Sm :=
  if (meR m id).1 ≠ 0 then (((meR m id).1, []), callS m)
  else if (rdA id (meR m id).2.pg.toNat 0 (callS m) []).1.1 ≠ 0 then rdA id (meR m id).2.pg.toNat 0 (callS m) []
  else if isB (rdA id (meR m id).2.pg.toNat 0 (callS m) []).1.2 = true ∧ ((rdA id (meR m id).2.pg.toNat 0 (callS m) []).1.2.length : Int) = (meR m id).2.tr then rdA id (meR m id).2.pg.toNat 0 (callS m) []
  else ((2, []), (rdA id (meR m id).2.pg.toNat 0 (callS m) []).2)
theorem meR_pages {m : Sm} {id : Nat} (h : (meR m id).1 = 0) : 0 ≤ (meR m id).2.pg ∧ (meR m id).2.pg ≤ 200 := by
  unfold meR at h ⊢
  split at h
  · rename_i h1
    exact absurd h h1
  · split at h
    · rename_i h1
      exact absurd h h1
    · rename_i h1 h2
      split at h
      · rename_i h3
        rw [if_neg h1, if_neg h2, if_pos h3]
        have := meX_may (Classical.not_not.1 h2)
        have hp : meP _ := of_decide_eq_true this
        obtain ⟨_, _, _, _, _, _, h7, h8, _⟩ := hp
        constructor <;> (simp only; omega)
      · cases h
theorem rdA_fail {id n k : Nat} {m : Sm} {out : List Tn} (h : (pgR m id k).1 ≠ 0) : rdA id (n + 1) k m out = (((pgR m id k).1, []), callS m) := by rw [rdA, if_pos h]
theorem rdA_on {id n k : Nat} {m : Sm} {out : List Tn} (h : (pgR m id k).1 = 0) : rdA id (n + 1) k m out = rdA id n (k + 1) (callS m) (out ++ (pgR m id k).2) := by rw [rdA, if_neg (by rw [h]; simp)]

end Go.Proofs.YtfccfnbmmgfgcaaGreatDoor
