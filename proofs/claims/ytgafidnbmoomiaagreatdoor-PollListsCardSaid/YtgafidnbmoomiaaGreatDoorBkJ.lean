/-
  CONTRACT of the document's Make; the head of layer 14's statements. Conditions: at most 200 traces, 10000000 spans; of the library's tables: Ld.
  BlockMakes, walked: what is to be put of any traces, in any sizes. Conditions: what each says; of the library's tables: Ld.
-/
import Derived.Test.YtgafidnbmoomiaaGreatDoorBkF
namespace Go.Proofs.YtgafidnbmoomiaaGreatDoor
open Go.RowKit
set_option maxRecDepth 100000

open Classical in
noncomputable def bkL (id : Nat) (lv : Int) (l : List Tn) (s : Sz) : List Ob := if BkOk id lv l s then bkObs id lv l s else []

open Classical in
noncomputable def bkM (id : Nat) (lv : Int) (l : List Tn) (s : Sz) : Me := if BkOk id lv l s then bkMe id lv l s else Me.zero

open Classical in
noncomputable def bkC (id : Nat) (lv : Int) (l : List Tn) (s : Sz) : Int := if BkOk id lv l s then 0 else 1

theorem bk_ok {id : Nat} {lv : Int} {l : List Tn} {s : Sz} (h : BkOk id lv l s) : bkL id lv l s = bkObs id lv l s ∧ bkM id lv l s = bkMe id lv l s ∧ bkC id lv l s = 0 := ⟨if_pos h, if_pos h, if_pos h⟩

theorem bk_no {id : Nat} {lv : Int} {l : List Tn} {s : Sz} (h : ¬ BkOk id lv l s) : bkL id lv l s = [] ∧ bkM id lv l s = Me.zero ∧ bkC id lv l s = 1 := ⟨if_neg h, if_neg h, if_neg h⟩

theorem DMakeP.all {w w' : World} {id : Nat} {lv : Int} {l : List Tn} {s : Sz} {e : Ending} (h : DMakeP w w' id lv l s e) : ∃ x, e = .returned (.tuple #[x, meV (bkM id lv l s), .int .i64 (bkC id lv l s)]) ∧ OwnL 2 w' w.heap.size 99 x ((bkL id lv l s).map obC) := by
  rcases h with ⟨hn, he⟩ | ⟨hk, x, he, hx⟩
  · obtain ⟨e1, e2, e3⟩ := bk_no hn
    rw [e1, e2, e3]
    exact ⟨_, he, OwnL.nil _ _ _ _⟩
  · obtain ⟨e1, e2, e3⟩ := bk_ok hk
    rw [e1, e2, e3]
    exact ⟨x, he, hx⟩

end Go.Proofs.YtgafidnbmoomiaaGreatDoor
