/-
  CONTRACTS of crc.Seal, crc.Open and bytes.Clone.
-/
import Derived.Test.YtkhdlcoappkgkaaDoorCrcB
import Derived.Test.YtkhdlcoappkgkaaDoorMore
namespace Go.Proofs.YtkhdlcoappkgkaaDoor
open Go.RowKit

/-- bytes, sealed -/
def sealedOf (l : List UInt8) : List UInt8 := l ++ bet (crcOf l) 4
theorem sealedOf_length (l : List UInt8) : (sealedOf l).length = l.length + 4 := by simp [sealedOf, bet_length]
/-- the bytes ahead of the last four -/
def bodyOf (x : List UInt8) : List UInt8 := x.take (x.length - 4)
/-- the number that the last four are -/
def tailOf (x : List UInt8) : Nat := num (x.drop (x.length - 4))

theorem tailOf_lt (x : List UInt8) : tailOf x < 4294967296 := by
  have h := num_lt (x.drop (x.length - 4))
  have h2 : 256 ^ (x.drop (x.length - 4)).length ≤ 256 ^ 4 := Nat.pow_le_pow_right (by omega) (by simp; omega)
  unfold tailOf
  omega

theorem sealed_iff (x : List UInt8) (h : 4 ≤ x.length) : sealedOf (bodyOf x) = x ↔ tailOf x = crcOf (bodyOf x) := by
  have hx : bodyOf x ++ x.drop (x.length - 4) = x := List.take_append_drop _ _
  have hd : (x.drop (x.length - 4)).length = 4 := by simp; omega
  have hc := crcOf_lt (bodyOf x)
  constructor
  · intro he
    have h1 : bodyOf x ++ bet (crcOf (bodyOf x)) 4 = bodyOf x ++ x.drop (x.length - 4) := by rw [hx]; exact he
    have h2 := List.append_cancel_left h1
    unfold tailOf
    rw [← h2, num_bet 4 _ (by omega)]
  · intro he
    unfold sealedOf
    rw [← he]
    unfold tailOf
    have h3 := bet_num (x.drop (x.length - 4))
    rw [hd] at h3
    rw [h3, hx]

theorem putOk4 (l : List UInt8) : putOk 4 (crcOf l : Int) = true := by
  have := crcOf_lt l
  simp [putOk, isW]
  omega

set_option maxHeartbeats 400000 in
theorem seal_any (l : List UInt8) (v : Value) (w : World) (hl : l.length ≤ 140737488355320) (hv : Bs w v l) :
    Calls Tryd.prog 27 #[v] w fun e w' => ∃ v', e = .returned v' ∧ Own w' w.heap.size 5 v' (sealedOf l) ∧ Below w.heap.size w w' := by
  have hc := crcOf_lt l
  go_enter Tryd.func27, Tryd.ntmps27
  go_wp2_with fail
  refine (sum_any l v _ hv).mono ?_
  rintro e w' ⟨rfl, rfl⟩
  go_wp2_with fail
  refine (put_ok l v 4 (crcOf l) _ (by omega) (putOk4 l) (by omega) hv).mono ?_
  rintro e w1 ⟨v1, rfl, hown1, hb1⟩
  rw [Int.toNat_natCast, show Int.toNat 4 = 4 from rfl] at hown1
  go_wp2_with fail
  go_ret
  exact ⟨_, rfl, hown1, hb1⟩

set_option maxHeartbeats 400000 in
theorem clone_any (l : List UInt8) (v : Value) (w : World) (hl : l.length ≤ 140737488355328) (hv : Bs w v l) :
    Calls Tryd.prog 49 #[v] w fun e w' => ∃ v', e = .returned v' ∧ Own w' w.heap.size 5 v' l ∧ Below w.heap.size w w' := by
  have hv' := hv
  obtain ⟨A, c, rfl, hc1, hc2, hr⟩ := hv'
  have hnil := fun u : World => Lib.run_eql_slice_nil (P := Tryd.prog) u 28 5 A l.length c 0 0 byteT.under
  cases A with
  | none =>
    have h0 : l = [] := by
      have := hr.noneEq
      simpa [BV] using this
    subst h0
    simp only [Option.isNone_none, List.length_nil] at hnil
    go_enter Tryd.func49, Tryd.ntmps49
    go_wp2_with fail
    go_ret
    exact ⟨_, rfl, Own.nil _ _ _, Below.refl _ _⟩
  | some ad =>
    simp only [Option.isNone_some] at hnil
    go_enter Tryd.func49, Tryd.ntmps49
    go_wp2_with (at_builtin; refine wpList_append_v _ byteT rfl _ _ rfl w.heap.size (.slice (some ⟨w.heap.size, 0, none⟩) 0 0) [] rfl (Own.made w w.heap.size 5 #[] 0 (Nat.le_refl _) (by simp [maxLen]) rfl) _ l rfl (hv.alloc _) (by simp; omega) (by simp) ?_)
    intro v2 w2 hown2 hg2 _
    have hb2 : Below w.heap.size w w2 := ((Below.refl _ w).alloc (Nat.le_refl _) _).grown hg2 (by simp) (by intro k hk; simp [Value.ownBlock] at hk; omega)
    clear hnil hg2
    go_wp2_with fail
    go_ret
    exact ⟨_, rfl, hown2, hb2⟩

theorem open_short (l : List UInt8) (v : Value) (w : World) (hl : l.length < 4) (hv : Bs w v l) :
    Calls Tryd.prog 31 #[v] w fun e w' => e = .returned (.tuple #[.slice none 0 0, code 2]) ∧ w = w' := by
  obtain ⟨A, c, rfl, hc1, hc2, hr⟩ := hv
  go_enter Tryd.func31, Tryd.ntmps31
  go_wp2_with fail
  go_ret2
  exact ⟨rfl, rfl⟩

end Go.Proofs.YtkhdlcoappkgkaaDoor
