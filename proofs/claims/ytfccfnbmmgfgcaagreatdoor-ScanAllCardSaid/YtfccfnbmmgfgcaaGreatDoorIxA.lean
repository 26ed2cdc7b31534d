/-
  AN INDEX, as a plain list: what it is ('ixB'), its bytes ('ixBytes'), what bytes are read as ('ixGet'), which page is found ('IsAt'). No condition but what each theorem says.
  CONTRACTS of the program's index: isIndex, Find. Conditions: what each says.
  CONTRACTS of the program's index: Put, read, Get. Conditions: what each says.
  CONTRACTS of the program's index: Get. Conditions: what each says.
  CONTRACTS of the document's index: Rises, Find, Index, Indexed. Conditions: what each says.
-/
import Derived.Test.YtfccfnbmmgfgcaaGreatDoorCrcA
import Derived.Test.YtfccfnbmmgfgcaaGreatDoorMore
import Derived.Test.YtfccfnbmmgfgcaaGreatDoorUs
import Derived.Test.YtfccfnbmmgfgcaaGreatDoorMix
import Derived.Deep.DeepCutAuto
namespace Go.Proofs.YtfccfnbmmgfgcaaGreatDoor
open Go.RowKit

def risB : List Nat → Bool
  | [] => true
  | [_] => true
  | a :: b :: l => decide (a < b) && risB (b :: l)
theorem risB_snoc : ∀ (l : List Nat) (a b : Nat), risB (l ++ [a, b]) = (risB (l ++ [a]) && decide (a < b))
  | [], a, b => by simp [risB]
  | [x], a, b => by simp [risB]
  | x :: y :: l, a, b => by
    have := risB_snoc (y :: l) a b
    simp only [List.cons_append, risB] at this ⊢
    rw [this, Bool.and_assoc]
theorem risB_iff : ∀ (l : List Nat), risB l = true ↔ ∀ (i a b : Nat), l[i]? = some a → l[i + 1]? = some b → a < b
  | [] => by simp [risB]
  | [x] => by
    simp only [risB, true_iff]
    intro i a b h1 h2
    simp at h2
  | x :: y :: l => by
    rw [risB, Bool.and_eq_true, decide_eq_true_eq, risB_iff (y :: l)]
    constructor
    · rintro ⟨h1, h2⟩ i a b ha hb
      cases i with
      | zero =>
        simp at ha hb
        omega
      | succ i => exact h2 i a b (by simpa using ha) (by simpa using hb)
    · intro h
      exact ⟨h 0 x y rfl rfl, fun i a b ha hb => h (i + 1) a b (by simpa using ha) (by simpa using hb)⟩
def ixB (l : List Nat) : Bool := risB l && decide (l.length ≤ 200)
def ixBytes (l : List Nat) : List UInt8 := bet l.length 2 ++ l.flatMap fun x => bet x 8
theorem ix_flat (l : List Nat) : (l.flatMap fun x => bet x 8).length = 8 * l.length := by
  induction l with
  | nil => rfl
  | cons x l ih =>
    rw [List.flatMap_cons, List.length_append, ih, bet_length, List.length_cons]
    omega
theorem ixBytes_length (l : List Nat) : (ixBytes l).length = 2 + 8 * l.length := by rw [ixBytes, List.length_append, bet_length, ix_flat]
def IsAt (l : List Nat) (id : Nat) (k : Int) : Prop := -1 ≤ k ∧ k < (l.length : Int) ∧ (∀ (i x : Nat), l[i]? = some x → (i : Int) = k → x ≤ id) ∧ ∀ (i x : Nat), l[i]? = some x → k < (i : Int) → id < x
theorem IsAt.one {l : List Nat} {id : Nat} {k k' : Int} (h : IsAt l id k) (h' : IsAt l id k') : k = k' := by
  have key : ∀ {k k' : Int}, IsAt l id k → IsAt l id k' → k ≤ k' := by
    intro k k' h h'
    rcases Int.lt_or_le k' k with hlt | hle
    · have h0 : 0 ≤ k := by have := h'.1; omega
      obtain ⟨n, rfl⟩ := Int.eq_ofNat_of_zero_le h0
      have hn : n < l.length := by have := h.2.1; omega
      have e : l[n]? = some l[n] := List.getElem?_eq_getElem hn
      have h1 := h.2.2.1 n _ e rfl
      have h2 := h'.2.2.2 n _ e hlt
      omega
    · exact hle
  have h1 := key h h'
  have h2 := key h' h
  omega

set_option maxRecDepth 100000

theorem wrap_pred {k m : Nat} (h : k = m + 1) (hm : (m : Int) < 9223372036854775807) : IntKind.i64.wrap ((k : Int) - 1) = (m : Int) := by
  rw [show (k : Int) - 1 = (m : Int) by omega]
  exact IntWalk.i64_in _ (by omega)
theorem risB_take_succ {l : List Nat} {k m x y : Nat} (hk : k = m + 1) (hy : l[m]? = some y) (hx : l[k]? = some x) : risB (l.take (k + 1)) = (risB (l.take k) && decide (y < x)) := by
  subst hk
  obtain ⟨h1, e1⟩ := List.getElem?_eq_some_iff.1 hx
  obtain ⟨h2, e2⟩ := List.getElem?_eq_some_iff.1 hy
  subst e1
  subst e2
  rw [List.take_succ_eq_append_getElem h1, List.take_succ_eq_append_getElem h2, List.append_assoc]
  exact risB_snoc _ _ _
theorem risB_take_false : ∀ {l : List Nat} {n : Nat}, risB (l.take n) = false → risB l = false := by
  intro l n h
  cases hb : risB l with
  | false => rfl
  | true =>
    have : risB (l.take n) = true := (risB_iff _).2 fun i a b h1 h2 => by
      rw [List.getElem?_take] at h1 h2
      split at h1
      · split at h2
        · exact (risB_iff l).1 hb i a b h1 h2
        · cases h2
      · cases h1
    rw [this] at h
    cases h

set_option maxHeartbeats 1600000 in
theorem isIndex_any (v : Value) (l : List Nat) (w : World) (h : Us w v l) :
    Calls Tryz.prog 158 #[v] w fun e w' => e = .returned (.bool (ixB l)) ∧ Below w.heap.size w w' := by
  obtain ⟨A, c, rfl, hc1, hc2⟩ := h.form
  have H := Lib.hid h
  clear h
  go_enter Tryz.func158, Tryz.ntmps158
  go_wp2_with fail
  go_loopg [6] l.length (fun gk iv wr => ∃ (k : Nat), k + gk = l.length ∧ iv = .int .i64 (k : Int) ∧ Hid (Below w.heap.size w wr ∧ risB (l.take k) = true))
  case atStart => exact ⟨0, by omega, rfl, Lib.hid ⟨Below.refl _ _, rfl⟩⟩
  case round =>
    obtain ⟨k, hk, rfl, HM⟩ := hrel
    by_cases hkl : k < l.length
    · obtain ⟨gk1, hgk1⟩ : ∃ x, gk = x + 1 := ⟨gk - 1, by omega⟩
      obtain ⟨x, hx⟩ : ∃ x, l[k]? = some x := ⟨_, List.getElem?_eq_getElem hkl⟩
      obtain ⟨q, o, rfl, hq, hcx⟩ := (H.out.below HM.out.1).cell hx
      have HX := Lib.hid hx
      have a0 : (0 : Int) ≤ (k : Int) := by omega
      have a1 : (k : Int) < (l.length : Int) := by omega
      clear hx
      by_cases hk0 : k = 0
      · subst hk0
        have HU : Hid (risB (l.take (0 + 1)) = true) := Lib.hid (by
          cases l with
          | nil => rfl
          | cons a l => rfl)
        go_wp2_with fail
        go_quiet (fail)
        go_wp2_with fail
        go_roundg gk1
        case measure => omega
        case rel => exact ⟨0 + 1, by omega, by go_num, Lib.hid ⟨below_drewN HM.out.1 _, HU.out⟩⟩
      · obtain ⟨m, hkm⟩ : ∃ m, k = m + 1 := ⟨k - 1, by omega⟩
        obtain ⟨y, hy⟩ : ∃ y, l[m]? = some y := ⟨_, List.getElem?_eq_getElem (by omega)⟩
        obtain ⟨q', o', he, _, hcy⟩ := (H.out.below HM.out.1).cell hy
        simp only [Option.some.injEq, Addr.mk.injEq, and_true] at he
        obtain ⟨rfl, rfl⟩ := he
        have HU := Lib.hid (risB_take_succ hkm hy HX.out)
        have hpos : 0 < k := by omega
        have hpos2 : decide (0 < k) = true := decide_eq_true hpos
        have hwm : IntKind.i64.wrap ((k : Int) - 1) = (m : Int) := wrap_pred hkm (by omega)
        have hm0 : (0 : Int) ≤ (m : Int) := by omega
        have hm1 : (m : Int) < (l.length : Int) := by omega
        clear hy hkm hk0
        by_cases hlt : y < x
        · have HU2 : Hid (risB (l.take (k + 1)) = true) := Lib.hid (by rw [HU.out, HM.out.2, decide_eq_true hlt]; rfl)
          go_wp2_with fail
          go_quiet (fail)
          go_wp2_with fail
          go_roundg gk1
          case measure => omega
          case rel => exact ⟨k + 1, by omega, by go_num, Lib.hid ⟨below_drewN HM.out.1 _, HU2.out⟩⟩
        · have HE : Hid (ixB l = false) := Lib.hid (by
            have h1 : risB (l.take (k + 1)) = false := by rw [HU.out, decide_eq_false hlt, Bool.and_false]
            rw [ixB, risB_take_false h1, Bool.false_and])
          go_wp2_with fail
          go_quiet (fail)
          go_wp2_with fail
          go_ret
          exact ⟨ret_bool HE.out.symm, below_drewN HM.out.1 _⟩
    · have hkn : k = l.length := by omega
      subst hkn
      have HE : Hid (ixB l = decide ((l.length : Int) ≤ 200)) := Lib.hid (by
        have h1 := HM.out.2
        rw [List.take_length] at h1
        rw [ixB, h1, Bool.true_and]
        congr 1
        apply propext
        omega)
      have HB := Lib.hid HM.out.1
      clear HM hkl
      go_wp2_with fail
      go_ret
      exact ⟨ret_bool HE.out.symm, HB.out⟩

theorem putOk8n (n : Nat) (h : n < 18446744073709551616) : putOk 8 (n : Int) = true := by
  rw [putOk, Bool.and_eq_true]
  refine ⟨by decide, ?_⟩
  rw [decide_eq_true_eq]
  have : (256 : Nat) ^ (8 : Int).toNat = 18446744073709551616 := by decide
  rw [this]
  omega
theorem putOk2n (n : Nat) (h : n < 65536) : putOk 2 (n : Int) = true := by
  rw [putOk, Bool.and_eq_true]
  refine ⟨by decide, ?_⟩
  rw [decide_eq_true_eq]
  have : (256 : Nat) ^ (2 : Int).toNat = 65536 := by decide
  rw [this]
  omega

theorem iput_ok (v : Value) (l : List Nat) (w : World) (h : Us w v l) (hx : ixB l = true) (hb : ∀ x ∈ l, x < 18446744073709551616) :
    Calls Tryz.prog 131 #[v] w fun e w' => ∃ y, e = .returned (.tuple #[y, .nilIface]) ∧ Own w' w.heap.size 5 y (sealedOf (ixBytes l)) ∧ Below w.heap.size w w' := by
  have hC := isIndex_any v l w h
  have hl : l.length ≤ 200 := by
    have := hx
    rw [ixB, Bool.and_eq_true, decide_eq_true_eq] at this
    exact this.2
  rw [hx] at hC
  have H := Lib.hid h
  have HB := Lib.hid hb
  have HP2 := Lib.hid (putOk2n l.length (by omega))
  clear hx hb
  obtain ⟨A, c, rfl, hc1, hc2⟩ := h.form
  clear h
  go_enter Tryz.func131, Tryz.ntmps131
  go_wp2_with fail
  refine hC.mono ?_
  rintro e w1 ⟨rfl, hb1⟩
  have HB1 := Lib.hid hb1
  clear hb1 hC
  go_wp2_with fail
  refine (put_ok [] _ 2 (l.length : Int) _ (by omega) HP2.out (by simp) (Bs.nil _)).mono ?_
  rintro e w2 ⟨y, rfl, hy, hb2⟩
  have HY : Hid (Own w2 w.heap.size 5 y (bet l.length 2)) := Lib.hid (by
    have := hy.lower HB1.out.size
    simpa using this)
  have HB2 := Lib.hid (HB1.out.trans (hb2.mono HB1.out.size))
  clear hy hb2 HB1
  go_wp2_with fail
  go_loopg [4, 21] l.length (fun gk yv iv wr => ∃ (k : Nat), k + gk = l.length ∧ iv = .int .i64 (k : Int) ∧ Hid (Own wr w.heap.size 5 yv (bet l.length 2 ++ (l.take k).flatMap fun x => bet x 8) ∧ Below w.heap.size w wr))
  case atStart => exact ⟨0, by omega, rfl, Lib.hid ⟨by simpa using HY.out, HB2.out⟩⟩
  case round =>
    obtain ⟨k, hk, rfl, HM⟩ := hrel
    by_cases hkl : k < l.length
    · obtain ⟨gk1, hgk1⟩ : ∃ x, gk = x + 1 := ⟨gk - 1, by omega⟩
      obtain ⟨x, hx⟩ : ∃ x, l[k]? = some x := ⟨_, List.getElem?_eq_getElem hkl⟩
      obtain ⟨q, o, rfl, hq, hcx⟩ := (H.out.below HM.out.2).cell hx
      have hxl : x < 18446744073709551616 := HB.out x (List.mem_of_getElem? hx)
      have HP8 := Lib.hid (putOk8n x hxl)
      have HF : Hid ((l.take (k + 1)).flatMap (fun x => bet x 8) = ((l.take k).flatMap fun x => bet x 8) ++ bet x 8) := Lib.hid (by
        obtain ⟨h1, e1⟩ := List.getElem?_eq_some_iff.1 hx
        rw [List.take_succ_eq_append_getElem h1, List.flatMap_append, e1]
        simp)
      have HL : Hid ((bet l.length 2 ++ (l.take k).flatMap fun x => bet x 8).length ≤ 140737488355320) := Lib.hid (by
        rw [List.length_append, bet_length, ix_flat, List.length_take]
        omega)
      have a0 : (0 : Int) ≤ (k : Int) := by omega
      have a1 : (k : Int) < (l.length : Int) := by omega
      clear hx hxl
      go_wp2_with fail
      refine (put_ok _ _ 8 (x : Int) _ (by omega) HP8.out HL.out HM.out.1.bs).mono ?_
      rintro e w3 ⟨z, rfl, hz, hb3⟩
      have HZ : Hid (Own w3 w.heap.size 5 z (bet l.length 2 ++ (l.take (k + 1)).flatMap fun x => bet x 8)) := Lib.hid (by
        have := hz.lower HM.out.2.size
        rw [HF.out, ← List.append_assoc]
        simpa using this)
      have HB3 := Lib.hid (HM.out.2.trans (hb3.mono HM.out.2.size))
      clear hz hb3
      go_wp2_with fail
      go_roundg gk1
      case measure => omega
      case rel => exact ⟨k + 1, by omega, by go_num, Lib.hid ⟨HZ.out, HB3.out⟩⟩
    · have hkn : k = l.length := by omega
      subst hkn
      have HE : Hid (Own wr w.heap.size 5 u4 (ixBytes l)) := Lib.hid (by
        have := HM.out.1
        rw [List.take_length] at this
        exact this)
      have HBr := Lib.hid HM.out.2
      have HL : Hid ((ixBytes l).length ≤ 140737488355320) := Lib.hid (by rw [ixBytes_length]; omega)
      clear HM hkl
      go_wp2_with fail
      refine (seal_any _ _ _ HL.out HE.out.bs).mono ?_
      rintro e w3 ⟨z, rfl, hz, hb3⟩
      go_wp2_with fail
      go_ret2
      exact ⟨_, rfl, hz.lower HBr.out.size, HBr.out.trans (hb3.mono HBr.out.size)⟩


theorem Index_any (v : Value) (l : List Nat) (w : World) (h : Us w v l) (hb : ∀ x ∈ l, x < 18446744073709551616) (hl : l.length ≤ 1000) :
    Calls Tryz.prog 73 #[v] w fun e w' => ∃ y, e = .returned y ∧ Bs w' y (sealedOf (ixBytes l)) ∧ Below w.heap.size w w' := by
  obtain ⟨A, c, rfl, hc1, hc2⟩ := h.form
  have H := Lib.hid h
  have HB := Lib.hid hb
  clear h hb
  go_enter Tryz.func73, Tryz.ntmps73
  go_wp2_with fail
  refine (Bytes_any 2 (l.length : Int) _ (by omega) (by omega) (by omega) (by omega)).mono ?_
  rintro e w1 ⟨y, rfl, hy, hb1⟩
  rw [Int.toNat_natCast, show Int.toNat 2 = 2 from rfl] at hy
  have HY := Lib.hid hy
  have HB1 := Lib.hid hb1
  clear hy hb1
  go_wp2_with fail
  go_loopg [3, 4] l.length (fun gk yv iv wr => ∃ (k : Nat), k + gk = l.length ∧ iv = .int .i64 (k : Int) ∧ Hid (Own wr w.heap.size 5 yv (bet l.length 2 ++ (l.take k).flatMap fun x => bet x 8) ∧ Below w.heap.size w wr))
  case atStart => exact ⟨0, by omega, rfl, Lib.hid ⟨by simpa using HY.out, HB1.out⟩⟩
  case round =>
    obtain ⟨k, hk, rfl, HM⟩ := hrel
    by_cases hkl : k < l.length
    · obtain ⟨gk1, hgk1⟩ : ∃ x, gk = x + 1 := ⟨gk - 1, by omega⟩
      obtain ⟨x, hx⟩ : ∃ x, l[k]? = some x := ⟨_, List.getElem?_eq_getElem hkl⟩
      obtain ⟨q, o, rfl, hq, hcx⟩ := (H.out.below HM.out.2).cell hx
      have hxl : (x : Int) < 18446744073709551616 := by have := HB.out x (List.mem_of_getElem? hx); omega
      have hx0 : (0 : Int) ≤ (x : Int) := by omega
      have hC := fun u => Bytes_any 8 (x : Int) u (by omega) (by omega) hx0 hxl
      have HF : Hid ((l.take (k + 1)).flatMap (fun x => bet x 8) = ((l.take k).flatMap fun x => bet x 8) ++ bet x 8) := Lib.hid (by
        obtain ⟨h1, e1⟩ := List.getElem?_eq_some_iff.1 hx
        rw [List.take_succ_eq_append_getElem h1, List.flatMap_append, e1]
        simp)
      have HL : Hid ((bet l.length 2 ++ (l.take k).flatMap fun x => bet x 8).length + (bet x 8).length ≤ 140737488355320) := Lib.hid (by
        rw [List.length_append, bet_length, bet_length, ix_flat, List.length_take]
        omega)
      have a0 : (0 : Int) ≤ (k : Int) := by omega
      have a1 : (k : Int) < (l.length : Int) := by omega
      clear hx hxl hx0
      go_wp2_with fail
      refine (hC _).mono ?_
      rintro e w3 ⟨z, rfl, hz, hb3⟩
      rw [Int.toNat_natCast, show Int.toNat 8 = 8 from rfl] at hz
      have HZ := Lib.hid hz
      have HO3 := Lib.hid (HM.out.1.below hb3)
      have HB3 := Lib.hid (HM.out.2.trans (hb3.mono HM.out.2.size))
      clear hC hz hb3
      go_wp2_with (at_builtin; refine wpList_append_v _ byteT rfl _ _ rfl w.heap.size _ _ rfl HO3.out _ _ rfl HZ.out.bs (Nat.le_trans HL.out (by omega)) HB3.out.size ?_)
      intro v4 w4 hown4 hg4 _
      have HO4 : Hid (Own w4 w.heap.size 5 v4 (bet l.length 2 ++ (l.take (k + 1)).flatMap fun x => bet x 8)) := Lib.hid (by
        rw [HF.out, ← List.append_assoc]
        exact hown4)
      have HB4 := Lib.hid (HB3.out.grown hg4 HB3.out.size HO3.out.ge)
      clear hown4 hg4
      go_wp2_with fail
      go_roundg gk1
      case measure => omega
      case rel => exact ⟨k + 1, by omega, by go_num, Lib.hid ⟨HO4.out, HB4.out⟩⟩
    · have hkn : k = l.length := by omega
      subst hkn
      have HE : Hid (Own wr w.heap.size 5 u3 (ixBytes l)) := Lib.hid (by
        have := HM.out.1
        rw [List.take_length] at this
        exact this)
      have HBr := Lib.hid HM.out.2
      have HL : Hid ((ixBytes l).length ≤ 140737488355320) := Lib.hid (by rw [ixBytes_length]; omega)
      clear HM hkl
      go_wp2_with fail
      refine (Seal_any _ _ _ HL.out HE.out.bs).mono ?_
      rintro e w3 ⟨z, rfl, hz, hb3⟩
      go_wp2_with fail
      go_ret
      exact ⟨_, rfl, hz.bs, HBr.out.trans (hb3.mono HBr.out.size)⟩

end Go.Proofs.YtfccfnbmmgfgcaaGreatDoor
