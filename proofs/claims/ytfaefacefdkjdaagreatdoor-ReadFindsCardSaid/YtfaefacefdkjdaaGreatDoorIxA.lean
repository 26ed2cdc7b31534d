/-
  AN INDEX, as a plain list: what it is ('ixB'), its bytes ('ixBytes'), what bytes are read as ('ixGet'), which page is found ('IsAt'). No condition but what each theorem says.
  CONTRACTS of the program's index: isIndex, Find. Conditions: what each says.
  CONTRACTS of the program's index: Put, read, Get. Conditions: what each says.
  CONTRACTS of the program's index: Get. Conditions: what each says.
  CONTRACTS of the document's index: Rises, Find, Index, Indexed. Conditions: what each says.
-/
import Derived.Test.YtfaefacefdkjdaaGreatDoorCrcA
import Derived.Test.YtfaefacefdkjdaaGreatDoorMore
import Derived.Test.YtfaefacefdkjdaaGreatDoorUs
import Derived.Test.YtfaefacefdkjdaaGreatDoorMix
import Derived.Deep.DeepCutAuto
namespace Go.Proofs.YtfaefacefdkjdaaGreatDoor
open Go.RowKit

def risB : List Nat → Bool
  | [] => true
  | [_] => true
  | a :: b :: l => decide (a < b) && risB (b :: l)
theorem risB_snoc : ∀ (l : List Nat) (a b : Nat), risB (l ++ [a, b]) = (risB (l ++ [a]) && decide (a < b))
  | [], a, b => by simp [risB]
  | [x], a, b => by simp [risB]
  | x :: y :: l, a, b => by
    have := risB_snoc (y :: l) a b
    simp only [List.cons_append, risB] at this ⊢
    rw [this, Bool.and_assoc]
theorem risB_iff : ∀ (l : List Nat), risB l = true ↔ ∀ (i a b : Nat), l[i]? = some a → l[i + 1]? = some b → a < b
  | [] => by simp [risB]
  | [x] => by
    simp only [risB, true_iff]
    intro i a b h1 h2
    simp at h2
  | x :: y :: l => by
    rw [risB, Bool.and_eq_true, decide_eq_true_eq, risB_iff (y :: l)]
    constructor
    · rintro ⟨h1, h2⟩ i a b ha hb
      cases i with
      | zero =>
        simp at ha hb
        omega
      | succ i => exact h2 i a b (by simpa using ha) (by simpa using hb)
    · intro h
      exact ⟨h 0 x y rfl rfl, fun i a b ha hb => h (i + 1) a b (by simpa using ha) (by simpa using hb)⟩
def ixB (l : List Nat) : Bool := risB l && decide (l.length ≤ 200)
def ixBytes (l : List Nat) : List UInt8 := bet l.length 2 ++ l.flatMap fun x => bet x 8
theorem ix_flat (l : List Nat) : (l.flatMap fun x => bet x 8).length = 8 * l.length := by
  induction l with
  | nil => rfl
  | cons x l ih =>
    rw [List.flatMap_cons, List.length_append, ih, bet_length, List.length_cons]
    omega
theorem ixBytes_length (l : List Nat) : (ixBytes l).length = 2 + 8 * l.length := by rw [ixBytes, List.length_append, bet_length, ix_flat]
def ixNums (b : List UInt8) (n : Nat) : List Nat := (List.range n).map fun i => num ((b.drop (2 + 8 * i)).take 8)
theorem ixNums_length (b : List UInt8) (n : Nat) : (ixNums b n).length = n := by simp [ixNums]
theorem ixNums_succ (b : List UInt8) (n : Nat) : ixNums b (n + 1) = ixNums b n ++ [num ((b.drop (2 + 8 * n)).take 8)] := by simp [ixNums, List.range_succ]
noncomputable def ixGet (b : List UInt8) : Option (List Nat) := if b.length = 2 + 8 * num (b.take 2) ∧ ixB (ixNums b (num (b.take 2))) = true then some (ixNums b (num (b.take 2))) else none
theorem ixNums_put (l : List Nat) (h : ∀ x ∈ l, x < 18446744073709551616) : ∀ n, n ≤ l.length → ixNums (ixBytes l) n = l.take n := by
  have key : ∀ (m : List Nat) (i x : Nat), m[i]? = some x → ((m.flatMap fun x => bet x 8).drop (8 * i)).take 8 = bet x 8 := by
    intro m
    induction m with
    | nil => intro i x h; simp at h
    | cons y m ih =>
      intro i x h
      rw [List.flatMap_cons]
      cases i with
      | zero =>
        simp at h
        subst h
        rw [Nat.mul_zero, List.drop_zero, List.take_left' (bet_length _ _)]
      | succ i =>
        rw [show 8 * (i + 1) = (bet y 8).length + 8 * i by rw [bet_length]; omega, List.drop_length_add_append]
        exact ih i x (by simpa using h)
  intro n
  induction n with
  | zero => intro _; rfl
  | succ n ih =>
    intro hn
    have hl : l[n]? = some l[n] := List.getElem?_eq_getElem (by omega)
    have hln0 : n < l.length := hn
    rw [ixNums_succ, ih (Nat.le_of_lt hn), List.take_succ_eq_append_getElem hln0]
    congr 2
    rw [ixBytes, show 2 + 8 * n = (bet l.length 2).length + 8 * n by rw [bet_length], List.drop_length_add_append, key l n _ hl]
    have hln : l[n] < 18446744073709551616 := h _ (List.getElem_mem (by omega))
    exact num_bet 8 _ (by simpa using hln)
theorem ixGet_put (l : List Nat) (h : ∀ x ∈ l, x < 18446744073709551616) (hi : ixB l = true) : ixGet (ixBytes l) = some l := by
  have h2 : l.length ≤ 200 := by
    rw [ixB, Bool.and_eq_true, decide_eq_true_eq] at hi
    exact hi.2
  have hn : num ((ixBytes l).take 2) = l.length := by
    rw [ixBytes, List.take_left' (bet_length _ _)]
    exact num_bet 2 _ (by omega)
  have he : ixNums (ixBytes l) l.length = l := by rw [ixNums_put l h _ (Nat.le_refl _), List.take_length]
  rw [ixGet, hn, he, if_pos ⟨ixBytes_length l, hi⟩]

def ixRes : Option (List Nat) → Int × List Nat
  | none => (2, [])
  | some l => (0, l)
noncomputable def ixX (x : List UInt8) : Int × List Nat :=
  if x.length < 4 then (2, []) else if tailOf x = crcOf (bodyOf x) then ixRes (ixGet (bodyOf x)) else (7, [])
theorem ixX_put (l : List Nat) (h : ∀ x ∈ l, x < 18446744073709551616) (hi : ixB l = true) : ixX (sealedOf (ixBytes l)) = (0, l) := by
  have h4 : ¬ (sealedOf (ixBytes l)).length < 4 := by rw [sealedOf_length]; omega
  rw [ixX, if_neg h4, if_pos (tail_sealed _), body_sealed, ixGet_put l h hi, ixRes]

def IsAt (l : List Nat) (id : Nat) (k : Int) : Prop := -1 ≤ k ∧ k < (l.length : Int) ∧ (∀ (i x : Nat), l[i]? = some x → (i : Int) = k → x ≤ id) ∧ ∀ (i x : Nat), l[i]? = some x → k < (i : Int) → id < x
theorem IsAt.one {l : List Nat} {id : Nat} {k k' : Int} (h : IsAt l id k) (h' : IsAt l id k') : k = k' := by
  have key : ∀ {k k' : Int}, IsAt l id k → IsAt l id k' → k ≤ k' := by
    intro k k' h h'
    rcases Int.lt_or_le k' k with hlt | hle
    · have h0 : 0 ≤ k := by have := h'.1; omega
      obtain ⟨n, rfl⟩ := Int.eq_ofNat_of_zero_le h0
      have hn : n < l.length := by have := h.2.1; omega
      have e : l[n]? = some l[n] := List.getElem?_eq_getElem hn
      have h1 := h.2.2.1 n _ e rfl
      have h2 := h'.2.2.2 n _ e hlt
      omega
    · exact hle
  have h1 := key h h'
  have h2 := key h' h
  omega

end Go.Proofs.YtfaefacefdkjdaaGreatDoor

namespace Go.Proofs.YtfaefacefdkjdaaGreatDoor
open Go.RowKit
set_option maxRecDepth 100000

theorem wrap_pred {k m : Nat} (h : k = m + 1) (hm : (m : Int) < 9223372036854775807) : IntKind.i64.wrap ((k : Int) - 1) = (m : Int) := by
  rw [show (k : Int) - 1 = (m : Int) by omega]
  exact IntWalk.i64_in _ (by omega)
theorem risB_take_succ {l : List Nat} {k m x y : Nat} (hk : k = m + 1) (hy : l[m]? = some y) (hx : l[k]? = some x) : risB (l.take (k + 1)) = (risB (l.take k) && decide (y < x)) := by
  subst hk
  obtain ⟨h1, e1⟩ := List.getElem?_eq_some_iff.1 hx
  obtain ⟨h2, e2⟩ := List.getElem?_eq_some_iff.1 hy
  subst e1
  subst e2
  rw [List.take_succ_eq_append_getElem h1, List.take_succ_eq_append_getElem h2, List.append_assoc]
  exact risB_snoc _ _ _
theorem risB_take_false : ∀ {l : List Nat} {n : Nat}, risB (l.take n) = false → risB l = false := by
  intro l n h
  cases hb : risB l with
  | false => rfl
  | true =>
    have : risB (l.take n) = true := (risB_iff _).2 fun i a b h1 h2 => by
      rw [List.getElem?_take] at h1 h2
      split at h1
      · split at h2
        · exact (risB_iff l).1 hb i a b h1 h2
        · cases h2
      · cases h1
    rw [this] at h
    cases h

set_option maxHeartbeats 1600000 in
theorem isIndex_any (v : Value) (l : List Nat) (w : World) (h : Us w v l) :
    Calls Tryz.prog 79 #[v] w fun e w' => e = .returned (.bool (ixB l)) ∧ Below w.heap.size w w' := by
  obtain ⟨A, c, rfl, hc1, hc2⟩ := h.form
  have H := Lib.hid h
  clear h
  go_enter Tryz.func79, Tryz.ntmps79
  go_wp2_with fail
  go_loopg [6] l.length (fun gk iv wr => ∃ (k : Nat), k + gk = l.length ∧ iv = .int .i64 (k : Int) ∧ Hid (Below w.heap.size w wr ∧ risB (l.take k) = true))
  case atStart => exact ⟨0, by omega, rfl, Lib.hid ⟨Below.refl _ _, rfl⟩⟩
  case round =>
    obtain ⟨k, hk, rfl, HM⟩ := hrel
    by_cases hkl : k < l.length
    · obtain ⟨gk1, hgk1⟩ : ∃ x, gk = x + 1 := ⟨gk - 1, by omega⟩
      obtain ⟨x, hx⟩ : ∃ x, l[k]? = some x := ⟨_, List.getElem?_eq_getElem hkl⟩
      obtain ⟨q, o, rfl, hq, hcx⟩ := (H.out.below HM.out.1).cell hx
      have HX := Lib.hid hx
      have a0 : (0 : Int) ≤ (k : Int) := by omega
      have a1 : (k : Int) < (l.length : Int) := by omega
      clear hx
      by_cases hk0 : k = 0
      · subst hk0
        have HU : Hid (risB (l.take (0 + 1)) = true) := Lib.hid (by
          cases l with
          | nil => rfl
          | cons a l => rfl)
        go_wp2_with fail
        go_quiet (fail)
        go_wp2_with fail
        go_roundg gk1
        case measure => omega
        case rel => exact ⟨0 + 1, by omega, by go_num, Lib.hid ⟨below_drewN HM.out.1 _, HU.out⟩⟩
      · obtain ⟨m, hkm⟩ : ∃ m, k = m + 1 := ⟨k - 1, by omega⟩
        obtain ⟨y, hy⟩ : ∃ y, l[m]? = some y := ⟨_, List.getElem?_eq_getElem (by omega)⟩
        obtain ⟨q', o', he, _, hcy⟩ := (H.out.below HM.out.1).cell hy
        simp only [Option.some.injEq, Addr.mk.injEq, and_true] at he
        obtain ⟨rfl, rfl⟩ := he
        have HU := Lib.hid (risB_take_succ hkm hy HX.out)
        have hpos : 0 < k := by omega
        have hpos2 : decide (0 < k) = true := decide_eq_true hpos
        have hwm : IntKind.i64.wrap ((k : Int) - 1) = (m : Int) := wrap_pred hkm (by omega)
        have hm0 : (0 : Int) ≤ (m : Int) := by omega
        have hm1 : (m : Int) < (l.length : Int) := by omega
        clear hy hkm hk0
        by_cases hlt : y < x
        · have HU2 : Hid (risB (l.take (k + 1)) = true) := Lib.hid (by rw [HU.out, HM.out.2, decide_eq_true hlt]; rfl)
          go_wp2_with fail
          go_quiet (fail)
          go_wp2_with fail
          go_roundg gk1
          case measure => omega
          case rel => exact ⟨k + 1, by omega, by go_num, Lib.hid ⟨below_drewN HM.out.1 _, HU2.out⟩⟩
        · have HE : Hid (ixB l = false) := Lib.hid (by
            have h1 : risB (l.take (k + 1)) = false := by rw [HU.out, decide_eq_false hlt, Bool.and_false]
            rw [ixB, risB_take_false h1, Bool.false_and])
          go_wp2_with fail
          go_quiet (fail)
          go_wp2_with fail
          go_ret
          exact ⟨ret_bool HE.out.symm, below_drewN HM.out.1 _⟩
    · have hkn : k = l.length := by omega
      subst hkn
      have HE : Hid (ixB l = decide ((l.length : Int) ≤ 200)) := Lib.hid (by
        have h1 := HM.out.2
        rw [List.take_length] at h1
        rw [ixB, h1, Bool.true_and]
        congr 1
        apply propext
        omega)
      have HB := Lib.hid HM.out.1
      clear HM hkl
      go_wp2_with fail
      go_ret
      exact ⟨ret_bool HE.out.symm, HB.out⟩

theorem ifind_any (v : Value) (l : List Nat) (id : Nat) (w : World) (h : Us w v l) :
    Calls Tryz.prog 41 #[v, .int .u64 (id : Int)] w fun e w' => ∃ k : Int, e = .returned (.int .i64 k) ∧ IsAt l id k ∧ w = w' := by
  obtain ⟨A, c, rfl, hc1, hc2⟩ := h.form
  have H := Lib.hid h
  clear h
  go_enter Tryz.func41, Tryz.ntmps41
  go_wp2_with fail
  go_loopg [5] l.length (fun gk iv wr => ∃ (k : Nat), k = gk ∧ k ≤ l.length ∧ iv = .int .i64 ((k : Int) - 1) ∧ wr = w ∧ Hid (∀ (i x : Nat), l[i]? = some x → k ≤ i → id < x))
  case atStart => exact ⟨l.length, rfl, Nat.le_refl _, rfl, rfl, Lib.hid fun i x h hi => by
    have := (List.getElem?_eq_some_iff.1 h).1
    omega⟩
  case round =>
    obtain ⟨k, hk, hkl, rfl, rfl, HM⟩ := hrel
    cases k with
    | zero =>
      have HE : Hid (IsAt l id (-1)) := Lib.hid ⟨by omega, by omega, fun i x h e => by omega, fun i x h e => HM.out i x h (by omega)⟩
      have e0 : ((0 : Nat) : Int) - 1 = -1 := rfl
      rw [e0]
      clear e0 HM
      go_wp2_with fail
      go_ret
      exact ⟨_, rfl, HE.out, rfl⟩
    | succ k =>
      obtain ⟨x, hx⟩ : ∃ x, l[k]? = some x := ⟨_, List.getElem?_eq_getElem (by omega)⟩
      obtain ⟨q, o, rfl, hq, hcx⟩ := H.out.cell hx
      have HX := Lib.hid hx
      have e1 : ((k + 1 : Nat) : Int) - 1 = (k : Int) := by omega
      rw [e1]
      have a0 : (0 : Int) ≤ (k : Int) := by omega
      have a1 : (k : Int) < (l.length : Int) := by omega
      clear hx e1
      by_cases hgt : id < x
      · have HM2 : Hid (∀ (i x : Nat), l[i]? = some x → k ≤ i → id < x) := Lib.hid fun i z h hi => by
          rcases Nat.lt_or_eq_of_le hi with h1 | h1
          · exact HM.out i z h h1
          · subst h1
            rw [HX.out] at h
            injection h with h
            subst h
            exact hgt
        go_wp2_with fail
        go_roundg k
        case measure => omega
        case rel => exact ⟨k, rfl, by omega, by go_num, rfl, HM2⟩
      · have HE : Hid (IsAt l id (k : Int)) := Lib.hid ⟨by omega, by omega, fun i z h e => by
            have : i = k := by omega
            subst this
            rw [HX.out] at h
            injection h with h
            subst h
            omega, fun i z h e => HM.out i z h (by omega)⟩
        go_wp2_with fail
        go_ret
        exact ⟨_, rfl, HE.out, rfl⟩

end Go.Proofs.YtfaefacefdkjdaaGreatDoor

namespace Go.Proofs.YtfaefacefdkjdaaGreatDoor
open Go.RowKit
set_option maxRecDepth 100000

theorem putOk8n (n : Nat) (h : n < 18446744073709551616) : putOk 8 (n : Int) = true := by
  rw [putOk, Bool.and_eq_true]
  refine ⟨by decide, ?_⟩
  rw [decide_eq_true_eq]
  have : (256 : Nat) ^ (8 : Int).toNat = 18446744073709551616 := by decide
  rw [this]
  omega
theorem putOk2n (n : Nat) (h : n < 65536) : putOk 2 (n : Int) = true := by
  rw [putOk, Bool.and_eq_true]
  refine ⟨by decide, ?_⟩
  rw [decide_eq_true_eq]
  have : (256 : Nat) ^ (2 : Int).toNat = 65536 := by decide
  rw [this]
  omega

theorem iput_ok (v : Value) (l : List Nat) (w : World) (h : Us w v l) (hx : ixB l = true) (hb : ∀ x ∈ l, x < 18446744073709551616) :
    Calls Tryz.prog 149 #[v] w fun e w' => ∃ y, e = .returned (.tuple #[y, .nilIface]) ∧ Own w' w.heap.size 5 y (sealedOf (ixBytes l)) ∧ Below w.heap.size w w' := by
  have hC := isIndex_any v l w h
  have hl : l.length ≤ 200 := by
    have := hx
    rw [ixB, Bool.and_eq_true, decide_eq_true_eq] at this
    exact this.2
  rw [hx] at hC
  have H := Lib.hid h
  have HB := Lib.hid hb
  have HP2 := Lib.hid (putOk2n l.length (by omega))
  clear hx hb
  obtain ⟨A, c, rfl, hc1, hc2⟩ := h.form
  clear h
  go_enter Tryz.func149, Tryz.ntmps149
  go_wp2_with fail
  refine hC.mono ?_
  rintro e w1 ⟨rfl, hb1⟩
  have HB1 := Lib.hid hb1
  clear hb1 hC
  go_wp2_with fail
  refine (put_ok [] _ 2 (l.length : Int) _ (by omega) HP2.out (by simp) (Bs.nil _)).mono ?_
  rintro e w2 ⟨y, rfl, hy, hb2⟩
  have HY : Hid (Own w2 w.heap.size 5 y (bet l.length 2)) := Lib.hid (by
    have := hy.lower HB1.out.size
    simpa using this)
  have HB2 := Lib.hid (HB1.out.trans (hb2.mono HB1.out.size))
  clear hy hb2 HB1
  go_wp2_with fail
  go_loopg [4, 21] l.length (fun gk yv iv wr => ∃ (k : Nat), k + gk = l.length ∧ iv = .int .i64 (k : Int) ∧ Hid (Own wr w.heap.size 5 yv (bet l.length 2 ++ (l.take k).flatMap fun x => bet x 8) ∧ Below w.heap.size w wr))
  case atStart => exact ⟨0, by omega, rfl, Lib.hid ⟨by simpa using HY.out, HB2.out⟩⟩
  case round =>
    obtain ⟨k, hk, rfl, HM⟩ := hrel
    by_cases hkl : k < l.length
    · obtain ⟨gk1, hgk1⟩ : ∃ x, gk = x + 1 := ⟨gk - 1, by omega⟩
      obtain ⟨x, hx⟩ : ∃ x, l[k]? = some x := ⟨_, List.getElem?_eq_getElem hkl⟩
      obtain ⟨q, o, rfl, hq, hcx⟩ := (H.out.below HM.out.2).cell hx
      have hxl : x < 18446744073709551616 := HB.out x (List.mem_of_getElem? hx)
      have HP8 := Lib.hid (putOk8n x hxl)
      have HF : Hid ((l.take (k + 1)).flatMap (fun x => bet x 8) = ((l.take k).flatMap fun x => bet x 8) ++ bet x 8) := Lib.hid (by
        obtain ⟨h1, e1⟩ := List.getElem?_eq_some_iff.1 hx
        rw [List.take_succ_eq_append_getElem h1, List.flatMap_append, e1]
        simp)
      have HL : Hid ((bet l.length 2 ++ (l.take k).flatMap fun x => bet x 8).length ≤ 140737488355320) := Lib.hid (by
        rw [List.length_append, bet_length, ix_flat, List.length_take]
        omega)
      have a0 : (0 : Int) ≤ (k : Int) := by omega
      have a1 : (k : Int) < (l.length : Int) := by omega
      clear hx hxl
      go_wp2_with fail
      refine (put_ok _ _ 8 (x : Int) _ (by omega) HP8.out HL.out HM.out.1.bs).mono ?_
      rintro e w3 ⟨z, rfl, hz, hb3⟩
      have HZ : Hid (Own w3 w.heap.size 5 z (bet l.length 2 ++ (l.take (k + 1)).flatMap fun x => bet x 8)) := Lib.hid (by
        have := hz.lower HM.out.2.size
        rw [HF.out, ← List.append_assoc]
        simpa using this)
      have HB3 := Lib.hid (HM.out.2.trans (hb3.mono HM.out.2.size))
      clear hz hb3
      go_wp2_with fail
      go_roundg gk1
      case measure => omega
      case rel => exact ⟨k + 1, by omega, by go_num, Lib.hid ⟨HZ.out, HB3.out⟩⟩
    · have hkn : k = l.length := by omega
      subst hkn
      have HE : Hid (Own wr w.heap.size 5 u4 (ixBytes l)) := Lib.hid (by
        have := HM.out.1
        rw [List.take_length] at this
        exact this)
      have HBr := Lib.hid HM.out.2
      have HL : Hid ((ixBytes l).length ≤ 140737488355320) := Lib.hid (by rw [ixBytes_length]; omega)
      clear HM hkl
      go_wp2_with fail
      refine (seal_any _ _ _ HL.out HE.out.bs).mono ?_
      rintro e w3 ⟨z, rfl, hz, hb3⟩
      go_wp2_with fail
      go_ret2
      exact ⟨_, rfl, hz.lower HBr.out.size, HBr.out.trans (hb3.mono HBr.out.size)⟩

theorem iread_short (v : Value) (b : List UInt8) (w : World) (h : Bs w v b) (hl : b.length < 2) :
    Calls Tryz.prog 78 #[v] w fun e w' => e = .returned (.tuple #[.slice none 0 0, .bool false]) ∧ Below w.heap.size w w' := by
  have hW := fun (g : Nat) (u : World) (hu : WR u g v b 0 false) => word_no g v b 0 false 2 u hu (by simp [wordOk, isW]; omega)
  go_enter Tryz.func78, Tryz.ntmps78
  go_wp2_with fail
  refine (read_any v b w h).mono ?_
  rintro e w2 ⟨rfl, hR2, hb2⟩
  go_wp2_with fail
  refine (hW _ _ hR2).mono ?_
  rintro e w3 ⟨rfl, hR3, hg3⟩
  have HB3 := Lib.hid (hb2.grown hg3 hb2.size (by intro k hk; injection hk with hk; omega))
  have hBad := bad_any _ v b 0 true _ hR3
  simp only [if_true] at hBad
  clear hW hR2 hb2 hg3
  go_wp2_with fail
  refine hBad.mono ?_
  rintro e w4 ⟨rfl, rfl⟩
  go_wp2_with fail
  go_ret2
  exact ⟨rfl, HB3.out⟩

theorem iread_amiss (v : Value) (b : List UInt8) (w : World) (h : Bs w v b) (hl : 2 ≤ b.length) (hne : b.length ≠ 2 + 8 * num (b.take 2)) (hbl : b.length ≤ 140737488355328) :
    Calls Tryz.prog 78 #[v] w fun e w' => e = .returned (.tuple #[.slice none 0 0, .bool false]) ∧ Below w.heap.size w w' := by
  have hW := fun (g : Nat) (u : World) (hu : WR u g v b 0 false) => word_yes g v b 0 false 2 u hu (by simp [wordOk, isW]; omega)
  have e2 : (b.drop 0).take (2 : Int).toNat = b.take 2 := by rw [List.drop_zero]; rfl
  have hn : num (b.take 2) < 65536 := by
    have := num_lt (b.take 2)
    rw [List.length_take, Nat.min_eq_left hl] at this
    exact this
  rw [e2] at hW
  generalize num (b.take 2) = n at *
  have hwt : wrap64 (n : Int) = (n : Int) := IntWalk.wrap64_in _ ⟨by omega, by omega⟩
  have hne2 : ((b.length : Int) - 2 != (n : Int) * 8) = true := by
    have : ¬ (b.length : Int) - 2 = (n : Int) * 8 := by omega
    simp [this]
  clear e2
  go_enter Tryz.func78, Tryz.ntmps78
  go_wp2_with fail
  refine (read_any v b w h).mono ?_
  rintro e w2 ⟨rfl, hR2, hb2⟩
  go_wp2_with fail
  refine (hW _ _ hR2).mono ?_
  rintro e w3 ⟨rfl, hR3, hg3⟩
  have HB3 := Lib.hid (hb2.grown hg3 hb2.size (by intro k hk; injection hk with hk; omega))
  have hBad := bad_any _ v b _ false _ hR3
  have hLeft := left_any _ v b _ false _ hR3
  simp only [if_neg Bool.false_ne_true] at hBad
  rw [show ((b.length : Int) - ((0 + (2 : Int).toNat : Nat) : Int)) = (b.length : Int) - 2 from rfl] at hLeft
  clear hW hR2 hb2 hg3 hne hR3
  go_wp2_with fail
  refine hBad.mono ?_
  rintro e w4 ⟨rfl, rfl⟩
  go_wp2_with fail
  refine hLeft.mono ?_
  rintro e w4 ⟨rfl, m, rfl⟩
  go_wp2_with fail
  go_ret2
  exact ⟨rfl, below_drewN HB3.out _⟩

theorem iread_yes (v : Value) (b : List UInt8) (w : World) (h : Bs w v b) (hl : 2 ≤ b.length) (hne : b.length = 2 + 8 * num (b.take 2)) :
    Calls Tryz.prog 78 #[v] w fun e w' => ∃ y, e = .returned (.tuple #[y, .bool true]) ∧ OwnU w' w.heap.size y (ixNums b (num (b.take 2))) ∧ Below w.heap.size w w' := by
  have hW := fun (g : Nat) (u : World) (hu : WR u g v b 0 false) => word_yes g v b 0 false 2 u hu (by simp [wordOk, isW]; omega)
  have e2 : (b.drop 0).take (2 : Int).toNat = b.take 2 := by rw [List.drop_zero]; rfl
  have hn : num (b.take 2) < 65536 := by
    have := num_lt (b.take 2)
    rw [List.length_take, Nat.min_eq_left hl] at this
    exact this
  rw [e2] at hW
  generalize num (b.take 2) = n at *
  have hwt : wrap64 (n : Int) = (n : Int) := IntWalk.wrap64_in _ ⟨by omega, by omega⟩
  have hne2 : ((b.length : Int) - 2 != (n : Int) * 8) = false := by
    have : (b.length : Int) - 2 = (n : Int) * 8 := by omega
    simp [this]
  have HW8 : Hid (∀ (k : Nat), k < n → ∀ (g : Nat) (u : World), WR u g v b (2 + 8 * k) false → Calls Tryz.prog 68 #[.pointer (some ⟨g, 0, none⟩), .int .i64 8] u fun e w' => e = .returned (.int .u64 (num ((b.drop (2 + 8 * k)).take 8))) ∧ WR w' g v b (2 + 8 * (k + 1)) false ∧ u.grownBy w' (some g)) := Lib.hid fun k hk g u hu => by
    have := word_yes g v b (2 + 8 * k) false 8 u hu (by simp [wordOk, isW]; omega)
    rw [show 2 + 8 * k + (8 : Int).toNat = 2 + 8 * (k + 1) by have : (8 : Int).toNat = 8 := rfl; omega] at this
    exact this
  have HNE := Lib.hid hne
  clear e2 hne hl
  go_enter Tryz.func78, Tryz.ntmps78
  go_wp2_with fail
  refine (read_any v b w h).mono ?_
  rintro e w2 ⟨rfl, hR2, hb2⟩
  go_wp2_with fail
  refine (hW _ _ hR2).mono ?_
  rintro e w3 ⟨rfl, hR3, hg3⟩
  have HB3 := Lib.hid (hb2.grown hg3 hb2.size (by intro k hk; injection hk with hk; omega))
  have hBad := bad_any _ v b _ false _ hR3
  have hLeft := left_any _ v b _ false _ hR3
  simp only [if_neg Bool.false_ne_true] at hBad
  rw [show ((b.length : Int) - ((0 + (2 : Int).toNat : Nat) : Int)) = (b.length : Int) - 2 from rfl] at hLeft
  have HR3 : Hid (WR w3 w.heap.size v b (2 + 8 * 0) false) := Lib.hid hR3
  clear hW hR2 hb2 hg3 hR3
  go_wp2_with fail
  refine hBad.mono ?_
  rintro e w4 ⟨rfl, rfl⟩
  go_wp2_with fail
  refine hLeft.mono ?_
  rintro e w4 ⟨rfl, m, rfl⟩
  have HR4 : Hid (WR (w3.drewN m) w.heap.size v b (2 + 8 * 0) false) := Lib.hid (HR3.out.drewN m)
  have HB4 := Lib.hid (below_drewN HB3.out m)
  revert HR4 HB4
  generalize w3.drewN m = w4
  intro HR4 HB4
  clear hLeft hBad HB3 HR3
  go_wp2_with fail
  have HVB : Hid (b ≠ [] → ∀ z, v.ownBlock = some z → z < w.heap.size) := Lib.hid fun hne z hz => by
    obtain ⟨k, hk, hlt⟩ := h.block hne
    rw [hk] at hz
    injection hz with hz
    omega
  have HLT : Hid (w.heap.size < w4.heap.size) := Lib.hid HR4.out.blk.lt
  have HNL : Hid (∀ k, (ixNums b k).length = k) := Lib.hid (ixNums_length b)
  clear h
  go_loopg [6, 23] n (fun gk ov iv wr => ∃ (k : Nat), k + gk = n ∧ iv = .int .i64 (k : Int) ∧ Hid (OwnU wr w4.heap.size ov (ixNums b k) ∧ WR wr w.heap.size v b (2 + 8 * k) false ∧ Below w.heap.size w wr ∧ w4.heap.size ≤ wr.heap.size))
  case atStart => exact ⟨0, by omega, rfl, Lib.hid ⟨OwnU.nil _ _, HR4.out, HB4.out, Nat.le_refl _⟩⟩
  case round =>
    obtain ⟨k, hk, rfl, HM⟩ := hrel
    by_cases hkl : k < n
    · obtain ⟨gk1, hgk1⟩ : ∃ x, gk = x + 1 := ⟨gk - 1, by omega⟩
      have hC := HW8.out k hkl _ _ HM.out.2.1
      have HS := Lib.hid (ixNums_succ b k)
      generalize num ((b.drop (2 + 8 * k)).take 8) = x at hC HS
      go_wp2_with fail
      refine hC.mono ?_
      rintro e w5 ⟨rfl, hR5, hg5⟩
      have HB5 := Lib.hid (HM.out.2.2.1.grown hg5 HM.out.2.2.1.size (by intro z hz; injection hz with hz; omega))
      have HO5 : Hid (OwnU w5 w4.heap.size u6 (ixNums b k)) := Lib.hid (OwnL.kept HM.out.1 hg5 (.inr fun e => by
        have := (HM.out.1.lt _ e).1
        have := HLT.out
        omega))
      have HR5 := Lib.hid hR5
      have HZ5 : Hid (w4.heap.size ≤ w5.heap.size) := Lib.hid (Nat.le_trans HM.out.2.2.2 hg5.size)
      have HL5 : Hid ((ixNums b k).length + [x].length ≤ 1000000000000) := Lib.hid (by rw [ixNums_length]; simp only [List.length_cons, List.length_nil]; omega)
      clear hC hR5 hg5 HM
      have H6 : Hid (Below w5.heap.size w5 (w5.alloc (.cells #[.int .u64 (x : Int)] 22))) := Lib.hid ((Below.refl _ _).alloc (Nat.le_refl _) _)
      go_wp2_with (at_builtin; refine wpList_append_u rfl _ _ rfl rfl (HO5.out.below H6.out) rfl (Us.lit w5 x _) HL5.out (Nat.le_trans HZ5.out H6.out.size) ?_)
      intro v7 w7 ho7 hg7 _
      have HO7 : Hid (OwnU w7 w4.heap.size v7 (ixNums b (k + 1))) := Lib.hid (by rw [HS.out]; exact ho7)
      have hge : ∀ z, u6.ownBlock = some z → w4.heap.size ≤ z := fun z hz => (HO5.out.lt z hz).1
      have HR7 : Hid (WR w7 w.heap.size v b (2 + 8 * (k + 1)) false) := Lib.hid ((HR5.out.below H6.out).grown hg7 (fun e => by
        have := hge _ e.symm
        have := HLT.out
        omega) (fun hne e => by
        cases hv : u6.ownBlock with
        | none =>
          rw [hv] at e
          obtain ⟨z, hz, _⟩ := HR5.out.bs.block hne
          rw [hz] at e
          cases e
        | some z =>
          rw [hv] at e
          have h1 := HVB.out hne z e
          have h2 := hge z hv
          have := HLT.out
          omega))
      have HB6 := Lib.hid (HB5.out.trans (H6.out.mono HB5.out.size))
      have HB7 := Lib.hid (HB6.out.grown hg7 HB6.out.size (fun z hz => Nat.le_trans (Nat.le_of_lt HLT.out) (hge z hz)))
      have HZ7 : Hid (w4.heap.size ≤ w7.heap.size) := Lib.hid (Nat.le_trans (Nat.le_trans HZ5.out H6.out.size) hg7.size)
      clear ho7 hg7 hge
      go_wp2_with fail
      go_roundg gk1
      case measure => omega
      case rel => exact ⟨k + 1, by omega, by go_num, Lib.hid ⟨HO7.out, HR7.out, HB7.out, HZ7.out⟩⟩
    · have hkn : k = n := by omega
      subst hkn
      go_wp2_with fail
      go_ret2
      exact ⟨_, rfl, HM.out.1.lower (Nat.le_of_lt HLT.out), HM.out.2.2.1⟩

end Go.Proofs.YtfaefacefdkjdaaGreatDoor

namespace Go.Proofs.YtfaefacefdkjdaaGreatDoor
open Go.RowKit
set_option maxRecDepth 100000

theorem iget_short {x : List UInt8} {v : Value} (w : World) (hv : Bs w v x) (hl : x.length < 4) :
    Calls Tryz.prog 40 #[v] w fun e w' => e = .returned (.tuple #[.slice none 0 0, code 2]) ∧ Below w.heap.size w w' := by
  go_enter Tryz.func40, Tryz.ntmps40
  go_wp2_with fail
  refine (open_short x v w hl hv).mono ?_
  rintro e w1 ⟨rfl, rfl⟩
  go_wp2_with fail
  go_ret2
  exact ⟨rfl, Below.refl _ _⟩

set_option maxHeartbeats 800000 in
theorem iget_sum {x : List UInt8} {v : Value} (w : World) (hv : Bs w v x) (h4 : 4 ≤ x.length) (hl : x.length ≤ 140737488355320) (hs : tailOf x ≠ crcOf (bodyOf x)) :
    Calls Tryz.prog 40 #[v] w fun e w' => e = .returned (.tuple #[.slice none 0 0, code 7]) ∧ Below w.heap.size w w' := by
  have HS := Lib.hid hs
  have hO := open_long x v w h4 (by omega) hv
  clear hs hl h4
  go_enter Tryz.func40, Tryz.ntmps40
  go_wp2_with fail
  refine hO.mono ?_
  rintro e w1 ⟨y, f, rfl, hOp, hb1⟩
  obtain ⟨rfl, rfl⟩ := hOp.no HS.out
  have HB1 := Lib.hid hb1
  clear hO hOp hb1
  go_wp2_with fail
  go_ret2
  exact ⟨rfl, HB1.out⟩

theorem iread_any (v : Value) (b : List UInt8) (w : World) (h : Bs w v b) (hbl : b.length ≤ 140737488355328) :
    Calls Tryz.prog 78 #[v] w fun e w' => (∃ y, b.length = 2 + 8 * num (b.take 2) ∧ e = .returned (.tuple #[y, .bool true]) ∧ OwnU w' w.heap.size y (ixNums b (num (b.take 2))) ∧ Below w.heap.size w w') ∨
      (b.length ≠ 2 + 8 * num (b.take 2) ∧ e = .returned (.tuple #[.slice none 0 0, .bool false]) ∧ Below w.heap.size w w') := by
  by_cases hl : b.length < 2
  · exact (iread_short v b w h hl).mono fun e w' he => .inr ⟨by omega, he⟩
  · by_cases hne : b.length = 2 + 8 * num (b.take 2)
    · exact (iread_yes v b w h (by omega) hne).mono fun e w' ⟨y, he⟩ => .inl ⟨y, hne, he⟩
    · exact (iread_amiss v b w h (by omega) hne hbl).mono fun e w' he => .inr ⟨hne, he⟩

set_option maxHeartbeats 1600000 in
theorem iget_body {x : List UInt8} {v : Value} (w : World) (hv : Bs w v x) (h4 : 4 ≤ x.length) (hl : x.length ≤ 140737488355320) (hs : tailOf x = crcOf (bodyOf x)) :
    Calls Tryz.prog 40 #[v] w fun e w' => ∃ y, e = .returned (.tuple #[y, errV (ixX x).1]) ∧ Us w' y (ixX x).2 ∧ Below w.heap.size w w' := by
  have HS := Lib.hid hs
  have hO := open_long x v w h4 (by omega) hv
  have HX : Hid (ixX x = ixRes (ixGet (bodyOf x))) := Lib.hid (by rw [ixX, if_neg (by omega), if_pos hs])
  have HLen : Hid ((bodyOf x).length ≤ 140737488355328) := Lib.hid (by rw [bodyOf_length]; omega)
  clear hs hl h4
  go_enter Tryz.func40, Tryz.ntmps40
  go_wp2_with fail
  refine hO.mono ?_
  rintro e w1 ⟨y, f, rfl, hOp, hb1⟩
  obtain ⟨rfl, hoy⟩ := hOp.yes HS.out
  have HB1 := Lib.hid hb1
  have HOy := Lib.hid hoy
  clear hO hOp hb1 hoy
  go_wp2_with fail
  refine (iread_any y (bodyOf x) w1 HOy.out.bs HLen.out).mono ?_
  rintro e w2 (⟨z, hlen, rfl, hoz, hb2⟩ | ⟨hlen, rfl, hb2⟩)
  · have HB2 := Lib.hid (HB1.out.trans (hb2.mono HB1.out.size))
    have HOz := Lib.hid hoz
    have HLE := Lib.hid hlen
    clear hoz hlen hb2
    have hI := isIndex_any z _ w2 HOz.out.us
    obtain ⟨A, c, rfl, hc1, hc2⟩ := HOz.out.us.form
    cases hB : ixB (ixNums (bodyOf x) (num ((bodyOf x).take 2))) with
    | true =>
      have HE : Hid (ixX x = (0, ixNums (bodyOf x) (num ((bodyOf x).take 2)))) := Lib.hid (by
        rw [HX.out, ixGet, if_pos ⟨HLE.out, hB⟩]
        rfl)
      rw [hB] at hI
      clear hB
      go_wp2_with fail
      refine hI.mono ?_
      rintro e w3 ⟨rfl, hb3⟩
      have HB3 := Lib.hid (HB2.out.trans (hb3.mono HB2.out.size))
      have HO3 := Lib.hid (HOz.out.us.below hb3)
      clear hI hb3
      go_wp2_with fail
      go_ret2
      rw [HE.out]
      exact ⟨_, rfl, HO3.out, HB3.out⟩
    | false =>
      have HE : Hid (ixX x = (2, [])) := Lib.hid (by
        rw [HX.out, ixGet, if_neg (by rw [hB]; simp)]
        rfl)
      rw [hB] at hI
      clear hB
      go_wp2_with fail
      refine hI.mono ?_
      rintro e w3 ⟨rfl, hb3⟩
      have HB3 := Lib.hid (HB2.out.trans (hb3.mono HB2.out.size))
      clear hI hb3
      go_wp2_with fail
      go_ret2
      rw [HE.out]
      exact ⟨_, rfl, Us.nil _, HB3.out⟩
  · have HB2 := Lib.hid (HB1.out.trans (hb2.mono HB1.out.size))
    have HE : Hid (ixX x = (2, [])) := Lib.hid (by
      rw [HX.out, ixGet, if_neg (fun h => hlen h.1)]
      rfl)
    clear hlen hb2
    go_wp2_with fail
    go_ret2
    rw [HE.out]
    exact ⟨_, rfl, Us.nil _, HB2.out⟩

theorem iget_any {x : List UInt8} {v : Value} (w : World) (hv : Bs w v x) (hl : x.length ≤ 140737488355320) :
    Calls Tryz.prog 40 #[v] w fun e w' => ∃ y, e = .returned (.tuple #[y, errV (ixX x).1]) ∧ Us w' y (ixX x).2 ∧ Below w.heap.size w w' := by
  by_cases h4 : x.length < 4
  · have he : ixX x = (2, []) := by rw [ixX, if_pos h4]
    rw [he]
    exact (iget_short w hv h4).mono fun e w' ⟨he, hb⟩ => ⟨.slice none 0 0, he, Us.nil _, hb⟩
  · by_cases hs : tailOf x = crcOf (bodyOf x)
    · exact iget_body w hv (by omega) hl hs
    · have he : ixX x = (7, []) := by rw [ixX, if_neg h4, if_neg hs]
      rw [he]
      exact (iget_sum w hv (by omega) hl hs).mono fun e w' ⟨he, hb⟩ => ⟨.slice none 0 0, he, Us.nil _, hb⟩

end Go.Proofs.YtfaefacefdkjdaaGreatDoor

namespace Go.Proofs.YtfaefacefdkjdaaGreatDoor
open Go.RowKit
set_option maxRecDepth 100000

end Go.Proofs.YtfaefacefdkjdaaGreatDoor
