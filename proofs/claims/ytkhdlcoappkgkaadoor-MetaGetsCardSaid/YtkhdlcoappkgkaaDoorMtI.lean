/-
  CONTRACTS of the document's Name, value and Parse. Conditions: what each says.
-/
import Derived.Test.YtkhdlcoappkgkaaDoorMtH
namespace Go.Proofs.YtkhdlcoappkgkaaDoor
open Go.RowKit
set_option maxRecDepth 100000

set_option maxHeartbeats 800000 in
theorem Name_m (id : Nat) (page : Int) (w : World) (hi : id < 18446744073709551616) :
    Calls Tryd.prog 25 #[.int .u64 (id : Int), .string ⟨#[109]⟩, .int .i64 page] w fun e w' => e = .returned (.string (Bstr (nmHead id ++ [109]))) ∧ Below w.heap.size w w' := by
  have a1 : ∀ u, (Op.stringOp .add ⟨#[98, 47]⟩ (Bstr (digs 16 id 16))).run Tryd.prog u = .ok (.string (Bstr ([98, 47] ++ digs 16 id 16))) u := addStr' [98, 47] (digs 16 id 16) ([98, 47] ++ digs 16 id 16) rfl (by simp [digs_length])
  have a2 : ∀ u, (Op.stringOp .add (Bstr ([98, 47] ++ digs 16 id 16)) ⟨#[47]⟩).run Tryd.prog u = .ok (.string (Bstr (nmHead id))) u := addStr' ([98, 47] ++ digs 16 id 16) [47] (nmHead id) rfl (by rw [nmHead_length]; omega)
  have a3 : ∀ u, (Op.stringOp .add (Bstr (nmHead id)) ⟨#[109]⟩).run Tryd.prog u = .ok (.string (Bstr (nmHead id ++ [109]))) u := addStr' (nmHead id) [109] (nmHead id ++ [109]) rfl (by simp [nmHead_length])
  have hC := Digs_any 16 (.inl rfl) 16 id w (by omega) hi
  generalize nmHead id ++ [109] = k3 at *
  generalize nmHead id = k2 at *
  generalize [98, 47] ++ digs 16 id 16 = k1 at *
  generalize digs 16 id 16 = k0 at *
  clear hi
  go_enter Tryd.func25, Tryd.ntmps25
  go_wp2_with fail
  refine hC.mono ?_
  rintro e w1 ⟨rfl, hb1⟩
  go_wp2_with fail
  go_ret
  exact ⟨rfl, hb1⟩
set_option maxHeartbeats 800000 in
theorem Name_i (id : Nat) (page : Int) (w : World) (hi : id < 18446744073709551616) :
    Calls Tryd.prog 25 #[.int .u64 (id : Int), .string ⟨#[105]⟩, .int .i64 page] w fun e w' => e = .returned (.string (Bstr (nmHead id ++ [105]))) ∧ Below w.heap.size w w' := by
  have a1 : ∀ u, (Op.stringOp .add ⟨#[98, 47]⟩ (Bstr (digs 16 id 16))).run Tryd.prog u = .ok (.string (Bstr ([98, 47] ++ digs 16 id 16))) u := addStr' [98, 47] (digs 16 id 16) ([98, 47] ++ digs 16 id 16) rfl (by simp [digs_length])
  have a2 : ∀ u, (Op.stringOp .add (Bstr ([98, 47] ++ digs 16 id 16)) ⟨#[47]⟩).run Tryd.prog u = .ok (.string (Bstr (nmHead id))) u := addStr' ([98, 47] ++ digs 16 id 16) [47] (nmHead id) rfl (by rw [nmHead_length]; omega)
  have a3 : ∀ u, (Op.stringOp .add (Bstr (nmHead id)) ⟨#[105]⟩).run Tryd.prog u = .ok (.string (Bstr (nmHead id ++ [105]))) u := addStr' (nmHead id) [105] (nmHead id ++ [105]) rfl (by simp [nmHead_length])
  have hC := Digs_any 16 (.inl rfl) 16 id w (by omega) hi
  generalize nmHead id ++ [105] = k3 at *
  generalize nmHead id = k2 at *
  generalize [98, 47] ++ digs 16 id 16 = k1 at *
  generalize digs 16 id 16 = k0 at *
  clear hi
  go_enter Tryd.func25, Tryd.ntmps25
  go_wp2_with fail
  refine hC.mono ?_
  rintro e w1 ⟨rfl, hb1⟩
  go_wp2_with fail
  go_ret
  exact ⟨rfl, hb1⟩
set_option maxHeartbeats 800000 in
theorem Name_f (id : Nat) (page : Int) (w : World) (hi : id < 18446744073709551616) :
    Calls Tryd.prog 25 #[.int .u64 (id : Int), .string ⟨#[102]⟩, .int .i64 page] w fun e w' => e = .returned (.string (Bstr (nmHead id ++ [102]))) ∧ Below w.heap.size w w' := by
  have a1 : ∀ u, (Op.stringOp .add ⟨#[98, 47]⟩ (Bstr (digs 16 id 16))).run Tryd.prog u = .ok (.string (Bstr ([98, 47] ++ digs 16 id 16))) u := addStr' [98, 47] (digs 16 id 16) ([98, 47] ++ digs 16 id 16) rfl (by simp [digs_length])
  have a2 : ∀ u, (Op.stringOp .add (Bstr ([98, 47] ++ digs 16 id 16)) ⟨#[47]⟩).run Tryd.prog u = .ok (.string (Bstr (nmHead id))) u := addStr' ([98, 47] ++ digs 16 id 16) [47] (nmHead id) rfl (by rw [nmHead_length]; omega)
  have a3 : ∀ u, (Op.stringOp .add (Bstr (nmHead id)) ⟨#[102]⟩).run Tryd.prog u = .ok (.string (Bstr (nmHead id ++ [102]))) u := addStr' (nmHead id) [102] (nmHead id ++ [102]) rfl (by simp [nmHead_length])
  have hC := Digs_any 16 (.inl rfl) 16 id w (by omega) hi
  generalize nmHead id ++ [102] = k3 at *
  generalize nmHead id = k2 at *
  generalize [98, 47] ++ digs 16 id 16 = k1 at *
  generalize digs 16 id 16 = k0 at *
  clear hi
  go_enter Tryd.func25, Tryd.ntmps25
  go_wp2_with fail
  refine hC.mono ?_
  rintro e w1 ⟨rfl, hb1⟩
  go_wp2_with fail
  go_ret
  exact ⟨rfl, hb1⟩
set_option maxHeartbeats 800000 in
theorem Name_x (id : Nat) (page : Int) (w : World) (hi : id < 18446744073709551616) :
    Calls Tryd.prog 25 #[.int .u64 (id : Int), .string ⟨#[120]⟩, .int .i64 page] w fun e w' => e = .returned (.string (Bstr (nmHead id ++ [120]))) ∧ Below w.heap.size w w' := by
  have a1 : ∀ u, (Op.stringOp .add ⟨#[98, 47]⟩ (Bstr (digs 16 id 16))).run Tryd.prog u = .ok (.string (Bstr ([98, 47] ++ digs 16 id 16))) u := addStr' [98, 47] (digs 16 id 16) ([98, 47] ++ digs 16 id 16) rfl (by simp [digs_length])
  have a2 : ∀ u, (Op.stringOp .add (Bstr ([98, 47] ++ digs 16 id 16)) ⟨#[47]⟩).run Tryd.prog u = .ok (.string (Bstr (nmHead id))) u := addStr' ([98, 47] ++ digs 16 id 16) [47] (nmHead id) rfl (by rw [nmHead_length]; omega)
  have a3 : ∀ u, (Op.stringOp .add (Bstr (nmHead id)) ⟨#[120]⟩).run Tryd.prog u = .ok (.string (Bstr (nmHead id ++ [120]))) u := addStr' (nmHead id) [120] (nmHead id ++ [120]) rfl (by simp [nmHead_length])
  have hC := Digs_any 16 (.inl rfl) 16 id w (by omega) hi
  generalize nmHead id ++ [120] = k3 at *
  generalize nmHead id = k2 at *
  generalize [98, 47] ++ digs 16 id 16 = k1 at *
  generalize digs 16 id 16 = k0 at *
  clear hi
  go_enter Tryd.func25, Tryd.ntmps25
  go_wp2_with fail
  refine hC.mono ?_
  rintro e w1 ⟨rfl, hb1⟩
  go_wp2_with fail
  go_ret
  exact ⟨rfl, hb1⟩

set_option maxHeartbeats 800000 in
theorem Name_p (id : Nat) (page : Int) (w : World) (hi : id < 18446744073709551616) (h0 : 0 ≤ page) (h1 : page ≤ 9223372036854775807) :
    Calls Tryd.prog 25 #[.int .u64 (id : Int), .string ⟨#[112]⟩, .int .i64 page] w fun e w' => e = .returned (.string (Bstr (nmHead id ++ [112] ++ digs 10 (pgN page) 3))) ∧ Below w.heap.size w w' := by
  have a1 : ∀ u, (Op.stringOp .add ⟨#[98, 47]⟩ (Bstr (digs 16 id 16))).run Tryd.prog u = .ok (.string (Bstr ([98, 47] ++ digs 16 id 16))) u := addStr' [98, 47] (digs 16 id 16) ([98, 47] ++ digs 16 id 16) rfl (by simp [digs_length])
  have a2 : ∀ u, (Op.stringOp .add (Bstr ([98, 47] ++ digs 16 id 16)) ⟨#[47]⟩).run Tryd.prog u = .ok (.string (Bstr (nmHead id))) u := addStr' ([98, 47] ++ digs 16 id 16) [47] (nmHead id) rfl (by rw [nmHead_length]; omega)
  have a3 : ∀ u, (Op.stringOp .add (Bstr (nmHead id)) ⟨#[112]⟩).run Tryd.prog u = .ok (.string (Bstr (nmHead id ++ [112]))) u := addStr' (nmHead id) [112] (nmHead id ++ [112]) rfl (by simp [nmHead_length])
  have a4 : ∀ u, (Op.stringOp .add (Bstr (nmHead id ++ [112])) (Bstr (digs 10 (pgN page) 3))).run Tryd.prog u = .ok (.string (Bstr (nmHead id ++ [112] ++ digs 10 (pgN page) 3))) u := addStr' (nmHead id ++ [112]) (digs 10 (pgN page) 3) _ rfl (by simp [nmHead_length, digs_length])
  have hn : page % 1000 = ((pgN page : Nat) : Int) := by unfold pgN; omega
  have hlt := pgN_lt page
  have hwr := wrapU' (pgN page) (by omega)
  have hC := Digs_any 16 (.inl rfl) 16 id w (by omega) hi
  have hD := fun u => Digs_any 10 (.inr rfl) 3 (pgN page) u (by omega) (by omega)
  obtain ⟨t, rfl⟩ := nat_of (n := page) h0
  generalize nmHead id ++ [112] ++ digs 10 (pgN (t : Int)) 3 = k4 at *
  generalize nmHead id ++ [112] = k3 at *
  generalize nmHead id = k2 at *
  generalize [98, 47] ++ digs 16 id 16 = k1 at *
  generalize digs 16 id 16 = k0 at *
  generalize digs 10 (pgN (t : Int)) 3 = kd at *
  generalize pgN (t : Int) = n at *
  clear hi h0
  go_enter Tryd.func25, Tryd.ntmps25
  go_wp2_with fail
  refine hC.mono ?_
  rintro e w1 ⟨rfl, hb1⟩
  go_wp2_with fail
  refine (hD _).mono ?_
  rintro e w2 ⟨rfl, hb2⟩
  go_wp2_with fail
  go_ret
  exact ⟨rfl, hb1.trans (hb2.mono hb1.size)⟩

set_option maxHeartbeats 800000 in
theorem Name_neg (id : Nat) (page : Int) (w : World) (hi : id < 18446744073709551616) (h0 : page < 0) :
    Calls Tryd.prog 25 #[.int .u64 (id : Int), .string ⟨#[112]⟩, .int .i64 page] w fun e w' => e = .returned (.string (Bstr (nmHead id ++ [112] ++ digs 10 (pgN page) 3))) ∧ Below w.heap.size w w' := by
  have hp : pgN page = 0 := by unfold pgN; omega
  rw [hp]
  have a1 : ∀ u, (Op.stringOp .add ⟨#[98, 47]⟩ (Bstr (digs 16 id 16))).run Tryd.prog u = .ok (.string (Bstr ([98, 47] ++ digs 16 id 16))) u := addStr' [98, 47] (digs 16 id 16) ([98, 47] ++ digs 16 id 16) rfl (by simp [digs_length])
  have a2 : ∀ u, (Op.stringOp .add (Bstr ([98, 47] ++ digs 16 id 16)) ⟨#[47]⟩).run Tryd.prog u = .ok (.string (Bstr (nmHead id))) u := addStr' ([98, 47] ++ digs 16 id 16) [47] (nmHead id) rfl (by rw [nmHead_length]; omega)
  have a3 : ∀ u, (Op.stringOp .add (Bstr (nmHead id)) ⟨#[112]⟩).run Tryd.prog u = .ok (.string (Bstr (nmHead id ++ [112]))) u := addStr' (nmHead id) [112] (nmHead id ++ [112]) rfl (by simp [nmHead_length])
  have a4 : ∀ u, (Op.stringOp .add (Bstr (nmHead id ++ [112])) (Bstr (digs 10 0 3))).run Tryd.prog u = .ok (.string (Bstr (nmHead id ++ [112] ++ digs 10 0 3))) u := addStr' (nmHead id ++ [112]) (digs 10 0 3) _ rfl (by simp [nmHead_length, digs_length])
  have hC := Digs_any 16 (.inl rfl) 16 id w (by omega) hi
  have hD := fun u => Digs_any 10 (.inr rfl) 3 0 u (by omega) (by omega)
  generalize nmHead id ++ [112] ++ digs 10 0 3 = k4 at *
  generalize nmHead id ++ [112] = k3 at *
  generalize nmHead id = k2 at *
  generalize [98, 47] ++ digs 16 id 16 = k1 at *
  generalize digs 16 id 16 = k0 at *
  generalize digs 10 0 3 = kd at *
  clear hi hp
  go_enter Tryd.func25, Tryd.ntmps25
  go_wp2_with fail
  refine hC.mono ?_
  rintro e w1 ⟨rfl, hb1⟩
  go_wp2_with fail
  refine (hD _).mono ?_
  rintro e w2 ⟨rfl, hb2⟩
  go_wp2_with fail
  go_ret
  exact ⟨rfl, hb1.trans (hb2.mono hb1.size)⟩

theorem Name_none (id : Nat) (what : List UInt8) (page : Int) (w : World) (hi : id < 18446744073709551616) (h1 : ¬ sortW what) (h2 : what ≠ [112]) :
    Calls Tryd.prog 25 #[.int .u64 (id : Int), .string (Bstr what), .int .i64 page] w fun e w' => e = .returned (.string ⟨#[]⟩) ∧ Below w.heap.size w w' := by
  have a1 : ∀ u, (Op.stringOp .add ⟨#[98, 47]⟩ (Bstr (digs 16 id 16))).run Tryd.prog u = .ok (.string (Bstr ([98, 47] ++ digs 16 id 16))) u := addStr' [98, 47] (digs 16 id 16) ([98, 47] ++ digs 16 id 16) rfl (by simp [digs_length])
  have a2 : ∀ u, (Op.stringOp .add (Bstr ([98, 47] ++ digs 16 id 16)) ⟨#[47]⟩).run Tryd.prog u = .ok (.string (Bstr (nmHead id))) u := addStr' ([98, 47] ++ digs 16 id 16) [47] (nmHead id) rfl (by rw [nmHead_length]; omega)
  have n1 : ((Bstr what).toList == [109]) = false := by rw [BSlist, beq_eq_false_iff_ne]; exact fun e => h1 (.inl e)
  have n2 : ((Bstr what).toList == [105]) = false := by rw [BSlist, beq_eq_false_iff_ne]; exact fun e => h1 (.inr (.inl e))
  have n3 : ((Bstr what).toList == [102]) = false := by rw [BSlist, beq_eq_false_iff_ne]; exact fun e => h1 (.inr (.inr (.inl e)))
  have n4 : ((Bstr what).toList == [120]) = false := by rw [BSlist, beq_eq_false_iff_ne]; exact fun e => h1 (.inr (.inr (.inr e)))
  have n5 : ((Bstr what).toList == [112]) = false := by rw [BSlist, beq_eq_false_iff_ne]; exact h2
  have hC := Digs_any 16 (.inl rfl) 16 id w (by omega) hi
  generalize nmHead id = k2 at *
  generalize [98, 47] ++ digs 16 id 16 = k1 at *
  generalize digs 16 id 16 = k0 at *
  clear hi h1 h2
  go_enter Tryd.func25, Tryd.ntmps25
  go_wp2_with fail
  refine hC.mono ?_
  rintro e w1 ⟨rfl, hb1⟩
  go_wp2_with fail
  go_ret
  exact ⟨rfl, hb1⟩

theorem Name_any (id : Nat) (what : List UInt8) (page : Int) (w : World) (hi : id < 18446744073709551616) (hp1 : page ≤ 9223372036854775807) :
    Calls Tryd.prog 25 #[.int .u64 (id : Int), .string (Bstr what), .int .i64 page] w fun e w' => e = .returned (.string (Bstr (nmOf id what page))) ∧ Below w.heap.size w w' := by
  by_cases hs : sortW what
  · rw [nmOf_sort hs]
    rcases hs with rfl | rfl | rfl | rfl
    · exact Name_m id page w hi
    · exact Name_i id page w hi
    · exact Name_f id page w hi
    · exact Name_x id page w hi
  · by_cases hp : what = [112]
    · subst hp
      rw [nmOf_p]
      by_cases h0 : 0 ≤ page
      · exact Name_p id page w hi h0 hp1
      · exact Name_neg id page w hi (by omega)
    · rw [nmOf_none hs hp]
      exact Name_none id what page w hi hs hp

/-- value -/
theorem dval_big (c : UInt8) (h1 : 97 ≤ c.toNat) (h2 : c.toNat ≤ 102) : dval c = c.toNat - 87 := if_pos ⟨h1, h2⟩
theorem dval_other (c : UInt8) (h : ¬ (97 ≤ c.toNat ∧ c.toNat ≤ 102)) : dval c = c.toNat % 16 := if_neg h
set_option maxHeartbeats 800000 in
theorem value_any (s : List UInt8) (w : World) (hl : s.length ≤ 16) :
    Calls Tryd.prog 41 #[.string (Bstr s)] w fun e w' => e = .returned (.int .u64 (valD 16 s : Int)) ∧ Below w.heap.size w w' := by
  have hsz := Bstr_size s
  go_enter Tryd.func41, Tryd.ntmps41
  go_wp2_with fail
  go_loopg [3, 4, 5] s.length (fun gk nv iv _ wr => ∃ (k : Nat), k + gk = s.length ∧ nv = .int .u64 ((valD 16 (s.take k) : Nat) : Int) ∧ iv = .int .i64 (k : Int) ∧ Hid (Below w.heap.size w wr))
  case atStart => exact ⟨0, by omega, by simp [valD], by simp, Lib.hid (Below.refl _ _)⟩
  case round =>
    obtain ⟨k, hk, rfl, rfl, HM⟩ := hrel
    by_cases hkl : k < s.length
    · obtain ⟨gk1, hgk1⟩ : ∃ x, gk = x + 1 := ⟨gk - 1, by omega⟩
      have HV : Hid (valD 16 (s.take (k + 1)) = 16 * valD 16 (s.take k) + dval s[k]) := Lib.hid (by rw [List.take_succ_eq_append_getElem hkl, valD_snoc])
      have hv : valD 16 (s.take k) < 1152921504606846976 := by
        have h1 := valD_lt (s.take k)
        rw [List.length_take, Nat.min_eq_left (by omega)] at h1
        exact Nat.lt_of_lt_of_le h1 (Nat.le_trans (Nat.pow_le_pow_right (by omega) (show k ≤ 15 by omega)) (by decide))
      generalize valD 16 (s.take k) = v at *
      obtain ⟨c, hcc⟩ : ∃ c : Nat, ((Bstr s)[k]'(by rw [hsz]; exact hkl)).toNat = c := ⟨_, rfl⟩
      have hc2 : s[k].toNat = c := hcc
      have hc : c < 256 := by have := s[k].toNat_lt; omega
      have HN : Hid (Below w.heap.size w wr) := HM
      by_cases h1 : 97 ≤ c
      · by_cases h2 : c ≤ 102
        · have HD : Hid (valD 16 (s.take (k + 1)) = 16 * v + (c - 87)) := Lib.hid (by rw [HV.out, dval_big _ (by omega) (by omega), hc2])
          clear HV hc2
          go_wp2_with fail
          go_roundg gk1
          case measure => omega
          case rel =>
            refine ⟨k + 1, by omega, ?_, by go_num, Lib.hid HN.out⟩
            rw [HD.out]
            congr 1
            rw [IntKind.wrap_u64, IntKind.wrap_u64]
            omega
        · have HD : Hid (valD 16 (s.take (k + 1)) = 16 * v + c % 16) := Lib.hid (by rw [HV.out, dval_other _ (by omega), hc2])
          clear HV hc2
          go_wp2_with fail
          go_roundg gk1
          case measure => omega
          case rel =>
            refine ⟨k + 1, by omega, ?_, by go_num, Lib.hid HN.out⟩
            rw [HD.out]
            congr 1
      · have HD : Hid (valD 16 (s.take (k + 1)) = 16 * v + c % 16) := Lib.hid (by rw [HV.out, dval_other _ (by omega), hc2])
        clear HV hc2
        go_wp2_with fail
        go_roundg gk1
        case measure => omega
        case rel =>
          refine ⟨k + 1, by omega, ?_, by go_num, Lib.hid HN.out⟩
          rw [HD.out]
          congr 1
    · have hkn : k = s.length := by omega
      subst hkn
      have HT : Hid (s.take s.length = s) := Lib.hid (List.take_length)
      go_wp2_with fail
      go_ret
      rw [HT.out]
      exact ⟨rfl, HM.out⟩
end Go.Proofs.YtkhdlcoappkgkaaDoor
