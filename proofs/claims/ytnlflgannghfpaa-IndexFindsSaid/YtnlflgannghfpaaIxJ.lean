/-
  Why a trace that is in a page is in the one that is found, of plain lists; tankardlaw12.IndexFinds, walked. Conditions: what each says.
-/
import Derived.Test.YtnlflgannghfpaaIxG
import Derived.Test.YtnlflgannghfpaaIxD
namespace Go.Proofs.Ytnlflgannghfpaa
open Go.RowKit
set_option maxRecDepth 100000

theorem ids_pairwise : ∀ {l : List Tn}, (∀ (k : Nat) (t u : Tn), l[k]? = some t → l[k + 1]? = some u → t.id < u.id) → l.Pairwise fun a b => a.id < b.id
  | [], _ => List.Pairwise.nil
  | [t], _ => List.pairwise_singleton ..
  | t :: u :: l, h => by
    have ih := ids_pairwise (l := u :: l) fun k a b h1 h2 => h (k + 1) a b (by simpa using h1) (by simpa using h2)
    have h0 := h 0 t u rfl rfl
    refine List.Pairwise.cons (fun x hx => ?_) ih
    rcases List.mem_cons.1 hx with rfl | hx
    · exact h0
    · exact Int.lt_trans h0 ((List.pairwise_cons.1 ih).1 x hx)
/-- what pages that have an index are -/
structure Pgs (rows : List (List Tn)) : Prop where
  few : rows.length ≤ 200
  one : ∀ r ∈ rows, r.Pairwise fun a b => a.id < b.id
  two : rows.Pairwise fun p q => ∀ x ∈ p, ∀ y ∈ q, x.id < y.id
  some_ : ∀ r ∈ rows, 0 < r.length
theorem pagesB_pgs {rows : List (List Tn)} (h : pagesB rows = true) : Pgs rows := by
  rw [pagesB, Bool.and_eq_true, Bool.and_eq_true, decide_eq_true_eq, List.all_eq_true] at h
  obtain ⟨h1, h2, h3⟩ := h
  have hI : IsT rows.flatten := by
    rcases Classical.em (IsT rows.flatten) with h | h
    · exact h
    · rw [isB_false h] at h2
      cases h2
  have hp := ids_pairwise hI.up
  rw [List.pairwise_flatten] at hp
  exact ⟨h1, hp.1, hp.2, fun r hr => by simpa using h3 r hr⟩
theorem Pgs.first {rows : List (List Tn)} (h : Pgs rows) {i : Nat} {x : Nat} (hx : (rows.map firstId)[i]? = some x) : ∃ t r, rows[i]? = some (t :: r) ∧ x = t.id.toNat := by
  rw [List.getElem?_map] at hx
  cases hr : rows[i]? with
  | none =>
    rw [hr] at hx
    cases hx
  | some p =>
    rw [hr] at hx
    cases p with
    | nil =>
      have := h.some_ [] (List.mem_of_getElem? hr)
      simp at this
    | cons t r =>
      injection hx with hx
      exact ⟨t, r, rfl, hx.symm⟩
theorem Pgs.lt {rows : List (List Tn)} (h : Pgs rows) {i j : Nat} {p q : List Tn} (hi : rows[i]? = some p) (hj : rows[j]? = some q) (hij : i < j) {x y : Tn} (hx : x ∈ p) (hy : y ∈ q) : x.id < y.id := by
  obtain ⟨h1, rfl⟩ := List.getElem?_eq_some_iff.1 hi
  obtain ⟨h2, rfl⟩ := List.getElem?_eq_some_iff.1 hj
  exact (List.pairwise_iff_getElem.1 h.two) i j h1 h2 hij x hx y hy
theorem Pgs.ix {rows : List (List Tn)} (h : Pgs rows) (h0 : ∀ r ∈ rows, ∀ t ∈ r, 0 ≤ t.id) : ixB (rows.map firstId) = true := by
  rw [ixB, Bool.and_eq_true, decide_eq_true_eq, List.length_map]
  refine ⟨(risB_iff _).2 fun i a b ha hb => ?_, h.few⟩
  obtain ⟨t, r, ht, rfl⟩ := h.first ha
  obtain ⟨u, s, hu, rfl⟩ := h.first hb
  have h1 := h.lt ht hu (by omega) (List.mem_cons_self ..) (List.mem_cons_self ..)
  have h2 := h0 _ (List.mem_of_getElem? ht) t (List.mem_cons_self ..)
  omega
theorem Pgs.at_ {rows : List (List Tn)} (h : Pgs rows) (h0 : ∀ r ∈ rows, ∀ t ∈ r, 0 ≤ t.id) {i : Nat} {p : List Tn} {t : Tn} (hi : rows[i]? = some p) (ht : t ∈ p) : IsAt (rows.map firstId) t.id.toNat (i : Int) := by
  have hil := (List.getElem?_eq_some_iff.1 hi).1
  refine ⟨by omega, by rw [List.length_map]; omega, fun j x hj e => ?_, fun j x hj e => ?_⟩
  · have : j = i := by omega
    subst this
    obtain ⟨u, r, hu, rfl⟩ := h.first hj
    rw [hi] at hu
    injection hu with hu
    subst hu
    rcases List.mem_cons.1 ht with rfl | ht
    · exact Nat.le_refl _
    · have := (List.pairwise_cons.1 (h.one _ (List.mem_of_getElem? hi))).1 t ht
      omega
  · obtain ⟨u, r, hu, rfl⟩ := h.first hj
    have h1 := h.lt hi hu (by omega) ht (List.mem_cons_self ..)
    have h2 := h0 _ (List.mem_of_getElem? hi) t ht
    omega
theorem Pgs.bound {rows : List (List Tn)} (h1 : ∀ r ∈ rows, ∀ t ∈ r, t.id ≤ 18446744073709551615) : ∀ x ∈ rows.map firstId, x < 18446744073709551616 := by
  intro x hx
  obtain ⟨r, hr, rfl⟩ := List.mem_map.1 hx
  cases r with
  | nil => simp [firstId]
  | cons t r =>
    have := h1 _ hr t (List.mem_cons_self ..)
    rw [firstId]
    omega
/-- Ids that are read are numbers of a width of 8 -/
theorem sls_ids {w : World} {v : Value} {rows : List (List Tn)} (h : Sls TsV w v rows) : ∀ r ∈ rows, ∀ t ∈ r, 0 ≤ t.id ∧ t.id ≤ 18446744073709551615 := by
  intro r hr t ht
  obtain ⟨A, c, rfl, _⟩ := h.form
  obtain ⟨i, hi⟩ := List.getElem?_of_mem hr
  obtain ⟨q, o, d, _, _, _, hd⟩ := h.cell hi
  obtain ⟨B, c', rfl, _⟩ := Ts.form hd
  obtain ⟨k, hk⟩ := List.getElem?_of_mem ht
  obtain ⟨_, _, _, _, _, _, _, _, h0, h1⟩ := Ts.cells hd hk
  exact ⟨h0, h1⟩

set_option maxHeartbeats 3200000 in
theorem indexFinds_any (v : Value) (rows : List (List Tn)) (w : World) (h : Sls TsV w v rows) (hr : ∀ r ∈ rows, r.length ≤ 140737488355328) (hrl : rows.length ≤ 140737488355328) :
    Calls Try.prog 5 #[v] w fun e w' => e = .returned (.bool true) ∧ Below w.heap.size w w' := by
  have H := Lib.hid h
  have eqc := eqCode
  have nec := neCode
  have hSm := fun u (hu : Sls TsV u v rows) => smallP_any v rows u hu hr hrl
  have HID := Lib.hid (sls_ids h)
  obtain ⟨A, c, rfl, hc1, hc2⟩ := h.form
  clear h
  cases hS : smallP rows with
  | false =>
    rw [hS] at hSm
    clear hS
    go_enter Try.func5, Try.ntmps5
    go_wp2_with fail
    refine (up12_any _).mono ?_
    rintro e w1 ⟨rfl, hb1⟩
    go_wp2_with fail
    refine (hSm _ (sls_ts_below H.out hb1)).mono ?_
    rintro e w2 ⟨rfl, rfl⟩
    go_wp2_with fail
    go_ret
    exact ⟨rfl, hb1⟩
  | true =>
    rw [hS] at hSm
    have hfl : rows.flatten.length ≤ 300 ∧ rows.length ≤ 300 := by
      rw [smallP] at hS
      simp only [Bool.and_eq_true, decide_eq_true_iff] at hS
      omega
    have HFL := Lib.hid hfl
    clear hS hfl hr
    go_enter Try.func5, Try.ntmps5
    go_wp2_with fail
    refine (up12_any _).mono ?_
    rintro e w1 ⟨rfl, hb1⟩
    have HB1 := Lib.hid hb1
    have H1 := Lib.hid (sls_ts_below H.out hb1)
    clear hb1
    go_wp2_with fail
    refine (hSm _ H1.out).mono ?_
    rintro e w2 ⟨rfl, rfl⟩
    clear hSm
    go_wp2_with fail
    refine (iof_any _ rows _ H1.out (by have := HFL.out; omega)).mono ?_
    rintro e w2 ⟨⟨hP, rfl⟩ | ⟨hP, y, rfl, hy⟩, hb2⟩
    · have HB2 := Lib.hid (HB1.out.trans (hb2.mono HB1.out.size))
      clear hb2 hP
      go_wp2_with fail
      go_ret
      exact ⟨rfl, HB2.out⟩
    · have HPg := Lib.hid (pagesB_pgs hP)
      have HIx := Lib.hid (HPg.out.ix fun r hr t ht => (HID.out r hr t ht).1)
      have HBd := Lib.hid (Pgs.bound fun r hr t ht => (HID.out r hr t ht).2)
      have HAt := Lib.hid (fun (i : Nat) (p : List Tn) (t : Tn) (hi : rows[i]? = some p) (ht : t ∈ p) => HPg.out.at_ (fun r hr t ht => (HID.out r hr t ht).1) hi ht)
      have HML : Hid ((rows.map firstId).length = rows.length) := Lib.hid (List.length_map ..)
      generalize rows.map firstId = m at *
      have HY := Lib.hid hy
      have HB2 := Lib.hid (HB1.out.trans (hb2.mono HB1.out.size))
      clear hP hb2 hy
      go_wp2_with fail
      refine (iput_ok _ m _ HY.out HIx.out HBd.out).mono ?_
      rintro e w3 ⟨z, rfl, hz, hb3⟩
      have HZ := Lib.hid hz.bs
      have HB3 := Lib.hid (HB2.out.trans (hb3.mono HB2.out.size))
      have HXP := Lib.hid (ixX_put m HBd.out HIx.out)
      have HLX : Hid ((sealedOf (ixBytes m)).length ≤ 140737488355320) := Lib.hid (by
        rw [sealedOf_length, ixBytes_length, HML.out]
        have := HFL.out
        omega)
      clear hz hb3
      go_wp2_with fail
      refine (iget_any _ HZ.out HLX.out).mono ?_
      rw [HXP.out]
      rintro e w4 ⟨g, rfl, hg, hb4⟩
      have HG := Lib.hid hg
      have HB4 := Lib.hid (HB3.out.trans (hb4.mono HB3.out.size))
      obtain ⟨B, d, rfl, hd1, hd2⟩ := Us.form hg
      rw [HML.out] at HG hd1 ⊢
      rw [errV_zero]
      clear hg hb4
      go_wp2_with fail
      have HS4 := Lib.hid (sls_ts_below H.out HB4.out)
      go_loopg [11] rows.length (fun gk iv wr => ∃ (i : Nat), i + gk = rows.length ∧ iv = .int .i64 (i : Int) ∧ w4 = wr)
      case atStart => exact ⟨0, by omega, rfl, rfl⟩
      case round =>
        obtain ⟨i, hik, rfl, rfl⟩ := hrel
        obtain ⟨gi, hgi⟩ : ∃ u, u = gk := ⟨_, rfl⟩
        subst hgi
        by_cases hil : i < rows.length
        · obtain ⟨gi1, hgi1⟩ : ∃ x, gi = x + 1 := ⟨gi - 1, by omega⟩
          obtain ⟨r, hr⟩ : ∃ r, rows[i]? = some r := ⟨_, List.getElem?_eq_getElem hil⟩
          obtain ⟨q, o, dd, rfl, hq, hcx, hd⟩ := HS4.out.cell hr
          obtain ⟨Ad, cd, rfl, _, _⟩ := Ts.form hd
          have HR := Lib.hid hr
          have HD := Lib.hid hd
          have a0 : (0 : Int) ≤ (i : Int) := by omega
          have a1 : (i : Int) < (rows.length : Int) := by omega
          clear hr hd
          go_wp2_with fail
          go_loopg [12] r.length (fun gk kv wr => ∃ (k : Nat), k + gk = r.length ∧ kv = .int .i64 (k : Int) ∧ w4 = wr)
          case atStart => exact ⟨0, by omega, rfl, rfl⟩
          case round =>
            obtain ⟨k, hkk, rfl, rfl⟩ := hrel
            by_cases hkl : k < r.length
            · obtain ⟨gk1, hgk1⟩ : ∃ x, gk = x + 1 := ⟨gk - 1, by omega⟩
              obtain ⟨t, ht⟩ : ∃ t, r[k]? = some t := ⟨_, List.getElem?_eq_getElem hkl⟩
              obtain ⟨g, oo, d2, rfl, hg, c0, _, _, ht0, ht1⟩ := HD.out.cells ht
              have HA := Lib.hid (HAt.out i r t HR.out (List.mem_of_getElem? ht))
              obtain ⟨x, hx⟩ := nat_of ht0
              rw [hx] at c0
              rw [hx, Int.toNat_natCast] at HA
              have b0 : (0 : Int) ≤ (k : Int) := by omega
              have b1 : (k : Int) < (r.length : Int) := by omega
              clear ht hx ht0 ht1
              go_wp2_with fail
              refine (ifind_any _ m x _ HG.out).mono ?_
              rintro e w6 ⟨j, rfl, hj, rfl⟩
              obtain rfl := hj.one HA.out
              clear hj
              go_wp2_with fail
              go_roundg gk1
              case measure => omega
              case rel => exact ⟨k + 1, by omega, by go_num, rfl⟩
            · go_wp2_with fail
              go_roundg gi1
              case measure => omega
              case rel => exact ⟨i + 1, by omega, by go_num, rfl⟩
        · go_wp2_with fail
          go_ret
          exact ⟨rfl, HB4.out⟩
end Go.Proofs.Ytnlflgannghfpaa
