/-
  CONTRACTS of the document's Of, of the law's ids and small; the head of layer 12's statements. Conditions: what each says.
-/
import Derived.Test.YtnlflgannghfpaaIxF
import Derived.Test.YtnlflgannghfpaaCode
namespace Go.Proofs.Ytnlflgannghfpaa
open Go.RowKit
set_option maxRecDepth 100000

theorem wpList_append_T {w0 w : World} {base : Nat} {v : Value} {l m : List Tn} {ops : Array Oper} {rest : List Oper} {o : Oper} {a : Act} {Q : Exit → Act → World → Prop} (hgd : o.guard = none) (sx x : Operand)
    (ho : o.op = .call { callee := .builtin .append, args := #[sx, x], argTypes := #[47, 47] })
    (hs : a.eval sx = v) (h : OwnT w0 w base v l) {V : Value} {ys : List (List Value)} (hx : a.eval x = V) (hV : Lv 2 w V ys) (hys : Two (TnC w0) m ys) (hl : l.length + m.length ≤ 1000000000) (hbase : base ≤ w.heap.size)
    (hK : ∀ v' w', OwnT w0 w' base v' (l ++ m) → w.grownBy w' v.ownBlock → (v'.ownBlock = v.ownBlock ∨ v'.ownBlock = some w.heap.size) → wpList Try.prog ops Q rest (a.put o.dst v') w') : wpList Try.prog ops Q (o :: rest) a w := by
  obtain ⟨xs, h1, h2⟩ := h
  have e1 := h2.len
  have e2 := hys.len
  refine wpList_append_elems _ trT hgd sx x ho base v xs hs h1 V ys hx hV (fun y hy => by
    obtain ⟨a, _, ha⟩ := hys.right_mem hy
    exact ha.one) (by simp only [maxLen]; omega) (by omega) hbase fun v' w' k1 k2 k3 => hK v' w' ⟨xs ++ ys, k1, h2.append hys⟩ k2 k3
theorem OwnT.kept12 {w0 w w' : World} {base : Nat} {v : Value} {l : List Tn} {row : Option Nat} (h : OwnT w0 w base v l) (hg : w.grownBy w' row) (hne : v.ownBlock = none ∨ v.ownBlock ≠ row) : OwnT w0 w' base v l := by
  obtain ⟨xs, h1, h2⟩ := h
  exact ⟨xs, OwnL.kept h1 hg hne, h2⟩

set_option maxHeartbeats 3200000 in
theorem DOf_any (v : Value) (rows : List (List Tn)) (w : World) (h : Sls TsV w v rows) (hl : rows.flatten.length ≤ 100000000) (hrl : rows.length ≤ 100000000) :
    Calls Try.prog 9 #[v] w fun e w' => ∃ y, e = .returned (.tuple #[y, .bool (pagesB rows)]) ∧ (pagesB rows = true → Us w' y (rows.map firstId)) ∧ Below w.heap.size w w' := by
  obtain ⟨A, c, rfl, hc1, hc2⟩ := h.form
  have H := Lib.hid h
  have HL := Lib.hid hl
  clear h hl
  go_enter Try.func9, Try.ntmps9
  go_wp2_with fail
  go_loopg [4, 5, 6] rows.length (fun gk lv tv iv wr => ∃ (k : Nat), k + gk = rows.length ∧ iv = .int .i64 (k : Int) ∧ Hid (OwnU wr w.heap.size lv ((rows.take k).map firstId) ∧ OwnT w wr w.heap.size tv (rows.take k).flatten ∧ Below w.heap.size w wr ∧ (rows.take k).all (fun r => decide (0 < r.length)) = true ∧ ∀ z, lv.ownBlock = some z → tv.ownBlock ≠ some z))
  case atStart => exact ⟨0, by omega, rfl, Lib.hid ⟨OwnU.nil _ _, OwnT.nil12 _ _ _, Below.refl _ _, rfl, fun z hz => by cases hz⟩⟩
  case round =>
    obtain ⟨k, hk, rfl, HM⟩ := hrel
    by_cases hkl : k < rows.length
    · obtain ⟨gk1, hgk1⟩ : ∃ x, gk = x + 1 := ⟨gk - 1, by omega⟩
      obtain ⟨r, hr⟩ : ∃ r, rows[k]? = some r := ⟨_, List.getElem?_eq_getElem hkl⟩
      obtain ⟨q, o, d, rfl, hq, hcx, hd⟩ := H.out.cell hr
      obtain ⟨Ad, cd, rfl, _, _⟩ := Ts.form hd
      have hcy := (HM.out.2.2.1.cell (p := ⟨q, o + k, none⟩) hq).trans hcx
      have HT := Lib.hid (take_snoc_at hr)
      have a0 : (0 : Int) ≤ (k : Int) := by omega
      have a1 : (k : Int) < (rows.length : Int) := by omega
      have HR := Lib.hid hr
      have HMl : Hid (((rows.take k).map firstId).length ≤ 100000000) := Lib.hid (by rw [List.length_map, List.length_take]; omega)
      have HFl := Lib.hid (flat_take_at hr)
      have HCX := Lib.hid hcx
      clear hr hcx
      cases r with
      | nil =>
        have HE2 : Hid (pagesB rows = false) := Lib.hid (by
          have : (rows.all fun r => decide (0 < r.length)) = false := by
            rw [List.all_eq_false]
            exact ⟨[], List.mem_of_getElem? HR.out, by simp⟩
          rw [pagesB, this, Bool.and_false, Bool.and_false])
        clear hd
        go_wp2_with fail
        go_ret2
        rw [HE2.out]
        exact ⟨_, rfl, (fun h => by cases h), HM.out.2.2.1⟩
      | cons t r =>
        obtain ⟨g, oo, dd, rfl, hg, c0, _, _, ht0, ht1⟩ := hd.cells (i := 0) (t := t) rfl
        have c0' := (HM.out.2.2.1.cell (p := ⟨g, oo + 0 * 2, none⟩) hg).trans c0
        obtain ⟨ys, hlv, hys⟩ := hd
        obtain ⟨x, hx⟩ := nat_of ht0
        have HF : Hid (firstId (t :: r) = x) := Lib.hid (by rw [firstId, hx]; rfl)
        rw [hx] at c0'
        have HA : Hid ((rows.take (k + 1)).all (fun r => decide (0 < r.length)) = true) := Lib.hid (by
          rw [HT.out, List.all_append, HM.out.2.2.2.1]
          rfl)
        have c0'' : wr.cell? ⟨g, oo, none⟩ = some (.int .u64 (x : Int)) := by simpa using c0'
        clear c0 c0' hx ht0 ht1
        have HYS := Lib.hid hys
        have HLV := Lib.hid hlv
        have HTR : Hid ((rows.take k).flatten.length + (t :: r).length ≤ 1000000000) := Lib.hid (Nat.le_trans HFl.out.2 (Nat.le_trans HL.out (by omega)))
        clear hys hlv
        obtain ⟨n, hn⟩ : ∃ n, n = (t :: r).length := ⟨_, rfl⟩
        have hn0 : 0 < n := by rw [hn, List.length_cons]; omega
        rw [← hn] at hcy HCX HLV
        clear hn
        have hnz : ((n : Int) == 0) = false := by
          rw [beq_eq_false_iff_ne]
          omega
        have H6 : Hid (Below wr.heap.size wr (wr.alloc (.cells #[.int .u64 (x : Int)] 23))) := Lib.hid ((Below.refl _ _).alloc (Nat.le_refl _) _)
        have HL6 : Hid (((rows.take k).map firstId).length + [x].length ≤ 1000000000000) := Lib.hid (by have := HMl.out; simp only [List.length_cons, List.length_nil]; omega)
        go_wp2_with (at_builtin; refine wpList_append_u rfl _ _ rfl rfl (HM.out.1.below H6.out) rfl (Us.lit wr x _) HL6.out (Nat.le_trans HM.out.2.2.1.size H6.out.size) ?_)
        intro v7 w7 ho7 hg7 hv7
        have HO7 : Hid (OwnU w7 w.heap.size v7 ((rows.take (k + 1)).map firstId)) := Lib.hid (by
          rw [HT.out, List.map_append, List.map_cons, HF.out]
          simpa [List.map_take] using ho7)
        have HT7 : Hid (OwnT w w7 w.heap.size u5 (rows.take k).flatten) := Lib.hid ((HM.out.2.1.below H6.out).kept12 hg7 (by
          cases h4 : u5.ownBlock with
          | none => exact .inl rfl
          | some z => exact .inr fun e => HM.out.2.2.2.2 z e.symm h4))
        have HN7 : Hid (∀ z, v7.ownBlock = some z → u5.ownBlock ≠ some z) := Lib.hid fun z hz e => by
          rcases hv7 with h | h
          · rw [h] at hz
            exact HM.out.2.2.2.2 z hz e
          · rw [h] at hz
            injection hz with hz
            have := (HM.out.2.1.lt z e).2
            have := H6.out.size
            omega
        have HB6 := Lib.hid (HM.out.2.2.1.trans (H6.out.mono HM.out.2.2.1.size))
        have HB7 := Lib.hid (HB6.out.grown hg7 HB6.out.size (fun z hz => (HM.out.1.lt z hz).1))
        clear ho7 hg7 hv7 hcy c0''
        have c7 := (HB7.out.cell (p := ⟨q, o + k, none⟩) hq).trans HCX.out
        have HLV7 := Lib.hid (HLV.out.below HB7.out)
        go_wp2_with (at_builtin; refine wpList_append_T rfl _ _ rfl rfl HT7.out rfl HLV7.out HYS.out HTR.out HB7.out.size ?_)
        intro v8 w8 ho8 hg8 hv8
        have HT8 : Hid (OwnT w w8 w.heap.size v8 (rows.take (k + 1)).flatten) := Lib.hid (by rw [HFl.out.1]; exact ho8)
        have HO8 : Hid (OwnU w8 w.heap.size v7 ((rows.take (k + 1)).map firstId)) := Lib.hid (OwnL.kept HO7.out hg8 (by
          cases h4 : v7.ownBlock with
          | none => exact .inl rfl
          | some z => exact .inr fun e => HN7.out z h4 e.symm))
        have HN8 : Hid (∀ z, v7.ownBlock = some z → v8.ownBlock ≠ some z) := Lib.hid fun z hz e => by
          rcases hv8 with h | h
          · rw [h] at e
            exact HN7.out z hz e
          · rw [h] at e
            injection e with e
            have := (HO7.out.lt z hz).2
            omega
        have HB8 := Lib.hid (HB7.out.grown hg8 HB7.out.size (fun z hz => (HT7.out.lt z hz).1))
        clear ho8 hg8 hv8
        go_wp2_with fail
        go_roundg gk1
        case measure => omega
        case rel => exact ⟨k + 1, by omega, by go_num, Lib.hid ⟨HO8.out, HT8.out, HB8.out, HA.out, HN8.out⟩⟩
    · have hkn : k = rows.length := by omega
      subst hkn
      have HO : Hid (OwnU wr w.heap.size u4 (rows.map firstId)) := Lib.hid (by
        have := HM.out.1
        rw [List.take_length] at this
        exact this)
      have HE2 : Hid ((rows.all fun r => decide (0 < r.length)) = true) := Lib.hid (by
        have := HM.out.2.2.2.1
        rw [List.take_length] at this
        exact this)
      have hI : Calls Try.prog 22 #[u5] wr fun e w' => e = .returned (.bool (isB rows.flatten)) ∧ Below wr.heap.size wr w' := by
        have := HM.out.2.1
        rw [List.take_length] at this
        exact Is_any _ _ _ (this.ts HM.out.2.2.1)
      have HBr := Lib.hid HM.out.2.2.1
      have HPB : Hid (pagesB rows = (isB rows.flatten && decide ((rows.length : Int) ≤ 200))) := Lib.hid (by
        rw [pagesB, HE2.out, Bool.and_true, Bool.and_comm]
        congr 2
        apply propext
        omega)
      clear HM
      generalize isB rows.flatten = bb at hI HPB
      go_wp2_with fail
      refine hI.mono ?_
      rintro e w2 ⟨rfl, hb2⟩
      have HB2 := Lib.hid (HBr.out.trans (hb2.mono HBr.out.size))
      have HO2 := Lib.hid (HO.out.us.below hb2)
      clear hI hb2
      cases bb with
      | false =>
        have HP2 : Hid (pagesB rows = false) := Lib.hid (by rw [HPB.out, Bool.false_and])
        clear HPB
        go_wp2_with fail
        go_ret2
        rw [HP2.out]
        exact ⟨_, rfl, (fun h => by cases h), HB2.out⟩
      | true =>
        have HP2 : Hid (pagesB rows = decide ((rows.length : Int) ≤ 200)) := Lib.hid (by rw [HPB.out, Bool.true_and])
        clear HPB
        go_wp2_with fail
        go_ret2
        rw [HP2.out]
        exact ⟨_, rfl, fun _ => HO2.out, HB2.out⟩

/-- numbers that are the same are told so -/
theorem ids_same (va vb : Value) (l : List Nat) (w : World) (ha : Us w va l) (hb : Us w vb l) :
    Calls Try.prog 10 #[va, vb] w fun e w' => e = .returned (.bool true) ∧ Below w.heap.size w w' := by
  obtain ⟨A, c, rfl, hc1, hc2⟩ := ha.form
  obtain ⟨B, d, rfl, hd1, hd2⟩ := hb.form
  have HA := Lib.hid ha
  have HB := Lib.hid hb
  clear ha hb
  go_enter Try.func10, Try.ntmps10
  go_wp2_with fail
  go_loopg [5] l.length (fun gk iv wr => ∃ (k : Nat), k + gk = l.length ∧ iv = .int .i64 (k : Int) ∧ Hid (Below w.heap.size w wr))
  case atStart => exact ⟨0, by omega, rfl, Lib.hid (Below.refl _ _)⟩
  case round =>
    obtain ⟨k, hk, rfl, HM⟩ := hrel
    by_cases hkl : k < l.length
    · obtain ⟨gk1, hgk1⟩ : ∃ x, gk = x + 1 := ⟨gk - 1, by omega⟩
      obtain ⟨x, hx⟩ : ∃ x, l[k]? = some x := ⟨_, List.getElem?_eq_getElem hkl⟩
      obtain ⟨q, o, rfl, hq, hcx⟩ := (HA.out.below HM.out).cell hx
      obtain ⟨q', o', rfl, hq', hcy⟩ := (HB.out.below HM.out).cell hx
      have a0 : (0 : Int) ≤ (k : Int) := by omega
      have a1 : (k : Int) < (l.length : Int) := by omega
      clear hx
      go_wp2_with fail
      go_quiet (fail)
      go_wp2_with fail
      go_roundg gk1
      case measure => omega
      case rel => exact ⟨k + 1, by omega, by go_num, Lib.hid (below_drewN HM.out _)⟩
    · go_wp2_with fail
      go_ret
      exact ⟨rfl, HM.out⟩

theorem fewT_len {r : List Tn} (h : fewT r 100 = true) : r.length ≤ 100 := by
  simp only [fewT, Bool.and_eq_true, decide_eq_true_iff] at h
  omega
/-- are pages few, and small? -/
def smallP (rows : List (List Tn)) : Bool := rows.all (fun r => fewT r 100) && (decide ((rows.length : Int) ≤ 300) && decide ((rows.flatten.length : Int) ≤ 300))

set_option maxHeartbeats 1600000 in
theorem smallP_any (v : Value) (rows : List (List Tn)) (w : World) (h : Sls TsV w v rows) (hl : ∀ r ∈ rows, r.length ≤ 140737488355328) (hrl : rows.length ≤ 140737488355328) :
    Calls Try.prog 7 #[v] w fun e w' => e = .returned (.bool (smallP rows)) ∧ w = w' := by
  have H := Lib.hid h
  have HL := Lib.hid hl
  obtain ⟨A, c, rfl, hc1, hc2⟩ := h.form
  clear h hl
  go_enter Try.func7, Try.ntmps7
  go_wp2_with fail
  go_loopg [3, 4] rows.length (fun gk nv iv wr => ∃ (k n : Nat), k + gk = rows.length ∧ iv = .int .i64 (k : Int) ∧ nv = .int .i64 (n : Int) ∧ n ≤ 100 * k ∧ w = wr ∧ Hid ((rows.take k).all (fun r => fewT r 100) = true ∧ n = (rows.take k).flatten.length))
  case atStart => exact ⟨0, 0, by omega, rfl, rfl, by omega, rfl, Lib.hid ⟨rfl, rfl⟩⟩
  case round =>
    obtain ⟨k, n, hk, rfl, rfl, hnk, rfl, HM⟩ := hrel
    by_cases hkl : k < rows.length
    · obtain ⟨gk1, hgk1⟩ : ∃ x, gk = x + 1 := ⟨gk - 1, by omega⟩
      obtain ⟨r, hr⟩ : ∃ r, rows[k]? = some r := ⟨_, List.getElem?_eq_getElem hkl⟩
      obtain ⟨q, o, d, rfl, hq, hcx, hd⟩ := H.out.cell hr
      have hcall := FewTraces_any d r 100 w hd (HL.out r (List.mem_of_getElem? hr))
      obtain ⟨Ad, cd, rfl, _, _⟩ := Ts.form hd
      have HR := Lib.hid hr
      have HFl := Lib.hid (flat_take_at hr).1
      have a0 : (0 : Int) ≤ (k : Int) := by omega
      have a1 : (k : Int) < (rows.length : Int) := by omega
      clear hr hd
      cases hfe : fewT r 100 with
      | false =>
        rw [hfe] at hcall
        have hE : Hid (smallP rows = false) := Lib.hid (by
          have : rows.all (fun r => fewT r 100) = false := by
            rw [List.all_eq_false]
            exact ⟨r, List.mem_of_getElem? HR.out, by rw [hfe]; simp⟩
          rw [smallP, this]
          rfl)
        clear hfe
        go_wp2_with fail
        refine hcall.mono ?_
        rintro e w2 ⟨rfl, rfl⟩
        go_wp2_with fail
        go_ret
        exact ⟨ret_bool hE.out.symm, rfl⟩
      | true =>
        rw [hfe] at hcall
        have hrl100 : r.length ≤ 100 := (fewT_len hfe)
        have HF2 : Hid ((rows.take (k + 1)).all (fun r => fewT r 100) = true) := Lib.hid (by
          rw [take_snoc_at HR.out, List.all_append, HM.out.1, List.all_cons, hfe]
          rfl)
        have HN2 : Hid (n + r.length = (rows.take (k + 1)).flatten.length) := Lib.hid (by rw [HFl.out, List.length_append, HM.out.2])
        clear hfe
        go_wp2_with fail
        refine hcall.mono ?_
        rintro e w2 ⟨rfl, rfl⟩
        go_wp2_with fail
        go_roundg gk1
        case measure => omega
        case rel => exact ⟨k + 1, n + r.length, by omega, by go_num, by go_num, by omega, rfl, Lib.hid ⟨HF2.out, HN2.out⟩⟩
    · have hkn : k = rows.length := by omega
      subst hkn
      have hE : Hid (smallP rows = (decide ((rows.length : Int) ≤ 300) && decide ((n : Int) ≤ 300))) := Lib.hid (by
        obtain ⟨h1, h2⟩ := HM.out
        rw [List.take_length] at h1 h2
        rw [smallP, h1, Bool.true_and, h2])
      clear HM
      by_cases h300 : (rows.length : Int) ≤ 300
      · have hE2 : Hid (smallP rows = decide ((n : Int) ≤ 300)) := Lib.hid (by rw [hE.out, decide_eq_true h300, Bool.true_and])
        go_wp2_with fail
        go_ret
        exact ⟨ret_bool hE2.out.symm, rfl⟩
      · have hE2 : Hid (smallP rows = false) := Lib.hid (by rw [hE.out, decide_eq_false h300, Bool.false_and])
        go_wp2_with fail
        go_ret
        exact ⟨ret_bool hE2.out.symm, rfl⟩

theorem Us.lit2 (w : World) (e : TypeId) : Us (w.alloc (.cells #[.int .u64 3, .int .u64 7] e)) (.slice (some ⟨w.heap.size, 0, none⟩) 2 2) [3, 7] :=
  ⟨_, 2, rfl, Nat.le_refl _, by omega, (fun x hx => by
    obtain ⟨z, _, rfl⟩ := List.mem_map.1 hx
    rfl), by simpa [uC] using Rd.lit w #[.int .u64 3, .int .u64 7] e⟩
theorem isAt_ex1 : IsAt [3, 7] 5 0 := by
  refine ⟨by omega, by decide, fun i x h e => ?_, fun i x h e => ?_⟩
  · match i, h with
    | 0, h =>
      simp at h
      omega
    | i + 1, h => omega
  · match i, h with
    | 0, h => omega
    | 1, h =>
      simp at h
      omega
    | i + 2, h => simp at h
theorem isAt_ex2 : IsAt [3, 7] 2 (-1) := by
  refine ⟨by omega, by decide, fun i x h e => by omega, fun i x h e => ?_⟩
  match i, h with
  | 0, h =>
    simp at h
    omega
  | 1, h =>
    simp at h
    omega
  | i + 2, h => simp at h

theorem up12_any (w : World) : Calls Try.prog 6 #[] w fun e w' => e = .returned (.bool true) ∧ Below w.heap.size w w' := by
  have eqc := eqCode
  go_enter Try.func6, Try.ntmps6
  go_wp2_with fail
  have hb0 : Below w.heap.size w ((w.alloc (.cells #[] 50)).alloc (.cells #[.slice (some ⟨w.heap.size, 0, none⟩) 0 0] 47)) := ((Below.refl _ _).alloc (Nat.le_refl _) _).alloc (by simp) _
  have hts : TsV ((w.alloc (.cells #[] 50)).alloc (.cells #[.slice (some ⟨w.heap.size, 0, none⟩) 0 0] 47)) ([] : List Tn) (.slice (some ⟨w.heap.size, 0, none⟩) 0 0) := ⟨[], ⟨_, 0, rfl, Nat.le_refl _, by omega, (fun x hx => by cases hx), Rd.zero _ _⟩, Two.nil⟩
  have hsl : Sls TsV ((w.alloc (.cells #[] 50)).alloc (.cells #[.slice (some ⟨w.heap.size, 0, none⟩) 0 0] 47)) (.slice (some ⟨w.heap.size + 1, 0, none⟩) 1 1) [[]] :=
    ⟨[[.slice (some ⟨w.heap.size, 0, none⟩) 0 0]], by simpa using Lv.lit1 (w := w.alloc (.cells #[] 50)) [.slice (some ⟨w.heap.size, 0, none⟩) 0 0] 47, Two.nil.snoc (l := []) (m := []) ⟨_, rfl, hts⟩⟩
  have hP : pagesB [[]] = false := by simp [pagesB]
  refine (iof_any _ [[]] _ hsl (by simp)).mono ?_
  rintro e w1 ⟨h | ⟨h, _⟩, hb1⟩
  · obtain ⟨_, rfl⟩ := h
    have HB1 := Lib.hid (hb0.trans (hb1.mono hb0.size))
    clear hb0 hts hsl hP hb1
    go_wp2_with fail
    refine (ifind_any _ [3, 7] 5 _ (Us.lit2 w1 _)).mono ?_
    rintro e w2 ⟨k, rfl, hk, rfl⟩
    obtain rfl := hk.one isAt_ex1
    have HB2 : Hid (Below w.heap.size w (w1.alloc (.cells #[.int .u64 3, .int .u64 7] 23))) := Lib.hid (HB1.out.alloc HB1.out.size _)
    revert HB2
    generalize w1.alloc (.cells #[.int .u64 3, .int .u64 7] 23) = w2
    intro HB2
    clear hk HB1
    go_wp2_with fail
    refine (ifind_any _ [3, 7] 2 _ (Us.lit2 w2 _)).mono ?_
    rintro e w3 ⟨k, rfl, hk, rfl⟩
    obtain rfl := hk.one isAt_ex2
    have HB3 : Hid (Below w.heap.size w (w2.alloc (.cells #[.int .u64 3, .int .u64 7] 23))) := Lib.hid (HB2.out.alloc HB2.out.size _)
    clear hk HB2
    go_wp2_with fail
    go_ret
    exact ⟨rfl, HB3.out⟩
  · rw [hP] at h
    cases h
end Go.Proofs.Ytnlflgannghfpaa
