/-
  CONTRACTS of slices.Grow and slices.Concat at traces, index.Of, the document's Of. Conditions: what each says.
  CONTRACTS of the document's Of, of the law's ids and small; the head of layer 12's statements. Conditions: what each says.
  Why a trace that is in a page is in the one that is found, of plain lists; tankardlaw12.IndexFinds, walked. Conditions: what each says.
-/
import Derived.Test.YtfccfnbmmgfgcaaGreatDoorIxA
import Derived.Test.YtfccfnbmmgfgcaaGreatDoorTrK
import Derived.Test.YtfccfnbmmgfgcaaGreatDoorTrF
import Derived.Lib.AppendZerosOnto
import Derived.Lib.AppendZeros
import Derived.Test.YtfccfnbmmgfgcaaGreatDoorMore
namespace Go.Proofs.YtfccfnbmmgfgcaaGreatDoor
open Go.RowKit
set_option maxRecDepth 100000

theorem OwnT.nil12 (w0 w : World) (base : Nat) : OwnT w0 w base (.slice none 0 0) [] := ⟨[], OwnL.nil _ _ _ _, Two.nil⟩

theorem growT_any (n : Nat) (w : World) (hn : n ≤ 1000000000) :
    Calls Tryz.prog 175 #[.slice none 0 0, .int .i64 (n : Int)] w fun e w' => ∃ v', e = .returned v' ∧ OwnT w w' w.heap.size v' [] ∧ Below w.heap.size w w' := by
  by_cases h0 : n = 0
  · subst h0
    go_enter Tryz.func175, Tryz.ntmps175
    go_wp2_with fail
    go_ret
    exact ⟨_, rfl, OwnT.nil12 _ _ _, Below.refl _ _⟩
  · obtain ⟨i, z, hi, hz, hs, hby, hzs⟩ := trT.info
    have hneg : ¬ ((n : Int) < 0) := by omega
    have hpos : (n : Int) > 0 := by omega
    have hG1 : n ≤ grownCap w n 0 43 := grownCap_ge w _ _ _
    have hG2 := grownCap_le_maxLen w n 0 43 (by unfold maxLen; omega)
    have hrz : ∀ ty, (Builtin.append_ #[23, 3] ty #[.slice none 0 0, .int .i64 (n : Int)]).run Tryz.prog w =
        .ok (.slice (some ⟨w.heap.size, 0, none⟩) n (grownCap w n 0 43)) (w.drew.alloc (.cells (#[] ++ Builtin.zeroCells z.cells n ++ Builtin.zeroCells z.cells (grownCap w n 0 43 - n)) 43)) := fun ty => by
      have h := Lib.run_append_grow_zeros (P := Tryz.prog) w 23 3 ty 43 i z .i64 .i64 trT.under Tryz.underlying3 hi hz none 0 0 [] (run_firstCells_none w.drew i.size 0 0 0) n (by omega) (by omega) (by omega) (by omega)
        (by rw [hby]; omega) (growslice_fits (by omega) (by rw [hby]; omega))
      simpa using h
    generalize grownCap w n 0 43 = G at hG1 hG2 hrz
    have hu1 := run_slice_upto trT trE (A := some ⟨w.heap.size, 0, none⟩) 0 (Nat.zero_le n) hG1
    have hu0 := run_slice_upto trT trE (A := none) (n := 0) (c := 0) 0 (Nat.le_refl _) (Nat.le_refl _)
    simp only [Int.natCast_zero] at hu0 hu1
    have hcz : (#[] ++ Builtin.zeroCells z.cells n ++ Builtin.zeroCells z.cells (G - n)).size = G * 2 := by
      simp [Builtin.zeroCells, hzs]
      omega
    generalize (#[] ++ Builtin.zeroCells z.cells n ++ Builtin.zeroCells z.cells (G - n)) = cs at hrz hcz
    have ho : OwnT w (w.drew.alloc (.cells cs 43)) w.heap.size (.slice (some ⟨w.heap.size, 0, none⟩) 0 G) [] :=
      ⟨[], ⟨World.ownsRow_made w.drew cs G (Nat.le_refl _) hG2 hcz, fun x hx => by cases hx⟩, Two.nil⟩
    have hb : Below w.heap.size w (w.drew.alloc (.cells cs 43)) := (Below.refl _ _).drew.alloc (Nat.le_refl _) _
    have HO := Lib.hid ho
    simp only [maxLen] at hG2
    clear ho hcz hi hz hs hby hzs
    go_enter Tryz.func175, Tryz.ntmps175
    go_wp2_with (at_builtin; refine Lib.wpList_append_run _ rfl _ _ _ _ rfl _ _ rfl rfl _ _ (hrz _) ?_)
    go_ret
    exact ⟨_, rfl, HO.out, hb⟩

theorem flat_take_at {α : Type} {L : List (List α)} {i : Nat} {r : List α} (hr : L[i]? = some r) : (L.take (i + 1)).flatten = (L.take i).flatten ++ r ∧ (L.take i).flatten.length + r.length ≤ L.flatten.length := by
  obtain ⟨hi, rfl⟩ := List.getElem?_eq_some_iff.1 hr
  have h1 : (L.take (i + 1)).flatten = (L.take i).flatten ++ L[i] := by rw [List.take_succ_eq_append_getElem hi, List.flatten_append, List.flatten_cons, List.flatten_nil, List.append_nil]
  refine ⟨h1, ?_⟩
  conv => rhs; rw [← List.take_append_drop (i + 1) L, List.flatten_append, List.length_append, h1, List.length_append]
  omega

set_option maxHeartbeats 1600000 in
theorem concatT_any (v : Value) (rows : List (List Tn)) (w : World) (h : Sls TsV w v rows) (hl : rows.flatten.length ≤ 100000000) :
    Calls Tryz.prog 157 #[v] w fun e w' => ∃ v', e = .returned v' ∧ OwnT w w' w.heap.size v' rows.flatten ∧ Below w.heap.size w w' := by
  obtain ⟨A, c, rfl, hc1, hc2⟩ := h.form
  have H := Lib.hid h
  have HL := Lib.hid hl
  clear h hl
  go_enter Tryz.func157, Tryz.ntmps157
  go_wp2_with fail
  go_loopg [3, 11] rows.length (fun gk sv iv wr => ∃ (k : Nat), k + gk = rows.length ∧ iv = .int .i64 (k : Int) ∧ sv = .int .i64 (((rows.take k).flatten.length : Nat) : Int) ∧ w = wr)
  case atStart => exact ⟨0, by omega, rfl, rfl, rfl⟩
  case round =>
    obtain ⟨k, hk, rfl, rfl, rfl⟩ := hrel
    by_cases hkl : k < rows.length
    · obtain ⟨gk1, hgk1⟩ : ∃ x, gk = x + 1 := ⟨gk - 1, by omega⟩
      obtain ⟨r, hr⟩ : ∃ r, rows[k]? = some r := ⟨_, List.getElem?_eq_getElem hkl⟩
      obtain ⟨q, o, d, rfl, hq, hcx, hd⟩ := H.out.cell hr
      obtain ⟨Ad, cd, rfl, _, _⟩ := Ts.form hd
      obtain ⟨h1, h2⟩ := flat_take_at hr
      have HE : Hid ((rows.take (k + 1)).flatten.length = (rows.take k).flatten.length + r.length) := Lib.hid (by rw [h1, List.length_append])
      have hb : (rows.take k).flatten.length + r.length ≤ 100000000 := Nat.le_trans h2 HL.out
      have a0 : (0 : Int) ≤ (k : Int) := by omega
      have a1 : (k : Int) < (rows.length : Int) := by omega
      clear hr h1 h2 hd
      generalize (rows.take k).flatten.length = s at *
      have hneg : ¬ (s : Int) + (r.length : Int) < 0 := by omega
      go_wp2_with fail
      go_roundg gk1
      case measure => omega
      case rel => exact ⟨k + 1, by omega, by go_num, by rw [HE.out]; go_num, rfl⟩
    · have hkn : k = rows.length := by omega
      subst hkn
      rw [List.take_length]
      have hb := HL.out
      obtain ⟨n, hn⟩ : ∃ n, n = rows.flatten.length := ⟨_, rfl⟩
      rw [← hn] at hb ⊢
      have HN := Lib.hid hn
      clear hn
      go_wp2_with fail
      refine (growT_any n _ (by omega)).mono ?_
      rintro e w1 ⟨v1, rfl, ho1, hb1⟩
      have HO1 := Lib.hid ho1
      have HB1 := Lib.hid hb1
      clear ho1 hb1
      go_wp2_with fail
      go_loopg [6, 27] rows.length (fun gk nv iv wr => ∃ (k : Nat), k + gk = rows.length ∧ iv = .int .i64 (k : Int) ∧ Hid (OwnT w wr w.heap.size nv (rows.take k).flatten ∧ Below w.heap.size w wr))
      case atStart => exact ⟨0, by omega, rfl, Lib.hid ⟨HO1.out, HB1.out⟩⟩
      case round =>
        obtain ⟨k, hk, rfl, HM⟩ := hrel
        by_cases hkl : k < rows.length
        · obtain ⟨gk1, hgk1⟩ : ∃ x, gk = x + 1 := ⟨gk - 1, by omega⟩
          obtain ⟨r, hr⟩ : ∃ r, rows[k]? = some r := ⟨_, List.getElem?_eq_getElem hkl⟩
          obtain ⟨q, o, d, rfl, hq, hcx, hd⟩ := H.out.cell hr
          obtain ⟨Ad, cd, rfl, _, _⟩ := Ts.form hd
          obtain ⟨ys, hlv, hys⟩ := hd
          have hcy := (HM.out.2.cell (p := ⟨q, o + k, none⟩) hq).trans hcx
          obtain ⟨h1, h2⟩ := flat_take_at hr
          have HLV := Lib.hid (hlv.below HM.out.2)
          have HYS := Lib.hid hys
          have HF := Lib.hid h1
          have HLe : Hid ((rows.take k).flatten.length + r.length ≤ 1000000000) := Lib.hid (Nat.le_trans h2 (Nat.le_trans HL.out (by omega)))
          have a0 : (0 : Int) ≤ (k : Int) := by omega
          have a1 : (k : Int) < (rows.length : Int) := by omega
          clear hr h1 h2 hlv hys hcx
          go_wp2_with (at_builtin; refine wpList_append_ownT _ rfl _ _ rfl rfl HM.out.1 rfl HLV.out HYS.out HLe.out HM.out.2.size ?_)
          intro v5 w5 ho5 hg5
          have HO5 : Hid (OwnT w w5 w.heap.size v5 (rows.take (k + 1)).flatten) := Lib.hid (by rw [HF.out]; exact ho5)
          have HB5 := Lib.hid (HM.out.2.grown hg5 HM.out.2.size (fun q hq => (HM.out.1.lt q hq).1))
          clear ho5 hg5
          go_wp2_with fail
          go_roundg gk1
          case measure => omega
          case rel => exact ⟨k + 1, by omega, by go_num, Lib.hid ⟨HO5.out, HB5.out⟩⟩
        · have hkn : k = rows.length := by omega
          subst hkn
          have HE : Hid (OwnT w wr w.heap.size u6 rows.flatten) := Lib.hid (by
            have := HM.out.1
            rw [List.take_length] at this
            exact this)
          have HBr := Lib.hid HM.out.2
          clear HM
          go_wp2_with fail
          go_ret
          exact ⟨_, rfl, HE.out, HBr.out⟩

def firstId : List Tn → Nat
  | [] => 0
  | t :: _ => t.id.toNat
noncomputable def pagesB (rows : List (List Tn)) : Bool := decide (rows.length ≤ 200) && (isB rows.flatten && rows.all fun r => decide (0 < r.length))

set_option maxHeartbeats 1600000 in
theorem iof_any (v : Value) (rows : List (List Tn)) (w : World) (h : Sls TsV w v rows) (hl : rows.flatten.length ≤ 100000000) :
    Calls Tryz.prog 130 #[v] w fun e w' => ((pagesB rows = false ∧ e = .returned (.tuple #[.slice none 0 0, code 1])) ∨ (pagesB rows = true ∧ ∃ y, e = .returned (.tuple #[y, .nilIface]) ∧ Us w' y (rows.map firstId))) ∧ Below w.heap.size w w' := by
  obtain ⟨A, c, rfl, hc1, hc2⟩ := h.form
  have H := Lib.hid h
  have HL := Lib.hid hl
  clear h hl
  by_cases hbig : 200 < rows.length
  · have HE : Hid (pagesB rows = false) := Lib.hid (by rw [pagesB, decide_eq_false (by omega), Bool.false_and])
    go_enter Tryz.func130, Tryz.ntmps130
    go_wp2_with fail
    go_ret2
    exact ⟨.inl ⟨HE.out, rfl⟩, Below.refl _ _⟩
  · go_enter Tryz.func130, Tryz.ntmps130
    go_wp2_with fail
    refine (concatT_any _ rows w H.out HL.out).mono ?_
    rintro e w1 ⟨v1, rfl, ho1, hb1⟩
    have hI := is_any v1 rows.flatten w1 (ho1.ts hb1)
    have HB1 := Lib.hid hb1
    clear ho1 hb1
    cases hB : isB rows.flatten with
    | false =>
      have HE : Hid (pagesB rows = false) := Lib.hid (by rw [pagesB, hB, Bool.false_and, Bool.and_false])
      rw [hB] at hI
      clear hB
      go_wp2_with fail
      refine hI.mono ?_
      rintro e w2 ⟨rfl, hb2⟩
      have HB2 := Lib.hid (HB1.out.trans (hb2.mono HB1.out.size))
      clear hI hb2
      go_wp2_with fail
      go_ret2
      exact ⟨.inl ⟨HE.out, rfl⟩, HB2.out⟩
    | true =>
      have HE : Hid (pagesB rows = rows.all fun r => decide (0 < r.length)) := Lib.hid (by rw [pagesB, hB, decide_eq_true (by omega), Bool.true_and, Bool.true_and])
      rw [hB] at hI
      clear hB
      go_wp2_with fail
      refine hI.mono ?_
      rintro e w2 ⟨rfl, hb2⟩
      have HB2 := Lib.hid (HB1.out.trans (hb2.mono HB1.out.size))
      clear hI hb2
      go_wp2_with fail
      go_loopg [4, 19] rows.length (fun gk lv iv wr => ∃ (k : Nat), k + gk = rows.length ∧ iv = .int .i64 (k : Int) ∧ Hid (OwnU wr w.heap.size lv ((rows.take k).map firstId) ∧ Below w.heap.size w wr ∧ (rows.take k).all (fun r => decide (0 < r.length)) = true))
      case atStart => exact ⟨0, by omega, rfl, Lib.hid ⟨OwnU.nil _ _, HB2.out, rfl⟩⟩
      case round =>
        obtain ⟨k, hk, rfl, HM⟩ := hrel
        by_cases hkl : k < rows.length
        · obtain ⟨gk1, hgk1⟩ : ∃ x, gk = x + 1 := ⟨gk - 1, by omega⟩
          obtain ⟨r, hr⟩ : ∃ r, rows[k]? = some r := ⟨_, List.getElem?_eq_getElem hkl⟩
          obtain ⟨q, o, d, rfl, hq, hcx, hd⟩ := H.out.cell hr
          obtain ⟨Ad, cd, rfl, _, _⟩ := Ts.form hd
          have hcy := (HM.out.2.1.cell (p := ⟨q, o + k, none⟩) hq).trans hcx
          have HT := Lib.hid (take_snoc_at hr)
          have a0 : (0 : Int) ≤ (k : Int) := by omega
          have a1 : (k : Int) < (rows.length : Int) := by omega
          have HR := Lib.hid hr
          have HMl : Hid (((rows.take k).map firstId).length ≤ 1000) := Lib.hid (by rw [List.length_map, List.length_take]; omega)
          clear hr hcx
          cases r with
          | nil =>
            have HE2 : Hid (pagesB rows = false) := Lib.hid (by
              rw [HE.out, List.all_eq_false]
              exact ⟨[], List.mem_of_getElem? HR.out, by simp⟩)
            clear hd
            go_wp2_with fail
            go_ret2
            exact ⟨.inl ⟨HE2.out, rfl⟩, HM.out.2.1⟩
          | cons t r =>
            obtain ⟨g, oo, dd, rfl, hg, c0, _, _, ht0, ht1⟩ := hd.cells (i := 0) (t := t) rfl
            have c0' := (HM.out.2.1.cell (p := ⟨g, oo + 0 * 2, none⟩) hg).trans c0
            obtain ⟨x, hx⟩ := nat_of ht0
            have HF : Hid (firstId (t :: r) = x) := Lib.hid (by rw [firstId, hx]; rfl)
            rw [hx] at c0'
            have HA : Hid ((rows.take (k + 1)).all (fun r => decide (0 < r.length)) = true) := Lib.hid (by
              rw [HT.out, List.all_append, HM.out.2.2]
              rfl)
            have c0'' : wr.cell? ⟨g, oo, none⟩ = some (.int .u64 (x : Int)) := by simpa using c0'
            clear hd c0 c0' hx ht0 ht1
            have hpos : ((r.length + 1 : Nat) : Int) ≠ 0 := by omega
            obtain ⟨n, hn⟩ : ∃ n, n = (t :: r).length := ⟨_, rfl⟩
            have hn0 : 0 < n := by rw [hn, List.length_cons]; omega
            rw [← hn] at hcy
            clear hpos hn
            have hnz : ((n : Int) == 0) = false := by
              rw [beq_eq_false_iff_ne]
              omega
            have H6 : Hid (Below wr.heap.size wr (wr.alloc (.cells #[.int .u64 (x : Int)] 22))) := Lib.hid ((Below.refl _ _).alloc (Nat.le_refl _) _)
            have HL6 : Hid (((rows.take k).map firstId).length + [x].length ≤ 1000000000000) := Lib.hid (by have := HMl.out; simp only [List.length_cons, List.length_nil]; omega)
            go_wp2_with (at_builtin; refine wpList_append_u rfl _ _ rfl rfl (HM.out.1.below H6.out) rfl (Us.lit wr x _) HL6.out (Nat.le_trans HM.out.2.1.size H6.out.size) ?_)
            intro v7 w7 ho7 hg7 _
            have HO7 : Hid (OwnU w7 w.heap.size v7 ((rows.take (k + 1)).map firstId)) := Lib.hid (by
              rw [HT.out, List.map_append, List.map_cons, HF.out]
              simpa [List.map_take] using ho7)
            have HB6 := Lib.hid (HM.out.2.1.trans (H6.out.mono HM.out.2.1.size))
            have HB7 := Lib.hid (HB6.out.grown hg7 HB6.out.size (fun z hz => (HM.out.1.lt z hz).1))
            clear ho7 hg7
            go_wp2_with fail
            go_roundg gk1
            case measure => omega
            case rel => exact ⟨k + 1, by omega, by go_num, Lib.hid ⟨HO7.out, HB7.out, HA.out⟩⟩
        · have hkn : k = rows.length := by omega
          subst hkn
          have HO : Hid (OwnU wr w.heap.size u4 (rows.map firstId)) := Lib.hid (by
            have := HM.out.1
            rw [List.take_length] at this
            exact this)
          have HE2 : Hid (pagesB rows = true) := Lib.hid (by
            have := HM.out.2.2
            rw [List.take_length] at this
            rw [HE.out, this])
          have HBr := Lib.hid HM.out.2.1
          clear HM
          go_wp2_with fail
          go_ret2
          exact ⟨.inr ⟨HE2.out, _, rfl, HO.out.us⟩, HBr.out⟩

theorem wpList_append_T {w0 w : World} {base : Nat} {v : Value} {l m : List Tn} {ops : Array Oper} {rest : List Oper} {o : Oper} {a : Act} {Q : Exit → Act → World → Prop} (hgd : o.guard = none) (sx x : Operand)
    (ho : o.op = .call { callee := .builtin .append, args := #[sx, x], argTypes := #[23, 23] })
    (hs : a.eval sx = v) (h : OwnT w0 w base v l) {V : Value} {ys : List (List Value)} (hx : a.eval x = V) (hV : Lv 2 w V ys) (hys : Two (TnC w0) m ys) (hl : l.length + m.length ≤ 1000000000) (hbase : base ≤ w.heap.size)
    (hK : ∀ v' w', OwnT w0 w' base v' (l ++ m) → w.grownBy w' v.ownBlock → (v'.ownBlock = v.ownBlock ∨ v'.ownBlock = some w.heap.size) → wpList Tryz.prog ops Q rest (a.put o.dst v') w') : wpList Tryz.prog ops Q (o :: rest) a w := by
  obtain ⟨xs, h1, h2⟩ := h
  have e1 := h2.len
  have e2 := hys.len
  refine wpList_append_elems _ trT hgd sx x ho base v xs hs h1 V ys hx hV (fun y hy => by
    obtain ⟨a, _, ha⟩ := hys.right_mem hy
    exact ha.one) (by simp only [maxLen]; omega) (by omega) hbase fun v' w' k1 k2 k3 => hK v' w' ⟨xs ++ ys, k1, h2.append hys⟩ k2 k3
theorem OwnT.kept12 {w0 w w' : World} {base : Nat} {v : Value} {l : List Tn} {row : Option Nat} (h : OwnT w0 w base v l) (hg : w.grownBy w' row) (hne : v.ownBlock = none ∨ v.ownBlock ≠ row) : OwnT w0 w' base v l := by
  obtain ⟨xs, h1, h2⟩ := h
  exact ⟨xs, OwnL.kept h1 hg hne, h2⟩

set_option maxHeartbeats 3200000 in
theorem DOf_any (v : Value) (rows : List (List Tn)) (w : World) (h : Sls TsV w v rows) (hl : rows.flatten.length ≤ 100000000) (hrl : rows.length ≤ 100000000) :
    Calls Tryz.prog 72 #[v] w fun e w' => ∃ y, e = .returned (.tuple #[y, .bool (pagesB rows)]) ∧ (pagesB rows = true → Us w' y (rows.map firstId)) ∧ Below w.heap.size w w' := by
  obtain ⟨A, c, rfl, hc1, hc2⟩ := h.form
  have H := Lib.hid h
  have HL := Lib.hid hl
  clear h hl
  go_enter Tryz.func72, Tryz.ntmps72
  go_wp2_with fail
  go_loopg [4, 5, 6] rows.length (fun gk lv tv iv wr => ∃ (k : Nat), k + gk = rows.length ∧ iv = .int .i64 (k : Int) ∧ Hid (OwnU wr w.heap.size lv ((rows.take k).map firstId) ∧ OwnT w wr w.heap.size tv (rows.take k).flatten ∧ Below w.heap.size w wr ∧ (rows.take k).all (fun r => decide (0 < r.length)) = true ∧ ∀ z, lv.ownBlock = some z → tv.ownBlock ≠ some z))
  case atStart => exact ⟨0, by omega, rfl, Lib.hid ⟨OwnU.nil _ _, OwnT.nil12 _ _ _, Below.refl _ _, rfl, fun z hz => by cases hz⟩⟩
  case round =>
    obtain ⟨k, hk, rfl, HM⟩ := hrel
    by_cases hkl : k < rows.length
    · obtain ⟨gk1, hgk1⟩ : ∃ x, gk = x + 1 := ⟨gk - 1, by omega⟩
      obtain ⟨r, hr⟩ : ∃ r, rows[k]? = some r := ⟨_, List.getElem?_eq_getElem hkl⟩
      obtain ⟨q, o, d, rfl, hq, hcx, hd⟩ := H.out.cell hr
      obtain ⟨Ad, cd, rfl, _, _⟩ := Ts.form hd
      have hcy := (HM.out.2.2.1.cell (p := ⟨q, o + k, none⟩) hq).trans hcx
      have HT := Lib.hid (take_snoc_at hr)
      have a0 : (0 : Int) ≤ (k : Int) := by omega
      have a1 : (k : Int) < (rows.length : Int) := by omega
      have HR := Lib.hid hr
      have HMl : Hid (((rows.take k).map firstId).length ≤ 100000000) := Lib.hid (by rw [List.length_map, List.length_take]; omega)
      have HFl := Lib.hid (flat_take_at hr)
      have HCX := Lib.hid hcx
      clear hr hcx
      cases r with
      | nil =>
        have HE2 : Hid (pagesB rows = false) := Lib.hid (by
          have : (rows.all fun r => decide (0 < r.length)) = false := by
            rw [List.all_eq_false]
            exact ⟨[], List.mem_of_getElem? HR.out, by simp⟩
          rw [pagesB, this, Bool.and_false, Bool.and_false])
        clear hd
        go_wp2_with fail
        go_ret2
        rw [HE2.out]
        exact ⟨_, rfl, (fun h => by cases h), HM.out.2.2.1⟩
      | cons t r =>
        obtain ⟨g, oo, dd, rfl, hg, c0, _, _, ht0, ht1⟩ := hd.cells (i := 0) (t := t) rfl
        have c0' := (HM.out.2.2.1.cell (p := ⟨g, oo + 0 * 2, none⟩) hg).trans c0
        obtain ⟨ys, hlv, hys⟩ := hd
        obtain ⟨x, hx⟩ := nat_of ht0
        have HF : Hid (firstId (t :: r) = x) := Lib.hid (by rw [firstId, hx]; rfl)
        rw [hx] at c0'
        have HA : Hid ((rows.take (k + 1)).all (fun r => decide (0 < r.length)) = true) := Lib.hid (by
          rw [HT.out, List.all_append, HM.out.2.2.2.1]
          rfl)
        have c0'' : wr.cell? ⟨g, oo, none⟩ = some (.int .u64 (x : Int)) := by simpa using c0'
        clear c0 c0' hx ht0 ht1
        have HYS := Lib.hid hys
        have HLV := Lib.hid hlv
        have HTR : Hid ((rows.take k).flatten.length + (t :: r).length ≤ 1000000000) := Lib.hid (Nat.le_trans HFl.out.2 (Nat.le_trans HL.out (by omega)))
        clear hys hlv
        obtain ⟨n, hn⟩ : ∃ n, n = (t :: r).length := ⟨_, rfl⟩
        have hn0 : 0 < n := by rw [hn, List.length_cons]; omega
        rw [← hn] at hcy HCX HLV
        clear hn
        have hnz : ((n : Int) == 0) = false := by
          rw [beq_eq_false_iff_ne]
          omega
        have H6 : Hid (Below wr.heap.size wr (wr.alloc (.cells #[.int .u64 (x : Int)] 22))) := Lib.hid ((Below.refl _ _).alloc (Nat.le_refl _) _)
        have HL6 : Hid (((rows.take k).map firstId).length + [x].length ≤ 1000000000000) := Lib.hid (by have := HMl.out; simp only [List.length_cons, List.length_nil]; omega)
        go_wp2_with (at_builtin; refine wpList_append_u rfl _ _ rfl rfl (HM.out.1.below H6.out) rfl (Us.lit wr x _) HL6.out (Nat.le_trans HM.out.2.2.1.size H6.out.size) ?_)
        intro v7 w7 ho7 hg7 hv7
        have HO7 : Hid (OwnU w7 w.heap.size v7 ((rows.take (k + 1)).map firstId)) := Lib.hid (by
          rw [HT.out, List.map_append, List.map_cons, HF.out]
          simpa [List.map_take] using ho7)
        have HT7 : Hid (OwnT w w7 w.heap.size u5 (rows.take k).flatten) := Lib.hid ((HM.out.2.1.below H6.out).kept12 hg7 (by
          cases h4 : u5.ownBlock with
          | none => exact .inl rfl
          | some z => exact .inr fun e => HM.out.2.2.2.2 z e.symm h4))
        have HN7 : Hid (∀ z, v7.ownBlock = some z → u5.ownBlock ≠ some z) := Lib.hid fun z hz e => by
          rcases hv7 with h | h
          · rw [h] at hz
            exact HM.out.2.2.2.2 z hz e
          · rw [h] at hz
            injection hz with hz
            have := (HM.out.2.1.lt z e).2
            have := H6.out.size
            omega
        have HB6 := Lib.hid (HM.out.2.2.1.trans (H6.out.mono HM.out.2.2.1.size))
        have HB7 := Lib.hid (HB6.out.grown hg7 HB6.out.size (fun z hz => (HM.out.1.lt z hz).1))
        clear ho7 hg7 hv7 hcy c0''
        have c7 := (HB7.out.cell (p := ⟨q, o + k, none⟩) hq).trans HCX.out
        have HLV7 := Lib.hid (HLV.out.below HB7.out)
        go_wp2_with (at_builtin; refine wpList_append_T rfl _ _ rfl rfl HT7.out rfl HLV7.out HYS.out HTR.out HB7.out.size ?_)
        intro v8 w8 ho8 hg8 hv8
        have HT8 : Hid (OwnT w w8 w.heap.size v8 (rows.take (k + 1)).flatten) := Lib.hid (by rw [HFl.out.1]; exact ho8)
        have HO8 : Hid (OwnU w8 w.heap.size v7 ((rows.take (k + 1)).map firstId)) := Lib.hid (OwnL.kept HO7.out hg8 (by
          cases h4 : v7.ownBlock with
          | none => exact .inl rfl
          | some z => exact .inr fun e => HN7.out z h4 e.symm))
        have HN8 : Hid (∀ z, v7.ownBlock = some z → v8.ownBlock ≠ some z) := Lib.hid fun z hz e => by
          rcases hv8 with h | h
          · rw [h] at e
            exact HN7.out z hz e
          · rw [h] at e
            injection e with e
            have := (HO7.out.lt z hz).2
            omega
        have HB8 := Lib.hid (HB7.out.grown hg8 HB7.out.size (fun z hz => (HT7.out.lt z hz).1))
        clear ho8 hg8 hv8
        go_wp2_with fail
        go_roundg gk1
        case measure => omega
        case rel => exact ⟨k + 1, by omega, by go_num, Lib.hid ⟨HO8.out, HT8.out, HB8.out, HA.out, HN8.out⟩⟩
    · have hkn : k = rows.length := by omega
      subst hkn
      have HO : Hid (OwnU wr w.heap.size u4 (rows.map firstId)) := Lib.hid (by
        have := HM.out.1
        rw [List.take_length] at this
        exact this)
      have HE2 : Hid ((rows.all fun r => decide (0 < r.length)) = true) := Lib.hid (by
        have := HM.out.2.2.2.1
        rw [List.take_length] at this
        exact this)
      have hI : Calls Tryz.prog 66 #[u5] wr fun e w' => e = .returned (.bool (isB rows.flatten)) ∧ Below wr.heap.size wr w' := by
        have := HM.out.2.1
        rw [List.take_length] at this
        exact Is_any _ _ _ (this.ts HM.out.2.2.1)
      have HBr := Lib.hid HM.out.2.2.1
      have HPB : Hid (pagesB rows = (isB rows.flatten && decide ((rows.length : Int) ≤ 200))) := Lib.hid (by
        rw [pagesB, HE2.out, Bool.and_true, Bool.and_comm]
        congr 2
        apply propext
        omega)
      clear HM
      generalize isB rows.flatten = bb at hI HPB
      go_wp2_with fail
      refine hI.mono ?_
      rintro e w2 ⟨rfl, hb2⟩
      have HB2 := Lib.hid (HBr.out.trans (hb2.mono HBr.out.size))
      have HO2 := Lib.hid (HO.out.us.below hb2)
      clear hI hb2
      cases bb with
      | false =>
        have HP2 : Hid (pagesB rows = false) := Lib.hid (by rw [HPB.out, Bool.false_and])
        clear HPB
        go_wp2_with fail
        go_ret2
        rw [HP2.out]
        exact ⟨_, rfl, (fun h => by cases h), HB2.out⟩
      | true =>
        have HP2 : Hid (pagesB rows = decide ((rows.length : Int) ≤ 200)) := Lib.hid (by rw [HPB.out, Bool.true_and])
        clear HPB
        go_wp2_with fail
        go_ret2
        rw [HP2.out]
        exact ⟨_, rfl, fun _ => HO2.out, HB2.out⟩

theorem ids_pairwise : ∀ {l : List Tn}, (∀ (k : Nat) (t u : Tn), l[k]? = some t → l[k + 1]? = some u → t.id < u.id) → l.Pairwise fun a b => a.id < b.id
  | [], _ => List.Pairwise.nil
  | [t], _ => List.pairwise_singleton ..
  | t :: u :: l, h => by
    have ih := ids_pairwise (l := u :: l) fun k a b h1 h2 => h (k + 1) a b (by simpa using h1) (by simpa using h2)
    have h0 := h 0 t u rfl rfl
    refine List.Pairwise.cons (fun x hx => ?_) ih
    rcases List.mem_cons.1 hx with rfl | hx
    · exact h0
    · exact Int.lt_trans h0 ((List.pairwise_cons.1 ih).1 x hx)
structure Pgs (rows : List (List Tn)) : Prop where
  few : rows.length ≤ 200
  one : ∀ r ∈ rows, r.Pairwise fun a b => a.id < b.id
  two : rows.Pairwise fun p q => ∀ x ∈ p, ∀ y ∈ q, x.id < y.id
  some_ : ∀ r ∈ rows, 0 < r.length
theorem pagesB_pgs {rows : List (List Tn)} (h : pagesB rows = true) : Pgs rows := by
  rw [pagesB, Bool.and_eq_true, Bool.and_eq_true, decide_eq_true_eq, List.all_eq_true] at h
  obtain ⟨h1, h2, h3⟩ := h
  have hI : IsT rows.flatten := by
    rcases Classical.em (IsT rows.flatten) with h | h
    · exact h
    · rw [isB_false h] at h2
      cases h2
  have hp := ids_pairwise hI.up
  rw [List.pairwise_flatten] at hp
  exact ⟨h1, hp.1, hp.2, fun r hr => by simpa using h3 r hr⟩
theorem Pgs.first {rows : List (List Tn)} (h : Pgs rows) {i : Nat} {x : Nat} (hx : (rows.map firstId)[i]? = some x) : ∃ t r, rows[i]? = some (t :: r) ∧ x = t.id.toNat := by
  rw [List.getElem?_map] at hx
  cases hr : rows[i]? with
  | none =>
    rw [hr] at hx
    cases hx
  | some p =>
    rw [hr] at hx
    cases p with
    | nil =>
      have := h.some_ [] (List.mem_of_getElem? hr)
      simp at this
    | cons t r =>
      injection hx with hx
      exact ⟨t, r, rfl, hx.symm⟩
theorem Pgs.lt {rows : List (List Tn)} (h : Pgs rows) {i j : Nat} {p q : List Tn} (hi : rows[i]? = some p) (hj : rows[j]? = some q) (hij : i < j) {x y : Tn} (hx : x ∈ p) (hy : y ∈ q) : x.id < y.id := by
  obtain ⟨h1, rfl⟩ := List.getElem?_eq_some_iff.1 hi
  obtain ⟨h2, rfl⟩ := List.getElem?_eq_some_iff.1 hj
  exact (List.pairwise_iff_getElem.1 h.two) i j h1 h2 hij x hx y hy
theorem Pgs.ix {rows : List (List Tn)} (h : Pgs rows) (h0 : ∀ r ∈ rows, ∀ t ∈ r, 0 ≤ t.id) : ixB (rows.map firstId) = true := by
  rw [ixB, Bool.and_eq_true, decide_eq_true_eq, List.length_map]
  refine ⟨(risB_iff _).2 fun i a b ha hb => ?_, h.few⟩
  obtain ⟨t, r, ht, rfl⟩ := h.first ha
  obtain ⟨u, s, hu, rfl⟩ := h.first hb
  have h1 := h.lt ht hu (by omega) (List.mem_cons_self ..) (List.mem_cons_self ..)
  have h2 := h0 _ (List.mem_of_getElem? ht) t (List.mem_cons_self ..)
  omega
theorem Pgs.at_ {rows : List (List Tn)} (h : Pgs rows) (h0 : ∀ r ∈ rows, ∀ t ∈ r, 0 ≤ t.id) {i : Nat} {p : List Tn} {t : Tn} (hi : rows[i]? = some p) (ht : t ∈ p) : IsAt (rows.map firstId) t.id.toNat (i : Int) := by
  have hil := (List.getElem?_eq_some_iff.1 hi).1
  refine ⟨by omega, by rw [List.length_map]; omega, fun j x hj e => ?_, fun j x hj e => ?_⟩
  · have : j = i := by omega
    subst this
    obtain ⟨u, r, hu, rfl⟩ := h.first hj
    rw [hi] at hu
    injection hu with hu
    subst hu
    rcases List.mem_cons.1 ht with rfl | ht
    · exact Nat.le_refl _
    · have := (List.pairwise_cons.1 (h.one _ (List.mem_of_getElem? hi))).1 t ht
      omega
  · obtain ⟨u, r, hu, rfl⟩ := h.first hj
    have h1 := h.lt hi hu (by omega) ht (List.mem_cons_self ..)
    have h2 := h0 _ (List.mem_of_getElem? hi) t ht
    omega
theorem Pgs.bound {rows : List (List Tn)} (h1 : ∀ r ∈ rows, ∀ t ∈ r, t.id ≤ 18446744073709551615) : ∀ x ∈ rows.map firstId, x < 18446744073709551616 := by
  intro x hx
  obtain ⟨r, hr, rfl⟩ := List.mem_map.1 hx
  cases r with
  | nil => simp [firstId]
  | cons t r =>
    have := h1 _ hr t (List.mem_cons_self ..)
    rw [firstId]
    omega
theorem sls_ids {w : World} {v : Value} {rows : List (List Tn)} (h : Sls TsV w v rows) : ∀ r ∈ rows, ∀ t ∈ r, 0 ≤ t.id ∧ t.id ≤ 18446744073709551615 := by
  intro r hr t ht
  obtain ⟨A, c, rfl, _⟩ := h.form
  obtain ⟨i, hi⟩ := List.getElem?_of_mem hr
  obtain ⟨q, o, d, _, _, _, hd⟩ := h.cell hi
  obtain ⟨B, c', rfl, _⟩ := Ts.form hd
  obtain ⟨k, hk⟩ := List.getElem?_of_mem ht
  obtain ⟨_, _, _, _, _, _, _, _, h0, h1⟩ := Ts.cells hd hk
  exact ⟨h0, h1⟩

end Go.Proofs.YtfccfnbmmgfgcaaGreatDoor
