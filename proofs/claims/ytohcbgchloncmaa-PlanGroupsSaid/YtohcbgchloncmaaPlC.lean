/-
  The document's Group (layer 19). Conditions: what it says.
-/
import Derived.Test.YtohcbgchloncmaaPlB
import Derived.Test.YtohcbgchloncmaaMix
namespace Go.Proofs.Ytohcbgchloncmaa
open Go.RowKit
set_option maxRecDepth 100000

theorem filter_stop {α : Type} {l : List α} {p : α → Bool} {i m : Nat} (h : ((l.take i).filter p).length = m) : (l.filter p).take m = (l.take i).filter p := by
  have e : l.filter p = (l.take i).filter p ++ (l.drop i).filter p := by rw [← List.filter_append, List.take_append_drop]
  rw [e, List.take_append_of_le_length (by omega), List.take_of_length_le (by omega)]

theorem filter_next {α : Type} {l : List α} {p : α → Bool} {i : Nat} {x : α} (hx : l[i]? = some x) : (l.take (i + 1)).filter p = (l.take i).filter p ++ if p x = true then [x] else [] := by
  rw [List.take_add_one, hx]
  simp only [Option.toList_some, List.filter_append]
  congr 1
  by_cases h : p x = true <;> simp [h]

theorem winI_in {long : Int} {m : Me} (h : m.ok) (hl : 1 ≤ long) : -9223372036854775808 ≤ winI long m ∧ winI long m ≤ 9223372036854775807 := by
  have h0 := h.en0
  have h1 := h.en1
  unfold winI
  by_cases hs : 0 ≤ m.en
  · rw [Int.tdiv_eq_ediv_of_nonneg hs]
    have a := Int.ediv_nonneg hs (by omega : 0 ≤ long)
    have b := Int.ediv_le_self long hs
    omega
  · have e : m.en.tdiv long = -((-m.en).tdiv long) := by rw [Int.neg_tdiv]; omega
    have hn : 0 ≤ -m.en := by omega
    rw [e, Int.tdiv_eq_ediv_of_nonneg hn]
    have a := Int.ediv_nonneg hn (by omega : 0 ≤ long)
    have b := Int.ediv_le_self long hn
    omega

/-- best, as the document has it, behind i metas -/
def BestAt (l : List Me) (long : Int) (i : Nat) (b : Int) : Prop :=
  ((l.take i).foldl (bestStep l long) none = none ∧ b = -1) ∨ ∃ (j : Nat) (y : Me), (l.take i).foldl (bestStep l long) none = some y ∧ b = (j : Int) ∧ j < i ∧ l[j]? = some y

theorem best_next {l : List Me} {long : Int} {i : Nat} {x : Me} (hx : l[i]? = some x) : (l.take (i + 1)).foldl (bestStep l long) none = bestStep l long ((l.take i).foldl (bestStep l long) none) x := by
  rw [List.take_add_one, hx, Option.toList_some, List.foldl_append]
  rfl

theorem bestAt_skip {l : List Me} {long : Int} {i : Nat} {x : Me} {b : Int} (h : BestAt l long i b) (hx : l[i]? = some x) (he : eligB l long x = false) : BestAt l long (i + 1) b := by
  have e : (l.take (i + 1)).foldl (bestStep l long) none = (l.take i).foldl (bestStep l long) none := by rw [best_next hx]; simp [bestStep, he]
  rcases h with ⟨h1, h2⟩ | ⟨j, y, h1, h2, h3, h4⟩
  · exact .inl ⟨e.trans h1, h2⟩
  · exact .inr ⟨j, y, e.trans h1, h2, by omega, h4⟩

theorem bestAt_first {l : List Me} {long : Int} {i : Nat} {x : Me} (h : (l.take i).foldl (bestStep l long) none = none) (hx : l[i]? = some x) (he : eligB l long x = true) : BestAt l long (i + 1) (i : Int) :=
  .inr ⟨i, x, by rw [best_next hx, h]; simp [bestStep, he], rfl, by omega, hx⟩

theorem bestAt_less {l : List Me} {long : Int} {i : Nat} {x y : Me} (h : (l.take i).foldl (bestStep l long) none = some y) (hx : l[i]? = some x) (he : eligB l long x = true) (hl : grpLess long x y = true) : BestAt l long (i + 1) (i : Int) :=
  .inr ⟨i, x, by rw [best_next hx, h]; simp [bestStep, he, hl], rfl, by omega, hx⟩

theorem bestAt_stay {l : List Me} {long : Int} {i j : Nat} {x y : Me} (h : (l.take i).foldl (bestStep l long) none = some y) (hj : j < i) (hy : l[j]? = some y) (hx : l[i]? = some x) (he : eligB l long x = true) (hl : grpLess long x y = false) : BestAt l long (i + 1) (j : Int) :=
  .inr ⟨j, y, by rw [best_next hx, h]; simp [bestStep, he, hl], rfl, by omega, hy⟩

set_option maxHeartbeats 12800000 in
theorem DGroup_any (v : Value) (l : List Me) (long : Int) (most : Nat) (w : World) (h : Mes w v l) (hl1 : 1 ≤ long) (hl2 : long ≤ 1099511627776) (hm1 : 2 ≤ most) (hm2 : most ≤ 8) (hlen : l.length ≤ 1000000) :
    Calls Try.prog 8 #[v, .int .i64 long, .int .i64 (most : Int)] w fun e w' => ∃ v', e = .returned v' ∧ Mes w' v' (grpR l long most) ∧ Below w.heap.size w w' := by
  have SL := Lib.hid h
  have HOK := Lib.hid h.ok
  obtain ⟨A, c, rfl, hc1, hc2⟩ := h.form
  have hl0 : ¬ long = 0 := by omega
  clear h
  go_enter Try.func8, Try.ntmps8
  go_wp2_with fail
  go_loopg [7, 8] l.length (fun gk bv iv wr => ∃ (i : Nat) (b : Int), i + gk = l.length ∧ bv = .int .i64 b ∧ iv = .int .i64 (i : Int) ∧ Hid (Below w.heap.size w wr ∧ BestAt l long i b))
  case atStart => exact ⟨0, -1, by omega, rfl, rfl, Lib.hid ⟨Below.refl _ _, .inl ⟨rfl, rfl⟩⟩⟩
  case round =>
    obtain ⟨i, b, hi, rfl, rfl, HW⟩ := hrel
    revert HW
    generalize wr = w1
    intro HW
    by_cases hlt : i < l.length
    · obtain ⟨gk1, hgk1⟩ : ∃ x, gk = x + 1 := ⟨gk - 1, by omega⟩
      obtain ⟨x, hx⟩ : ∃ t, l[i]? = some t := ⟨_, List.getElem?_eq_getElem hlt⟩
      have HX := Lib.hid hx
      have hwx := winI_in (HOK.out x (List.mem_of_getElem? hx)) hl1
      obtain ⟨wx, hwxe⟩ : ∃ z, z = winI long x := ⟨_, rfl⟩
      rw [← hwxe] at hwx
      have HWX := Lib.hid hwxe
      have hwx0 := hwx.1
      have hwx1 := hwx.2
      have qx : x.en.tdiv long = wx := hwxe.symm
      have i0 : (0 : Int) ≤ (i : Int) := by omega
      have i1 : (i : Int) < (l.length : Int) := by omega
      clear hwx hwxe hx
      go_wp2_with fail
      go_loopg [9, 10] l.length (fun gj nv kv wr => ∃ (k : Nat), k + gj = l.length ∧ nv = .int .i64 (((l.take k).filter (mateB long x)).length : Int) ∧ kv = .int .i64 (k : Int) ∧ Hid (Below w1.heap.size w1 wr))
      case atStart => exact ⟨0, by omega, by simp, rfl, Lib.hid (Below.refl _ _)⟩
      case round =>
        obtain ⟨k, hk, rfl, rfl, HB⟩ := hrel
        obtain ⟨cn, hcn⟩ : ∃ z, z = ((l.take k).filter (mateB long x)).length := ⟨_, rfl⟩
        have hcl : cn ≤ l.length := by
          have h1 := List.length_filter_le (mateB long x) (l.take k)
          have h2 : (l.take k).length ≤ l.length := by rw [List.length_take]; omega
          omega
        rw [← hcn]
        have HCN := Lib.hid hcn
        clear hcn
        by_cases hkt : k < l.length
        · obtain ⟨gj1, hgj1⟩ : ∃ x, gk = x + 1 := ⟨gk - 1, by omega⟩
          obtain ⟨y, hy⟩ : ∃ t, l[k]? = some t := ⟨_, List.getElem?_eq_getElem hkt⟩
          have hS := SL.out.below (HW.out.1.trans (HB.out.mono HW.out.1.size))
          obtain ⟨g, o, rfl, hg, c0, c1, c2, c3, c4, c5, _⟩ := hS.cells HX.out
          obtain ⟨g', o', hA', hg', d0, d1, d2, d3, d4, d5, _⟩ := hS.cells hy
          injection hA' with hA'
          injection hA' with e1 e2
          subst e1 e2
          have HY := Lib.hid hy
          have hwy := winI_in (HOK.out y (List.mem_of_getElem? hy)) hl1
          obtain ⟨wy, hwye⟩ : ∃ z, z = winI long y := ⟨_, rfl⟩
          rw [← hwye] at hwy
          have HWY := Lib.hid hwye
          have hwy0 := hwy.1
          have hwy1 := hwy.2
          have qy : y.en.tdiv long = wy := hwye.symm
          have k0 : (0 : Int) ≤ (k : Int) := by omega
          have k1 : (k : Int) < (l.length : Int) := by omega
          clear hwy hwye hy hS hg hg'
          by_cases hlv : y.lv = x.lv
          · by_cases hwi : wy = wx
            · have e1 : (y.lv == x.lv) = true := by simpa using hlv
              have e2 : (wy == wx) = true := by simpa using hwi
              have HM : Hid (mateB long x y = true) := Lib.hid (mateB_yes.2 ⟨hlv, by rw [← HWX.out, ← HWY.out]; exact hwi⟩)
              clear hlv hwi
              go_wp2_with fail
              go_quiet (fail)
              go_wp2_with fail
              go_roundg gj1
              case measure => omega
              case rel => exact ⟨k + 1, by omega, by rw [filter_next HY.out, HM.out, HCN.out]; simp, by go_num, Lib.hid (below_drewN HB.out _)⟩
            · have e1 : (y.lv == x.lv) = true := by simpa using hlv
              have e2 : (wy == wx) = false := by simpa using hwi
              have HM : Hid (mateB long x y = false) := Lib.hid (Bool.eq_false_iff.2 fun h => hwi (by rw [HWX.out, HWY.out]; exact (mateB_yes.1 h).2))
              clear hlv hwi
              go_wp2_with fail
              go_quiet (fail)
              go_wp2_with fail
              go_roundg gj1
              case measure => omega
              case rel => exact ⟨k + 1, by omega, by rw [filter_next HY.out, HM.out, HCN.out]; simp, by go_num, Lib.hid (below_drewN HB.out _)⟩
          · have e1 : (y.lv == x.lv) = false := by simpa using hlv
            have HM : Hid (mateB long x y = false) := Lib.hid (Bool.eq_false_iff.2 fun h => hlv (mateB_yes.1 h).1)
            clear hlv
            go_wp2_with fail
            go_quiet (fail)
            go_wp2_with fail
            go_roundg gj1
            case measure => omega
            case rel => exact ⟨k + 1, by omega, by rw [filter_next HY.out, HM.out, HCN.out]; simp, by go_num, Lib.hid (below_drewN HB.out _)⟩
        · have hkl : k = l.length := by omega
          subst hkl
          have HCE : Hid (cn = (l.filter (mateB long x)).length) := Lib.hid (by rw [HCN.out, List.take_length])
          have HB2 : Hid (Below w.heap.size w wr) := Lib.hid (HW.out.1.trans (HB.out.mono HW.out.1.size))
          have HBA := Lib.hid HW.out.2
          revert HB2
          clear HB HCN
          generalize wr = w2
          intro HB2
          obtain ⟨g, o, rfl, hg, c0, c1, c2, c3, c4, c5, _⟩ := (SL.out.below HB2.out).cells HX.out
          clear hg
          have l0 : decide ((l.length : Int) < (l.length : Int)) = false := decide_eq_false (by omega)
          by_cases h2 : 2 ≤ cn
          rotate_left
          · have e1 : decide ((cn : Int) < 2) = true := decide_eq_true (by omega)
            have HE : Hid (eligB l long x = false) := Lib.hid (by rw [eligB, ← HCE.out, decide_eq_false h2]; rfl)
            clear h2
            go_wp2_with fail
            go_roundg gk1
            case measure => omega
            case rel => exact ⟨i + 1, b, by omega, rfl, by go_num, Lib.hid ⟨HB2.out, bestAt_skip HBA.out HX.out HE.out⟩⟩
          have e1 : decide ((cn : Int) < 2) = false := decide_eq_false (by omega)
          by_cases hlv : x.lv < 10
          rotate_left
          · have e2 : decide (10 ≤ x.lv) = true := decide_eq_true (by omega)
            have HE : Hid (eligB l long x = false) := Lib.hid (by rw [eligB, decide_eq_false hlv, Bool.and_false])
            clear h2 hlv
            go_wp2_with fail
            go_roundg gk1
            case measure => omega
            case rel => exact ⟨i + 1, b, by omega, rfl, by go_num, Lib.hid ⟨HB2.out, bestAt_skip HBA.out HX.out HE.out⟩⟩
          have e2 : decide (10 ≤ x.lv) = false := decide_eq_false (by omega)
          have HE : Hid (eligB l long x = true) := Lib.hid (by rw [eligB, ← HCE.out, decide_eq_true h2, decide_eq_true hlv]; rfl)
          clear h2 hlv
          rcases HBA.out with ⟨hn, rfl⟩ | ⟨j, y, hn, rfl, hj, hy⟩
          · have HN := Lib.hid hn
            have e4 : decide (x.lv < x.lv) = false := decide_eq_false (by omega)
            have e5 : (x.lv == x.lv) = true := by simp
            have e6 : decide (wx < wx) = false := decide_eq_false (by omega)
            clear hn HBA
            go_wp2_with fail
            go_quiet (fail)
            go_wp2_with fail
            go_roundg gk1
            case measure => omega
            case rel => exact ⟨i + 1, _, by omega, rfl, by go_num, Lib.hid ⟨below_drewN HB2.out _, bestAt_first HN.out HX.out HE.out⟩⟩
          · have HN := Lib.hid hn
            have HY := Lib.hid hy
            have HJ := Lib.hid hj
            obtain ⟨g', o', hA', hg', d0, d1, d2, d3, d4, d5, _⟩ := (SL.out.below HB2.out).cells hy
            injection hA' with hA'
            injection hA' with f1 f2
            subst f1 f2
            have hwy := winI_in (HOK.out y (List.mem_of_getElem? hy)) hl1
            obtain ⟨wy, hwye⟩ : ∃ z, z = winI long y := ⟨_, rfl⟩
            rw [← hwye] at hwy
            have HWY := Lib.hid hwye
            have hwy0 := hwy.1
            have hwy1 := hwy.2
            have qy : y.en.tdiv long = wy := hwye.symm
            have j0 : (0 : Int) ≤ (j : Int) := by omega
            have j1 : (j : Int) < (l.length : Int) := by omega
            have e3 : decide ((j : Int) < 0) = false := decide_eq_false (by omega)
            clear hwy hwye hy hg' hn hj HBA
            by_cases hlt1 : x.lv < y.lv
            · have e4 : decide (x.lv < y.lv) = true := decide_eq_true hlt1
              have HL : Hid (grpLess long x y = true) := Lib.hid (grpLess_yes.2 (.inl hlt1))
              clear hlt1
              go_wp2_with fail
              go_quiet (fail)
              go_wp2_with fail
              go_roundg gk1
              case measure => omega
              case rel => exact ⟨i + 1, _, by omega, rfl, by go_num, Lib.hid ⟨below_drewN HB2.out _, bestAt_less HN.out HX.out HE.out HL.out⟩⟩
            have e4 : decide (x.lv < y.lv) = false := decide_eq_false hlt1
            by_cases hle : x.lv = y.lv
            rotate_left
            · have e5 : (x.lv == y.lv) = false := by simpa using hle
              have HL : Hid (grpLess long x y = false) := Lib.hid (grpLess_no.2 (.inl (by omega)))
              clear hlt1 hle
              go_wp2_with fail
              go_quiet (fail)
              go_wp2_with fail
              go_roundg gk1
              case measure => omega
              case rel => exact ⟨i + 1, _, by omega, rfl, by go_num, Lib.hid ⟨below_drewN HB2.out _, bestAt_stay HN.out HJ.out HY.out HX.out HE.out HL.out⟩⟩
            have e5 : (x.lv == y.lv) = true := by simpa using hle
            by_cases hwl : wx < wy
            · have e6 : decide (wx < wy) = true := decide_eq_true hwl
              have HL : Hid (grpLess long x y = true) := Lib.hid (grpLess_yes.2 (.inr ⟨hle, by rw [← HWX.out, ← HWY.out]; exact hwl⟩))
              clear hlt1 hle hwl
              go_wp2_with fail
              go_quiet (fail)
              go_wp2_with fail
              go_roundg gk1
              case measure => omega
              case rel => exact ⟨i + 1, _, by omega, rfl, by go_num, Lib.hid ⟨below_drewN HB2.out _, bestAt_less HN.out HX.out HE.out HL.out⟩⟩
            · have e6 : decide (wx < wy) = false := decide_eq_false hwl
              have HL : Hid (grpLess long x y = false) := Lib.hid (grpLess_no.2 (.inr ⟨hle, by rw [← HWX.out, ← HWY.out]; omega⟩))
              clear hlt1 hle hwl
              go_wp2_with fail
              go_quiet (fail)
              go_wp2_with fail
              go_roundg gk1
              case measure => omega
              case rel => exact ⟨i + 1, _, by omega, rfl, by go_num, Lib.hid ⟨below_drewN HB2.out _, bestAt_stay HN.out HJ.out HY.out HX.out HE.out HL.out⟩⟩
    · have hil : i = l.length := by omega
      subst hil
      have HBA := Lib.hid HW.out.2
      have HB1 := Lib.hid HW.out.1
      have hd0 : decide ((l.length : Int) < (l.length : Int)) = false := decide_eq_false (by omega)
      clear HW hlt
      rcases HBA.out with ⟨hn, rfl⟩ | ⟨j, y, hn, rfl, hj, hy⟩
      · rw [List.take_length] at hn
        have HG : Hid (grpR l long most = []) := Lib.hid (by rw [grpR, show bestM l long = none from hn])
        clear hn HBA
        go_wp2_with fail
        go_loopg [11, 12] 0 (fun gk av iv wr => av = .slice none 0 0 ∧ iv = .int .i64 0 ∧ Hid (Below w.heap.size w wr))
        case atStart => exact ⟨rfl, rfl, HB1.out⟩
        case round =>
          obtain ⟨rfl, rfl, HB⟩ := hrel
          go_wp2_with fail
          all_goals
            go_ret
            rw [HG.out]
            exact ⟨_, rfl, Mes.nil _, HB.out⟩
      · rw [List.take_length] at hn
        have HG : Hid (grpR l long most = (l.filter (mateB long y)).take most) := Lib.hid (by rw [grpR, show bestM l long = some y from hn])
        have HY := Lib.hid hy
        have HOY := Lib.hid (HOK.out y (List.mem_of_getElem? hy))
        have hwy := winI_in HOY.out hl1
        obtain ⟨wy, hwye⟩ : ∃ z, z = winI long y := ⟨_, rfl⟩
        rw [← hwye] at hwy
        have HWY := Lib.hid hwye
        have hwy0 := hwy.1
        have hwy1 := hwy.2
        have qy : y.en.tdiv long = wy := hwye.symm
        have j0 : (0 : Int) ≤ (j : Int) := by omega
        have j1 : (j : Int) < (l.length : Int) := by omega
        have j2 : decide ((0 : Int) ≤ (j : Int)) = true := decide_eq_true j0
        clear hn HBA hwy hwye hy
        go_wp2_with fail
        go_loopg [11, 12] l.length (fun gk av iv wr => ∃ (i : Nat), i + gk = l.length ∧ iv = .int .i64 (i : Int) ∧ Hid (OwnK 6 wr w1.heap.size 35 (fun _ => True) MeC av ((l.take i).filter (mateB long y)) ∧ ((l.take i).filter (mateB long y)).length ≤ most ∧ Below w1.heap.size w1 wr))
        case atStart => exact ⟨0, by omega, rfl, Lib.hid ⟨OwnK.nil _ _ _ _ _ _, by simp, Below.refl _ _⟩⟩
        case round =>
          obtain ⟨i, hi, rfl, HL⟩ := hrel
          obtain ⟨Aa, ca, rfl, _, _⟩ := HL.out.1.form
          obtain ⟨out, hout⟩ : ∃ z, z = (l.take i).filter (mateB long y) := ⟨_, rfl⟩
          rw [← hout] at HL ⊢
          obtain ⟨lo, hlo⟩ : ∃ z, z = out.length := ⟨_, rfl⟩
          rw [← hlo] at HL ⊢
          have HOUT := Lib.hid hout
          have HLO := Lib.hid hlo
          have hlm := HL.out.2.1
          clear hout hlo
          by_cases hlt : i < l.length
          rotate_left
          · have hil : i = l.length := by omega
            subst hil
            go_wp2_with fail
            go_ret
            rw [HG.out]
            obtain ⟨xs, o1, o2⟩ := HL.out.1
            refine ⟨_, rfl, ⟨xs, o1.lv, ?_⟩, HB1.out.trans (HL.out.2.2.mono HB1.out.size)⟩
            have e : (l.filter (mateB long y)).take most = out := by
              have h1 := HOUT.out
              rw [List.take_length] at h1
              rw [← h1, List.take_of_length_le (by have := HLO.out; omega)]
            rw [e]
            exact o2.mono fun _ _ hk => hk.here
          by_cases hst : lo < most
          rotate_left
          · have e1 : decide ((i : Int) < (l.length : Int)) = true := decide_eq_true (by omega)
            have e2 : decide ((lo : Int) < (most : Int)) = false := decide_eq_false (by omega)
            have HE : Hid ((l.filter (mateB long y)).take most = out) := Lib.hid (by rw [HOUT.out]; exact filter_stop (by rw [← HOUT.out, ← HLO.out]; omega))
            go_wp2_with fail
            go_ret
            rw [HG.out, HE.out]
            obtain ⟨xs, o1, o2⟩ := HL.out.1
            exact ⟨_, rfl, ⟨xs, o1.lv, o2.mono fun _ _ hk => hk.here⟩, HB1.out.trans (HL.out.2.2.mono HB1.out.size)⟩
          obtain ⟨gk1, hgk1⟩ : ∃ x, gk = x + 1 := ⟨gk - 1, by omega⟩
          obtain ⟨x, hx⟩ : ∃ t, l[i]? = some t := ⟨_, List.getElem?_eq_getElem hlt⟩
          have HX := Lib.hid hx
          have HOX := Lib.hid (HOK.out x (List.mem_of_getElem? hx))
          have hS := SL.out.below (HB1.out.trans (HL.out.2.2.mono HB1.out.size))
          obtain ⟨g, o, rfl, hg, c0, c1, c2, c3, c4, c5, _⟩ := hS.cells HX.out
          obtain ⟨g', o', hA', hg', d0, d1, d2, d3, d4, d5, _⟩ := hS.cells HY.out
          injection hA' with hA'
          injection hA' with f1 f2
          subst f1 f2
          have hwx := winI_in HOX.out hl1
          obtain ⟨wx, hwxe⟩ : ∃ z, z = winI long x := ⟨_, rfl⟩
          rw [← hwxe] at hwx
          have HWX := Lib.hid hwxe
          have hwx0 := hwx.1
          have hwx1 := hwx.2
          have qx : x.en.tdiv long = wx := hwxe.symm
          have i0 : (0 : Int) ≤ (i : Int) := by omega
          have i1 : (i : Int) < (l.length : Int) := by omega
          have i2 : decide ((lo : Int) < (most : Int)) = true := decide_eq_true (by omega)
          have HST := Lib.hid hst
          clear hwx hwxe hx hS hg hg' hst
          by_cases hlv : x.lv = y.lv
          rotate_left
          · have e1 : (x.lv == y.lv) = false := by simpa using hlv
            have HM : Hid (mateB long y x = false) := Lib.hid (Bool.eq_false_iff.2 fun h => hlv (mateB_yes.1 h).1)
            clear hlv
            go_wp2_with fail
            go_quiet (fail)
            go_wp2_with fail
            go_roundg gk1
            case measure => omega
            case rel => exact ⟨i + 1, by omega, by go_num, Lib.hid (by
              have e : (l.take (i + 1)).filter (mateB long y) = out := by rw [filter_next HX.out, HM.out, HOUT.out]; simp
              rw [e, ← HLO.out]
              exact ⟨HL.out.1.below (below_drewN (Below.refl _ _) _), HL.out.2.1, below_drewN HL.out.2.2 _⟩)⟩
          have e1 : (x.lv == y.lv) = true := by simpa using hlv
          by_cases hwi : wx = wy
          rotate_left
          · have e2 : (wx == wy) = false := by simpa using hwi
            have HM : Hid (mateB long y x = false) := Lib.hid (Bool.eq_false_iff.2 fun h => hwi (by rw [HWX.out, HWY.out]; exact (mateB_yes.1 h).2))
            clear hlv hwi
            go_wp2_with fail
            go_quiet (fail)
            go_wp2_with fail
            go_roundg gk1
            case measure => omega
            case rel => exact ⟨i + 1, by omega, by go_num, Lib.hid (by
              have e : (l.take (i + 1)).filter (mateB long y) = out := by rw [filter_next HX.out, HM.out, HOUT.out]; simp
              rw [e, ← HLO.out]
              exact ⟨HL.out.1.below (below_drewN (Below.refl _ _) _), HL.out.2.1, below_drewN HL.out.2.2 _⟩)⟩
          have e2 : (wx == wy) = true := by simpa using hwi
          have HM : Hid (mateB long y x = true) := Lib.hid (mateB_yes.2 ⟨hlv, by rw [← HWX.out, ← HWY.out]; exact hwi⟩)
          clear hlv hwi
          go_wp2_with fail
          go_quiet (fail)
          have hbq : Below wr.heap.size wr (wr.drewN nq) := below_drewN (Below.refl _ _) nq
          clear c0 c1 c2 c3 c4 c5 d0 d1 d2 d3 d4 d5
          revert hbq
          generalize wr.drewN nq = wq
          intro hbq
          have HBQ : Hid (Below w1.heap.size w1 wq) := Lib.hid (HL.out.2.2.trans (hbq.mono HL.out.2.2.size))
          obtain ⟨g2, o2, hA2, _, t0, t1, t2, t3, t4, t5, _⟩ := (SL.out.below (HB1.out.trans (HBQ.out.mono HB1.out.size))).cells HX.out
          injection hA2 with hA2
          injection hA2 with f1 f2
          subst f1 f2
          have hb6 : Below wq.heap.size wq (wq.alloc (.cells #[.int .u64 x.id, .int .i64 x.lv, .int .i64 x.st, .int .i64 x.en, .int .i64 x.pg, .int .i64 x.tr] 35)) := (Below.refl _ _).alloc (Nat.le_refl _) _
          have HO6 := Lib.hid ((HL.out.1.below hbq).below hb6)
          have HB6 : Hid (Below w1.heap.size w1 (wq.alloc (.cells #[.int .u64 x.id, .int .i64 x.lv, .int .i64 x.st, .int .i64 x.en, .int .i64 x.pg, .int .i64 x.tr] 35))) := Lib.hid (HBQ.out.trans (hb6.mono HBQ.out.size))
          have hlv := Lv.lit1 (w := wq) [.int .u64 x.id, .int .i64 x.lv, .int .i64 x.st, .int .i64 x.en, .int .i64 x.pg, .int .i64 x.tr] 35
          have HLV := Lib.hid hlv
          have HYK : Hid (Keep (fun q => True ∨ (Value.slice Aa lo ca).ownBlock = some q) (fun u => MeC u x [.int .u64 x.id, .int .i64 x.lv, .int .i64 x.st, .int .i64 x.en, .int .i64 x.pg, .int .i64 x.tr]) (wq.alloc (.cells #[.int .u64 x.id, .int .i64 x.lv, .int .i64 x.st, .int .i64 x.en, .int .i64 x.pg, .int .i64 x.tr] 35))) := Lib.hid fun u _ => ⟨HOX.out, rfl⟩
          have HLN6 : Hid (out.length ≤ 1000000000) := Lib.hid (by have := HLO.out; omega)
          have HSZ : Hid (w1.heap.size ≤ (wq.alloc (.cells #[.int .u64 x.id, .int .i64 x.lv, .int .i64 x.st, .int .i64 x.en, .int .i64 x.pg, .int .i64 x.tr] 35)).heap.size) := Lib.hid HB6.out.size
          clear hbq hb6 hlv
          go_wp2_with (at_builtin; refine wpList_append_K metaT rfl _ _ rfl rfl HO6.out rfl HLV.out HYK.out (by simp [Value.oneCell']) HLN6.out (by decide) HSZ.out ?_)
          intro v7 w7 ho7 hg7 hv7
          obtain ⟨A7, c7, rfl, _, _⟩ := ho7.form
          rw [List.length_append, List.length_singleton, ← HLO.out] at ho7 hv7 ⊢
          have HO7 := Lib.hid ho7
          have HB7 : Hid (Below w1.heap.size w1 w7) := Lib.hid (HB6.out.grown hg7 HB6.out.size fun k hk => (HO6.out.lt k hk).1)
          clear ho7 hg7 hv7
          go_wp2_with fail
          go_roundg gk1
          case measure => omega
          case rel => exact ⟨i + 1, by omega, by go_num, Lib.hid (by
            have e : (l.take (i + 1)).filter (mateB long y) = out ++ [x] := by rw [filter_next HX.out, HM.out, HOUT.out]; simp
            rw [e]
            refine ⟨HO7.out, ?_, HB7.out⟩
            rw [List.length_append, List.length_singleton, ← HLO.out]
            exact HST.out)⟩

end Go.Proofs.Ytohcbgchloncmaa
