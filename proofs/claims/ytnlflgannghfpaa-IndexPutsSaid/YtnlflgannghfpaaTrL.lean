/-
  CONTRACT of trace.Is. No condition.
  CONTRACT of the document's Is. No condition.
-/
import Derived.Test.YtnlflgannghfpaaTrK
namespace Go.Proofs.Ytnlflgannghfpaa
open Go.RowKit Go.Maps
set_option maxRecDepth 100000


theorem i64_pred {k m : Nat} (h : k = m + 1) (hm : (m : Int) < 9223372036854775807) : IntKind.i64.wrap ((k : Int) - 1) = (m : Int) := by
  rw [show (k : Int) - 1 = (m : Int) by omega]
  exact IntWalk.i64_in _ (by omega)

set_option maxHeartbeats 6400000 in
set_option maxRecDepth 100000 in
theorem is_any (v : Value) (l : List Tn) (w : World) (h : Ts w v l) :
    Calls Try.prog 20 #[v] w fun e w' => e = .returned (.bool (isB l)) ∧ Below w.heap.size w w' := by
  obtain ⟨A, c, rfl, hc1, hc2⟩ := h.form
  have H := Lib.hid h
  clear h
  go_enter Try.func20, Try.ntmps20
  go_wp2_with fail
  go_loopw [7] (fun iv wr => ∃ k : Nat, k ≤ l.length ∧ iv = .int .i64 (k : Int) ∧ Below w.heap.size w wr ∧
      Hid (∀ (j : Nat) (t : Tn), j < k → l[j]? = some t → CanS t.id t.sp) ∧
      Hid (∀ (j : Nat) (t u : Tn), j + 1 < k → l[j]? = some t → l[j + 1]? = some u → t.id < u.id)) (fun iv _ => l.length - (intOf iv).toNat)
  case atStart => exact ⟨0, Nat.zero_le _, rfl, Below.refl _ _, Lib.hid (fun j t h => absurd h (Nat.not_lt_zero _)), Lib.hid (fun j t u h => absurd h (Nat.not_lt_zero _))⟩
  case round =>
    obtain ⟨k, hk, rfl, hB, HC, HU⟩ := hrel
    by_cases hkl : k < l.length
    · obtain ⟨t, hks⟩ : ∃ t, l[k]? = some t := ⟨_, List.getElem?_eq_getElem hkl⟩
      obtain ⟨gl, ol, d, rfl, hgl, x0, x1, hd, hid⟩ := (H.out.below hB).cells hks
      obtain ⟨A2, c2, hdv, _⟩ := hd.form
      subst hdv
      have HKS := Lib.hid hks
      have hb0 : (0 : Int) ≤ (k : Int) := by omega
      have hb1 : (k : Int) < (l.length : Int) := by omega
      have W5 : Below wr.heap.size wr (wr.alloc (.cells #[.int .u64 t.id, .slice A2 t.sp.length c2] 50)) := (Below.refl _ _).alloc (Nat.le_refl _) _
      have WB5 : Below w.heap.size w (wr.alloc (.cells #[.int .u64 t.id, .slice A2 t.sp.length c2] 50)) := hB.alloc hB.size _
      have hbk := Blk.new wr 50 #[.int .u64 t.id, .slice A2 t.sp.length c2]
      have TV5 : Hid (TV (wr.alloc (.cells #[.int .u64 t.id, .slice A2 t.sp.length c2] 50)) (.agg #[.int .u64 t.id, .slice A2 t.sp.length c2]) t) := Lib.hid ⟨hid, _, rfl, hd.below W5⟩
      have HBK := Lib.hid hbk
      clear hks hd hbk
      go_wp2_with fail
      by_cases hk0 : k = 0
      · subst hk0
        have HL : Hid (∀ (j : Nat) (x y : Tn), j + 1 = 0 → l[j]? = some x → l[j + 1]? = some y → x.id < y.id) := Lib.hid fun j x y h => absurd h (by omega)
        go_quiet (fail)
        have W6 := below_drewN WB5 nq
        have hbk6 : Blk ((wr.alloc (.cells #[.int .u64 t.id, .slice A2 t.sp.length c2] 50)).drewN nq) wr.heap.size 50 #[.int .u64 t.id, .slice A2 t.sp.length c2] := HBK.out
        have y0 : ((wr.alloc (.cells #[.int .u64 t.id, .slice A2 t.sp.length c2] 50)).drewN nq).cell? ⟨wr.heap.size, 0, none⟩ = some (.int .u64 t.id) := hbk6.cell 0
        have y1 : ((wr.alloc (.cells #[.int .u64 t.id, .slice A2 t.sp.length c2] 50)).drewN nq).cell? ⟨wr.heap.size, 1, none⟩ = some (.slice A2 t.sp.length c2) := hbk6.cell 1
        have TV6 : Hid (TV ((wr.alloc (.cells #[.int .u64 t.id, .slice A2 t.sp.length c2] 50)).drewN nq) (.agg #[.int .u64 t.id, .slice A2 t.sp.length c2]) t) := TV5
        clear hbk6
        revert W6 y0 y1 TV6
        generalize (wr.alloc (.cells #[.int .u64 t.id, .slice A2 t.sp.length c2] 50)).drewN nq = w6
        intro W6 y0 y1 TV6
        go_wp2_with fail
        refine (isCanonical_any _ t _ TV6.out).mono ?_
        rintro e w7 ⟨rfl, hb7⟩
        have W7 := W6.trans (hb7.mono W6.size)
        cases hcan : canB t.id t.sp with
        | false =>
          have hn : Hid (isB l = false) := Lib.hid <| isB_false fun hc => by rw [canB_true (hc.each 0 t HKS.out)] at hcan; cases hcan
          clear hcan
          go_wp2_with fail
          go_ret
          exact ⟨ret_bool hn.out.symm, W7⟩
        | true =>
          have HCAN : Hid (CanS t.id t.sp) := Lib.hid (by
            rcases Classical.em (CanS t.id t.sp) with h | h
            · exact h
            · rw [canB_false h] at hcan; cases hcan)
          clear hcan
          go_wp2_with fail
          refine ⟨⟨0 + 1, by omega, by go_num, W7, Lib.hid (fun j x h1 h2 => ?_), Lib.hid (fun j x y h1 h2 h3 => ?_)⟩, by simp [intOf]; omega⟩
          · rcases Nat.lt_or_eq_of_le (Nat.le_of_lt_succ h1) with h4 | h4
            · exact HC.out j x h4 h2
            · subst h4
              rw [HKS.out] at h2
              injection h2 with h2
              subst h2
              exact HCAN.out
          · rcases Nat.lt_or_eq_of_le (Nat.le_of_lt_succ h1) with h4 | h4
            · exact HU.out j x y h4 h2 h3
            · exact HL.out j x y h4 h2 h3
      · obtain ⟨m, hkm⟩ : ∃ m, k = m + 1 := ⟨k - 1, by omega⟩
        obtain ⟨p, hp⟩ : ∃ p, l[m]? = some p := ⟨_, List.getElem?_eq_getElem (by omega)⟩
        have HP := Lib.hid hp
        obtain ⟨g', o', dp, he, _, p0, _⟩ := (H.out.below WB5).cells hp
        simp only [Option.some.injEq, Addr.mk.injEq, and_true] at he
        obtain ⟨rfl, rfl⟩ := he
        have hpos : 0 < k := by omega
        have hpos2 : decide (0 < k) = true := decide_eq_true hpos
        have hwm : IntKind.i64.wrap ((k : Int) - 1) = (m : Int) := i64_pred hkm (by omega)
        have hm0 : (0 : Int) ≤ (m : Int) := by omega
        have hm1 : (m : Int) < (l.length : Int) := by omega
        have HKM := Lib.hid hkm
        clear hp hkm hk0
        by_cases hle : p.id ≥ t.id
        · have hn : Hid (isB l = false) := Lib.hid <| isB_false fun hc => by have := hc.up m p t HP.out (by rw [← HKM.out]; exact HKS.out); omega
          go_quiet (fail)
          go_wp2_with fail
          go_ret
          exact ⟨ret_bool hn.out.symm, below_drewN WB5 _⟩
        · have HL : Hid (∀ (j : Nat) (x y : Tn), j + 1 = k → l[j]? = some x → l[j + 1]? = some y → x.id < y.id) := Lib.hid fun j x y h hx hy => by
            have hj : j = m := by have := HKM.out; omega
            subst hj
            rw [HP.out] at hx
            rw [← HKM.out, HKS.out] at hy
            injection hx with hx
            injection hy with hy
            subst hx hy
            omega
          have hle2 : p.id < t.id := by omega
          go_quiet (fail)
          clear hle hle2 hpos hpos2
          have W6 := below_drewN WB5 nq
          have hbk6 : Blk ((wr.alloc (.cells #[.int .u64 t.id, .slice A2 t.sp.length c2] 50)).drewN nq) wr.heap.size 50 #[.int .u64 t.id, .slice A2 t.sp.length c2] := HBK.out
          have y0 : ((wr.alloc (.cells #[.int .u64 t.id, .slice A2 t.sp.length c2] 50)).drewN nq).cell? ⟨wr.heap.size, 0, none⟩ = some (.int .u64 t.id) := hbk6.cell 0
          have y1 : ((wr.alloc (.cells #[.int .u64 t.id, .slice A2 t.sp.length c2] 50)).drewN nq).cell? ⟨wr.heap.size, 1, none⟩ = some (.slice A2 t.sp.length c2) := hbk6.cell 1
          have TV6 : Hid (TV ((wr.alloc (.cells #[.int .u64 t.id, .slice A2 t.sp.length c2] 50)).drewN nq) (.agg #[.int .u64 t.id, .slice A2 t.sp.length c2]) t) := TV5
          clear hbk6
          revert W6 y0 y1 TV6
          generalize (wr.alloc (.cells #[.int .u64 t.id, .slice A2 t.sp.length c2] 50)).drewN nq = w6
          intro W6 y0 y1 TV6
          go_wp2_with fail
          refine (isCanonical_any _ t _ TV6.out).mono ?_
          rintro e w7 ⟨rfl, hb7⟩
          have W7 := W6.trans (hb7.mono W6.size)
          cases hcan : canB t.id t.sp with
          | false =>
            have hn : Hid (isB l = false) := Lib.hid <| isB_false fun hc => by rw [canB_true (hc.each k t HKS.out)] at hcan; cases hcan
            clear hcan
            go_wp2_with fail
            go_ret
            exact ⟨ret_bool hn.out.symm, W7⟩
          | true =>
            have HCAN : Hid (CanS t.id t.sp) := Lib.hid (by
              rcases Classical.em (CanS t.id t.sp) with h | h
              · exact h
              · rw [canB_false h] at hcan; cases hcan)
            clear hcan
            go_wp2_with fail
            refine ⟨⟨k + 1, by omega, by go_num, W7, Lib.hid (fun j x h1 h2 => ?_), Lib.hid (fun j x y h1 h2 h3 => ?_)⟩, by simp [intOf]; omega⟩
            · rcases Nat.lt_or_eq_of_le (Nat.le_of_lt_succ h1) with h4 | h4
              · exact HC.out j x h4 h2
              · subst h4
                rw [HKS.out] at h2
                injection h2 with h2
                subst h2
                exact HCAN.out
            · rcases Nat.lt_or_eq_of_le (Nat.le_of_lt_succ h1) with h4 | h4
              · exact HU.out j x y h4 h2 h3
              · exact HL.out j x y h4 h2 h3
    · have hkk : k = l.length := by omega
      have HT : Hid (isB l = true) := Lib.hid <| isB_true ⟨fun j t h => HC.out j t (by rw [hkk]; exact (List.getElem?_eq_some_iff.1 h).1) h, fun j t u h h' => HU.out j t u (by rw [hkk]; exact (List.getElem?_eq_some_iff.1 h').1) h h'⟩
      subst hkk
      go_wp2_with fail
      go_ret
      exact ⟨ret_bool HT.out.symm, hB⟩

end Go.Proofs.Ytnlflgannghfpaa

namespace Go.Proofs.Ytnlflgannghfpaa
open Go.RowKit Go.Maps
set_option maxRecDepth 100000


set_option maxHeartbeats 6400000 in
set_option maxRecDepth 100000 in
theorem Is_any (v : Value) (l : List Tn) (w : World) (h : Ts w v l) :
    Calls Try.prog 22 #[v] w fun e w' => e = .returned (.bool (isB l)) ∧ Below w.heap.size w w' := by
  obtain ⟨A, c, rfl, hc1, hc2⟩ := h.form
  have H := Lib.hid h
  clear h
  go_enter Try.func22, Try.ntmps22
  go_wp2_with fail
  go_loopw [3] (fun iv wr => ∃ k : Nat, k ≤ l.length ∧ iv = .int .i64 (k : Int) ∧ Below w.heap.size w wr ∧
      Hid (∀ (j : Nat) (t : Tn), j < k → l[j]? = some t → CanS t.id t.sp) ∧
      Hid (∀ (j : Nat) (t u : Tn), j + 1 < k → l[j]? = some t → l[j + 1]? = some u → t.id < u.id)) (fun iv _ => l.length - (intOf iv).toNat)
  case atStart => exact ⟨0, Nat.zero_le _, rfl, Below.refl _ _, Lib.hid (fun j t h => absurd h (Nat.not_lt_zero _)), Lib.hid (fun j t u h => absurd h (Nat.not_lt_zero _))⟩
  case round =>
    obtain ⟨k, hk, rfl, hB, HC, HU⟩ := hrel
    by_cases hkl : k < l.length
    · obtain ⟨t, hks⟩ : ∃ t, l[k]? = some t := ⟨_, List.getElem?_eq_getElem hkl⟩
      obtain ⟨gl, ol, d, rfl, hgl, x0, x1, hd, hid⟩ := (H.out.below hB).cells hks
      obtain ⟨A2, c2, hdv, hcc1, hcc2⟩ := hd.form
      subst hdv
      have HKS := Lib.hid hks
      have hb0 : (0 : Int) ≤ (k : Int) := by omega
      have hb1 : (k : Int) < (l.length : Int) := by omega
      have W5 : Below wr.heap.size wr (wr.alloc (.cells #[.int .u64 t.id, .slice A2 t.sp.length c2] 50)) := (Below.refl _ _).alloc (Nat.le_refl _) _
      have WB5 : Below w.heap.size w (wr.alloc (.cells #[.int .u64 t.id, .slice A2 t.sp.length c2] 50)) := hB.alloc hB.size _
      have hbk := Blk.new wr 50 #[.int .u64 t.id, .slice A2 t.sp.length c2]
      have hgn : wr.heap.size < (wr.alloc (.cells #[.int .u64 t.id, .slice A2 t.sp.length c2] 50)).heap.size := by simp
      have HD := Lib.hid (hd.below W5)
      have HBK := Lib.hid hbk
      clear hks hd hbk
      go_wp2_with fail
      by_cases hlo : (t.sp.length : Int) < 1
      · have hn : Hid (isB l = false) := Lib.hid <| isB_false fun hc => by have := (hc.each k t HKS.out).lo; omega
        go_quiet (fail)
        go_wp2_with fail
        go_ret
        exact ⟨ret_bool hn.out.symm, below_drewN WB5 _⟩
      by_cases hhi : (100 : Int) < (t.sp.length : Int)
      · have hn : Hid (isB l = false) := Lib.hid <| isB_false fun hc => by have := (hc.each k t HKS.out).hi; omega
        go_quiet (fail)
        go_wp2_with fail
        go_ret
        exact ⟨ret_bool hn.out.symm, below_drewN WB5 _⟩
      have hsl1 : 1 ≤ (t.sp.length : Int) := by omega
      have hsl2 : (t.sp.length : Int) ≤ 100 := by omega
      by_cases hk0 : k = 0
      · subst hk0
        have HL : Hid (∀ (j : Nat) (x y : Tn), j + 1 = 0 → l[j]? = some x → l[j + 1]? = some y → x.id < y.id) := Lib.hid fun j x y h => absurd h (by omega)
        go_quiet (fail)
        have W6 := below_drewN WB5 nq
        have HBK6 : Hid (Blk ((wr.alloc (.cells #[.int .u64 t.id, .slice A2 t.sp.length c2] 50)).drewN nq) wr.heap.size 50 #[.int .u64 t.id, .slice A2 t.sp.length c2]) := HBK
        have hgn6 : wr.heap.size < ((wr.alloc (.cells #[.int .u64 t.id, .slice A2 t.sp.length c2] 50)).drewN nq).heap.size := hgn
        have HD6 : Hid (Ss ((wr.alloc (.cells #[.int .u64 t.id, .slice A2 t.sp.length c2] 50)).drewN nq) (.slice A2 t.sp.length c2) t.sp) := HD
        clear x0 x1 W5
        revert W6 HBK6 hgn6 HD6
        generalize (wr.alloc (.cells #[.int .u64 t.id, .slice A2 t.sp.length c2] 50)).drewN nq = w6
        generalize wr.heap.size = gt
        intro W6 HBK6 hgn6 HD6
        go_wp2_with fail
        go_loopw [5] (fun jv wv => ∃ j : Nat, j ≤ t.sp.length ∧ jv = .int .i64 (j : Int) ∧ Below w6.heap.size w6 wv ∧ Hid (∀ (i : Nat) (s : Sn), i < j → t.sp[i]? = some s → s.tr = t.id ∧ mayB s = true)) (fun jv _ => t.sp.length - (intOf jv).toNat)
        case atStart => exact ⟨0, Nat.zero_le _, rfl, Below.refl _ _, Lib.hid (fun i s h => absurd h (Nat.not_lt_zero _))⟩
        case round =>
          obtain ⟨j, hj, rfl, hBj, HO⟩ := hrel
          revert hBj
          generalize wr = wj
          intro hBj
          have y1 : wj.cell? ⟨gt, 1, none⟩ = some (.slice A2 t.sp.length c2) := (hBj.cell (p := ⟨gt, 1, none⟩) hgn6).trans (HBK6.out.cell 1)
          have Wj := W6.trans (hBj.mono W6.size)
          have hgj := Nat.lt_of_lt_of_le hgn6 hBj.size
          by_cases hjl : j < t.sp.length
          · obtain ⟨s, hs⟩ : ∃ s, t.sp[j]? = some s := ⟨_, List.getElem?_eq_getElem hjl⟩
            have HSJ := Lib.hid hs
            obtain ⟨gs, os, ds, rfl, hgs, z0, z1, z2, z3, z4, hdd, hok⟩ := (HD6.out.below hBj).cells hs
            obtain ⟨A3, c3, hdl, _⟩ := id hdd
            subst hdl
            have SVJ : Hid (SV wj (.agg #[.int .u64 s.tr, .int .u64 s.id, .int .i64 s.st, .int .i64 s.en, .slice A3 s.data.length c3]) s) := Lib.hid ⟨hok, _, rfl, hdd⟩
            have hj0 : (0 : Int) ≤ (j : Int) := by omega
            have hj1 : (j : Int) < (t.sp.length : Int) := by omega
            clear hs hdd hok
            go_wp2_with fail
            refine (May_any _ s _ SVJ.out).mono ?_
            rintro e w7 ⟨rfl, hb7⟩
            have W7 := Wj.trans (hb7.mono Wj.size)
            have W67 := hBj.trans (hb7.mono hBj.size)
            cases hmay : mayB s with
            | false =>
              have hn : Hid (isB l = false) := Lib.hid <| isB_false fun hc => by have := ((hc.each 0 t HKS.out).one j s HSJ.out).2; rw [hmay] at this; cases this
              clear hmay
              go_wp2_with fail
              go_quiet (fail)
              go_wp2_with fail
              go_ret
              exact ⟨ret_bool hn.out.symm, below_drewN W7 _⟩
            | true =>
              have HMAY := Lib.hid hmay
              clear hmay
              have y0' : w7.cell? ⟨gt, 0, none⟩ = some (.int .u64 t.id) := (W67.cell (p := ⟨gt, 0, none⟩) hgn6).trans (HBK6.out.cell 0)
              have y1' : w7.cell? ⟨gt, 1, none⟩ = some (.slice (some ⟨gs, os, none⟩) t.sp.length c2) := (hb7.cell (p := ⟨gt, 1, none⟩) hgj).trans y1
              have z0' : w7.cell? ⟨gs, os + j * 5, none⟩ = some (.int .u64 s.tr) := (hb7.cell (p := ⟨gs, os + j * 5, none⟩) hgs).trans z0
              clear y1 z0 z1 z2 z3 z4
              by_cases htr : s.tr = t.id
              · have HTR := Lib.hid htr
                have k1 : (s.tr != t.id) = false := by simpa using htr
                clear htr
                go_wp2_with fail
                go_quiet (fail)
                go_wp2_with fail
                refine ⟨⟨j + 1, by omega, by go_num, below_drewN W67 _, Lib.hid (fun i x h1 h2 => ?_)⟩, by simp [intOf]; omega⟩
                rcases Nat.lt_or_eq_of_le (Nat.le_of_lt_succ h1) with h4 | h4
                · exact HO.out i x h4 h2
                · subst h4
                  rw [HSJ.out] at h2
                  injection h2 with h2
                  subst h2
                  exact ⟨HTR.out, HMAY.out⟩
              · have hn : Hid (isB l = false) := Lib.hid <| isB_false fun hc => htr ((hc.each 0 t HKS.out).one j s HSJ.out).1
                have k1 : (s.tr != t.id) = true := by simpa using htr
                clear htr
                go_wp2_with fail
                go_quiet (fail)
                go_wp2_with fail
                go_ret
                exact ⟨ret_bool hn.out.symm, below_drewN W7 _⟩
          · have hjj : j = t.sp.length := by omega
            have HONE : Hid (∀ (i : Nat) (s : Sn), t.sp[i]? = some s → s.tr = t.id ∧ mayB s = true) := Lib.hid fun i s h => HO.out i s (by rw [hjj]; exact (List.getElem?_eq_some_iff.1 h).1) h
            have HSS : Hid (Ss wj.drew (.slice A2 t.sp.length c2) t.sp) := Lib.hid ((HD6.out.below hBj).below (Below.refl _ _).drew)
            have r1 : ∀ u, Below wj.heap.size wj u → u.cell? ⟨gt, 1, none⟩ = some (.slice A2 t.sp.length c2) := fun u h => (h.cell (p := ⟨gt, 1, none⟩) hgj).trans y1
            go_wp2_with fail
            clear y1
            refine wp_region_mix [(0, false), (1, false), (3, false), (4, false), (2, true), (5, true), (6, true)] (fun u => Below wj.heap.size wj u) (by kernel_rfl) (by kernel_rfl) (by kernel_rfl) rfl (Below.refl _ _).drew ?_
            repeat
              (refine mix_read (o := ⟨_, _, _, _, _, _⟩) (v := ?_) rfl (by rfl) (fun w' hS => ?_) ?_
               rotate_left
               go_simp
               with_reducible rfl
               try simp only [Act.put, List.setIfInBounds_toArray, List.set_cons_zero, List.set_cons_succ])
            clear r1
            refine mix_step (o := ⟨_, _, _, _, _, _⟩) rfl (fun K hK => ?_)
            go_simp
            refine (Gather_any _ t.sp _ HSS.out (by omega)).mono ?_
            rintro e u1 ⟨v1, r1, rfl, o1, G1, b1⟩
            have hU1 : Below wj.heap.size wj u1 := ⟨b1.os, b1.tape, b1.output, b1.size, b1.block⟩
            have HO1 := Lib.hid o1.ss
            have HSS1 : Hid (Ss u1 (.slice A2 t.sp.length c2) t.sp) := Lib.hid (HSS.out.below b1)
            have HG1 := Lib.hid G1
            refine hK.out _ _ hU1 ?_
            clear hK K o1 G1 b1
            try simp only [Act.put, List.setIfInBounds_toArray, List.set_cons_zero, List.set_cons_succ]
            refine mix_step (o := ⟨_, _, _, _, _, _⟩) rfl (fun K hK => ?_)
            go_simp
            refine (Spans_any _ _ _ _ _ HO1.out HSS1.out).mono ?_
            rintro e u2 ⟨rfl, b2⟩
            have hU2 := hU1.trans (b2.mono hU1.size)
            refine hK.out _ _ hU2 ?_
            clear hK K b2
            try simp only [Act.put, List.setIfInBounds_toArray, List.set_cons_zero, List.set_cons_succ]
            refine mix_step (o := ⟨_, _, _, _, _, _⟩) rfl (fun K hK => ?_)
            go_simp
            refine hK.out _ _ hU2 ?_
            clear hK K
            refine mix_done ?_
            have W8 := Wj.trans (hU2.mono Wj.size)
            cases heq : eqSp r1 t.sp with
            | false =>
              have hn : Hid (isB l = false) := Lib.hid <| isB_false fun hc => by
                have := HG1.out.one (hc.each 0 t HKS.out).gat
                rw [this, eqSp_refl] at heq
                cases heq
              clear heq
              go_wp2_with fail
              go_ret
              exact ⟨ret_bool hn.out.symm, W8⟩
            | true =>
              have HCAN : Hid (CanS t.id t.sp) := Lib.hid (by
                have e := (eqSp_iff r1 t.sp).1 heq
                have g := HG1.out
                rw [e] at g
                exact gat_can (by omega) (by omega) HONE.out g)
              clear heq
              go_wp2_with fail
              refine ⟨⟨0 + 1, by omega, by go_num, W8, Lib.hid (fun j x h1 h2 => ?_), Lib.hid (fun j x y h1 h2 h3 => ?_)⟩, by simp [intOf]; omega⟩
              · rcases Nat.lt_or_eq_of_le (Nat.le_of_lt_succ h1) with h4 | h4
                · exact HC.out j x h4 h2
                · subst h4
                  rw [HKS.out] at h2
                  injection h2 with h2
                  subst h2
                  exact HCAN.out
              · rcases Nat.lt_or_eq_of_le (Nat.le_of_lt_succ h1) with h4 | h4
                · exact HU.out j x y h4 h2 h3
                · exact HL.out j x y h4 h2 h3
      · obtain ⟨m, hkm⟩ : ∃ m, k = m + 1 := ⟨k - 1, by omega⟩
        obtain ⟨p, hp⟩ : ∃ p, l[m]? = some p := ⟨_, List.getElem?_eq_getElem (by omega)⟩
        have HP := Lib.hid hp
        obtain ⟨g', o', dp, he, _, p0, _⟩ := (H.out.below WB5).cells hp
        simp only [Option.some.injEq, Addr.mk.injEq, and_true] at he
        obtain ⟨rfl, rfl⟩ := he
        have hpos : 0 < k := by omega
        have hpos2 : decide (0 < k) = true := decide_eq_true hpos
        have hwm : IntKind.i64.wrap ((k : Int) - 1) = (m : Int) := i64_pred hkm (by omega)
        have hm0 : (0 : Int) ≤ (m : Int) := by omega
        have hm1 : (m : Int) < (l.length : Int) := by omega
        have HKM := Lib.hid hkm
        clear hp hkm hk0
        by_cases hle : p.id ≥ t.id
        · have hn : Hid (isB l = false) := Lib.hid <| isB_false fun hc => by have := hc.up m p t HP.out (by rw [← HKM.out]; exact HKS.out); omega
          go_quiet (fail)
          go_wp2_with fail
          go_ret
          exact ⟨ret_bool hn.out.symm, below_drewN WB5 _⟩
        · have HL : Hid (∀ (j : Nat) (x y : Tn), j + 1 = k → l[j]? = some x → l[j + 1]? = some y → x.id < y.id) := Lib.hid fun j x y h hx hy => by
            have hj : j = m := by have := HKM.out; omega
            subst hj
            rw [HP.out] at hx
            rw [← HKM.out, HKS.out] at hy
            injection hx with hx
            injection hy with hy
            subst hx hy
            omega
          have hle2 : p.id < t.id := by omega
          go_quiet (fail)
          clear hle hle2 hpos hpos2 p0
          have W6 := below_drewN WB5 nq
          have HBK6 : Hid (Blk ((wr.alloc (.cells #[.int .u64 t.id, .slice A2 t.sp.length c2] 50)).drewN nq) wr.heap.size 50 #[.int .u64 t.id, .slice A2 t.sp.length c2]) := HBK
          have hgn6 : wr.heap.size < ((wr.alloc (.cells #[.int .u64 t.id, .slice A2 t.sp.length c2] 50)).drewN nq).heap.size := hgn
          have HD6 : Hid (Ss ((wr.alloc (.cells #[.int .u64 t.id, .slice A2 t.sp.length c2] 50)).drewN nq) (.slice A2 t.sp.length c2) t.sp) := HD
          clear x0 x1 W5
          revert W6 HBK6 hgn6 HD6
          generalize (wr.alloc (.cells #[.int .u64 t.id, .slice A2 t.sp.length c2] 50)).drewN nq = w6
          generalize wr.heap.size = gt
          intro W6 HBK6 hgn6 HD6
          go_wp2_with fail
          go_loopw [5] (fun jv wv => ∃ j : Nat, j ≤ t.sp.length ∧ jv = .int .i64 (j : Int) ∧ Below w6.heap.size w6 wv ∧ Hid (∀ (i : Nat) (s : Sn), i < j → t.sp[i]? = some s → s.tr = t.id ∧ mayB s = true)) (fun jv _ => t.sp.length - (intOf jv).toNat)
          case atStart => exact ⟨0, Nat.zero_le _, rfl, Below.refl _ _, Lib.hid (fun i s h => absurd h (Nat.not_lt_zero _))⟩
          case round =>
            obtain ⟨j, hj, rfl, hBj, HO⟩ := hrel
            revert hBj
            generalize wr = wj
            intro hBj
            have y1 : wj.cell? ⟨gt, 1, none⟩ = some (.slice A2 t.sp.length c2) := (hBj.cell (p := ⟨gt, 1, none⟩) hgn6).trans (HBK6.out.cell 1)
            have Wj := W6.trans (hBj.mono W6.size)
            have hgj := Nat.lt_of_lt_of_le hgn6 hBj.size
            by_cases hjl : j < t.sp.length
            · obtain ⟨s, hs⟩ : ∃ s, t.sp[j]? = some s := ⟨_, List.getElem?_eq_getElem hjl⟩
              have HSJ := Lib.hid hs
              obtain ⟨gs, os, ds, rfl, hgs, z0, z1, z2, z3, z4, hdd, hok⟩ := (HD6.out.below hBj).cells hs
              obtain ⟨A3, c3, hdl, _⟩ := id hdd
              subst hdl
              have SVJ : Hid (SV wj (.agg #[.int .u64 s.tr, .int .u64 s.id, .int .i64 s.st, .int .i64 s.en, .slice A3 s.data.length c3]) s) := Lib.hid ⟨hok, _, rfl, hdd⟩
              have hj0 : (0 : Int) ≤ (j : Int) := by omega
              have hj1 : (j : Int) < (t.sp.length : Int) := by omega
              clear hs hdd hok
              go_wp2_with fail
              refine (May_any _ s _ SVJ.out).mono ?_
              rintro e w7 ⟨rfl, hb7⟩
              have W7 := Wj.trans (hb7.mono Wj.size)
              have W67 := hBj.trans (hb7.mono hBj.size)
              cases hmay : mayB s with
              | false =>
                have hn : Hid (isB l = false) := Lib.hid <| isB_false fun hc => by have := ((hc.each k t HKS.out).one j s HSJ.out).2; rw [hmay] at this; cases this
                clear hmay
                go_wp2_with fail
                go_quiet (fail)
                go_wp2_with fail
                go_ret
                exact ⟨ret_bool hn.out.symm, below_drewN W7 _⟩
              | true =>
                have HMAY := Lib.hid hmay
                clear hmay
                have y0' : w7.cell? ⟨gt, 0, none⟩ = some (.int .u64 t.id) := (W67.cell (p := ⟨gt, 0, none⟩) hgn6).trans (HBK6.out.cell 0)
                have y1' : w7.cell? ⟨gt, 1, none⟩ = some (.slice (some ⟨gs, os, none⟩) t.sp.length c2) := (hb7.cell (p := ⟨gt, 1, none⟩) hgj).trans y1
                have z0' : w7.cell? ⟨gs, os + j * 5, none⟩ = some (.int .u64 s.tr) := (hb7.cell (p := ⟨gs, os + j * 5, none⟩) hgs).trans z0
                clear y1 z0 z1 z2 z3 z4
                by_cases htr : s.tr = t.id
                · have HTR := Lib.hid htr
                  have k1 : (s.tr != t.id) = false := by simpa using htr
                  clear htr
                  go_wp2_with fail
                  go_quiet (fail)
                  go_wp2_with fail
                  refine ⟨⟨j + 1, by omega, by go_num, below_drewN W67 _, Lib.hid (fun i x h1 h2 => ?_)⟩, by simp [intOf]; omega⟩
                  rcases Nat.lt_or_eq_of_le (Nat.le_of_lt_succ h1) with h4 | h4
                  · exact HO.out i x h4 h2
                  · subst h4
                    rw [HSJ.out] at h2
                    injection h2 with h2
                    subst h2
                    exact ⟨HTR.out, HMAY.out⟩
                · have hn : Hid (isB l = false) := Lib.hid <| isB_false fun hc => htr ((hc.each k t HKS.out).one j s HSJ.out).1
                  have k1 : (s.tr != t.id) = true := by simpa using htr
                  clear htr
                  go_wp2_with fail
                  go_quiet (fail)
                  go_wp2_with fail
                  go_ret
                  exact ⟨ret_bool hn.out.symm, below_drewN W7 _⟩
            · have hjj : j = t.sp.length := by omega
              have HONE : Hid (∀ (i : Nat) (s : Sn), t.sp[i]? = some s → s.tr = t.id ∧ mayB s = true) := Lib.hid fun i s h => HO.out i s (by rw [hjj]; exact (List.getElem?_eq_some_iff.1 h).1) h
              have HSS : Hid (Ss wj.drew (.slice A2 t.sp.length c2) t.sp) := Lib.hid ((HD6.out.below hBj).below (Below.refl _ _).drew)
              have r1 : ∀ u, Below wj.heap.size wj u → u.cell? ⟨gt, 1, none⟩ = some (.slice A2 t.sp.length c2) := fun u h => (h.cell (p := ⟨gt, 1, none⟩) hgj).trans y1
              go_wp2_with fail
              clear y1
              refine wp_region_mix [(0, false), (1, false), (3, false), (4, false), (2, true), (5, true), (6, true)] (fun u => Below wj.heap.size wj u) (by kernel_rfl) (by kernel_rfl) (by kernel_rfl) rfl (Below.refl _ _).drew ?_
              repeat
                (refine mix_read (o := ⟨_, _, _, _, _, _⟩) (v := ?_) rfl (by rfl) (fun w' hS => ?_) ?_
                 rotate_left
                 go_simp
                 with_reducible rfl
                 try simp only [Act.put, List.setIfInBounds_toArray, List.set_cons_zero, List.set_cons_succ])
              clear r1
              refine mix_step (o := ⟨_, _, _, _, _, _⟩) rfl (fun K hK => ?_)
              go_simp
              refine (Gather_any _ t.sp _ HSS.out (by omega)).mono ?_
              rintro e u1 ⟨v1, r1, rfl, o1, G1, b1⟩
              have hU1 : Below wj.heap.size wj u1 := ⟨b1.os, b1.tape, b1.output, b1.size, b1.block⟩
              have HO1 := Lib.hid o1.ss
              have HSS1 : Hid (Ss u1 (.slice A2 t.sp.length c2) t.sp) := Lib.hid (HSS.out.below b1)
              have HG1 := Lib.hid G1
              refine hK.out _ _ hU1 ?_
              clear hK K o1 G1 b1
              try simp only [Act.put, List.setIfInBounds_toArray, List.set_cons_zero, List.set_cons_succ]
              refine mix_step (o := ⟨_, _, _, _, _, _⟩) rfl (fun K hK => ?_)
              go_simp
              refine (Spans_any _ _ _ _ _ HO1.out HSS1.out).mono ?_
              rintro e u2 ⟨rfl, b2⟩
              have hU2 := hU1.trans (b2.mono hU1.size)
              refine hK.out _ _ hU2 ?_
              clear hK K b2
              try simp only [Act.put, List.setIfInBounds_toArray, List.set_cons_zero, List.set_cons_succ]
              refine mix_step (o := ⟨_, _, _, _, _, _⟩) rfl (fun K hK => ?_)
              go_simp
              refine hK.out _ _ hU2 ?_
              clear hK K
              refine mix_done ?_
              have W8 := Wj.trans (hU2.mono Wj.size)
              cases heq : eqSp r1 t.sp with
              | false =>
                have hn : Hid (isB l = false) := Lib.hid <| isB_false fun hc => by
                  have := HG1.out.one (hc.each k t HKS.out).gat
                  rw [this, eqSp_refl] at heq
                  cases heq
                clear heq
                go_wp2_with fail
                go_ret
                exact ⟨ret_bool hn.out.symm, W8⟩
              | true =>
                have HCAN : Hid (CanS t.id t.sp) := Lib.hid (by
                  have e := (eqSp_iff r1 t.sp).1 heq
                  have g := HG1.out
                  rw [e] at g
                  exact gat_can (by omega) (by omega) HONE.out g)
                clear heq
                go_wp2_with fail
                refine ⟨⟨k + 1, by omega, by go_num, W8, Lib.hid (fun j x h1 h2 => ?_), Lib.hid (fun j x y h1 h2 h3 => ?_)⟩, by simp [intOf]; omega⟩
                · rcases Nat.lt_or_eq_of_le (Nat.le_of_lt_succ h1) with h4 | h4
                  · exact HC.out j x h4 h2
                  · subst h4
                    rw [HKS.out] at h2
                    injection h2 with h2
                    subst h2
                    exact HCAN.out
                · rcases Nat.lt_or_eq_of_le (Nat.le_of_lt_succ h1) with h4 | h4
                  · exact HU.out j x y h4 h2 h3
                  · exact HL.out j x y h4 h2 h3
    · have hkk : k = l.length := by omega
      have HT : Hid (isB l = true) := Lib.hid <| isB_true ⟨fun j t h => HC.out j t (by rw [hkk]; exact (List.getElem?_eq_some_iff.1 h).1) h, fun j t u h h' => HU.out j t u (by rw [hkk]; exact (List.getElem?_eq_some_iff.1 h').1) h h'⟩
      subst hkk
      go_wp2_with fail
      go_ret
      exact ⟨ret_bool HT.out.symm, hB⟩

end Go.Proofs.Ytnlflgannghfpaa
