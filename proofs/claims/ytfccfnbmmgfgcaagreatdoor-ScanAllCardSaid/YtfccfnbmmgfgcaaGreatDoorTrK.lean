/-
  WHETHER TRACES ARE CANONICAL: as plain lists; CONTRACTS of trace.isCanonical, trace.Is and the document's Is. Conditions: what each theorem says.
  CONTRACT of trace.Is. No condition.
  CONTRACT of the document's Is. No condition.
-/
import Derived.Test.YtfccfnbmmgfgcaaGreatDoorTrI
import Derived.Maps.OwnSet
namespace Go.Proofs.YtfccfnbmmgfgcaaGreatDoor
open Go.RowKit Go.Maps
set_option maxRecDepth 100000


structure CanS (i : Int) (l : List Sn) : Prop where
  lo : 1 ≤ l.length
  hi : l.length ≤ 100
  one : ∀ (k : Nat) (s : Sn), l[k]? = some s → s.tr = i ∧ mayB s = true
  up : ∀ (k : Nat) (s t : Sn), l[k]? = some s → l[k + 1]? = some t → cmpS s t ≤ 0
  ne : ∀ (j k : Nat) (s t : Sn), j < k → l[j]? = some s → l[k]? = some t → s.id ≠ t.id
theorem CanS.le {i : Int} {l : List Sn} (h : CanS i l) (j : Nat) (s : Sn) (hj : l[j]? = some s) : ∀ (d : Nat) (t : Sn), l[j + d]? = some t → cmpS s t ≤ 0
  | 0, t, ht => by
    rw [Nat.add_zero, hj] at ht
    injection ht with ht
    subst ht
    rw [three_cmpS.rf]
    omega
  | d + 1, t, ht => by
    have hl := (List.getElem?_eq_some_iff.1 ht).1
    have hu : l[j + d]? = some (l[j + d]'(by omega)) := List.getElem?_eq_getElem (by omega)
    exact three_cmpS.tr _ _ _ (h.le j s hj d _ hu) (h.up _ _ _ hu ht)
theorem CanS.gat {i : Int} {l : List Sn} (h : CanS i l) : Gat l l := by
  constructor
  · rw [List.pairwise_iff_getElem]
    intro j k hj hk hjk
    have h1 : l[j]? = some l[j] := List.getElem?_eq_getElem hj
    have h2 : l[k]? = some l[k] := List.getElem?_eq_getElem hk
    have hle := h.le j l[j] h1 (k - j) l[k] (by rw [show j + (k - j) = k by omega]; exact h2)
    have hne : cmpS l[j] l[k] ≠ 0 := fun e => h.ne j k _ _ hjk h1 h2 (key_iff.1 (cmpS_key e)).2
    omega
  · intro s
    refine ⟨fun hs => ⟨hs, fun t ht hk => ?_⟩, fun hs => hs.1⟩
    obtain ⟨j, hj⟩ := List.mem_iff_getElem?.1 ht
    obtain ⟨k, hk'⟩ := List.mem_iff_getElem?.1 hs
    have e := (key_iff.1 hk).2
    rcases Nat.lt_trichotomy j k with h1 | h1 | h1
    · exact absurd e (h.ne j k _ _ h1 hj hk')
    · subst h1
      rw [hj] at hk'
      injection hk' with hk'
      subst hk'
      rw [not_less_iff, three_cmpL.rf]
      omega
    · exact absurd e.symm (h.ne k j _ _ h1 hk' hj)
theorem gat_can {i : Int} {l : List Sn} (lo : 1 ≤ l.length) (hi : l.length ≤ 100) (one : ∀ (k : Nat) (s : Sn), l[k]? = some s → s.tr = i ∧ mayB s = true) (h : Gat l l) : CanS i l := by
  have hup := h.up
  rw [List.pairwise_iff_getElem] at hup
  have lt : ∀ (j k : Nat) (s t : Sn), j < k → l[j]? = some s → l[k]? = some t → cmpS s t < 0 := fun j k s t hjk hj hk => by
    obtain ⟨h1, e1⟩ := List.getElem?_eq_some_iff.1 hj
    obtain ⟨h2, e2⟩ := List.getElem?_eq_some_iff.1 hk
    have := hup j k h1 h2 hjk
    rw [e1, e2] at this
    exact this
  refine ⟨lo, hi, one, fun k s t h1 h2 => by have := lt k (k + 1) s t (by omega) h1 h2; omega, fun j k s t hjk h1 h2 e => ?_⟩
  have h3 := lt j k s t hjk h1 h2
  have e2 := (h.mem s).1 (List.mem_of_getElem? h1)
  have e3 := (h.mem t).1 (List.mem_of_getElem? h2)
  have := e2.eq e3 (key_iff.2 ⟨((one j s h1).1).trans ((one k t h2).1).symm, e⟩)
  subst this
  rw [three_cmpS.rf] at h3
  omega

open Classical in
noncomputable def canB (i : Int) (l : List Sn) : Bool := decide (CanS i l)
theorem canB_true {i : Int} {l : List Sn} (h : CanS i l) : canB i l = true := by simp [canB, h]
theorem canB_false {i : Int} {l : List Sn} (h : ¬ CanS i l) : canB i l = false := by simp [canB, h]

structure IsT (l : List Tn) : Prop where
  each : ∀ (k : Nat) (t : Tn), l[k]? = some t → CanS t.id t.sp
  up : ∀ (k : Nat) (t u : Tn), l[k]? = some t → l[k + 1]? = some u → t.id < u.id

open Classical in
noncomputable def isB (l : List Tn) : Bool := decide (IsT l)
theorem isB_true {l : List Tn} (h : IsT l) : isB l = true := by simp [isB, h]
theorem isB_false {l : List Tn} (h : ¬ IsT l) : isB l = false := by simp [isB, h]

section
variable {H : Type} {P : Program} {k : TypeId} {R : Value → Option (DataW H × List MemPlace)} {w w' : World} {b n : Nat} {D : DataW H}
theorem ownsMap_below (h : w.ownsMap P k R b n D) (hb : Below w.heap.size w w') : w'.ownsMap P k R b n D := by
  have hl := h.lt
  obtain ⟨es, clock, h1, r⟩ := h
  exact ⟨es, clock, (hb.block _ hl).trans h1, r⟩
end

theorem lawId : Keyed Tryz.prog 22 := int_keyed Tryz.underlying22
theorem zeroUnit (w : World) : (zeroValue 224).run Tryz.prog w = .ok (.agg #[]) w := by kernel_rfl
theorem hasNil {H : Type} (x : Lit) : Maps.has (DataW.map (H := H) []) x = false := rfl
theorem hasPut {H : Type} {D : DataW H} (hD : IsMap D) (x y : Int) (hx : 0 ≤ x ∧ x ≤ 18446744073709551615) (d : DataW H) : Maps.has (D.put (.int .u64 x) d) (.int .u64 y) = true ↔ y = x ∨ Maps.has D (.int .u64 y) = true := by
  by_cases e : y = x
  · subst e
    rw [has_put_same hD (by simp [WideAt.IsKeyLit])]
    simp
  · rw [has_put_other (by intro h; injection h with _ h; exact e h)]
    simp [e]

set_option maxHeartbeats 6400000 in
set_option maxRecDepth 100000 in
theorem isCanonical_any (v : Value) (t : Tn) (w : World) (h : TV w v t) :
    Calls Tryz.prog 124 #[v] w fun e w' => e = .returned (.bool (canB t.id t.sp)) ∧ Below w.heap.size w w' := by
  obtain ⟨⟨i0, i1⟩, d, rfl, hd⟩ := h
  obtain ⟨A, c, rfl, hc1, hc2⟩ := hd.form
  have hmm := @run_makeMap Tryz.prog
  obtain ⟨w1, hw1⟩ : ∃ w1, w1 = w.alloc (.cells #[.int .u64 t.id, .slice A t.sp.length c] 43) := ⟨_, rfl⟩
  have hbl0 : Below w.heap.size w (w.alloc (.cells #[.int .u64 t.id, .slice A t.sp.length c] 43)) := (Below.refl _ _).alloc (Nat.le_refl _) _
  have hbl : Below w.heap.size w w1 := by rw [hw1]; exact hbl0
  have hB1 := Blk.new w 43 #[.int .u64 t.id, .slice A t.sp.length c]
  have hsz : w1.heap.size = w.heap.size + 1 := by rw [hw1]; simp
  have hg1 : w.heap.size < w1.heap.size := by omega
  rw [← hw1] at hB1
  have HS := Lib.hid (hd.below hbl)
  have b0 := hB1.cell 0
  have b1 := hB1.cell 1
  simp at b0 b1
  have B0 := Lib.hid b0
  have B1 := Lib.hid b1
  have HW1 := Lib.hid hw1
  clear hd hB1 b0 b1 hw1
  by_cases hlo : (t.sp.length : Int) < 1
  · have hn : Hid (canB t.id t.sp = false) := Lib.hid <| canB_false fun hc => by have := hc.lo; omega
    go_enter Tryz.func124, Tryz.ntmps124
    go_wp2_with fail
    go_ret
    exact ⟨ret_bool hn.out.symm, hbl0⟩
  by_cases hhi : (100 : Int) < t.sp.length
  · have hn : Hid (canB t.id t.sp = false) := Lib.hid <| canB_false fun hc => by have := hc.hi; omega
    go_enter Tryz.func124, Tryz.ntmps124
    go_wp2_with fail
    go_ret
    exact ⟨ret_bool hn.out.symm, hbl0⟩
  go_enter Tryz.func124, Tryz.ntmps124
  go_wp2_with fail
  go_loopw [22] (fun iv wr => ∃ (k : Nat) (D : DataW Unit), k ≤ t.sp.length ∧ iv = .int .i64 (k : Int) ∧ Below w1.heap.size w1 wr ∧ wr.ownsMap Tryz.prog 22 unitElem (w.heap.size + 1) k D ∧
      Hid (∀ x : Int, Maps.has D (.int .u64 x) = true ↔ ∃ j s, j < k ∧ t.sp[j]? = some s ∧ s.id = x) ∧
      Hid (∀ (j : Nat) (s : Sn), j < k → t.sp[j]? = some s → s.tr = t.id ∧ mayB s = true) ∧
      Hid (∀ (j : Nat) (s u : Sn), j + 1 < k → t.sp[j]? = some s → t.sp[j + 1]? = some u → cmpS s u ≤ 0) ∧
      Hid (∀ (i j : Nat) (s u : Sn), i < j → j < k → t.sp[i]? = some s → t.sp[j]? = some u → s.id ≠ u.id)) (fun iv _ => t.sp.length - (intOf iv).toNat)
  case atStart =>
    rw [← HW1.out]
    exact ⟨0, .map [], Nat.zero_le _, rfl, (Below.refl _ _).alloc (Nat.le_refl _) _, by rw [← hsz]; exact World.ownsMap_made _ _ _ _, Lib.hid (fun x => by simp [hasNil]), Lib.hid (fun j s h => absurd h (Nat.not_lt_zero _)), Lib.hid (fun j s u h => absurd h (Nat.not_lt_zero _)), Lib.hid (fun i j s u _ h => absurd h (Nat.not_lt_zero _))⟩
  case round =>
    obtain ⟨k, D, hk, rfl, hB, hM, HD, HONE, HUP, HNE⟩ := hrel
    have b0 := (hB.cell (p := ⟨w.heap.size, 0, none⟩) hg1).trans B0.out
    have b1 := (hB.cell (p := ⟨w.heap.size, 1, none⟩) hg1).trans B1.out
    have hg2 := Nat.lt_of_lt_of_le hg1 hB.size
    by_cases hkl : k < t.sp.length
    · obtain ⟨s, hks⟩ : ∃ s, t.sp[k]? = some s := ⟨_, List.getElem?_eq_getElem hkl⟩
      obtain ⟨gl, ol, dl, rfl, hgl, x0, x1, x2, x3, x4, hdd, hok⟩ := (HS.out.below hB).cells hks
      obtain ⟨A2, c2, hdl, _⟩ := id hdd
      subst hdl
      have HOK : Hid s.ok := Lib.hid hok
      have HKS := Lib.hid hks
      have HKEY : Hid (keyOf Tryz.prog 22 (.int .u64 s.id) = some (.int .u64 s.id)) := Lib.hid (keyOf_int_mk Tryz.underlying22 (by have := hok.id0; have := hok.id1; simp [Lit.wf, IntKind.min, IntKind.max, IntKind.signed, IntKind.bits]; omega))
      have hb0 : (0 : Int) ≤ (k : Int) := by omega
      have hb1 : (k : Int) < (t.sp.length : Int) := by omega
      have W5 : Below wr.heap.size wr (wr.alloc (.cells #[.int .u64 s.tr, .int .u64 s.id, .int .i64 s.st, .int .i64 s.en, .slice A2 s.data.length c2] 87)) := (Below.refl _ _).alloc (Nat.le_refl _) _
      have WB5 : Below w1.heap.size w1 (wr.alloc (.cells #[.int .u64 s.tr, .int .u64 s.id, .int .i64 s.st, .int .i64 s.en, .slice A2 s.data.length c2] 87)) := hB.alloc hB.size _
      have B5 := Lib.hid (Blk.new wr 87 #[.int .u64 s.tr, .int .u64 s.id, .int .i64 s.st, .int .i64 s.en, .slice A2 s.data.length c2])
      have SV5 : Hid (SV (wr.alloc (.cells #[.int .u64 s.tr, .int .u64 s.id, .int .i64 s.st, .int .i64 s.en, .slice A2 s.data.length c2] 87)) (.agg #[.int .u64 s.tr, .int .u64 s.id, .int .i64 s.st, .int .i64 s.en, .slice A2 s.data.length c2]) s) := Lib.hid ⟨hok, _, rfl, hdd.below W5⟩
      have HM := Lib.hid (ownsMap_below hM W5)
      have hg5 : wr.heap.size < (wr.alloc (.cells #[.int .u64 s.tr, .int .u64 s.id, .int .i64 s.st, .int .i64 s.en, .slice A2 s.data.length c2] 87)).heap.size := by simp
      clear hks hdd hok hM
      by_cases htr : s.tr = t.id
      · have HTR := Lib.hid htr
        have k1 : (s.tr != t.id) = false := by simpa using htr
        clear htr
        go_wp2_with fail
        refine (may_any _ s _ SV5.out).mono ?_
        rintro e w6 ⟨rfl, hb6⟩
        have W6 : Below w1.heap.size w1 w6 := WB5.trans (hb6.mono WB5.size)
        have HM6 := Lib.hid (ownsMap_below HM.out hb6)
        have C5 := Lib.hid (B5.out.below hb6 hg5)
        cases hmay : mayB s with
        | false =>
          have hn : Hid (canB t.id t.sp = false) := Lib.hid <| canB_false fun hc => by have := (hc.one k s HKS.out).2; rw [hmay] at this; cases this
          clear hmay
          go_wp2_with fail
          go_ret
          exact ⟨ret_bool hn.out.symm, hbl.trans (W6.mono (Nat.le_of_lt hg1))⟩
        | true =>
          have HMAY := Lib.hid hmay
          clear hmay
          have hg6 := Nat.lt_of_lt_of_le hg5 hb6.size
          have HB6 := Lib.hid (W5.trans (hb6.mono W5.size))
          have HSZ : Hid (wr.heap.size ≤ w6.heap.size) := Lib.hid HB6.out.size
          have SV5 : Hid (SV w6 _ s) := Lib.hid (SV5.out.below hb6)
          clear x0 x1 x2 x3 x4 b0 b1 hb6 W5 WB5
          go_wp2_with fail
          by_cases hk0 : k = 0
          · subst hk0
            go_quiet (fail)
            have W7 := below_drewN W6 nq
            have HM7 := Lib.hid (ownsMap_below HM6.out (below_drewN (Below.refl w6.heap.size w6) nq))
            have y0 : (w6.drewN nq).cell? ⟨wr.heap.size, 1, none⟩ = some (.int .u64 s.id) := by have := C5.out.cell 1; simpa using this
            have HLE : Hid (∀ (j : Nat) (x y : Sn), j + 1 = 0 → t.sp[j]? = some x → t.sp[j + 1]? = some y → cmpS x y ≤ 0) := Lib.hid fun j x y h => absurd h (by omega)
            have hsz7 : w6.heap.size ≤ (w6.drewN nq).heap.size := Nat.le_refl _
            revert W7 HM7 y0 hsz7
            generalize w6.drewN nq = w7
            intro W7 HM7 y0 hsz7
            have hg7 := Nat.lt_of_lt_of_le hg6 hsz7
            have y1 := (((Below.refl w7.heap.size w7).alloc (Nat.le_refl _) (.cells #[] 224)).cell (p := ⟨wr.heap.size, 1, none⟩) hg7).trans y0
            cases hh : Maps.has D (.int .u64 s.id) with
            | true =>
              have HH := Lib.hid hh
              have hn : Hid (canB t.id t.sp = false) := Lib.hid <| canB_false fun hc => by
                obtain ⟨j, x, h1, h2, h3⟩ := (HD.out s.id).1 HH.out
                exact hc.ne j 0 x s h1 h2 HKS.out h3
              go_wp2_with (at_lookup; refine wpList_lookup_own_unit _ rfl _ _ 222 rfl 22 224 lawId Tryz.underlying222 (zeroUnit _) (w.heap.size + 1) 0 D rfl HM7.out _ _ rfl HKEY.out ?_)
              clear hh
              go_ret
              exact ⟨ret_bool hn.out.symm, hbl.trans ((W7.alloc W7.size _).mono hbl.size)⟩
            | false =>
              have HH := Lib.hid hh
              go_wp2_with (first | (at_lookup; refine wpList_lookup_own_unit _ rfl _ _ 222 rfl 22 224 lawId Tryz.underlying222 (zeroUnit _) (w.heap.size + 1) 0 D rfl HM7.out _ _ rfl HKEY.out ?_) | (at_mapUpdate; refine wpList_mapUpdate_own _ rfl _ _ _ 222 rfl 22 224 lawId Tryz.underlying222 (unitElem (H := Unit)) (w.heap.size + 1) 0 _ rfl (HM7.out.alloc _) (by unfold maxLen; omega) _ _ _ rfl rfl HKEY.out _ [] unitElem_mk ?_; intro w8 hown8 hgrow8))
              clear hh
              have W8 := (W7.alloc W7.size (.cells #[] 224)).grown hgrow8 (W7.alloc W7.size _).size (fun q hq => by injection hq with hq; omega)
              have HM8 := Lib.hid hown8
              clear hown8 hgrow8
              refine ⟨⟨0 + 1, _, by omega, by go_num, W8, HM8.out, Lib.hid (fun x => ?_), Lib.hid (fun j x h1 h2 => ?_), Lib.hid (fun j x y h1 h2 h3 => ?_), Lib.hid (fun i j x y h0 h1 h2 h3 => ?_)⟩, by simp [intOf]; omega⟩
              · rw [hasPut HM7.out.isMap s.id x ⟨HOK.out.id0, HOK.out.id1⟩, HD.out x]
                constructor
                · rintro (h | ⟨j, y, h1, h2, h3⟩)
                  · exact ⟨0, s, by omega, HKS.out, h.symm⟩
                  · exact ⟨j, y, by omega, h2, h3⟩
                · rintro ⟨j, y, h1, h2, h3⟩
                  rcases Nat.lt_or_eq_of_le (Nat.le_of_lt_succ h1) with h4 | h4
                  · exact .inr ⟨j, y, h4, h2, h3⟩
                  · subst h4
                    rw [HKS.out] at h2
                    injection h2 with h2
                    subst h2
                    exact .inl h3.symm
              · rcases Nat.lt_or_eq_of_le (Nat.le_of_lt_succ h1) with h4 | h4
                · exact HONE.out j x h4 h2
                · subst h4
                  rw [HKS.out] at h2
                  injection h2 with h2
                  subst h2
                  exact ⟨HTR.out, HMAY.out⟩
              · rcases Nat.lt_or_eq_of_le (Nat.le_of_lt_succ h1) with h4 | h4
                · exact HUP.out j x y h4 h2 h3
                · exact HLE.out j x y h4 h2 h3
              · rcases Nat.lt_or_eq_of_le (Nat.le_of_lt_succ h1) with h4 | h4
                · exact HNE.out i j x y h0 h4 h2 h3
                · subst h4
                  rw [HKS.out] at h3
                  injection h3 with h3
                  subst h3
                  intro e
                  have := (HD.out s.id).2 ⟨i, x, h0, h2, e⟩
                  rw [HH.out] at this
                  cases this
          · obtain ⟨m, hkm⟩ : ∃ m, k = m + 1 := ⟨k - 1, by omega⟩
            obtain ⟨p, hp⟩ : ∃ p, t.sp[m]? = some p := ⟨_, List.getElem?_eq_getElem (by omega)⟩
            have HP := Lib.hid hp
            obtain ⟨g', o', dp, he, _, p0, p1, p2, p3, p4, hdp, hokp⟩ := (HS.out.below W6).cells hp
            simp only [Option.some.injEq, Addr.mk.injEq, and_true] at he
            obtain ⟨rfl, rfl⟩ := he
            obtain ⟨A3, c3, hdl3, _⟩ := id hdp
            subst hdl3
            have SVP : Hid (SV w6 (.agg #[.int .u64 p.tr, .int .u64 p.id, .int .i64 p.st, .int .i64 p.en, .slice A3 p.data.length c3]) p) := Lib.hid ⟨hokp, _, rfl, hdp⟩
            have SVS : Hid (SV w6 (.agg #[.int .u64 s.tr, .int .u64 s.id, .int .i64 s.st, .int .i64 s.en, .slice A2 s.data.length c2]) s) := SV5
            have hgl6 := Nat.lt_of_lt_of_le hgl HSZ.out
            have q0 : ∀ u, Below w6.heap.size w6 u → u.cell? ⟨gl, ol + m * 5, none⟩ = some (.int .u64 p.tr) := fun u h => (h.cell hgl6).trans p0
            have q1 : ∀ u, Below w6.heap.size w6 u → u.cell? ⟨gl, ol + m * 5 + 1, none⟩ = some (.int .u64 p.id) := fun u h => (h.cell hgl6).trans p1
            have q2 : ∀ u, Below w6.heap.size w6 u → u.cell? ⟨gl, ol + m * 5 + 2, none⟩ = some (.int .i64 p.st) := fun u h => (h.cell hgl6).trans p2
            have q3 : ∀ u, Below w6.heap.size w6 u → u.cell? ⟨gl, ol + m * 5 + 3, none⟩ = some (.int .i64 p.en) := fun u h => (h.cell hgl6).trans p3
            have q4 : ∀ u, Below w6.heap.size w6 u → u.cell? ⟨gl, ol + m * 5 + 4, none⟩ = some (.slice A3 p.data.length c3) := fun u h => (h.cell hgl6).trans p4
            have t0 : ∀ u, Below w6.heap.size w6 u → u.cell? ⟨wr.heap.size, 0, none⟩ = some (.int .u64 s.tr) := fun u h => (h.cell hg6).trans (by simpa using C5.out.cell 0)
            have t1 : ∀ u, Below w6.heap.size w6 u → u.cell? ⟨wr.heap.size, 1, none⟩ = some (.int .u64 s.id) := fun u h => (h.cell hg6).trans (by simpa using C5.out.cell 1)
            have t2 : ∀ u, Below w6.heap.size w6 u → u.cell? ⟨wr.heap.size, 2, none⟩ = some (.int .i64 s.st) := fun u h => (h.cell hg6).trans (by simpa using C5.out.cell 2)
            have t3 : ∀ u, Below w6.heap.size w6 u → u.cell? ⟨wr.heap.size, 3, none⟩ = some (.int .i64 s.en) := fun u h => (h.cell hg6).trans (by simpa using C5.out.cell 3)
            have t4 : ∀ u, Below w6.heap.size w6 u → u.cell? ⟨wr.heap.size, 4, none⟩ = some (.slice A2 s.data.length c2) := fun u h => (h.cell hg6).trans (by simpa using C5.out.cell 4)
            have r1 : ∀ u, Below w6.heap.size w6 u → u.cell? ⟨w.heap.size, 1, none⟩ = some (.slice (some ⟨gl, ol, none⟩) t.sp.length c) := fun u h => (h.cell (Nat.lt_of_lt_of_le hg2 HSZ.out)).trans ((W6.cell (p := ⟨w.heap.size, 1, none⟩) hg1).trans B1.out)
            have hpos : 0 < k := by omega
            have hpos2 : decide (0 < k) = true := decide_eq_true hpos
            have hwm : IntKind.i64.wrap ((k : Int) - 1) = (m : Int) := by rw [show (k : Int) - 1 = (m : Int) by omega]; exact IntWalk.i64_in _ (by omega)
            have hm0 : (0 : Int) ≤ (m : Int) := by omega
            have hm1 : (m : Int) < (t.sp.length : Int) := by omega
            have HKM := Lib.hid hkm
            have HK0 := Lib.hid hk0
            clear hp p0 p1 p2 p3 p4 hdp hokp hkm hk0
            refine wp_region_mix [(0, false), (1, false), (2, false), (3, false), (4, false), (5, false), (6, false), (7, false), (8, false), (9, false), (10, true), (11, true), (12, true)] (fun u => Below w6.heap.size w6 u) (by kernel_rfl) (by kernel_rfl) (by kernel_rfl) rfl (Below.refl _ _).drew ?_
            repeat
              (refine mix_read (o := ⟨_, _, _, _, _, _⟩) (v := ?_) rfl (by rfl) (fun w' hS => ?_) ?_
               rotate_left
               go_simp
               with_reducible rfl
               try simp only [Act.put, List.setIfInBounds_toArray, List.set_cons_zero, List.set_cons_succ])
            clear q0 q1 q2 q3 q4 t0 t1 t2 t3 t4 r1
            refine mix_step (o := ⟨_, _, _, _, _, _⟩) rfl (fun K hK => ?_)
            go_simp
            refine (compare_any _ _ p s _ SVP.out.drew SV5.out.drew).mono ?_
            rintro e u1 ⟨rfl, hu1⟩
            have hU1 : Below w6.heap.size w6 u1 := ⟨hu1.os, hu1.tape, hu1.output, hu1.size, hu1.block⟩
            refine hK.out _ _ hU1 ?_
            clear hK K
            try simp only [Act.put, List.setIfInBounds_toArray, List.set_cons_zero, List.set_cons_succ]
            have W7 := W6.trans (hU1.mono W6.size)
            have HM7 := Lib.hid (ownsMap_below HM6.out hU1)
            have hsz7 : w6.heap.size ≤ u1.heap.size := hU1.size
            have y0 : u1.cell? ⟨wr.heap.size, 1, none⟩ = some (.int .u64 s.id) := (hU1.cell hg6).trans (by simpa using C5.out.cell 1)
            by_cases hcm : 0 < cmpS p s
            · have hcm2 : decide (0 < cmpS p s) = true := decide_eq_true hcm
              have hn : Hid (canB t.id t.sp = false) := Lib.hid <| canB_false fun hc => by have := hc.up m p s HP.out (by rw [← HKM.out]; exact HKS.out); omega
              refine mix_step (o := ⟨_, _, _, _, _, _⟩) rfl (fun K hK => ?_)
              go_simp
              refine hK.out _ _ hU1 ?_
              clear hK K
              try simp only [Act.put, List.setIfInBounds_toArray, List.set_cons_zero, List.set_cons_succ]
              refine mix_step (o := ⟨_, _, _, _, _, _⟩) rfl (fun K hK => ?_)
              go_simp
              refine hK.out _ _ hU1 ?_
              clear hK K
              refine mix_done ?_
              clear hcm hcm2 y0
              go_wp2_with fail
              go_ret
              exact ⟨ret_bool hn.out.symm, hbl.trans (W7.mono (Nat.le_of_lt hg1))⟩
            · have hcm2 : decide (0 < cmpS p s) = false := decide_eq_false hcm
              have HLE : Hid (∀ (j : Nat) (x y : Sn), j + 1 = k → t.sp[j]? = some x → t.sp[j + 1]? = some y → cmpS x y ≤ 0) := Lib.hid fun j x y h hx hy => by
                have hj : j = m := by have := HKM.out; omega
                subst hj
                rw [HP.out] at hx
                rw [← HKM.out, HKS.out] at hy
                injection hx with hx
                injection hy with hy
                subst hx hy
                omega
              refine mix_step (o := ⟨_, _, _, _, _, _⟩) rfl (fun K hK => ?_)
              go_simp
              refine hK.out _ _ hU1 ?_
              clear hK K
              try simp only [Act.put, List.setIfInBounds_toArray, List.set_cons_zero, List.set_cons_succ]
              refine mix_step (o := ⟨_, _, _, _, _, _⟩) rfl (fun K hK => ?_)
              go_simp
              refine hK.out _ _ hU1 ?_
              clear hK K
              refine mix_done ?_
              clear hcm hcm2 hpos hpos2
              revert W7 HM7 hsz7 y0
              clear hU1 hu1
              generalize u1 = w7
              intro W7 HM7 hsz7 y0
              have hg7 := Nat.lt_of_lt_of_le hg6 hsz7
              have y1 := (((Below.refl w7.heap.size w7).alloc (Nat.le_refl _) (.cells #[] 224)).cell (p := ⟨wr.heap.size, 1, none⟩) hg7).trans y0
              cases hh : Maps.has D (.int .u64 s.id) with
              | true =>
                have HH := Lib.hid hh
                have hn : Hid (canB t.id t.sp = false) := Lib.hid <| canB_false fun hc => by
                  obtain ⟨j, x, h1, h2, h3⟩ := (HD.out s.id).1 HH.out
                  exact hc.ne j k x s h1 h2 HKS.out h3
                go_wp2_with (at_lookup; refine wpList_lookup_own_unit _ rfl _ _ 222 rfl 22 224 lawId Tryz.underlying222 (zeroUnit _) (w.heap.size + 1) k D rfl HM7.out _ _ rfl HKEY.out ?_)
                clear hh
                go_ret
                exact ⟨ret_bool hn.out.symm, hbl.trans ((W7.alloc W7.size _).mono hbl.size)⟩
              | false =>
                have HH := Lib.hid hh
                go_wp2_with (first | (at_lookup; refine wpList_lookup_own_unit _ rfl _ _ 222 rfl 22 224 lawId Tryz.underlying222 (zeroUnit _) (w.heap.size + 1) k D rfl HM7.out _ _ rfl HKEY.out ?_) | (at_mapUpdate; refine wpList_mapUpdate_own _ rfl _ _ _ 222 rfl 22 224 lawId Tryz.underlying222 (unitElem (H := Unit)) (w.heap.size + 1) k _ rfl (HM7.out.alloc _) (by unfold maxLen; omega) _ _ _ rfl rfl HKEY.out _ [] unitElem_mk ?_; intro w8 hown8 hgrow8))
                clear hh
                have W8 := (W7.alloc W7.size (.cells #[] 224)).grown hgrow8 (W7.alloc W7.size _).size (fun q hq => by injection hq with hq; omega)
                have HM8 := Lib.hid hown8
                clear hown8 hgrow8
                refine ⟨⟨k + 1, _, by omega, by go_num, W8, HM8.out, Lib.hid (fun x => ?_), Lib.hid (fun j x h1 h2 => ?_), Lib.hid (fun j x y h1 h2 h3 => ?_), Lib.hid (fun i j x y h0 h1 h2 h3 => ?_)⟩, by simp [intOf]; omega⟩
                · rw [hasPut HM7.out.isMap s.id x ⟨HOK.out.id0, HOK.out.id1⟩, HD.out x]
                  constructor
                  · rintro (h | ⟨j, y, h1, h2, h3⟩)
                    · exact ⟨k, s, by omega, HKS.out, h.symm⟩
                    · exact ⟨j, y, by omega, h2, h3⟩
                  · rintro ⟨j, y, h1, h2, h3⟩
                    rcases Nat.lt_or_eq_of_le (Nat.le_of_lt_succ h1) with h4 | h4
                    · exact .inr ⟨j, y, h4, h2, h3⟩
                    · subst h4
                      rw [HKS.out] at h2
                      injection h2 with h2
                      subst h2
                      exact .inl h3.symm
                · rcases Nat.lt_or_eq_of_le (Nat.le_of_lt_succ h1) with h4 | h4
                  · exact HONE.out j x h4 h2
                  · subst h4
                    rw [HKS.out] at h2
                    injection h2 with h2
                    subst h2
                    exact ⟨HTR.out, HMAY.out⟩
                · rcases Nat.lt_or_eq_of_le (Nat.le_of_lt_succ h1) with h4 | h4
                  · exact HUP.out j x y h4 h2 h3
                  · exact HLE.out j x y h4 h2 h3
                · rcases Nat.lt_or_eq_of_le (Nat.le_of_lt_succ h1) with h4 | h4
                  · exact HNE.out i j x y h0 h4 h2 h3
                  · subst h4
                    rw [HKS.out] at h3
                    injection h3 with h3
                    subst h3
                    intro e
                    have := (HD.out s.id).2 ⟨i, x, h0, h2, e⟩
                    rw [HH.out] at this
                    cases this
      · have hn : Hid (canB t.id t.sp = false) := Lib.hid <| canB_false fun hc => htr (hc.one k s HKS.out).1
        have k1 : (s.tr != t.id) = true := by simpa using htr
        clear htr
        go_wp2_with fail
        go_ret
        exact ⟨ret_bool hn.out.symm, hbl.trans (WB5.mono (Nat.le_of_lt hg1))⟩
    · have hkk : k = t.sp.length := by omega
      have HC : Hid (canB t.id t.sp = true) := Lib.hid <| canB_true ⟨by omega, by omega, fun j s h => HONE.out j s (by rw [hkk]; exact (List.getElem?_eq_some_iff.1 h).1) h, fun j s u h h' => HUP.out j s u (by rw [hkk]; exact (List.getElem?_eq_some_iff.1 h').1) h h', fun i j s u hij h h' => HNE.out i j s u hij (by rw [hkk]; exact (List.getElem?_eq_some_iff.1 h').1) h h'⟩
      subst hkk
      go_wp2_with fail
      go_ret
      exact ⟨ret_bool HC.out.symm, hbl.trans (hB.mono (Nat.le_of_lt hg1))⟩

theorem i64_pred {k m : Nat} (h : k = m + 1) (hm : (m : Int) < 9223372036854775807) : IntKind.i64.wrap ((k : Int) - 1) = (m : Int) := by
  rw [show (k : Int) - 1 = (m : Int) by omega]
  exact IntWalk.i64_in _ (by omega)

set_option maxHeartbeats 6400000 in
set_option maxRecDepth 100000 in
theorem is_any (v : Value) (l : List Tn) (w : World) (h : Ts w v l) :
    Calls Tryz.prog 93 #[v] w fun e w' => e = .returned (.bool (isB l)) ∧ Below w.heap.size w w' := by
  obtain ⟨A, c, rfl, hc1, hc2⟩ := h.form
  have H := Lib.hid h
  clear h
  go_enter Tryz.func93, Tryz.ntmps93
  go_wp2_with fail
  go_loopw [7] (fun iv wr => ∃ k : Nat, k ≤ l.length ∧ iv = .int .i64 (k : Int) ∧ Below w.heap.size w wr ∧
      Hid (∀ (j : Nat) (t : Tn), j < k → l[j]? = some t → CanS t.id t.sp) ∧
      Hid (∀ (j : Nat) (t u : Tn), j + 1 < k → l[j]? = some t → l[j + 1]? = some u → t.id < u.id)) (fun iv _ => l.length - (intOf iv).toNat)
  case atStart => exact ⟨0, Nat.zero_le _, rfl, Below.refl _ _, Lib.hid (fun j t h => absurd h (Nat.not_lt_zero _)), Lib.hid (fun j t u h => absurd h (Nat.not_lt_zero _))⟩
  case round =>
    obtain ⟨k, hk, rfl, hB, HC, HU⟩ := hrel
    by_cases hkl : k < l.length
    · obtain ⟨t, hks⟩ : ∃ t, l[k]? = some t := ⟨_, List.getElem?_eq_getElem hkl⟩
      obtain ⟨gl, ol, d, rfl, hgl, x0, x1, hd, hid⟩ := (H.out.below hB).cells hks
      obtain ⟨A2, c2, hdv, _⟩ := hd.form
      subst hdv
      have HKS := Lib.hid hks
      have hb0 : (0 : Int) ≤ (k : Int) := by omega
      have hb1 : (k : Int) < (l.length : Int) := by omega
      have W5 : Below wr.heap.size wr (wr.alloc (.cells #[.int .u64 t.id, .slice A2 t.sp.length c2] 43)) := (Below.refl _ _).alloc (Nat.le_refl _) _
      have WB5 : Below w.heap.size w (wr.alloc (.cells #[.int .u64 t.id, .slice A2 t.sp.length c2] 43)) := hB.alloc hB.size _
      have hbk := Blk.new wr 43 #[.int .u64 t.id, .slice A2 t.sp.length c2]
      have TV5 : Hid (TV (wr.alloc (.cells #[.int .u64 t.id, .slice A2 t.sp.length c2] 43)) (.agg #[.int .u64 t.id, .slice A2 t.sp.length c2]) t) := Lib.hid ⟨hid, _, rfl, hd.below W5⟩
      have HBK := Lib.hid hbk
      clear hks hd hbk
      go_wp2_with fail
      by_cases hk0 : k = 0
      · subst hk0
        have HL : Hid (∀ (j : Nat) (x y : Tn), j + 1 = 0 → l[j]? = some x → l[j + 1]? = some y → x.id < y.id) := Lib.hid fun j x y h => absurd h (by omega)
        go_quiet (fail)
        have W6 := below_drewN WB5 nq
        have hbk6 : Blk ((wr.alloc (.cells #[.int .u64 t.id, .slice A2 t.sp.length c2] 43)).drewN nq) wr.heap.size 43 #[.int .u64 t.id, .slice A2 t.sp.length c2] := HBK.out
        have y0 : ((wr.alloc (.cells #[.int .u64 t.id, .slice A2 t.sp.length c2] 43)).drewN nq).cell? ⟨wr.heap.size, 0, none⟩ = some (.int .u64 t.id) := hbk6.cell 0
        have y1 : ((wr.alloc (.cells #[.int .u64 t.id, .slice A2 t.sp.length c2] 43)).drewN nq).cell? ⟨wr.heap.size, 1, none⟩ = some (.slice A2 t.sp.length c2) := hbk6.cell 1
        have TV6 : Hid (TV ((wr.alloc (.cells #[.int .u64 t.id, .slice A2 t.sp.length c2] 43)).drewN nq) (.agg #[.int .u64 t.id, .slice A2 t.sp.length c2]) t) := TV5
        clear hbk6
        revert W6 y0 y1 TV6
        generalize (wr.alloc (.cells #[.int .u64 t.id, .slice A2 t.sp.length c2] 43)).drewN nq = w6
        intro W6 y0 y1 TV6
        go_wp2_with fail
        refine (isCanonical_any _ t _ TV6.out).mono ?_
        rintro e w7 ⟨rfl, hb7⟩
        have W7 := W6.trans (hb7.mono W6.size)
        cases hcan : canB t.id t.sp with
        | false =>
          have hn : Hid (isB l = false) := Lib.hid <| isB_false fun hc => by rw [canB_true (hc.each 0 t HKS.out)] at hcan; cases hcan
          clear hcan
          go_wp2_with fail
          go_ret
          exact ⟨ret_bool hn.out.symm, W7⟩
        | true =>
          have HCAN : Hid (CanS t.id t.sp) := Lib.hid (by
            rcases Classical.em (CanS t.id t.sp) with h | h
            · exact h
            · rw [canB_false h] at hcan; cases hcan)
          clear hcan
          go_wp2_with fail
          refine ⟨⟨0 + 1, by omega, by go_num, W7, Lib.hid (fun j x h1 h2 => ?_), Lib.hid (fun j x y h1 h2 h3 => ?_)⟩, by simp [intOf]; omega⟩
          · rcases Nat.lt_or_eq_of_le (Nat.le_of_lt_succ h1) with h4 | h4
            · exact HC.out j x h4 h2
            · subst h4
              rw [HKS.out] at h2
              injection h2 with h2
              subst h2
              exact HCAN.out
          · rcases Nat.lt_or_eq_of_le (Nat.le_of_lt_succ h1) with h4 | h4
            · exact HU.out j x y h4 h2 h3
            · exact HL.out j x y h4 h2 h3
      · obtain ⟨m, hkm⟩ : ∃ m, k = m + 1 := ⟨k - 1, by omega⟩
        obtain ⟨p, hp⟩ : ∃ p, l[m]? = some p := ⟨_, List.getElem?_eq_getElem (by omega)⟩
        have HP := Lib.hid hp
        obtain ⟨g', o', dp, he, _, p0, _⟩ := (H.out.below WB5).cells hp
        simp only [Option.some.injEq, Addr.mk.injEq, and_true] at he
        obtain ⟨rfl, rfl⟩ := he
        have hpos : 0 < k := by omega
        have hpos2 : decide (0 < k) = true := decide_eq_true hpos
        have hwm : IntKind.i64.wrap ((k : Int) - 1) = (m : Int) := i64_pred hkm (by omega)
        have hm0 : (0 : Int) ≤ (m : Int) := by omega
        have hm1 : (m : Int) < (l.length : Int) := by omega
        have HKM := Lib.hid hkm
        clear hp hkm hk0
        by_cases hle : p.id ≥ t.id
        · have hn : Hid (isB l = false) := Lib.hid <| isB_false fun hc => by have := hc.up m p t HP.out (by rw [← HKM.out]; exact HKS.out); omega
          go_quiet (fail)
          go_wp2_with fail
          go_ret
          exact ⟨ret_bool hn.out.symm, below_drewN WB5 _⟩
        · have HL : Hid (∀ (j : Nat) (x y : Tn), j + 1 = k → l[j]? = some x → l[j + 1]? = some y → x.id < y.id) := Lib.hid fun j x y h hx hy => by
            have hj : j = m := by have := HKM.out; omega
            subst hj
            rw [HP.out] at hx
            rw [← HKM.out, HKS.out] at hy
            injection hx with hx
            injection hy with hy
            subst hx hy
            omega
          have hle2 : p.id < t.id := by omega
          go_quiet (fail)
          clear hle hle2 hpos hpos2
          have W6 := below_drewN WB5 nq
          have hbk6 : Blk ((wr.alloc (.cells #[.int .u64 t.id, .slice A2 t.sp.length c2] 43)).drewN nq) wr.heap.size 43 #[.int .u64 t.id, .slice A2 t.sp.length c2] := HBK.out
          have y0 : ((wr.alloc (.cells #[.int .u64 t.id, .slice A2 t.sp.length c2] 43)).drewN nq).cell? ⟨wr.heap.size, 0, none⟩ = some (.int .u64 t.id) := hbk6.cell 0
          have y1 : ((wr.alloc (.cells #[.int .u64 t.id, .slice A2 t.sp.length c2] 43)).drewN nq).cell? ⟨wr.heap.size, 1, none⟩ = some (.slice A2 t.sp.length c2) := hbk6.cell 1
          have TV6 : Hid (TV ((wr.alloc (.cells #[.int .u64 t.id, .slice A2 t.sp.length c2] 43)).drewN nq) (.agg #[.int .u64 t.id, .slice A2 t.sp.length c2]) t) := TV5
          clear hbk6
          revert W6 y0 y1 TV6
          generalize (wr.alloc (.cells #[.int .u64 t.id, .slice A2 t.sp.length c2] 43)).drewN nq = w6
          intro W6 y0 y1 TV6
          go_wp2_with fail
          refine (isCanonical_any _ t _ TV6.out).mono ?_
          rintro e w7 ⟨rfl, hb7⟩
          have W7 := W6.trans (hb7.mono W6.size)
          cases hcan : canB t.id t.sp with
          | false =>
            have hn : Hid (isB l = false) := Lib.hid <| isB_false fun hc => by rw [canB_true (hc.each k t HKS.out)] at hcan; cases hcan
            clear hcan
            go_wp2_with fail
            go_ret
            exact ⟨ret_bool hn.out.symm, W7⟩
          | true =>
            have HCAN : Hid (CanS t.id t.sp) := Lib.hid (by
              rcases Classical.em (CanS t.id t.sp) with h | h
              · exact h
              · rw [canB_false h] at hcan; cases hcan)
            clear hcan
            go_wp2_with fail
            refine ⟨⟨k + 1, by omega, by go_num, W7, Lib.hid (fun j x h1 h2 => ?_), Lib.hid (fun j x y h1 h2 h3 => ?_)⟩, by simp [intOf]; omega⟩
            · rcases Nat.lt_or_eq_of_le (Nat.le_of_lt_succ h1) with h4 | h4
              · exact HC.out j x h4 h2
              · subst h4
                rw [HKS.out] at h2
                injection h2 with h2
                subst h2
                exact HCAN.out
            · rcases Nat.lt_or_eq_of_le (Nat.le_of_lt_succ h1) with h4 | h4
              · exact HU.out j x y h4 h2 h3
              · exact HL.out j x y h4 h2 h3
    · have hkk : k = l.length := by omega
      have HT : Hid (isB l = true) := Lib.hid <| isB_true ⟨fun j t h => HC.out j t (by rw [hkk]; exact (List.getElem?_eq_some_iff.1 h).1) h, fun j t u h h' => HU.out j t u (by rw [hkk]; exact (List.getElem?_eq_some_iff.1 h').1) h h'⟩
      subst hkk
      go_wp2_with fail
      go_ret
      exact ⟨ret_bool HT.out.symm, hB⟩

set_option maxHeartbeats 6400000 in
set_option maxRecDepth 100000 in
theorem Is_any (v : Value) (l : List Tn) (w : World) (h : Ts w v l) :
    Calls Tryz.prog 66 #[v] w fun e w' => e = .returned (.bool (isB l)) ∧ Below w.heap.size w w' := by
  obtain ⟨A, c, rfl, hc1, hc2⟩ := h.form
  have H := Lib.hid h
  clear h
  go_enter Tryz.func66, Tryz.ntmps66
  go_wp2_with fail
  go_loopw [3] (fun iv wr => ∃ k : Nat, k ≤ l.length ∧ iv = .int .i64 (k : Int) ∧ Below w.heap.size w wr ∧
      Hid (∀ (j : Nat) (t : Tn), j < k → l[j]? = some t → CanS t.id t.sp) ∧
      Hid (∀ (j : Nat) (t u : Tn), j + 1 < k → l[j]? = some t → l[j + 1]? = some u → t.id < u.id)) (fun iv _ => l.length - (intOf iv).toNat)
  case atStart => exact ⟨0, Nat.zero_le _, rfl, Below.refl _ _, Lib.hid (fun j t h => absurd h (Nat.not_lt_zero _)), Lib.hid (fun j t u h => absurd h (Nat.not_lt_zero _))⟩
  case round =>
    obtain ⟨k, hk, rfl, hB, HC, HU⟩ := hrel
    by_cases hkl : k < l.length
    · obtain ⟨t, hks⟩ : ∃ t, l[k]? = some t := ⟨_, List.getElem?_eq_getElem hkl⟩
      obtain ⟨gl, ol, d, rfl, hgl, x0, x1, hd, hid⟩ := (H.out.below hB).cells hks
      obtain ⟨A2, c2, hdv, hcc1, hcc2⟩ := hd.form
      subst hdv
      have HKS := Lib.hid hks
      have hb0 : (0 : Int) ≤ (k : Int) := by omega
      have hb1 : (k : Int) < (l.length : Int) := by omega
      have W5 : Below wr.heap.size wr (wr.alloc (.cells #[.int .u64 t.id, .slice A2 t.sp.length c2] 43)) := (Below.refl _ _).alloc (Nat.le_refl _) _
      have WB5 : Below w.heap.size w (wr.alloc (.cells #[.int .u64 t.id, .slice A2 t.sp.length c2] 43)) := hB.alloc hB.size _
      have hbk := Blk.new wr 43 #[.int .u64 t.id, .slice A2 t.sp.length c2]
      have hgn : wr.heap.size < (wr.alloc (.cells #[.int .u64 t.id, .slice A2 t.sp.length c2] 43)).heap.size := by simp
      have HD := Lib.hid (hd.below W5)
      have HBK := Lib.hid hbk
      clear hks hd hbk
      go_wp2_with fail
      by_cases hlo : (t.sp.length : Int) < 1
      · have hn : Hid (isB l = false) := Lib.hid <| isB_false fun hc => by have := (hc.each k t HKS.out).lo; omega
        go_quiet (fail)
        go_wp2_with fail
        go_ret
        exact ⟨ret_bool hn.out.symm, below_drewN WB5 _⟩
      by_cases hhi : (100 : Int) < (t.sp.length : Int)
      · have hn : Hid (isB l = false) := Lib.hid <| isB_false fun hc => by have := (hc.each k t HKS.out).hi; omega
        go_quiet (fail)
        go_wp2_with fail
        go_ret
        exact ⟨ret_bool hn.out.symm, below_drewN WB5 _⟩
      have hsl1 : 1 ≤ (t.sp.length : Int) := by omega
      have hsl2 : (t.sp.length : Int) ≤ 100 := by omega
      by_cases hk0 : k = 0
      · subst hk0
        have HL : Hid (∀ (j : Nat) (x y : Tn), j + 1 = 0 → l[j]? = some x → l[j + 1]? = some y → x.id < y.id) := Lib.hid fun j x y h => absurd h (by omega)
        go_quiet (fail)
        have W6 := below_drewN WB5 nq
        have HBK6 : Hid (Blk ((wr.alloc (.cells #[.int .u64 t.id, .slice A2 t.sp.length c2] 43)).drewN nq) wr.heap.size 43 #[.int .u64 t.id, .slice A2 t.sp.length c2]) := HBK
        have hgn6 : wr.heap.size < ((wr.alloc (.cells #[.int .u64 t.id, .slice A2 t.sp.length c2] 43)).drewN nq).heap.size := hgn
        have HD6 : Hid (Ss ((wr.alloc (.cells #[.int .u64 t.id, .slice A2 t.sp.length c2] 43)).drewN nq) (.slice A2 t.sp.length c2) t.sp) := HD
        clear x0 x1 W5
        revert W6 HBK6 hgn6 HD6
        generalize (wr.alloc (.cells #[.int .u64 t.id, .slice A2 t.sp.length c2] 43)).drewN nq = w6
        generalize wr.heap.size = gt
        intro W6 HBK6 hgn6 HD6
        go_wp2_with fail
        go_loopw [5] (fun jv wv => ∃ j : Nat, j ≤ t.sp.length ∧ jv = .int .i64 (j : Int) ∧ Below w6.heap.size w6 wv ∧ Hid (∀ (i : Nat) (s : Sn), i < j → t.sp[i]? = some s → s.tr = t.id ∧ mayB s = true)) (fun jv _ => t.sp.length - (intOf jv).toNat)
        case atStart => exact ⟨0, Nat.zero_le _, rfl, Below.refl _ _, Lib.hid (fun i s h => absurd h (Nat.not_lt_zero _))⟩
        case round =>
          obtain ⟨j, hj, rfl, hBj, HO⟩ := hrel
          revert hBj
          generalize wr = wj
          intro hBj
          have y1 : wj.cell? ⟨gt, 1, none⟩ = some (.slice A2 t.sp.length c2) := (hBj.cell (p := ⟨gt, 1, none⟩) hgn6).trans (HBK6.out.cell 1)
          have Wj := W6.trans (hBj.mono W6.size)
          have hgj := Nat.lt_of_lt_of_le hgn6 hBj.size
          by_cases hjl : j < t.sp.length
          · obtain ⟨s, hs⟩ : ∃ s, t.sp[j]? = some s := ⟨_, List.getElem?_eq_getElem hjl⟩
            have HSJ := Lib.hid hs
            obtain ⟨gs, os, ds, rfl, hgs, z0, z1, z2, z3, z4, hdd, hok⟩ := (HD6.out.below hBj).cells hs
            obtain ⟨A3, c3, hdl, _⟩ := id hdd
            subst hdl
            have SVJ : Hid (SV wj (.agg #[.int .u64 s.tr, .int .u64 s.id, .int .i64 s.st, .int .i64 s.en, .slice A3 s.data.length c3]) s) := Lib.hid ⟨hok, _, rfl, hdd⟩
            have hj0 : (0 : Int) ≤ (j : Int) := by omega
            have hj1 : (j : Int) < (t.sp.length : Int) := by omega
            clear hs hdd hok
            go_wp2_with fail
            refine (May_any _ s _ SVJ.out).mono ?_
            rintro e w7 ⟨rfl, hb7⟩
            have W7 := Wj.trans (hb7.mono Wj.size)
            have W67 := hBj.trans (hb7.mono hBj.size)
            cases hmay : mayB s with
            | false =>
              have hn : Hid (isB l = false) := Lib.hid <| isB_false fun hc => by have := ((hc.each 0 t HKS.out).one j s HSJ.out).2; rw [hmay] at this; cases this
              clear hmay
              go_wp2_with fail
              go_quiet (fail)
              go_wp2_with fail
              go_ret
              exact ⟨ret_bool hn.out.symm, below_drewN W7 _⟩
            | true =>
              have HMAY := Lib.hid hmay
              clear hmay
              have y0' : w7.cell? ⟨gt, 0, none⟩ = some (.int .u64 t.id) := (W67.cell (p := ⟨gt, 0, none⟩) hgn6).trans (HBK6.out.cell 0)
              have y1' : w7.cell? ⟨gt, 1, none⟩ = some (.slice (some ⟨gs, os, none⟩) t.sp.length c2) := (hb7.cell (p := ⟨gt, 1, none⟩) hgj).trans y1
              have z0' : w7.cell? ⟨gs, os + j * 5, none⟩ = some (.int .u64 s.tr) := (hb7.cell (p := ⟨gs, os + j * 5, none⟩) hgs).trans z0
              clear y1 z0 z1 z2 z3 z4
              by_cases htr : s.tr = t.id
              · have HTR := Lib.hid htr
                have k1 : (s.tr != t.id) = false := by simpa using htr
                clear htr
                go_wp2_with fail
                go_quiet (fail)
                go_wp2_with fail
                refine ⟨⟨j + 1, by omega, by go_num, below_drewN W67 _, Lib.hid (fun i x h1 h2 => ?_)⟩, by simp [intOf]; omega⟩
                rcases Nat.lt_or_eq_of_le (Nat.le_of_lt_succ h1) with h4 | h4
                · exact HO.out i x h4 h2
                · subst h4
                  rw [HSJ.out] at h2
                  injection h2 with h2
                  subst h2
                  exact ⟨HTR.out, HMAY.out⟩
              · have hn : Hid (isB l = false) := Lib.hid <| isB_false fun hc => htr ((hc.each 0 t HKS.out).one j s HSJ.out).1
                have k1 : (s.tr != t.id) = true := by simpa using htr
                clear htr
                go_wp2_with fail
                go_quiet (fail)
                go_wp2_with fail
                go_ret
                exact ⟨ret_bool hn.out.symm, below_drewN W7 _⟩
          · have hjj : j = t.sp.length := by omega
            have HONE : Hid (∀ (i : Nat) (s : Sn), t.sp[i]? = some s → s.tr = t.id ∧ mayB s = true) := Lib.hid fun i s h => HO.out i s (by rw [hjj]; exact (List.getElem?_eq_some_iff.1 h).1) h
            have HSS : Hid (Ss wj.drew (.slice A2 t.sp.length c2) t.sp) := Lib.hid ((HD6.out.below hBj).below (Below.refl _ _).drew)
            have r1 : ∀ u, Below wj.heap.size wj u → u.cell? ⟨gt, 1, none⟩ = some (.slice A2 t.sp.length c2) := fun u h => (h.cell (p := ⟨gt, 1, none⟩) hgj).trans y1
            go_wp2_with fail
            clear y1
            refine wp_region_mix [(0, false), (1, false), (3, false), (4, false), (2, true), (5, true), (6, true)] (fun u => Below wj.heap.size wj u) (by kernel_rfl) (by kernel_rfl) (by kernel_rfl) rfl (Below.refl _ _).drew ?_
            repeat
              (refine mix_read (o := ⟨_, _, _, _, _, _⟩) (v := ?_) rfl (by rfl) (fun w' hS => ?_) ?_
               rotate_left
               go_simp
               with_reducible rfl
               try simp only [Act.put, List.setIfInBounds_toArray, List.set_cons_zero, List.set_cons_succ])
            clear r1
            refine mix_step (o := ⟨_, _, _, _, _, _⟩) rfl (fun K hK => ?_)
            go_simp
            refine (Gather_any _ t.sp _ HSS.out (by omega)).mono ?_
            rintro e u1 ⟨v1, r1, rfl, o1, G1, b1⟩
            have hU1 : Below wj.heap.size wj u1 := ⟨b1.os, b1.tape, b1.output, b1.size, b1.block⟩
            have HO1 := Lib.hid o1.ss
            have HSS1 : Hid (Ss u1 (.slice A2 t.sp.length c2) t.sp) := Lib.hid (HSS.out.below b1)
            have HG1 := Lib.hid G1
            refine hK.out _ _ hU1 ?_
            clear hK K o1 G1 b1
            try simp only [Act.put, List.setIfInBounds_toArray, List.set_cons_zero, List.set_cons_succ]
            refine mix_step (o := ⟨_, _, _, _, _, _⟩) rfl (fun K hK => ?_)
            go_simp
            refine (Spans_any _ _ _ _ _ HO1.out HSS1.out).mono ?_
            rintro e u2 ⟨rfl, b2⟩
            have hU2 := hU1.trans (b2.mono hU1.size)
            refine hK.out _ _ hU2 ?_
            clear hK K b2
            try simp only [Act.put, List.setIfInBounds_toArray, List.set_cons_zero, List.set_cons_succ]
            refine mix_step (o := ⟨_, _, _, _, _, _⟩) rfl (fun K hK => ?_)
            go_simp
            refine hK.out _ _ hU2 ?_
            clear hK K
            refine mix_done ?_
            have W8 := Wj.trans (hU2.mono Wj.size)
            cases heq : eqSp r1 t.sp with
            | false =>
              have hn : Hid (isB l = false) := Lib.hid <| isB_false fun hc => by
                have := HG1.out.one (hc.each 0 t HKS.out).gat
                rw [this, eqSp_refl] at heq
                cases heq
              clear heq
              go_wp2_with fail
              go_ret
              exact ⟨ret_bool hn.out.symm, W8⟩
            | true =>
              have HCAN : Hid (CanS t.id t.sp) := Lib.hid (by
                have e := (eqSp_iff r1 t.sp).1 heq
                have g := HG1.out
                rw [e] at g
                exact gat_can (by omega) (by omega) HONE.out g)
              clear heq
              go_wp2_with fail
              refine ⟨⟨0 + 1, by omega, by go_num, W8, Lib.hid (fun j x h1 h2 => ?_), Lib.hid (fun j x y h1 h2 h3 => ?_)⟩, by simp [intOf]; omega⟩
              · rcases Nat.lt_or_eq_of_le (Nat.le_of_lt_succ h1) with h4 | h4
                · exact HC.out j x h4 h2
                · subst h4
                  rw [HKS.out] at h2
                  injection h2 with h2
                  subst h2
                  exact HCAN.out
              · rcases Nat.lt_or_eq_of_le (Nat.le_of_lt_succ h1) with h4 | h4
                · exact HU.out j x y h4 h2 h3
                · exact HL.out j x y h4 h2 h3
      · obtain ⟨m, hkm⟩ : ∃ m, k = m + 1 := ⟨k - 1, by omega⟩
        obtain ⟨p, hp⟩ : ∃ p, l[m]? = some p := ⟨_, List.getElem?_eq_getElem (by omega)⟩
        have HP := Lib.hid hp
        obtain ⟨g', o', dp, he, _, p0, _⟩ := (H.out.below WB5).cells hp
        simp only [Option.some.injEq, Addr.mk.injEq, and_true] at he
        obtain ⟨rfl, rfl⟩ := he
        have hpos : 0 < k := by omega
        have hpos2 : decide (0 < k) = true := decide_eq_true hpos
        have hwm : IntKind.i64.wrap ((k : Int) - 1) = (m : Int) := i64_pred hkm (by omega)
        have hm0 : (0 : Int) ≤ (m : Int) := by omega
        have hm1 : (m : Int) < (l.length : Int) := by omega
        have HKM := Lib.hid hkm
        clear hp hkm hk0
        by_cases hle : p.id ≥ t.id
        · have hn : Hid (isB l = false) := Lib.hid <| isB_false fun hc => by have := hc.up m p t HP.out (by rw [← HKM.out]; exact HKS.out); omega
          go_quiet (fail)
          go_wp2_with fail
          go_ret
          exact ⟨ret_bool hn.out.symm, below_drewN WB5 _⟩
        · have HL : Hid (∀ (j : Nat) (x y : Tn), j + 1 = k → l[j]? = some x → l[j + 1]? = some y → x.id < y.id) := Lib.hid fun j x y h hx hy => by
            have hj : j = m := by have := HKM.out; omega
            subst hj
            rw [HP.out] at hx
            rw [← HKM.out, HKS.out] at hy
            injection hx with hx
            injection hy with hy
            subst hx hy
            omega
          have hle2 : p.id < t.id := by omega
          go_quiet (fail)
          clear hle hle2 hpos hpos2 p0
          have W6 := below_drewN WB5 nq
          have HBK6 : Hid (Blk ((wr.alloc (.cells #[.int .u64 t.id, .slice A2 t.sp.length c2] 43)).drewN nq) wr.heap.size 43 #[.int .u64 t.id, .slice A2 t.sp.length c2]) := HBK
          have hgn6 : wr.heap.size < ((wr.alloc (.cells #[.int .u64 t.id, .slice A2 t.sp.length c2] 43)).drewN nq).heap.size := hgn
          have HD6 : Hid (Ss ((wr.alloc (.cells #[.int .u64 t.id, .slice A2 t.sp.length c2] 43)).drewN nq) (.slice A2 t.sp.length c2) t.sp) := HD
          clear x0 x1 W5
          revert W6 HBK6 hgn6 HD6
          generalize (wr.alloc (.cells #[.int .u64 t.id, .slice A2 t.sp.length c2] 43)).drewN nq = w6
          generalize wr.heap.size = gt
          intro W6 HBK6 hgn6 HD6
          go_wp2_with fail
          go_loopw [5] (fun jv wv => ∃ j : Nat, j ≤ t.sp.length ∧ jv = .int .i64 (j : Int) ∧ Below w6.heap.size w6 wv ∧ Hid (∀ (i : Nat) (s : Sn), i < j → t.sp[i]? = some s → s.tr = t.id ∧ mayB s = true)) (fun jv _ => t.sp.length - (intOf jv).toNat)
          case atStart => exact ⟨0, Nat.zero_le _, rfl, Below.refl _ _, Lib.hid (fun i s h => absurd h (Nat.not_lt_zero _))⟩
          case round =>
            obtain ⟨j, hj, rfl, hBj, HO⟩ := hrel
            revert hBj
            generalize wr = wj
            intro hBj
            have y1 : wj.cell? ⟨gt, 1, none⟩ = some (.slice A2 t.sp.length c2) := (hBj.cell (p := ⟨gt, 1, none⟩) hgn6).trans (HBK6.out.cell 1)
            have Wj := W6.trans (hBj.mono W6.size)
            have hgj := Nat.lt_of_lt_of_le hgn6 hBj.size
            by_cases hjl : j < t.sp.length
            · obtain ⟨s, hs⟩ : ∃ s, t.sp[j]? = some s := ⟨_, List.getElem?_eq_getElem hjl⟩
              have HSJ := Lib.hid hs
              obtain ⟨gs, os, ds, rfl, hgs, z0, z1, z2, z3, z4, hdd, hok⟩ := (HD6.out.below hBj).cells hs
              obtain ⟨A3, c3, hdl, _⟩ := id hdd
              subst hdl
              have SVJ : Hid (SV wj (.agg #[.int .u64 s.tr, .int .u64 s.id, .int .i64 s.st, .int .i64 s.en, .slice A3 s.data.length c3]) s) := Lib.hid ⟨hok, _, rfl, hdd⟩
              have hj0 : (0 : Int) ≤ (j : Int) := by omega
              have hj1 : (j : Int) < (t.sp.length : Int) := by omega
              clear hs hdd hok
              go_wp2_with fail
              refine (May_any _ s _ SVJ.out).mono ?_
              rintro e w7 ⟨rfl, hb7⟩
              have W7 := Wj.trans (hb7.mono Wj.size)
              have W67 := hBj.trans (hb7.mono hBj.size)
              cases hmay : mayB s with
              | false =>
                have hn : Hid (isB l = false) := Lib.hid <| isB_false fun hc => by have := ((hc.each k t HKS.out).one j s HSJ.out).2; rw [hmay] at this; cases this
                clear hmay
                go_wp2_with fail
                go_quiet (fail)
                go_wp2_with fail
                go_ret
                exact ⟨ret_bool hn.out.symm, below_drewN W7 _⟩
              | true =>
                have HMAY := Lib.hid hmay
                clear hmay
                have y0' : w7.cell? ⟨gt, 0, none⟩ = some (.int .u64 t.id) := (W67.cell (p := ⟨gt, 0, none⟩) hgn6).trans (HBK6.out.cell 0)
                have y1' : w7.cell? ⟨gt, 1, none⟩ = some (.slice (some ⟨gs, os, none⟩) t.sp.length c2) := (hb7.cell (p := ⟨gt, 1, none⟩) hgj).trans y1
                have z0' : w7.cell? ⟨gs, os + j * 5, none⟩ = some (.int .u64 s.tr) := (hb7.cell (p := ⟨gs, os + j * 5, none⟩) hgs).trans z0
                clear y1 z0 z1 z2 z3 z4
                by_cases htr : s.tr = t.id
                · have HTR := Lib.hid htr
                  have k1 : (s.tr != t.id) = false := by simpa using htr
                  clear htr
                  go_wp2_with fail
                  go_quiet (fail)
                  go_wp2_with fail
                  refine ⟨⟨j + 1, by omega, by go_num, below_drewN W67 _, Lib.hid (fun i x h1 h2 => ?_)⟩, by simp [intOf]; omega⟩
                  rcases Nat.lt_or_eq_of_le (Nat.le_of_lt_succ h1) with h4 | h4
                  · exact HO.out i x h4 h2
                  · subst h4
                    rw [HSJ.out] at h2
                    injection h2 with h2
                    subst h2
                    exact ⟨HTR.out, HMAY.out⟩
                · have hn : Hid (isB l = false) := Lib.hid <| isB_false fun hc => htr ((hc.each k t HKS.out).one j s HSJ.out).1
                  have k1 : (s.tr != t.id) = true := by simpa using htr
                  clear htr
                  go_wp2_with fail
                  go_quiet (fail)
                  go_wp2_with fail
                  go_ret
                  exact ⟨ret_bool hn.out.symm, below_drewN W7 _⟩
            · have hjj : j = t.sp.length := by omega
              have HONE : Hid (∀ (i : Nat) (s : Sn), t.sp[i]? = some s → s.tr = t.id ∧ mayB s = true) := Lib.hid fun i s h => HO.out i s (by rw [hjj]; exact (List.getElem?_eq_some_iff.1 h).1) h
              have HSS : Hid (Ss wj.drew (.slice A2 t.sp.length c2) t.sp) := Lib.hid ((HD6.out.below hBj).below (Below.refl _ _).drew)
              have r1 : ∀ u, Below wj.heap.size wj u → u.cell? ⟨gt, 1, none⟩ = some (.slice A2 t.sp.length c2) := fun u h => (h.cell (p := ⟨gt, 1, none⟩) hgj).trans y1
              go_wp2_with fail
              clear y1
              refine wp_region_mix [(0, false), (1, false), (3, false), (4, false), (2, true), (5, true), (6, true)] (fun u => Below wj.heap.size wj u) (by kernel_rfl) (by kernel_rfl) (by kernel_rfl) rfl (Below.refl _ _).drew ?_
              repeat
                (refine mix_read (o := ⟨_, _, _, _, _, _⟩) (v := ?_) rfl (by rfl) (fun w' hS => ?_) ?_
                 rotate_left
                 go_simp
                 with_reducible rfl
                 try simp only [Act.put, List.setIfInBounds_toArray, List.set_cons_zero, List.set_cons_succ])
              clear r1
              refine mix_step (o := ⟨_, _, _, _, _, _⟩) rfl (fun K hK => ?_)
              go_simp
              refine (Gather_any _ t.sp _ HSS.out (by omega)).mono ?_
              rintro e u1 ⟨v1, r1, rfl, o1, G1, b1⟩
              have hU1 : Below wj.heap.size wj u1 := ⟨b1.os, b1.tape, b1.output, b1.size, b1.block⟩
              have HO1 := Lib.hid o1.ss
              have HSS1 : Hid (Ss u1 (.slice A2 t.sp.length c2) t.sp) := Lib.hid (HSS.out.below b1)
              have HG1 := Lib.hid G1
              refine hK.out _ _ hU1 ?_
              clear hK K o1 G1 b1
              try simp only [Act.put, List.setIfInBounds_toArray, List.set_cons_zero, List.set_cons_succ]
              refine mix_step (o := ⟨_, _, _, _, _, _⟩) rfl (fun K hK => ?_)
              go_simp
              refine (Spans_any _ _ _ _ _ HO1.out HSS1.out).mono ?_
              rintro e u2 ⟨rfl, b2⟩
              have hU2 := hU1.trans (b2.mono hU1.size)
              refine hK.out _ _ hU2 ?_
              clear hK K b2
              try simp only [Act.put, List.setIfInBounds_toArray, List.set_cons_zero, List.set_cons_succ]
              refine mix_step (o := ⟨_, _, _, _, _, _⟩) rfl (fun K hK => ?_)
              go_simp
              refine hK.out _ _ hU2 ?_
              clear hK K
              refine mix_done ?_
              have W8 := Wj.trans (hU2.mono Wj.size)
              cases heq : eqSp r1 t.sp with
              | false =>
                have hn : Hid (isB l = false) := Lib.hid <| isB_false fun hc => by
                  have := HG1.out.one (hc.each k t HKS.out).gat
                  rw [this, eqSp_refl] at heq
                  cases heq
                clear heq
                go_wp2_with fail
                go_ret
                exact ⟨ret_bool hn.out.symm, W8⟩
              | true =>
                have HCAN : Hid (CanS t.id t.sp) := Lib.hid (by
                  have e := (eqSp_iff r1 t.sp).1 heq
                  have g := HG1.out
                  rw [e] at g
                  exact gat_can (by omega) (by omega) HONE.out g)
                clear heq
                go_wp2_with fail
                refine ⟨⟨k + 1, by omega, by go_num, W8, Lib.hid (fun j x h1 h2 => ?_), Lib.hid (fun j x y h1 h2 h3 => ?_)⟩, by simp [intOf]; omega⟩
                · rcases Nat.lt_or_eq_of_le (Nat.le_of_lt_succ h1) with h4 | h4
                  · exact HC.out j x h4 h2
                  · subst h4
                    rw [HKS.out] at h2
                    injection h2 with h2
                    subst h2
                    exact HCAN.out
                · rcases Nat.lt_or_eq_of_le (Nat.le_of_lt_succ h1) with h4 | h4
                  · exact HU.out j x y h4 h2 h3
                  · exact HL.out j x y h4 h2 h3
    · have hkk : k = l.length := by omega
      have HT : Hid (isB l = true) := Lib.hid <| isB_true ⟨fun j t h => HC.out j t (by rw [hkk]; exact (List.getElem?_eq_some_iff.1 h).1) h, fun j t u h h' => HU.out j t u (by rw [hkk]; exact (List.getElem?_eq_some_iff.1 h').1) h h'⟩
      subst hkk
      go_wp2_with fail
      go_ret
      exact ⟨ret_bool HT.out.symm, hB⟩

end Go.Proofs.YtfccfnbmmgfgcaaGreatDoor
