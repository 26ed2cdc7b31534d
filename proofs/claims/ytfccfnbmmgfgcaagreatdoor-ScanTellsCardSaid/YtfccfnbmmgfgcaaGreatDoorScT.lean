/-
  ScanTells: what holds between two rounds of its range over Each. Conditions: what each theorem says.
  ScanTells, walked over whatever scanner keeps ScanK: what is told of a block, trace by trace. Conditions: what it says; of the library's tables: Ld.
-/
import Derived.Test.YtfccfnbmmgfgcaaGreatDoorScC
import Derived.RangeFuncOwn
import Derived.OwnWalkIn
import Derived.RangeFuncCalls
import Derived.TacticsInMore
import Derived.WalkKit
namespace Go.Proofs.YtfccfnbmmgfgcaaGreatDoor
open Go.RowKit
set_option maxRecDepth 100000

structure ScJ (w1 : World) (BQ : Nat → Prop) (ga D : Nat) (av : Value) (L : List Tn) (lp : Loop) (pre : List Tn) (F : Nat → Prop) (W : World) : Prop where
  bel : Below w1.heap.size w1 W
  fge : ∀ q, F q → w1.heap.size ≤ q
  flt : ∀ q, F q → q < W.heap.size
  fbad : ∀ q, F q → BQ q ∨ ga ≤ q
  len : pre.length ≤ L.length
  ts : Keep (fun q => BQ q ∨ ga ≤ q) (fun u => Ts u av L) W
  all : Blk W ga 23 #[av]
  n : Blk W (ga + 1) 3 #[.int .i64 (pre.length : Int)]
  lp : W.heap[D + 1]? = some (.loop lp)
  df : W.heap[D]? = some (.deferred (some []))
  nf : ¬ F ga ∧ ¬ F (ga + 1) ∧ ¬ F D ∧ ¬ F (D + 1)
  ge : w1.heap.size ≤ ga ∧ ga + 1 < D
section
variable {w1 W W' : World} {BQ F F' : Nat → Prop} {ga D : Nat} {av : Value} {L pre : List Tn} {lp lp' : Loop}
theorem ScJ.lt (h : ScJ w1 BQ ga D av L lp pre F W) : D + 1 < W.heap.size := (Array.getElem?_eq_some_iff.1 h.lp).1
theorem ScJ.go (h : ScJ w1 BQ ga D av L lp pre F W) (hG : Goes W F W' F') (hlt : ∀ q, F' q → q < W'.heap.size) : ScJ w1 BQ ga D av L lp pre F' W' := by
  have hD := h.lt
  have hg := h.ge
  have hn : ∀ q, q < W.heap.size → ¬ F q → ¬ F' q := fun q h1 h2 h3 => by
    rcases hG.new q h3 with h4 | h4
    · exact h2 h4
    · omega
  refine ⟨below_apt h.bel hG.apt h.fge h.bel.size, fun q hq => ?_, hlt, fun q hq => ?_, h.len, h.ts.go (hG.apt.mono fun q _ hq => h.fbad q hq) fun q hq => .inl hq, (hG.apt.block _ (by omega) h.nf.1).trans h.all, (hG.apt.block _ (by omega) h.nf.2.1).trans h.n, (hG.apt.block _ (by omega) h.nf.2.2.2).trans h.lp, (hG.apt.block _ (by omega) h.nf.2.2.1).trans h.df, ⟨hn _ (by omega) h.nf.1, hn _ (by omega) h.nf.2.1, hn _ (by omega) h.nf.2.2.1, hn _ (by omega) h.nf.2.2.2⟩, hg⟩
  · rcases hG.new q hq with h4 | h4
    · exact h.fge q h4
    · have := h.bel.size
      omega
  · rcases hG.new q hq with h4 | h4
    · exact h.fbad q h4
    · exact .inr (by omega)
theorem ScJ.later (h : ScJ w1 BQ ga D av L lp pre F W) (hb : Below W.heap.size W W') : ScJ w1 BQ ga D av L lp pre F W' :=
  h.go (Goes.of_below hb) fun q hq => Nat.lt_of_lt_of_le (h.flt q hq) hb.size
theorem ScJ.put (h : ScJ w1 BQ ga D av L lp pre F W) (lp' : Loop) : ScJ w1 BQ ga D av L lp' pre F (W.putObj (D + 1) (.loop lp')) := by
  have hD := h.lt
  have hg := h.ge
  have hgb := grownBy_putObj' W (D + 1) (.loop lp')
  have ha : Apt (fun q => BQ q ∨ ga ≤ q) W (W.putObj (D + 1) (.loop lp')) := Apt.of_grown hgb fun q hq => by
    have := Option.some.inj hq
    exact .inr (by omega)
  have ho : ∀ q, q ≠ D + 1 → (W.putObj (D + 1) (.loop lp')).heap[q]? = W.heap[q]? := fun q hq => World.putObj_heap_other hq
  exact ⟨h.bel.grown hgb h.bel.size fun q hq => by have := Option.some.inj hq; omega, h.fge, fun q hq => by rw [World.putObj_size]; exact h.flt q hq, h.fbad, h.len, h.ts.go ha fun q hq => .inl hq, (ho _ (by omega)).trans h.all, (ho _ (by omega)).trans h.n, World.putObj_heap_same hD, (ho _ (by omega)).trans h.df, h.nf, hg⟩
theorem ScJ.inc (h : ScJ w1 BQ ga D av L lp pre F W) (t : Tn) (hl : pre.length < L.length) : ScJ w1 BQ ga D av L lp (pre ++ [t]) F (W.setCell ⟨ga + 1, 0, none⟩ (.int .i64 ((pre.length : Int) + 1))) := by
  have hD := h.lt
  have hg := h.ge
  have hgb := grown_set W (ga + 1) 0 (.int .i64 ((pre.length : Int) + 1))
  have ha : Apt (fun q => BQ q ∨ ga ≤ q) W (W.setCell ⟨ga + 1, 0, none⟩ (.int .i64 ((pre.length : Int) + 1))) := Apt.of_grown hgb fun q hq => by
    have := Option.some.inj hq
    exact .inr (by omega)
  have ho : ∀ q, q < W.heap.size → q ≠ ga + 1 → (W.setCell ⟨ga + 1, 0, none⟩ (.int .i64 ((pre.length : Int) + 1))).heap[q]? = W.heap[q]? := fun q h1 hq => hgb.block q h1 fun e => hq (Option.some.inj e)
  refine ⟨h.bel.grown hgb h.bel.size fun q hq => by have := Option.some.inj hq; omega, h.fge, fun q hq => Nat.lt_of_lt_of_le (h.flt q hq) hgb.size, h.fbad, by rw [List.length_append, List.length_singleton]; omega, h.ts.go ha fun q hq => .inl hq, (ho _ (by omega) (by omega)).trans h.all, ?_, (ho _ (by omega) (by omega)).trans h.lp, (ho _ (by omega) (by omega)).trans h.df, h.nf, hg⟩
  have := h.n.set_ 0 (.int .i64 ((pre.length : Int) + 1))
  rw [List.length_append, List.length_singleton]
  simpa using this
end

section
variable {PSc : World → (Nat → Prop) → Nat → Nat → List Tn → Int → Sm → Bool → Prop} {PSq : World → (Nat → Prop) → Nat → Sm → Value → Nat → Prop}

theorem box_ret {w w' : World} {r : Nat} (hB : Below w.heap.size w w') (hr : w.heap.size ≤ r) (b : Value) : Below w.heap.size w (w'.setCell ⟨r, 0, none⟩ b) := hB.grown (grown_set _ _ _ _) hB.size fun q e => by
  injection e with e
  omega

set_option maxHeartbeats 12800000 in
theorem scanTells_any (hK : ScanK PSc PSq) (id : Nat) (v : Value) (l : List Tn) (s : Sz) (tv : Value) (t : List De) (of_ : Nat) (fails stop : Int) (w : World) (h : Ts w v l) (ht : Ds w tv t) (hid : id < 18446744073709551616) (hof : of_ < 18446744073709551616) (hf0 : -9223372036854775808 ≤ fails) (hf1 : fails ≤ 9223372036854775807) (hll : l.length ≤ 140737488355328) (hL : Ld w) :
    Calls Tryz.prog 3 #[.int .u64 (id : Int), v, szV s, tv, .int .u64 (of_ : Int), .int .i64 fails, .int .i64 stop] w fun e w' => e = .returned (.bool true) ∧ Below w.heap.size w w' := by
  obtain ⟨pg, sh, bi, hs⟩ := s
  have H := Lib.hid h
  have HT := Lib.hid ht
  have HLD := Lib.hid hL
  obtain ⟨wi, hwi⟩ : ∃ wi, wi = ((w.alloc (.cells #[.int .i64 pg, .int .i64 sh, .int .i64 bi, .int .i64 hs] 25)).alloc (.cells #[.int .i64 stop] 3)).alloc (.cells #[.bool false] 4) := ⟨_, rfl⟩
  have HB0 : Hid (Below w.heap.size w wi) := Lib.hid (by
    rw [hwi]
    exact (((Below.refl _ _).alloc (Nat.le_refl _) _).alloc (by simp) _).alloc (by simp; omega) _)
  have HS0 : Hid (Blk wi w.heap.size 25 #[.int .i64 pg, .int .i64 sh, .int .i64 bi, .int .i64 hs]) := Lib.hid (by
    rw [hwi]
    exact ((Blk.new _ _ _).alloc _).alloc _)
  have HP0 : Hid (Blk wi (w.heap.size + 1) 3 #[.int .i64 stop]) := Lib.hid (by
    rw [hwi]
    have := (Blk.new (w.alloc (.cells #[.int .i64 pg, .int .i64 sh, .int .i64 bi, .int .i64 hs] 25)) 3 #[.int .i64 stop]).alloc (.cells #[.bool false] 4)
    simpa using this)
  have HR0 : Hid (Blk wi (w.heap.size + 1 + 1) 4 #[.bool false]) := Lib.hid (by
    rw [hwi]
    have := Blk.new ((w.alloc (.cells #[.int .i64 pg, .int .i64 sh, .int .i64 bi, .int .i64 hs] 25)).alloc (.cells #[.int .i64 stop] 3)) 4 #[.bool false]
    simpa using this)
  have hTu := fun u (hu : Ts u v l) (hd : Ds u tv t) (hl : Ld u) => Turned_any id v l ⟨pg, sh, bi, hs⟩ tv t u hu hd hid hll hl
  simp only [szV] at hTu ⊢
  clear h ht hL
  refine calls_marks Tryz.func3 rfl ?_
  simp only [Tryz.ntmps3, List.size_toArray, List.length_cons, List.length_nil, Nat.reduceAdd, Nat.reduceSub, Array.replicate_succ, Array.replicate_zero, List.push_toArray, List.append_toArray, List.nil_append, List.cons_append]
  go_wp2_with fail
  rw [← hwi]
  clear hwi
  refine (up16_any hK _ (HLD.out.below HB0.out)).mono ?_
  rintro e w1 ⟨rfl, hb1⟩
  have HB1 := Lib.hid (HB0.out.trans (hb1.mono HB0.out.size))
  have HS1 := Lib.hid (HS0.out.below hb1 HS0.out.lt)
  have HP1 := Lib.hid (HP0.out.below hb1 HP0.out.lt)
  have HR1 := Lib.hid (HR0.out.below hb1 HR0.out.lt)
  clear hb1 HB0 HS0 HP0 HR0
  have b0 := HS1.out.cell 0
  have b1 := HS1.out.cell 1
  have b2 := HS1.out.cell 2
  have b3 := HS1.out.cell 3
  simp at b0 b1 b2 b3
  go_wp2_with fail
  refine (hTu _ (H.out.below HB1.out) (HT.out.below HB1.out) (HLD.out.below HB1.out)).mono ?_
  rintro e w2 hcase
  clear hTu b0 b1 b2 b3
  rcases hcase with ⟨g, rfl, hb2⟩ | ⟨g, gy, F, G, m, rfl, hfew, hmf, _, hW2⟩
  · have HB2 := Lib.hid (HB1.out.trans (hb2.mono HB1.out.size))
    have hR2 := HR1.out.below hb2 HR1.out.lt
    have hf0 := hR2.frozen 0
    have hc0 := hR2.cell 0
    simp at hc0
    go_wp2_with fail
    have hm := (HR1.out.below hb2 HR1.out.lt).set_ 0 (.bool true)
    refine marks_ret0 (v := .bool true) (by have c := hm.cell 0; simp at c; simp [results, go_sem, c]; try rfl) rfl ⟨rfl, box_ret HB2.out (by omega) _⟩
  have HW2 := Lib.hid hW2
  have HM := Lib.hid hmf
  have HLU : Hid (∀ u, Below w1.heap.size w1 u → Ld u) := Lib.hid fun u hu => HLD.out.below (HB1.out.trans (hu.mono HB1.out.size))
  have HFIN : Hid (∀ u, Below w1.heap.size w1 u → Below w.heap.size w u) := Lib.hid fun u hu => HB1.out.trans (hu.mono HB1.out.size)
  clear hW2 hmf hfew
  have hfl := sfail_any (n := fails) HW2.out.a hf0 hf1
  go_wp2_with fail
  refine hfl.mono ?_
  rintro e w3 ⟨rfl, hP3, hg3⟩
  have HW3 := Lib.hid (HW2.out.stepA (A' := stA g (failS m fails)) (stA_thing _ _) (stB_thing _ _ _) hP3 (Apt.of_grown hg3 fun q hq => by rw [← Option.some.inj hq]; exact hP3.Fg) fun q hq => .inl hq)
  clear hfl hP3 hg3 HW2
  obtain ⟨vy, hD3, hG3⟩ := HW3.out.b
  have hfl := Fail_any gy gy vy m fails w3 hD3
  go_wp2_with fail
  refine hfl.mono ?_
  rintro e w4 ⟨rfl, hD4, hg4⟩
  obtain ⟨m1, hm1⟩ : ∃ z, z = failS m fails := ⟨_, rfl⟩
  have HW4 : Hid (W2 (fun _ => True) w1 w4 (stA g m1) F (stB gy gy m1) G) := Lib.hid (by
    rw [hm1]
    exact HW3.out.stepB (B' := stB gy gy (failS m fails)) (stA_thing _ _) ⟨vy, hD4, hG3⟩ (Apt.of_grown hg4 fun q hq => by rw [hG3]; exact .inl (Option.some.inj hq).symm) fun q hq => .inl hq)
  have HM1 : Hid (m1.fine 300) := Lib.hid (by rw [hm1]; exact HM.out.fail fails hf1)
  clear hfl hD3 hG3 hD4 hg4 HW3 hm1 vy HM
  obtain ⟨vy, hD4, hG4⟩ := HW4.out.b
  have hTo := DTold_any (N := 300) of_ w4 hD4 HM1.out (by omega) hof
  have HTC := Lib.hid (tlR_code m1 of_)
  have HTN : Hid ((meR m1 of_).1 ≠ 0 → tlR m1 of_ = (((meR m1 of_).1, []), callS m1)) := Lib.hid fun h => by rw [tlR, if_pos h]
  have hOn := fun u F' (hp : PSt u F' g m1) (hl : Keep F' Ld u) (hz : (meR m1 of_).1 ≠ 0) => hK.open_no of_ hp HM1.out (by omega) hof hl hz
  have hOk := fun u F' (hp : PSt u F' g m1) (hl : Keep F' Ld u) (hz : (meR m1 of_).1 = 0) => hK.open_ok of_ hp HM1.out (by omega) hof hl hz
  generalize (meR m1 of_).1 = mc at hOn hOk HTN
  generalize tlR m1 of_ = tl at hTo HTC hOk HTN
  obtain ⟨⟨cd, L⟩, m2⟩ := tl
  simp only at hTo HTC hOk HTN
  go_wp2_with fail
  refine hTo.mono ?_
  rintro e w5 ⟨wy, rfl, hD5, hM5, hO5, hA5⟩
  have HW5 : Hid (W2 (fun u => Ts u wy L) w1 w5 (stA g m1) F (stB gy gy m2) G) := Lib.hid (by
    have h1 := HW4.out.stepB (B' := stB gy gy m2) (stA_thing _ _) ⟨vy, hD5, hG4⟩ (hA5.mono fun q _ hq => by rw [hG4]; exact .inl hq) fun q hq => .inl hq
    refine h1.say (Keep.less (hO5.keep fun q hq h => ?_) fun q hq => .inl (HW4.out.bad_lt (stA_thing _ _) (stB_thing _ _ _) q hq))
    have := (hO5.lt q hq).1
    omega)
  have HM2 := Lib.hid hM5
  clear hTo hD4 hG4 hD5 hM5 hO5 hA5 vy
  have hLd := Keep.of_old HLU.out HW5.out.below HW5.out.fge
  by_cases hme : mc = 0
  rotate_left
  · have hOp := hOn w5 F HW5.out.a hLd hme
    have hE := HTN.out hme
    injection hE with hE1 hE2
    injection hE1 with hE1 hE3
    subst hE1 hE3
    obtain ⟨Aw, cw, hwy, _, _⟩ := HW5.out.x.form
    simp only [List.length_nil] at hwy
    subst hwy
    clear hOn hOk hLd HTN hE2
    go_wp2_with fail
    refine hOp.mono ?_
    rintro e w6 ⟨rfl, F6, hP6, hG6⟩
    have HB6 : Hid (Below w1.heap.size w1 w6) := Lib.hid (below_apt HW5.out.below hG6.apt HW5.out.fge HW5.out.below.size)
    have n1 := neNil14 cd (z := false) (by simp [hme])
    have n2 := neG14
    clear hOp hP6 hG6
    go_wp2_with fail
    refine (Code_err cd _ HTC.out).mono ?_
    rintro e w7 ⟨rfl, rfl⟩
    have hR6 := HR1.out.below HB6.out HR1.out.lt
    have hf0 := hR6.frozen 0
    have hc0 := hR6.cell 0
    simp at hc0
    go_wp2_with fail
    have hm := hR6.set_ 0 (.bool true)
    refine marks_ret0 (v := .bool true) (by have c := hm.cell 0; simp at c; simp [results, go_sem, c]; try rfl) rfl ⟨rfl, box_ret (HFIN.out _ HB6.out) (by omega) _⟩
  subst hme
  have hOp := hOk w5 F HW5.out.a hLd rfl
  clear hOn hOk hLd HTN
  go_wp2_with fail
  refine hOp.mono ?_
  rintro e w6 ⟨c, F6, rfl, hC6, hG6⟩
  have HW6 : Hid (W2 (fun u => Ts u wy L) w1 w6 (fun u F => PSc u F g c L cd m2 false) F6 (stB gy gy m2) G) := Lib.hid (HW5.out.stepA (A' := fun u F => PSc u F g c L cd m2 false) (stA_thing _ _) (stB_thing _ _ _) hC6 hG6.apt hG6.new)
  clear hOp hC6 hG6 HW5
  obtain ⟨Aw, cw, hwy, hcw1, hcw2⟩ := HW6.out.x.form
  subst hwy
  go_wp2_with fail
  go_loopg [23] L.length (fun gk iv wr => ∃ (k : Nat) (Fk : Nat → Prop), k + gk = L.length ∧ iv = .int .i64 (k : Int) ∧ Hid (W2 (fun u => Ts u (.slice Aw L.length cw) L) w1 wr (fun u F => PSc u F g c (L.drop k) cd m2 false) Fk (stB gy gy m2) G))
  case atStart => exact ⟨0, F6, by omega, rfl, HW6⟩
  case round =>
    obtain ⟨k, Fk, hk, rfl, HW⟩ := hrel
    clear HW6
    by_cases hlt : k < L.length
    · obtain ⟨gk1, hgk1⟩ : ∃ x, gk = x + 1 := ⟨gk - 1, by omega⟩
      obtain ⟨t, ht⟩ : ∃ t, L[k]? = some t := ⟨_, List.getElem?_eq_getElem hlt⟩
      have hdr : L.drop k = t :: L.drop (k + 1) := by rw [List.drop_eq_getElem_cons hlt, (List.getElem?_eq_some_iff.1 ht).2]
      have hDn := hK.done_no (by have := HW.out.a; simp only [hdr] at this; exact this)
      have HTK := Lib.hid ht
      have HDR := Lib.hid hdr
      have a0 : (0 : Int) ≤ (k : Int) := by omega
      have a1 : (k : Int) < (L.length : Int) := by omega
      clear hdr ht
      go_wp2_with fail
      refine hDn.mono ?_
      rintro e w4 ⟨rfl, hb4⟩
      have HW4 := Lib.hid (HW.out.later (hK.thing _ _ _ _ _ _) (stB_thing _ _ _) hb4)
      have hNx := hK.next_on (by have := HW4.out.a; simp only [HDR.out] at this; exact this) (Keep.of_old HLU.out HW4.out.below HW4.out.fge)
      clear hDn hb4 HW HDR
      go_wp2_with fail
      refine hNx.mono ?_
      rintro e w5 ⟨d, F5, rfl, hC5, hS5k, _, hG5⟩
      have hS5 := hS5k.here
      have HW5 : Hid (W2 (fun u => Ts u (.slice Aw L.length cw) L) w1 w5 (fun u F => PSc u F g c (L.drop (k + 1)) cd m2 false) F5 (stB gy gy m2) G) := Lib.hid (HW4.out.stepA (A' := fun u F => PSc u F g c (L.drop (k + 1)) cd m2 false) (hK.thing _ _ _ _ _ _) (stB_thing _ _ _) hC5 hG5.apt hG5.new)
      obtain ⟨Ad, cdd, rfl, _, _⟩ := hS5.form
      have HS5 := Lib.hid hS5
      have hb6 : Below w5.heap.size w5 (w5.alloc (.cells #[.int .u64 t.id, .slice Ad t.sp.length cdd] 43)) := (Below.refl _ _).alloc (Nat.le_refl _) _
      have HX6 : Hid (Blk (w5.alloc (.cells #[.int .u64 t.id, .slice Ad t.sp.length cdd] 43)) w5.heap.size 43 #[.int .u64 t.id, .slice Ad t.sp.length cdd]) := Lib.hid (Blk.new _ _ _)
      have HW6 := Lib.hid (HW5.out.later (hK.thing _ _ _ _ _ _) (stB_thing _ _ _) hb6)
      have HS6 := Lib.hid (HS5.out.below hb6)
      clear hNx hC5 hS5 hS5k hG5 HW4 HW5 HS5 hb6
      go_wp2_with fail
      revert HX6 HW6 HS6
      generalize w5.alloc (.cells #[.int .u64 t.id, .slice Ad t.sp.length cdd] 43) = w6
      generalize w5.heap.size = gx
      intro HX6 HW6 HS6
      obtain ⟨gz, pz, dz, hAz, hgz, z0, z1, hdz, _, _⟩ := Ts.cells HW6.out.x HTK.out
      subst hAz
      obtain ⟨Az, cz, rfl, _, _⟩ := hdz.form
      have hcl : ∀ u, Below w6.heap.size w6 u → u.cell? ⟨gz, pz + k * 2, none⟩ = some (.int .u64 t.id) ∧ u.cell? ⟨gz, pz + k * 2 + 1, none⟩ = some (.slice Az t.sp.length cz) ∧ u.cell? ⟨gx, 0, none⟩ = some (.int .u64 t.id) ∧ u.cell? ⟨gx, 1, none⟩ = some (.slice Ad t.sp.length cdd) := fun u hu => by
        have h1 := HX6.out.below hu HX6.out.lt
        exact ⟨(hu.cell hgz).trans z0, (hu.cell hgz).trans z1, by simpa using h1.cell 0, by simpa using h1.cell 1⟩
      have hSp := fun u (hu : Below w6.heap.size w6 u) => Spans_same (.slice Ad t.sp.length cdd) (.slice Az t.sp.length cz) t.sp u (HS6.out.below hu) (hdz.below hu)
      refine wp_region_mix [(0, false), (1, false), (2, false), (3, false), (4, false), (5, false), (6, false), (7, false), (8, false), (9, false), (10, false), (11, false), (12, false), (13, false), (14, false), (15, false), (16, false), (17, false), (18, false), (19, false), (20, false), (21, false), (22, false), (23, false), (24, true), (25, false), (26, false)] (fun u => Below w6.heap.size w6 u) (by kernel_rfl) (by kernel_rfl) (by kernel_rfl) rfl (Below.refl _ _).drew ?_
      iterate 24
        (first
          | (refine mix_read (o := ⟨_, _, _, _, _, _⟩) (v := ?_) rfl (by rfl) (fun w' hS => ?_) ?_
             rotate_left
             obtain ⟨c0, c1, c2, c3⟩ := hcl w' hS
             go_simp
             with_reducible rfl
             try simp only [Act.put, List.setIfInBounds_toArray, List.set_cons_zero, List.set_cons_succ])
          | (refine mix_read (o := ⟨_, _, _, _, _, _⟩) (v := .bool false) rfl (by rfl) (fun w' hS => by
               obtain ⟨c0, c1, c2, c3⟩ := hcl w' hS
               go_simp
               try simp) ?_
             try simp only [Act.put, List.setIfInBounds_toArray, List.set_cons_zero, List.set_cons_succ]))
      refine mix_step (o := ⟨_, _, _, _, _, _⟩) rfl (fun K hK2 => ?_)
      go_simp
      refine (hSp _ (Below.refl _ _).drew).mono ?_
      rintro e w7 ⟨rfl, hb7⟩
      have hS7 : Below w6.heap.size w6 w7 := (Below.refl w6.heap.size w6).drew.trans (hb7.mono (Below.refl w6.heap.size w6).drew.size)
      refine hK2.out _ _ hS7 ?_
      clear hK2 K
      try simp only [Act.put, List.setIfInBounds_toArray, List.set_cons_zero, List.set_cons_succ]
      iterate 2
        (first
          | (refine mix_read (o := ⟨_, _, _, _, _, _⟩) (v := ?_) rfl (by rfl) (fun w' hS => ?_) ?_
             rotate_left
             obtain ⟨c0, c1, c2, c3⟩ := hcl w' hS
             go_simp
             with_reducible rfl
             try simp only [Act.put, List.setIfInBounds_toArray, List.set_cons_zero, List.set_cons_succ])
          | (refine mix_read (o := ⟨_, _, _, _, _, _⟩) (v := .bool false) rfl (by rfl) (fun w' hS => by
               obtain ⟨c0, c1, c2, c3⟩ := hcl w' hS
               go_simp
               try simp) ?_
             try simp only [Act.put, List.setIfInBounds_toArray, List.set_cons_zero, List.set_cons_succ]))
      refine mix_done ?_
      have HW7 := Lib.hid (HW6.out.later (hK.thing _ _ _ _ _ _) (stB_thing _ _ _) hS7)
      clear hcl hSp hb7 hS7 HW6 HX6 HS6
      go_wp2_with fail
      go_roundg gk1
      case measure => omega
      case rel => exact ⟨k + 1, F5, by omega, by go_num, HW7⟩
    · have hkn : k = L.length := by omega
      have hdr : L.drop k = [] := by rw [hkn, List.drop_length]
      have HWk : Hid (W2 (fun u => Ts u (.slice Aw L.length cw) L) w1 wr (fun u F => PSc u F g c [] cd m2 false) Fk (stB gy gy m2) G) := Lib.hid (by rw [← hdr]; exact HW.out)
      clear HW hkn hdr
      go_wp2_with fail
      go_loopg [27] 2 (fun gk iv wr => ∃ (k : Nat) (Fk : Nat → Prop) (en : Bool), k + gk = 2 ∧ iv = .int .i64 (k : Int) ∧ Hid (W2 (fun _ => True) w1 wr (fun u F => PSc u F g c [] cd m2 en) Fk (stB gy gy m2) G ∧ (1 ≤ k → en = true)))
      case atStart => exact ⟨0, Fk, false, by omega, rfl, Lib.hid ⟨HWk.out.say fun _ _ => trivial, fun h => by omega⟩⟩
      case round =>
        obtain ⟨j, Fj, en, hj, rfl, HV⟩ := hrel
        clear HWk
        by_cases hj2 : j < 2
        · obtain ⟨gj1, hgj1⟩ : ∃ x, gk = x + 1 := ⟨gk - 1, by omega⟩
          have hNx := hK.next_end HV.out.1.a (Keep.of_old HLU.out HV.out.1.below HV.out.1.fge)
          go_wp2_with fail
          refine hNx.mono ?_
          rintro e w5 ⟨F5, rfl, hC5, hG5⟩
          have HW5 : Hid (W2 (fun _ => True) w1 w5 (fun u F => PSc u F g c [] cd m2 true) F5 (stB gy gy m2) G) := Lib.hid (HV.out.1.stepA (A' := fun u F => PSc u F g c [] cd m2 true) (hK.thing _ _ _ _ _ _) (stB_thing _ _ _) hC5 hG5.apt hG5.new)
          have hb6 : Below w5.heap.size w5 (w5.alloc (.cells #[.int .u64 0, .slice none 0 0] 43)) := (Below.refl _ _).alloc (Nat.le_refl _) _
          have HW6 := Lib.hid (HW5.out.later (hK.thing _ _ _ _ _ _) (stB_thing _ _ _) hb6)
          clear hNx hC5 hG5 HV HW5 hb6
          go_wp2_with fail
          revert HW6
          generalize w5.alloc (.cells #[.int .u64 0, .slice none 0 0] 43) = w6
          intro HW6
          refine (Code_err cd _ HTC.out).mono ?_
          rintro e w7 ⟨rfl, rfl⟩
          go_wp2_with fail
          refine (hK.done_yes HW6.out.a).mono ?_
          rintro e w7 ⟨rfl, hb7⟩
          have HW7 := Lib.hid (HW6.out.later (hK.thing _ _ _ _ _ _) (stB_thing _ _ _) hb7)
          clear hb7 HW6
          go_wp2_with fail
          go_roundg gj1
          case measure => omega
          case rel => exact ⟨j + 1, F5, true, by omega, by go_num, Lib.hid ⟨HW7.out, fun _ => rfl⟩⟩
        · have hje : j = 2 := by omega
          have hen : en = true := HV.out.2 (by omega)
          obtain ⟨F8, hP8, hF8⟩ := hK.store (by have := HV.out.1.a; rw [hen] at this; exact this)
          have HW8 : Hid (W2 (fun _ => True) w1 wr (stA g m2) F8 (stB gy gy m2) G) := Lib.hid ⟨HV.out.1.below, hP8, HV.out.1.b, fun q hq => HV.out.1.fge q (hF8 q hq), HV.out.1.gge, fun q hq hG => HV.out.1.ne q (hF8 q hq) hG, fun _ _ => trivial⟩
          clear HV hen hP8 hF8
          have hfl := sfail_any (n := -1) HW8.out.a (by omega) (by omega)
          go_wp2_with fail
          refine hfl.mono ?_
          rintro e w9 ⟨rfl, hP9, hg9⟩
          have HW9 := Lib.hid (HW8.out.stepA (A' := stA g (failS m2 (-1))) (stA_thing _ _) (stB_thing _ _ _) hP9 (Apt.of_grown hg9 fun q hq => by rw [← Option.some.inj hq]; exact hP9.Fg) fun q hq => .inl hq)
          clear hfl hP9 hg9 HW8
          obtain ⟨vy, hD9, hG9⟩ := HW9.out.b
          have hfl := Fail_any gy gy vy m2 (-1) w9 hD9
          go_wp2_with fail
          refine hfl.mono ?_
          rintro e w10 ⟨rfl, hD10, hg10⟩
          obtain ⟨m3, hm3⟩ : ∃ z, z = failS m2 (-1) := ⟨_, rfl⟩
          have HW10 : Hid (W2 (fun _ => True) w1 w10 (stA g m3) F8 (stB gy gy m3) G) := Lib.hid (by
            rw [hm3]
            exact HW9.out.stepB (B' := stB gy gy (failS m2 (-1))) (stA_thing _ _) ⟨vy, hD10, hG9⟩ (Apt.of_grown hg10 fun q hq => by rw [hG9]; exact .inl (Option.some.inj hq).symm) fun q hq => .inl hq)
          have HM3 : Hid (m3.fine 501) := Lib.hid (by rw [hm3]; exact HM2.out.fail (-1) (by omega))
          clear hfl hD9 hG9 hD10 hg10 HW9 hm3 vy
          obtain ⟨vy, hD10, hG10⟩ := HW10.out.b
          have hTo := DTold_any (N := 501) of_ w10 hD10 HM3.out (by omega) hof
          obtain ⟨L2, hL2⟩ : ∃ z, z = (tlR m3 of_).1.2 := ⟨_, rfl⟩
          obtain ⟨c2, hc2⟩ : ∃ z, z = (tlR m3 of_).1.1 := ⟨_, rfl⟩
          obtain ⟨m4, hm4⟩ : ∃ z, z = (tlR m3 of_).2 := ⟨_, rfl⟩
          rw [← hL2, ← hc2, ← hm4] at hTo
          have hL2x := Lib.hid hL2
          clear hL2 hc2 hm4
          go_wp2_with fail
          refine hTo.mono ?_
          rintro e w11 ⟨ay, rfl, hD11, _, hO11, hA11⟩
          have HW11 : Hid (W2 (fun u => Ts u ay L2) w1 w11 (stA g m3) F8 (stB gy gy m4) G) := Lib.hid (by
            have h1 := HW10.out.stepB (B' := stB gy gy m4) (stA_thing _ _) ⟨vy, hD11, hG10⟩ (hA11.mono fun q _ hq => by rw [hG10]; exact .inl hq) fun q hq => .inl hq
            refine h1.say (Keep.less (hO11.keep fun q hq h => ?_) fun q hq => .inl (HW10.out.bad_lt (stA_thing _ _) (stB_thing _ _ _) q hq))
            have := (hO11.lt q hq).1
            omega)
          obtain ⟨Aa, ca, hay, hca1, hca2⟩ := HW11.out.x.form
          subst hay
          clear hTo hD10 hG10 hD11 hO11 hA11 vy HW10
          have hb12 : Below w11.heap.size w11 ((w11.alloc (.cells #[.slice Aa L2.length ca] 23)).alloc (.cells #[.int .i64 0] 3)) := ((Below.refl _ _).alloc (Nat.le_refl _) _).alloc (by simp) _
          have hga : Blk ((w11.alloc (.cells #[.slice Aa L2.length ca] 23)).alloc (.cells #[.int .i64 0] 3)) w11.heap.size 23 #[.slice Aa L2.length ca] := (Blk.new w11 _ _).alloc _
          have hgn : Blk ((w11.alloc (.cells #[.slice Aa L2.length ca] 23)).alloc (.cells #[.int .i64 0] 3)) (w11.heap.size + 1) 3 #[.int .i64 0] := by
            have := Blk.new (w11.alloc (.cells #[.slice Aa L2.length ca] 23)) 3 #[.int .i64 0]
            simpa using this
          have hlt := HW11.out.bad_lt (stA_thing _ _) (stB_thing _ _ _)
          have HW12 : Hid (W2 (fun u => Ts u (.slice Aa L2.length ca) L2 ∧ Blk u w11.heap.size 23 #[.slice Aa L2.length ca] ∧ Blk u (w11.heap.size + 1) 3 #[.int .i64 0]) w1 ((w11.alloc (.cells #[.slice Aa L2.length ca] 23)).alloc (.cells #[.int .i64 0] 3)) (stA g m3) F8 (stB gy gy m4) G) := Lib.hid (by
            have h1 := HW11.out.later (stA_thing _ _) (stB_thing _ _ _) hb12
            exact h1.say (h1.kx.and ((keepBlk hga fun hbad => by have := hlt _ hbad; omega).and (keepBlk hgn fun hbad => by have := hlt _ hbad; omega))))
          have HGA : Hid (w1.heap.size ≤ w11.heap.size) := Lib.hid HW11.out.below.size
          have HKT : Hid (Keep (fun q => (F8 q ∨ G q) ∨ w11.heap.size ≤ q) (fun u => Ts u (.slice Aa L2.length ca) L2) ((w11.alloc (.cells #[.slice Aa L2.length ca] 23)).alloc (.cells #[.int .i64 0] 3))) := Lib.hid (HW11.out.kx.go (Apt.of_below hb12) fun q hq => hq)
          have HF8 : Hid (∀ q, F8 q → q < w11.heap.size) := Lib.hid fun q hq => hlt q (.inl hq)
          have HZ12 : Hid (((w11.alloc (.cells #[.slice Aa L2.length ca] 23)).alloc (.cells #[.int .i64 0] 3)).heap.size = w11.heap.size + 1 + 1) := Lib.hid (by simp)
          clear hb12 hga hgn hlt HW11
          go_wp2_with fail
          revert HW12 HGA HKT HF8 HZ12
          generalize (w11.alloc (.cells #[.slice Aa L2.length ca] 23)).alloc (.cells #[.int .i64 0] 3) = w12
          generalize w11.heap.size = ga
          intro HW12 HGA HKT HF8 HZ12
          refine (hK.each of_ HW12.out.a hof).mono ?_
          rintro e w13 ⟨fv, F13, rfl, hQ13, hG13⟩
          have HW13 := Lib.hid (HW12.out.stepA (A' := fun u F => PSq u F g m3 fv of_) (stA_thing _ _) (stB_thing _ _ _) hQ13 hG13.apt hG13.new)
          obtain ⟨gf, lb, hfv, heg, _⟩ := hK.seq hQ13
          subst hfv
          have HG13 := Lib.hid hG13
          clear hQ13 hG13 HW12
          go_wp2_with fail
          refine wp_range (gf := gf) (lb := lb) rfl heg fun fn rec hrec => ?_
          have HREC := Lib.hid hrec
          clear hrec
          obtain ⟨D, hDe⟩ : ∃ D, D = w13.heap.size := ⟨_, rfl⟩
          have hb14 : Below w13.heap.size w13 ((w13.alloc (.deferred (some []))).alloc (.loop (rec .ready none))) := ((Below.refl _ _).alloc (Nat.le_refl _) _).alloc (by simp) _
          have hlp : ((w13.alloc (.deferred (some []))).alloc (.loop (rec .ready none))).heap[w13.heap.size + 1]? = some (.loop (rec .ready none)) := by
            have := World.alloc_heap_new (w13.alloc (.deferred (some []))) (.loop (rec .ready none))
            rwa [World.size_alloc] at this
          have hdf : ((w13.alloc (.deferred (some []))).alloc (.loop (rec .ready none))).heap[w13.heap.size]? = some (.deferred (some [])) := (Below.heap_alloc _ _ _ (by simp)).trans (World.alloc_heap_new w13 _)
          have hQ14 := (hK.thing_q g m3 _ of_).keep HW13.out.a (Apt.of_below hb14)
          have hs13 := HG13.out.apt.size
          have hz12 := HZ12.out
          have hFlt := (hK.thing_q g m3 _ of_).lt HW13.out.a
          have hJ0 : ScJ w1 (fun q => F8 q ∨ G q) ga w13.heap.size (.slice Aa L2.length ca) L2 (rec .ready none) [] F13 ((w13.alloc (.deferred (some []))).alloc (.loop (rec .ready none))) :=
            ⟨HW13.out.below.trans (hb14.mono HW13.out.below.size), HW13.out.fge, fun q hq => Nat.lt_of_lt_of_le (hFlt q hq) hb14.size, fun q hq => by
              rcases HG13.out.new q hq with h | h
              · exact .inl (.inl h)
              · exact .inr (by omega), Nat.zero_le _, (HKT.out.go (HG13.out.apt.mono fun q _ hq => .inl (.inl hq)) fun q hq => .inl hq).below hb14, HW13.out.x.2.1.below hb14 HW13.out.x.2.1.lt, HW13.out.x.2.2.below hb14 HW13.out.x.2.2.lt, hlp, hdf, by
              have key : ∀ q, (q = ga ∨ q = ga + 1) → ¬ F13 q := fun q hq hF => by
                rcases HG13.out.new q hF with h | h
                · have := HF8.out q h
                  omega
                · omega
              exact ⟨key _ (.inl rfl), key _ (.inr rfl), fun hF => by have := hFlt _ hF; omega, fun hF => by have := hFlt _ hF; omega⟩, HGA.out, by omega⟩
          obtain ⟨gf2, lb2, hf2, _, hrun⟩ := hK.seq hQ14
          injection hf2 with e1 e2 e3
          injection e1 with e1
          subst e1 e3
          rw [← hL2x.out] at hrun
          refine (hrun 501 (w13.heap.size + 1) (fun pre F W => ScJ w1 (fun q => F8 q ∨ G q) ga w13.heap.size (.slice Aa L2.length ca) L2 (rec .ready none) pre F W) (fun pre F W => ScJ w1 (fun q => F8 q ∨ G q) ga w13.heap.size (.slice Aa L2.length ca) L2 (rec .done (some (.exit 4))) pre F W ∧ (pre.length : Int) = stop) HM3.out (by omega) hof (fun pre F W F' W' h hG hl => h.go hG hl) (fun pre F W F' W' h hG hl => ⟨h.1.go hG hl, h.2⟩) (fun pre F W h => Keep.of_old HLU.out h.bel h.fge) ?_ hJ0).mono ?_
          · rintro pre t d F W hJ ht hS htid
            obtain ⟨Ad, cdd, rfl, _, _⟩ := hS.here.form
            clear hrun hJ0 hQ14 hdf hlp hb14 heg hFlt hDe
            have HJ := Lib.hid hJ
            have hlt : pre.length < L2.length := (List.getElem?_eq_some_iff.1 ht).1
            refine yield_round HREC.out hJ.lp rfl ?_
            clear hJ
            have hsem := @Oper.semAt_some
            gi_wp2_with fail
            refine ⟨HJ.out.lp, ?_⟩
            have HJb := Lib.hid (HJ.out.put (rec .busy none))
            have hDl := HJ.out.lt
            have hab : Apt (fun q => ¬ F q) W (W.putObj (w13.heap.size + 1) (.loop (rec .busy none))) := Apt.of_grown (grownBy_putObj' W _ _) fun q hq => by
              rw [← Option.some.inj hq]
              exact HJ.out.nf.2.2.2
            have HAB := Lib.hid hab
            have HSb := Lib.hid (hS _ hab)
            clear hS hab
            revert HJb HSb HAB
            generalize W.putObj (w13.heap.size + 1) (.loop (rec .busy none)) = Wb
            intro HJb HAB HSb
            obtain ⟨gz, pz, dz, hAz, hgz, z0, z1, hdz, _, _⟩ := Ts.cells HJb.out.ts.here ht
            subst hAz
            obtain ⟨Az, cz, rfl, _, _⟩ := hdz.form
            have hSp := Spans_same (.slice Ad t.sp.length cdd) (.slice Az t.sp.length cz) t.sp Wb HSb.out hdz
            have n0 := HJb.out.n.cell 0
            have s0 := HJb.out.all.cell 0
            simp at n0 s0
            have i0 : (0 : Int) ≤ (pre.length : Int) := by omega
            have i1 : (pre.length : Int) < (L2.length : Int) := by omega
            have i2 : ¬ L2.length ≤ pre.length := by omega
            clear ht hdz
            gi_wp2_with fail
            refine ⟨trivial, (CallsIn.inRound _ (callsIn_wide.2 hSp)).mono ?_⟩
            rintro e Wc ⟨rfl, hbc⟩
            have HJc := Lib.hid (HJb.out.later hbc)
            have HAC := Lib.hid (HAB.out.trans (Apt.of_below hbc))
            clear hSp hbc z0 z1 n0 s0 HJb HAB HSb
            have n0 := HJc.out.n.cell 0
            have f0 := HJc.out.n.frozen 0
            have p0 := (HP1.out.below HJc.out.bel HP1.out.lt).cell 0
            simp at n0 p0
            have HJd := Lib.hid (HJc.out.inc t hlt)
            have hge := HJc.out.ge
            have hw1 := HP1.out.lt
            have hne1 : ¬ w.heap.size = ga := by omega
            have hne2 : ¬ ga = w.heap.size := by omega
            have HAD : Hid (∀ lp', Apt (fun q => ¬ F q) W ((Wc.setCell ⟨ga + 1, 0, none⟩ (.int .i64 ((pre.length : Int) + 1))).putObj (w13.heap.size + 1) (.loop lp'))) := Lib.hid fun lp' =>
              (HAC.out.trans (Apt.of_grown (grown_set _ _ _ _) fun q hq => by
                rw [← Option.some.inj hq]
                exact HJc.out.nf.2.1)).trans (Apt.of_grown (grownBy_putObj' _ _ _) fun q hq => by
                rw [← Option.some.inj hq]
                exact HJc.out.nf.2.2.2)
            have i4 : (pre.length : Int) + 1 ≤ 9223372036854775807 := by omega
            by_cases hst : (pre.length : Int) + 1 = stop
            · have hbe : ((pre.length : Int) + 1 == stop) = true := by simpa using hst
              have HST := Lib.hid hst
              clear hst
              gi_wp2_with fail
              exact ⟨HJd.out.lp, HAD.out _, .inr ⟨rfl, HJd.out.put _, HST.out⟩⟩
            · have hbe : ((pre.length : Int) + 1 == stop) = false := by simpa using hst
              clear hst
              gi_wp2_with fail
              exact ⟨HJd.out.lp, HAD.out _, .inl ⟨rfl, HJd.out.put _⟩⟩
          · rintro e W' ⟨⟨v', rfl⟩, F', hJ | ⟨pre, hp, hJ, hst⟩⟩
            · refine ⟨v', none, rfl, hJ.lp, ?_⟩
              have HJ := Lib.hid (hJ.put (rec .exhausted none))
              clear hJ hrun hJ0 hQ14 hdf hlp hb14 heg hFlt hDe
              revert HJ
              generalize W'.putObj (w13.heap.size + 1) (.loop (rec .exhausted none)) = We
              intro HJ
              have n0 := HJ.out.n.cell 0
              have s0 := HJ.out.all.cell 0
              have p0 := (HP1.out.below HJ.out.bel HP1.out.lt).cell 0
              have hR6 := HR1.out.below HJ.out.bel HR1.out.lt
              have f0 := hR6.frozen 0
              have r0 := hR6.cell 0
              simp at n0 s0 p0 r0
              dsimp only [Exit.inBlock, Exit.then]
              go_wp2_with fail
              have hm := (hR6.set_ 0 (.bool true)).cell 0
              simp at hm
              have hgs := grown_set We (w.heap.size + 1 + 1) 0 (.bool true)
              have hlt := HR1.out.lt
              have hw1 := HJ.out.bel.size
              have hge := HJ.out.ge
              have hne : w13.heap.size ≠ w.heap.size + 1 + 1 := by omega
              have hdf := (hgs.block w13.heap.size (Array.getElem?_eq_some_iff.1 HJ.out.df).1 fun e => hne (Option.some.inj e)).trans HJ.out.df
              have hc := (World.cell?_of_block (a := ⟨w.heap.size + 1 + 1, 0, none⟩) (World.putObj_heap_other (w := We.setCell ⟨w.heap.size + 1 + 1, 0, none⟩ (.bool true)) (o := .deferred none) (Ne.symm hne))).trans hm
              have hBf := box_ret (r := w.heap.size + 1 + 1) (HFIN.out _ HJ.out.bel) (by omega) (.bool true)
              exact marks_ret1 (v := .bool true) (by simp [results, go_sem, hc]; try rfl) rfl hdf ⟨rfl, hBf.grown (grownBy_putObj' _ _ _) hBf.size fun q e => by have := Option.some.inj e; omega⟩
            · refine ⟨v', some (.exit 4), rfl, hJ.lp, ?_⟩
              dsimp only
              have HJ := Lib.hid (hJ.put (rec .exhausted (some (.exit 4))))
              clear hJ hrun hJ0 hQ14 hdf hlp hb14 heg hFlt hDe
              revert HJ
              generalize W'.putObj (w13.heap.size + 1) (.loop (rec .exhausted (some (.exit 4)))) = We
              intro HJ
              have n0 := HJ.out.n.cell 0
              have s0 := HJ.out.all.cell 0
              have p0 := (HP1.out.below HJ.out.bel HP1.out.lt).cell 0
              have hR6 := HR1.out.below HJ.out.bel HR1.out.lt
              have f0 := hR6.frozen 0
              have r0 := hR6.cell 0
              simp at n0 s0 p0 r0
              have hsb : ((pre.length : Int) == stop) = true := by simpa using hst
              clear hst
              by_cases hpl : (pre.length : Int) = (L2.length : Int)
              · have hbp : ((pre.length : Int) == (L2.length : Int)) = true := by simpa using hpl
                clear hpl
                refine wp_exit ?_
                simp only [Exit.inBlock, Exit.then, if_true]
                go_wp2_with fail
                have hm := (hR6.set_ 0 (.bool true)).cell 0
                simp at hm
                have hgs := grown_set We (w.heap.size + 1 + 1) 0 (.bool true)
                have hlt := HR1.out.lt
                have hw1 := HJ.out.bel.size
                have hge := HJ.out.ge
                have hne : w13.heap.size ≠ w.heap.size + 1 + 1 := by omega
                have hdf := (hgs.block w13.heap.size (Array.getElem?_eq_some_iff.1 HJ.out.df).1 fun e => hne (Option.some.inj e)).trans HJ.out.df
                have hc := (World.cell?_of_block (a := ⟨w.heap.size + 1 + 1, 0, none⟩) (World.putObj_heap_other (w := We.setCell ⟨w.heap.size + 1 + 1, 0, none⟩ (.bool true)) (o := .deferred none) (Ne.symm hne))).trans hm
                have hBf := box_ret (r := w.heap.size + 1 + 1) (HFIN.out _ HJ.out.bel) (by omega) (.bool true)
                exact marks_ret1 (v := .bool true) (by simp [results, go_sem, hc]; try rfl) rfl hdf ⟨rfl, hBf.grown (grownBy_putObj' _ _ _) hBf.size fun q e => by have := Option.some.inj e; omega⟩
              · have hbp : ((pre.length : Int) == (L2.length : Int)) = false := by simpa using hpl
                clear hpl
                refine wp_exit ?_
                simp only [Exit.inBlock, Exit.then, if_true]
                go_wp2_with fail
                have hm := (hR6.set_ 0 (.bool true)).cell 0
                simp at hm
                have hgs := grown_set We (w.heap.size + 1 + 1) 0 (.bool true)
                have hlt := HR1.out.lt
                have hw1 := HJ.out.bel.size
                have hge := HJ.out.ge
                have hne : w13.heap.size ≠ w.heap.size + 1 + 1 := by omega
                have hdf := (hgs.block w13.heap.size (Array.getElem?_eq_some_iff.1 HJ.out.df).1 fun e => hne (Option.some.inj e)).trans HJ.out.df
                have hc := (World.cell?_of_block (a := ⟨w.heap.size + 1 + 1, 0, none⟩) (World.putObj_heap_other (w := We.setCell ⟨w.heap.size + 1 + 1, 0, none⟩ (.bool true)) (o := .deferred none) (Ne.symm hne))).trans hm
                have hBf := box_ret (r := w.heap.size + 1 + 1) (HFIN.out _ HJ.out.bel) (by omega) (.bool true)
                exact marks_ret1 (v := .bool true) (by simp [results, go_sem, hc]; try rfl) rfl hdf ⟨rfl, hBf.grown (grownBy_putObj' _ _ _) hBf.size fun q e => by have := Option.some.inj e; omega⟩

theorem scanTells_int (hK : ScanK PSc PSq) (id : Int) (v : Value) (l : List Tn) (s : Sz) (tv : Value) (t : List De) (of_ fails stop : Int) (w : World) (h : Ts w v l) (ht : Ds w tv t) (hi0 : 0 ≤ id) (hi1 : id ≤ 18446744073709551615) (ho0 : 0 ≤ of_) (ho1 : of_ ≤ 18446744073709551615) (hf0 : -9223372036854775808 ≤ fails) (hf1 : fails ≤ 9223372036854775807) (hll : l.length ≤ 140737488355328) (hL : Ld w) :
    Calls Tryz.prog 3 #[.int .u64 id, v, szV s, tv, .int .u64 of_, .int .i64 fails, .int .i64 stop] w fun e w' => e = .returned (.bool true) ∧ Below w.heap.size w w' := by
  obtain ⟨i, rfl⟩ := nat_of (n := id) hi0
  obtain ⟨o, rfl⟩ := nat_of (n := of_) ho0
  exact scanTells_any hK i v l s tv t o fails stop w h ht (by omega) (by omega) hf0 hf1 hll hL

end

end Go.Proofs.YtfccfnbmmgfgcaaGreatDoor
