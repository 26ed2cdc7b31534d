/-
  tankardlaw11.BloomTells, walked over whatever keeps what a filter is to keep ('BloomK'). Conditions: what the theorem says.
-/
import Derived.Test.YtdbgmobgbnfdbaaBlL
import Derived.Test.YtdbgmobgbnfdbaaBlN
import Derived.Test.YtdbgmobgbnfdbaaBlO
namespace Go.Proofs.Ytdbgmobgbnfdbaa
open Go.RowKit
set_option maxRecDepth 100000

/-- an Id, as cells -/
def uC (n : Nat) : List Value := [.int .u64 (n : Int)]

set_option maxHeartbeats 3200000 in
theorem bloomTells_any {PB : World → (Nat → Prop) → Nat → Bl → Prop} (hK : BloomK PB) (s bi h : Int) (vl : Value) (l : List Nat) (id : Nat) (w : World) (hl : Lv 1 w vl (l.map uC)) (hlb : ∀ x ∈ l, x < 18446744073709551616) (hid : id < 18446744073709551616) :
    Calls Try.prog 3 #[.int .i64 s, .int .i64 bi, .int .i64 h, vl, .int .u64 (id : Int)] w fun e w' => e = .returned (.bool true) ∧ Below w.heap.size w w' := by
  have HK := Lib.hid hK
  have HL := Lib.hid hl
  have HLB := Lib.hid hlb
  have eqc := eqCode
  obtain ⟨A, c, rfl, hc1, hc2⟩ := hl.form
  rw [List.length_map] at HL hc1 ⊢
  clear hl hK hlb
  cases hR : rightI s bi h with
  | false =>
    have HNb := Lib.hid fun u : World => HK.out.new_bad u hR
    have HRt := Lib.hid hR
    clear hR
    go_enter Try.func3, Try.ntmps3
    go_wp2_with fail
    refine (up11_any HK.out _).mono ?_
    rintro e w1 ⟨rfl, hb1⟩
    have HB1 := Lib.hid hb1
    clear hb1
    go_wp2_with fail
    refine (HNb.out _).mono ?_
    rintro e w2 ⟨rfl, hb2⟩
    have HB2 := Lib.hid (HB1.out.trans (hb2.mono HB1.out.size))
    clear hb2
    go_wp2_with fail
    refine (Right_any _ _ _ _).mono ?_
    rintro e w3 ⟨rfl, rfl⟩
    rw [HRt.out]
    go_wp2_with fail
    go_ret
    exact ⟨rfl, HB2.out⟩
  | true =>
    obtain ⟨r1, r2, r3, r4, r5, r6, r7⟩ := rightI_iff.1 hR
    obtain ⟨s, rfl⟩ := nat_of (n := s) (by omega)
    obtain ⟨bi, rfl⟩ := nat_of (n := bi) (by omega)
    obtain ⟨h, rfl⟩ := nat_of (n := h) (by omega)
    have HNw := Lib.hid fun u : World => HK.out.new_ok u hR
    have HDw := Lib.hid fun u : World => DNew_ok u hR
    have HOk := Lib.hid (Bl.new_ok hR)
    have HRt := Lib.hid hR
    clear hR r1 r2 r3 r4 r5 r6 r7
    go_enter Try.func3, Try.ntmps3
    go_wp2_with fail
    refine (up11_any HK.out _).mono ?_
    rintro e w1 ⟨rfl, hb1⟩
    have HB1 := Lib.hid hb1
    clear hb1
    go_wp2_with fail
    refine (HNw.out _).mono ?_
    rintro e w2 ⟨g, F, rfl, hP2, hb2, hF2⟩
    have HB2 := Lib.hid (HB1.out.trans (hb2.mono HB1.out.size))
    have HP2 := Lib.hid hP2
    have HF2 : Hid (∀ q, F q → w.heap.size ≤ q) := Lib.hid fun q hq => Nat.le_trans HB1.out.size (hF2 q hq)
    clear hb2 hP2 hF2
    go_wp2_with fail
    refine (Right_any _ _ _ _).mono ?_
    rintro e w3 ⟨rfl, rfl⟩
    rw [HRt.out]
    by_cases hbig : 200 < l.length
    · go_wp2_with fail
      go_ret
      exact ⟨rfl, HB2.out⟩
    go_wp2_with fail
    refine (HDw.out _).mono ?_
    rintro e w3 ⟨gd, G, rfl, hD3, hb3, hG3⟩
    have HW3 : Hid (W2 (fun u => Lv 1 u (.slice A l.length c) (l.map uC)) w w3 (fun u F => PB u F g ((Bl.new s bi h).adds (l.take 0))) F (fun u G => DB u G gd ((Bl.new s bi h).adds (l.take 0))) G) := Lib.hid
      ⟨HB2.out.trans (hb3.mono HB2.out.size), HK.out.later HP2.out hb3, hD3, HF2.out, fun q hq => Nat.le_trans HB2.out.size (hG3 q hq), fun q hq hg => by
        have h1 := (HK.out.thing _ _).lt HP2.out q hq
        have h2 := hG3 q hg
        omega, Keep.of_old (fun u hu => HL.out.below hu) (HB2.out.trans (hb3.mono HB2.out.size)) fun q hq => hq.elim (HF2.out q) fun hg => Nat.le_trans HB2.out.size (hG3 q hg)⟩
    clear hD3 hb3 hG3
    go_wp2_with fail
    go_loopg [16] l.length (fun gk iv wr => ∃ (k : Nat) (F G : Nat → Prop), k + gk = l.length ∧ iv = .int .i64 (k : Int) ∧ Hid (W2 (fun u => Lv 1 u (.slice A l.length c) (l.map uC)) w wr (fun u F => PB u F g ((Bl.new s bi h).adds (l.take k))) F (fun u G => DB u G gd ((Bl.new s bi h).adds (l.take k))) G))
    case atStart => exact ⟨0, F, G, by omega, rfl, HW3⟩
    case round =>
      obtain ⟨k, F, G, hk, rfl, HM⟩ := hrel
      clear HW3
      by_cases hlt : k < l.length
      · obtain ⟨gk1, hgk1⟩ : ∃ x, gk = x + 1 := ⟨gk - 1, by omega⟩
        obtain ⟨x, hx⟩ : ∃ x, l[k]? = some x := ⟨_, List.getElem?_eq_getElem hlt⟩
        obtain ⟨q, o, rfl, hq, hcl⟩ := HM.out.x.cells (by omega) (i := k) (x := uC x) (by rw [List.getElem?_map, hx]; rfl)
        have hcl0 := hcl 0 _ rfl
        simp only [Nat.mul_one, Nat.add_zero] at hcl0
        have hxb := HLB.out x (List.mem_of_getElem? hx)
        have HT : Hid ((Bl.new s bi h).adds (l.take (k + 1)) = ((Bl.new s bi h).adds (l.take k)).add x) := Lib.hid (by
          rw [List.take_add_one, hx]
          exact Bl.adds_snoc _ _ _)
        have hA := HK.out.add x HM.out.a hxb
        have HX := Lib.hid hx
        rw [← HT.out] at hA
        clear hcl hx
        go_wp2_with fail
        refine hA.mono ?_
        rintro e w4 ⟨rfl, F4, hP4, hG4⟩
        have HM4 := Lib.hid (HM.out.stepA (A' := fun u F => PB u F g ((Bl.new s bi h).adds (l.take (k + 1)))) (HK.out.thing _ _) (DB.thing _ _) hP4 hG4.apt hG4.new)
        clear hA hP4 hG4 hcl0 hq
        obtain ⟨q', o', e', _, hcl⟩ := HM4.out.x.cells (by omega) (i := k) (x := uC x) (by rw [List.getElem?_map, HX.out]; rfl)
        injection e' with e'
        injection e' with e1 e2
        subst e1 e2
        have hcl0 := hcl 0 _ rfl
        simp only [Nat.mul_one, Nat.add_zero] at hcl0
        have hA := DAdd_any x HM4.out.b hxb
        rw [← HT.out] at hA
        clear hcl
        go_wp2_with fail
        refine hA.mono ?_
        rintro e w5 ⟨rfl, G5, hD5, hG5⟩
        have HM5 := Lib.hid (HM4.out.stepB (B' := fun u G => DB u G gd ((Bl.new s bi h).adds (l.take (k + 1)))) (HK.out.thing _ _) hD5 hG5.apt hG5.new)
        clear hA hD5 hG5 hcl0
        go_wp2_with fail
        go_roundg gk1
        case measure => omega
        case rel => exact ⟨k + 1, F4, G5, by omega, by go_num, HM5⟩
      · have hkn : k = l.length := by omega
        subst hkn
        have hW := HM.out
        rw [List.take_length] at hW
        generalize (Bl.new s bi h).adds l = b at *
        have HS : Hid (∀ u, Below wr.heap.size wr u → PB u F g b ∧ DB u G gd b) := Lib.hid fun u hu => ⟨HK.out.later hW.a hu, (DB.thing _ _).keep hW.b (Apt.of_below hu)⟩
        have HBw := Lib.hid hW.below
        clear hW hlt hk
        go_wp2_with fail
        refine wp_region_mix [(0, false), (1, false), (2, false), (3, false), (5, false), (6, false), (4, true), (7, true), (8, false), (9, false), (10, false), (11, false), (14, false), (12, true), (13, false), (15, true), (16, false), (17, false), (18, false), (19, false)] (fun u => Below wr.heap.size wr u) (by kernel_rfl) (by kernel_rfl) (by decide +kernel) rfl (Below.refl _ _).drew ?_
        repeat
          (refine mix_read (o := ⟨_, _, _, _, _, _⟩) (v := ?_) rfl (by rfl) (fun w' hU => ?_) ?_
           rotate_left
           go_simp
           with_reducible rfl
           try simp only [Act.put, List.setIfInBounds_toArray, List.set_cons_zero, List.set_cons_succ])
        refine mix_step (o := ⟨_, _, _, _, _, _⟩) rfl (fun K hK => ?_)
        go_simp
        have hb4 : Below wr.heap.size wr wr.drew := (Below.refl _ _).drew
        refine (HK.out.has id (HS.out _ hb4).1 hid).mono ?_
        rintro e w5 ⟨rfl, hb5⟩
        have hb5' := hb4.trans (hb5.mono hb4.size)
        refine hK.out _ _ hb5' ?_
        clear hK K hb5
        try simp only [Act.put, List.setIfInBounds_toArray, List.set_cons_zero, List.set_cons_succ]
        refine mix_step (o := ⟨_, _, _, _, _, _⟩) rfl (fun K hK => ?_)
        go_simp
        refine (DHas_any id (HS.out _ hb5').2 hid).mono ?_
        rintro e w6 ⟨rfl, hb6⟩
        have hb6' := hb5'.trans (hb6.mono hb5'.size)
        refine hK.out _ _ hb6' ?_
        clear hK K hb6 hb5'
        try simp only [Act.put, List.setIfInBounds_toArray, List.set_cons_zero, List.set_cons_succ]
        repeat
          (refine mix_read (o := ⟨_, _, _, _, _, _⟩) (v := ?_) rfl (by rfl) (fun w' hU => ?_) ?_
           rotate_left
           go_simp
           with_reducible rfl
           try simp only [Act.put, List.setIfInBounds_toArray, List.set_cons_zero, List.set_cons_succ])
        refine mix_more (o := ⟨_, _, _, _, _, _⟩) rfl (fun K hK => ?_)
        go_simp
        refine (HK.out.bytes (HS.out _ hb6').1).mono ?_
        rintro e w7 ⟨v7, rfl, ho7, hb7⟩
        have hb7' := hb6'.trans (hb7.mono hb6'.size)
        have HO7 := Lib.hid ho7
        refine hK.out (fun u => Below w7.heap.size w7 u) _ _ (fun u hu => hb7'.trans (hu.mono hb7'.size)) (Below.refl _ _) ?_
        clear hK K hb7 hb6' ho7
        try simp only [Act.put, List.setIfInBounds_toArray, List.set_cons_zero, List.set_cons_succ]
        refine mix_read (o := ⟨_, _, _, _, _, _⟩) (v := ?_) rfl (by rfl) (fun w' hU => ?_) ?_
        rotate_left
        have hst := strOf (HO7.out.bs.below hU)
        go_simp
        with_reducible rfl
        try simp only [Act.put, List.setIfInBounds_toArray, List.set_cons_zero, List.set_cons_succ]
        refine mix_more (o := ⟨_, _, _, _, _, _⟩) rfl (fun K hK => ?_)
        go_simp
        refine (DBytes_any (HS.out _ hb7').2).mono ?_
        rintro e w8 ⟨v8, rfl, ho8, hb8⟩
        have hb8' := hb7'.trans (hb8.mono hb7'.size)
        have HO8 := Lib.hid ho8
        refine hK.out (fun u => Below w8.heap.size w8 u) _ _ (fun u hu => hb8.trans (hu.mono hb8.size)) (Below.refl _ _) ?_
        clear hK K hb8 hb7' ho8
        try simp only [Act.put, List.setIfInBounds_toArray, List.set_cons_zero, List.set_cons_succ]
        refine mix_read (o := ⟨_, _, _, _, _, _⟩) (v := ?_) rfl (by rfl) (fun w' hU => ?_) ?_
        rotate_left
        have hst := strOf (HO8.out.bs.below hU)
        go_simp
        with_reducible rfl
        try simp only [Act.put, List.setIfInBounds_toArray, List.set_cons_zero, List.set_cons_succ]
        repeat
          (refine mix_read (o := ⟨_, _, _, _, _, _⟩) (v := ?_) rfl (by rfl) (fun w' hU => ?_) ?_
           rotate_left
           go_simp
           with_reducible rfl
           try simp only [Act.put, List.setIfInBounds_toArray, List.set_cons_zero, List.set_cons_succ])
        refine mix_done ?_
        go_wp2_with fail
        go_ret
        exact ⟨rfl, HBw.out.trans (hb8'.mono HBw.out.size)⟩

theorem bloomTells_int {PB : World → (Nat → Prop) → Nat → Bl → Prop} (hK : BloomK PB) (s bi h : Int) (vl : Value) (l : List Nat) (id : Int) (w : World) (hl : Lv 1 w vl (l.map uC)) (hlb : ∀ x ∈ l, x < 18446744073709551616) (h0 : 0 ≤ id) (h1 : id ≤ 18446744073709551615) :
    Calls Try.prog 3 #[.int .i64 s, .int .i64 bi, .int .i64 h, vl, .int .u64 id] w fun e w' => e = .returned (.bool true) ∧ Below w.heap.size w w' := by
  obtain ⟨id, rfl⟩ := nat_of h0
  exact bloomTells_any hK s bi h vl l id w hl hlb (by omega)
end Go.Proofs.Ytdbgmobgbnfdbaa
