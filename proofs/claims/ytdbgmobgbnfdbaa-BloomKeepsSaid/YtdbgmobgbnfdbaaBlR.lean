/-
  tankardlaw11.BloomKeeps, walked over whatever keeps what a filter is to keep ('BloomK'). Conditions: what the theorem says.
-/
import Derived.Test.YtdbgmobgbnfdbaaBlP
namespace Go.Proofs.Ytdbgmobgbnfdbaa
open Go.RowKit
set_option maxRecDepth 100000

/-- an Id of a row of them, in a later world -/
theorem uC_cell {w u : World} {A : Option Addr} {c k x : Nat} {l : List Nat} (h : Lv 1 w (.slice A l.length c) (l.map uC)) (hb : Below w.heap.size w u) (hx : l[k]? = some x) : ∃ q o, A = some ⟨q, o, none⟩ ∧ u.cell? ⟨q, o + k, none⟩ = some (.int .u64 (x : Int)) := by
  obtain ⟨q, o, e, hq, hc⟩ := h.cells (by omega) (i := k) (x := uC x) (by rw [List.getElem?_map, hx]; rfl)
  have h0 := hc 0 _ rfl
  simp only [Nat.mul_one, Nat.add_zero] at h0
  exact ⟨q, o, e, (hb.cell (p := ⟨q, _, none⟩) hq).trans h0⟩

set_option maxHeartbeats 3200000 in
theorem bloomKeeps_any {PB : World → (Nat → Prop) → Nat → Bl → Prop} (hK : BloomK PB) (s bi h : Int) (vl vm : Value) (l m : List Nat) (w : World) (hl : Lv 1 w vl (l.map uC)) (hlb : ∀ x ∈ l, x < 18446744073709551616) (hm : Lv 1 w vm (m.map uC)) (hmb : ∀ x ∈ m, x < 18446744073709551616) :
    Calls Try.prog 5 #[.int .i64 s, .int .i64 bi, .int .i64 h, vl, vm] w fun e w' => e = .returned (.bool true) ∧ Below w.heap.size w w' := by
  have HK := Lib.hid hK
  have HL := Lib.hid hl
  have HLB := Lib.hid hlb
  have HM := Lib.hid hm
  have HMB := Lib.hid hmb
  have eqc := eqCode
  obtain ⟨A, c, rfl, hc1, hc2⟩ := hl.form
  obtain ⟨A', c', rfl, hc3, hc4⟩ := hm.form
  rw [List.length_map] at HL hc1 ⊢
  rw [List.length_map] at HM hc3 ⊢
  clear hl hK hlb hm hmb
  cases hR : rightI s bi h with
  | false =>
    have HNb := Lib.hid fun u : World => HK.out.new_bad u hR
    clear hR
    go_enter Try.func5, Try.ntmps5
    go_wp2_with fail
    refine (up11_any HK.out _).mono ?_
    rintro e w1 ⟨rfl, hb1⟩
    have HB1 := Lib.hid hb1
    clear hb1
    go_wp2_with fail
    refine (HNb.out _).mono ?_
    rintro e w2 ⟨rfl, hb2⟩
    have HB2 := Lib.hid (HB1.out.trans (hb2.mono HB1.out.size))
    clear hb2
    go_wp2_with fail
    go_ret
    exact ⟨rfl, HB2.out⟩
  | true =>
    obtain ⟨r1, r2, r3, r4, r5, r6, r7⟩ := rightI_iff.1 hR
    obtain ⟨s, rfl⟩ := nat_of (n := s) (by omega)
    obtain ⟨bi, rfl⟩ := nat_of (n := bi) (by omega)
    obtain ⟨h, rfl⟩ := nat_of (n := h) (by omega)
    have HNw := Lib.hid fun u : World => HK.out.new_ok u hR
    have HOk := Lib.hid (Bl.new_ok hR)
    clear hR r1 r2 r3 r4 r5 r6 r7
    go_enter Try.func5, Try.ntmps5
    go_wp2_with fail
    refine (up11_any HK.out _).mono ?_
    rintro e w1 ⟨rfl, hb1⟩
    have HB1 := Lib.hid hb1
    clear hb1
    go_wp2_with fail
    refine (HNw.out _).mono ?_
    rintro e w2 ⟨g, F, rfl, hP2, hb2, hF2⟩
    have HB2 := Lib.hid (HB1.out.trans (hb2.mono HB1.out.size))
    have HP2 : Hid (PB w2 F g ((Bl.new s bi h).adds (l.take 0)) ∧ Below w.heap.size w w2 ∧ ∀ q, F q → w.heap.size ≤ q) := Lib.hid ⟨hP2, HB2.out, fun q hq => Nat.le_trans HB1.out.size (hF2 q hq)⟩
    clear hb2 hP2 hF2
    by_cases hbig : 200 < l.length
    · go_wp2_with fail
      go_ret
      exact ⟨rfl, HB2.out⟩
    by_cases hbig2 : 200 < m.length
    · go_wp2_with fail
      go_ret
      exact ⟨rfl, HB2.out⟩
    go_wp2_with fail
    clear HB2 HB1
    go_loopg [14] l.length (fun gk iv wr => ∃ (k : Nat) (F : Nat → Prop), k + gk = l.length ∧ iv = .int .i64 (k : Int) ∧ Hid (PB wr F g ((Bl.new s bi h).adds (l.take k)) ∧ Below w.heap.size w wr ∧ ∀ q, F q → w.heap.size ≤ q))
    case atStart => exact ⟨0, F, by omega, rfl, HP2⟩
    case round =>
      obtain ⟨k, F, hk, rfl, HW⟩ := hrel
      clear HP2
      by_cases hlt : k < l.length
      · obtain ⟨gk1, hgk1⟩ : ∃ x, gk = x + 1 := ⟨gk - 1, by omega⟩
        obtain ⟨x, hx⟩ : ∃ x, l[k]? = some x := ⟨_, List.getElem?_eq_getElem hlt⟩
        obtain ⟨q, o, rfl, hcl0⟩ := uC_cell HL.out HW.out.2.1 hx
        have hxb := HLB.out x (List.mem_of_getElem? hx)
        have HT : Hid ((Bl.new s bi h).adds (l.take (k + 1)) = ((Bl.new s bi h).adds (l.take k)).add x) := Lib.hid (by
          rw [List.take_add_one, hx]
          exact Bl.adds_snoc _ _ _)
        have hA := HK.out.add x HW.out.1 hxb
        rw [← HT.out] at hA
        clear hx
        go_wp2_with fail
        refine hA.mono ?_
        rintro e w4 ⟨rfl, F4, hP4, hG4⟩
        have HW4 : Hid (PB w4 F4 g ((Bl.new s bi h).adds (l.take (k + 1))) ∧ Below w.heap.size w w4 ∧ ∀ q, F4 q → w.heap.size ≤ q) := Lib.hid ⟨hP4, below_apt HW.out.2.1 hG4.apt HW.out.2.2 HW.out.2.1.size, fun q hq => (hG4.new q hq).elim (HW.out.2.2 q) fun h => Nat.le_trans HW.out.2.1.size h⟩
        clear hA hP4 hG4 hcl0
        go_wp2_with fail
        go_roundg gk1
        case measure => omega
        case rel => exact ⟨k + 1, F4, by omega, by go_num, HW4⟩
      · have hkn : k = l.length := by omega
        have hW := HW.out
        rw [hkn, List.take_length] at hW
        have HOb := Lib.hid (HOk.out.adds l)
        have HHas : Hid (∀ x ∈ l, ((Bl.new s bi h).adds l).has x = true) := Lib.hid fun x hx => HOk.out.adds_has l x hx
        generalize (Bl.new s bi h).adds l = b at *
        have HP := Lib.hid hW
        have hC := HK.out.bytes hW.1
        clear hW hk hkn HW
        go_wp2_with fail
        clear hlt
        refine hC.mono ?_
        rintro e w4 ⟨v4, rfl, ho4, hb4⟩
        have HB4 := Lib.hid (HP.out.2.1.trans (hb4.mono HP.out.2.1.size))
        have HP4 := Lib.hid (HK.out.later HP.out.1 hb4)
        have hG := HK.out.get w4 ho4.bs (by rw [Bl.bytes, sealedOf_length, Bl.body_length]; have := HOb.out.len_le; omega)
        clear hC ho4 hb4
        go_wp2_with fail
        refine hG.mono ?_
        rintro e w5 ⟨hb5, hg⟩
        rw [HOb.out.getX] at hg
        obtain ⟨_, hx, _⟩ | ⟨g2, G, b', hx, rfl, hP5, hG5⟩ := hg
        · cases hx
        injection hx with hx
        subst hx
        have HW5 : Hid (W2 (fun _ => True) w w5 (fun u F => PB u F g b) F (fun u G => PB u G g2 (b.adds (m.take 0))) G) := Lib.hid
          ⟨HB4.out.trans (hb5.mono HB4.out.size), HK.out.later HP4.out hb5, hP5, HP.out.2.2, fun q hq => Nat.le_trans HB4.out.size (hG5 q hq), fun q hq hg => by
            have h1 := (HK.out.thing _ _).lt HP4.out q hq
            have h2 := hG5 q hg
            omega, fun _ _ => trivial⟩
        clear hG hb5 hP5 hG5
        go_wp2_with fail
        go_loopg [17] m.length (fun gk iv wr => ∃ (k : Nat) (G : Nat → Prop), k + gk = m.length ∧ iv = .int .i64 (k : Int) ∧ Hid (W2 (fun _ => True) w wr (fun u F => PB u F g b) F (fun u G => PB u G g2 (b.adds (m.take k))) G))
        case atStart => exact ⟨0, G, by omega, rfl, HW5⟩
        case round =>
          obtain ⟨k, G, hk, rfl, HW⟩ := hrel
          clear HW5 HP HP4 HB4
          by_cases hlt : k < m.length
          · obtain ⟨gk1, hgk1⟩ : ∃ x, gk = x + 1 := ⟨gk - 1, by omega⟩
            obtain ⟨x, hx⟩ : ∃ x, m[k]? = some x := ⟨_, List.getElem?_eq_getElem hlt⟩
            obtain ⟨q, o, rfl, hcl0⟩ := uC_cell HM.out HW.out.below hx
            have hxb := HMB.out x (List.mem_of_getElem? hx)
            have HT : Hid (b.adds (m.take (k + 1)) = (b.adds (m.take k)).add x) := Lib.hid (by
              rw [List.take_add_one, hx]
              exact Bl.adds_snoc _ _ _)
            have hA := HK.out.add x HW.out.b hxb
            rw [← HT.out] at hA
            clear hx
            go_wp2_with fail
            refine hA.mono ?_
            rintro e w6 ⟨rfl, G6, hP6, hG6⟩
            have HW6 := Lib.hid (HW.out.stepB (B' := fun u G => PB u G g2 (b.adds (m.take (k + 1)))) (HK.out.thing _ _) hP6 hG6.apt hG6.new)
            clear hA hP6 hG6 hcl0
            go_wp2_with fail
            go_roundg gk1
            case measure => omega
            case rel => exact ⟨k + 1, G6, by omega, by go_num, HW6⟩
          · have HHas2 : Hid (∀ x ∈ l, (b.adds (m.take k)).has x = true) := Lib.hid fun x hx => HOb.out.adds_keep _ x (HHas.out x hx)
            generalize b.adds (m.take k) = b2 at *
            clear hk
            go_wp2_with fail
            go_loopg [18] l.length (fun gk iv wr => ∃ k : Nat, k + gk = l.length ∧ iv = .int .i64 (k : Int) ∧ Hid (PB wr F g b ∧ PB wr G g2 b2 ∧ Below w.heap.size w wr))
            case atStart => exact ⟨0, by omega, rfl, Lib.hid ⟨HW.out.a, HW.out.b, HW.out.below⟩⟩
            case round =>
              obtain ⟨j, hj, rfl, HV⟩ := hrel
              clear HW
              by_cases hltj : j < l.length
              · obtain ⟨gk1, hgk1⟩ : ∃ x, gk = x + 1 := ⟨gk - 1, by omega⟩
                obtain ⟨x, hx⟩ : ∃ x, l[j]? = some x := ⟨_, List.getElem?_eq_getElem hltj⟩
                have HX := Lib.hid hx
                obtain ⟨q, o, rfl, hcl0⟩ := uC_cell HL.out HV.out.2.2 hx
                have hxb := HLB.out x (List.mem_of_getElem? hx)
                have hC := HK.out.has x HV.out.1 hxb
                rw [HHas.out x (List.mem_of_getElem? hx)] at hC
                clear hx
                go_wp2_with fail
                refine hC.mono ?_
                rintro e w7 ⟨rfl, hb7⟩
                have HB7 := Lib.hid (HV.out.2.2.trans (hb7.mono HV.out.2.2.size))
                have HP7 := Lib.hid (And.intro (HK.out.later HV.out.1 hb7) (HK.out.later HV.out.2.1 hb7))
                obtain ⟨q', o', e', hcl1⟩ := uC_cell HL.out HB7.out HX.out
                injection e' with e'
                injection e' with e1 e2
                subst e1 e2
                have hC := HK.out.has x HP7.out.2 hxb
                rw [HHas2.out x (List.mem_of_getElem? HX.out)] at hC
                clear hb7 hcl0
                go_wp2_with fail
                refine hC.mono ?_
                rintro e w8 ⟨rfl, hb8⟩
                have HV8 := Lib.hid (And.intro (HK.out.later HP7.out.1 hb8) (And.intro (HK.out.later HP7.out.2 hb8) (HB7.out.trans (hb8.mono HB7.out.size))))
                clear hC hb8 hcl1
                go_wp2_with fail
                go_roundg gk1
                case measure => omega
                case rel => exact ⟨j + 1, by omega, by go_num, HV8⟩
              · go_wp2_with fail
                go_ret
                exact ⟨rfl, HV.out.2.2⟩
end Go.Proofs.Ytdbgmobgbnfdbaa
