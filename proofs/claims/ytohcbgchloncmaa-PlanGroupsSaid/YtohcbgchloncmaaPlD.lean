/-
  WHAT THE PROGRAM's Group IS TO TELL (PlanK); the head of layer 19's statements, and PlanGroups, walked over that. Conditions: what each says.
-/
import Derived.Test.YtohcbgchloncmaaPlC
import Derived.Test.YtohcbgchloncmaaMore
namespace Go.Proofs.Ytohcbgchloncmaa
open Go.RowKit
set_option maxRecDepth 100000

/-- are the arguments such as they may not be? -/
def plBad (l : List Me) (long most : Int) : Bool := decide (long < 1) || (decide (1099511627776 < long) || (decide (most < 2) || (decide (8 < most) || !riseMB l)))

/-- what Group tells: an error's number, and the first group -/
def plG (l : List Me) (long most : Int) : Int × List Me := if plBad l long most = true then (1, []) else (0, grpR l long most.toNat)

theorem plG_bad {l : List Me} {long most : Int} (h : plBad l long most = true) : plG l long most = (1, []) := by rw [plG, if_pos h]

theorem plG_ok {l : List Me} {long most : Int} (h : plBad l long most = false) : plG l long most = (0, grpR l long most.toNat) := by rw [plG, if_neg (by rw [h]; simp)]

abbrev PlanK : Prop := ∀ {w : World} {v : Value} {l : List Me} {long most : Int}, Mes w v l → l.length ≤ 100 → -9223372036854775808 ≤ long → long ≤ 9223372036854775807 → -9223372036854775808 ≤ most → most ≤ 9223372036854775807 →
  Calls Try.prog 5 #[v, .int .i64 long, .int .i64 most] w fun e w' => ∃ a, e = .returned (.tuple #[a, errV (plG l long most).1]) ∧ Mes w' a (plG l long most).2 ∧ Below w.heap.size w w'

theorem mes_lit2 (w : World) : Mes (w.alloc (.cells #[.int .u64 1, .int .i64 0, .int .i64 0, .int .i64 3, .int .i64 0, .int .i64 0, .int .u64 2, .int .i64 0, .int .i64 0, .int .i64 4, .int .i64 0, .int .i64 0] 35)) (.slice (some ⟨w.heap.size, 0, none⟩) 2 2) [⟨1, 0, 0, 3, 0, 0⟩, ⟨2, 0, 0, 4, 0, 0⟩] := by
  refine ⟨[[.int .u64 1, .int .i64 0, .int .i64 0, .int .i64 3, .int .i64 0, .int .i64 0], [.int .u64 2, .int .i64 0, .int .i64 0, .int .i64 4, .int .i64 0, .int .i64 0]], ⟨_, 2, rfl, Nat.le_refl _, by omega, ?_, ?_⟩, ?_⟩
  · intro y hy
    simp at hy
    rcases hy with rfl | rfl <;> rfl
  · simpa using Rd.lit w #[.int .u64 1, .int .i64 0, .int .i64 0, .int .i64 3, .int .i64 0, .int .i64 0, .int .u64 2, .int .i64 0, .int .i64 0, .int .i64 4, .int .i64 0, .int .i64 0] 35
  · refine ⟨rfl, fun i a b ha hb => ?_⟩
    match i with
    | 0 =>
      simp at ha hb
      subst ha hb
      exact ⟨by constructor <;> simp, rfl⟩
    | 1 =>
      simp at ha hb
      subst ha hb
      exact ⟨by constructor <;> simp, rfl⟩
    | i + 2 => simp at ha

theorem plG_two : plG [⟨1, 0, 0, 3, 0, 0⟩, ⟨2, 0, 0, 4, 0, 0⟩] 10 2 = (0, [⟨1, 0, 0, 3, 0, 0⟩, ⟨2, 0, 0, 4, 0, 0⟩]) := by rfl

set_option maxHeartbeats 3200000 in
theorem up19_any (hK : PlanK) (w : World) : Calls Try.prog 4 #[] w fun e w' => e = .returned (.bool true) ∧ Below w.heap.size w w' := by
  have eqc := eqCode
  have hb0 : Below w.heap.size w (w.alloc (.cells #[.int .u64 1, .int .i64 0, .int .i64 0, .int .i64 3, .int .i64 0, .int .i64 0, .int .u64 2, .int .i64 0, .int .i64 0, .int .i64 4, .int .i64 0, .int .i64 0] 35)) := (Below.refl _ _).alloc (Nat.le_refl _) _
  have h1 := hK (mes_lit2 w) (by simp) (long := 10) (most := 2) (by omega) (by omega) (by omega) (by omega)
  rw [plG_two] at h1
  have h2 := fun u : World => hK (w := u) (Mes.nil u) (by simp) (long := 0) (most := 2) (by omega) (by omega) (by omega) (by omega)
  have e2 : plG [] 0 2 = (1, []) := rfl
  simp only [e2] at h2
  have HB0 := Lib.hid hb0
  clear hb0 e2
  simp only [errV_zero] at h1
  go_enter Try.func4, Try.ntmps4
  go_wp2_with fail
  refine h1.mono ?_
  rintro e w1 ⟨a, rfl, ha, hb1⟩
  obtain ⟨Aa, ca, rfl, _, _⟩ := ha.form
  have HB1 := Lib.hid (HB0.out.trans (hb1.mono HB0.out.size))
  clear h1 ha hb1
  go_wp2_with fail
  refine (h2 w1).mono ?_
  rintro e w2 ⟨b, rfl, hb, hb2⟩
  have HB2 := Lib.hid (HB1.out.trans (hb2.mono HB1.out.size))
  clear h2 hb hb2
  rw [show errV 1 = code 1 from rfl]
  go_wp2_with fail
  go_ret
  exact ⟨rfl, HB2.out⟩

set_option maxHeartbeats 6400000 in
theorem planGroups_any (hK : PlanK) (v : Value) (l : List Me) (long most : Int) (w : World) (h : Mes w v l) (hl0 : -9223372036854775808 ≤ long) (hl1 : long ≤ 9223372036854775807) (hm0 : -9223372036854775808 ≤ most) (hm1 : most ≤ 9223372036854775807) :
    Calls Try.prog 3 #[v, .int .i64 long, .int .i64 most] w fun e w' => e = .returned (.bool true) ∧ Below w.heap.size w w' := by
  have eqc := eqCode
  have SL := Lib.hid h
  obtain ⟨A, c, rfl, hc1, hc2⟩ := h.form
  have hup := up19_any hK w
  clear h
  go_enter Try.func3, Try.ntmps3
  go_wp2_with fail
  refine hup.mono ?_
  rintro e w1 ⟨rfl, hb1⟩
  have HB1 := Lib.hid hb1
  clear hup hb1
  by_cases hlen : 100 < l.length
  · have e0 : decide ((100 : Int) < (l.length : Int)) = true := decide_eq_true (by omega)
    go_wp2_with fail
    go_ret
    exact ⟨rfl, HB1.out⟩
  have e0 : decide ((100 : Int) < (l.length : Int)) = false := decide_eq_false (by omega)
  have hcal := hK (SL.out.below HB1.out) (by omega) hl0 hl1 hm0 hm1
  have HPB : Hid (plBad l long most = (decide (long < 1) || (decide (1099511627776 < long) || (decide (most < 2) || (decide (8 < most) || !riseMB l))))) := Lib.hid rfl
  have HOK := Lib.hid fun h => plG_ok (l := l) (long := long) (most := most) h
  have HBD := Lib.hid fun h => plG_bad (l := l) (long := long) (most := most) h
  generalize plBad l long most = pb at HPB HOK HBD
  generalize plG l long most = pg at hcal HOK HBD
  obtain ⟨ec, eg⟩ := pg
  simp only at hcal
  go_wp2_with fail
  refine hcal.mono ?_
  rintro e w2 ⟨a, rfl, ha, hb2⟩
  have HB2 := Lib.hid (HB1.out.trans (hb2.mono HB1.out.size))
  have HA := Lib.hid ha
  clear hcal hb2 ha
  obtain ⟨ev, hev⟩ : ∃ z, z = errV ec := ⟨_, rfl⟩
  rw [← hev]
  have HEV := Lib.hid hev
  clear hev
  go_wp2_with fail
  refine (DRising_any _ l w2 (SL.out.below HB2.out)).mono ?_
  rintro e w3 ⟨rfl, hb3⟩
  have HB3 := Lib.hid (HB2.out.trans (hb3.mono HB2.out.size))
  have HA3 := Lib.hid (HA.out.below hb3)
  clear hb3 HA
  obtain ⟨Aa, ca, rfl, _, _⟩ := HA3.out.form
  cases pb with
  | true =>
    have hx := HBD.out rfl
    have e1 : ec = 1 := (Prod.mk.inj hx).1
    have e2 : eg = [] := (Prod.mk.inj hx).2
    have e3 := HEV.out
    subst e1 e2
    rw [show errV 1 = code 1 from rfl] at e3
    subst e3
    have hp := HPB.out
    by_cases b1 : long < 1
    · have f1 : decide (long < 1) = true := decide_eq_true b1
      clear hp hx
      go_wp2_with fail
      go_ret
      exact ⟨rfl, HB3.out⟩
    have f1 : decide (long < 1) = false := decide_eq_false b1
    by_cases b2 : (1099511627776 : Int) < long
    · have f2 : decide ((1099511627776 : Int) < long) = true := decide_eq_true b2
      clear hp hx
      go_wp2_with fail
      go_ret
      exact ⟨rfl, HB3.out⟩
    have f2 : decide ((1099511627776 : Int) < long) = false := decide_eq_false b2
    by_cases b3 : most < 2
    · have f3 : decide (most < 2) = true := decide_eq_true b3
      clear hp hx
      go_wp2_with fail
      go_ret
      exact ⟨rfl, HB3.out⟩
    have f3 : decide (most < 2) = false := decide_eq_false b3
    by_cases b4 : (8 : Int) < most
    · have f4 : decide ((8 : Int) < most) = true := decide_eq_true b4
      clear hp hx
      go_wp2_with fail
      go_ret
      exact ⟨rfl, HB3.out⟩
    have f4 : decide ((8 : Int) < most) = false := decide_eq_false b4
    have hr : riseMB l = false := by
      rw [f1, f2, f3, f4] at hp
      simpa using hp.symm
    rw [hr]
    clear hp hx
    go_wp2_with fail
    go_ret
    exact ⟨rfl, HB3.out⟩
  | false =>
    have hx := HOK.out rfl
    have e1 : ec = 0 := (Prod.mk.inj hx).1
    have e2 : eg = grpR l long most.toNat := (Prod.mk.inj hx).2
    have e3 := HEV.out
    subst e1
    rw [errV_zero] at e3
    subst e3
    have hp := HPB.out
    simp only [Bool.false_eq, Bool.or_eq_false_iff, Bool.not_eq_false', decide_eq_false_iff_not] at hp
    obtain ⟨b1, b2, b3, b4, b5⟩ := hp
    have f1 : decide (long < 1) = false := decide_eq_false b1
    have f2 : decide ((1099511627776 : Int) < long) = false := decide_eq_false b2
    have f3 : decide (most < 2) = false := decide_eq_false b3
    have f4 : decide ((8 : Int) < most) = false := decide_eq_false b4
    have hmi : ((most.toNat : Nat) : Int) = most := Int.toNat_of_nonneg (by omega)
    have hgr := DGroup_any _ l long most.toNat w3 (SL.out.below HB3.out) (by omega) (by omega) (by omega) (by omega) (by omega)
    rw [hmi] at hgr
    clear HOK HBD HPB HEV hx
    generalize grpR l long most.toNat = gr at hgr e2
    subst e2
    clear hmi
    rw [b5]
    clear b5
    go_wp2_with fail
    refine hgr.mono ?_
    rintro e w4 ⟨vg, rfl, hvg, hb4⟩
    have HB4 := Lib.hid (HB3.out.trans (hb4.mono HB3.out.size))
    have hA4 := HA3.out.below hb4
    have hms := Metas_same _ _ _ w4 hA4 hvg
    obtain ⟨Ag, cg, rfl, _, _⟩ := hvg.form
    clear hgr hb4 hvg hA4
    go_wp2_with fail
    refine hms.mono ?_
    rintro e w5 ⟨rfl, hb5⟩
    have HB5 := Lib.hid (HB4.out.trans (hb5.mono HB4.out.size))
    clear hms hb5
    go_wp2_with fail
    go_ret
    exact ⟨rfl, HB5.out⟩

end Go.Proofs.Ytohcbgchloncmaa
