/-
  The document's Rising and Group (layer 19). Conditions: what each says.
-/
import Derived.Test.YtohcbgchloncmaaPlA
import Derived.Test.YtohcbgchloncmaaKee
import Derived.Deep.DeepCutAuto
namespace Go.Proofs.Ytohcbgchloncmaa
open Go.RowKit
set_option maxRecDepth 100000

theorem riseM_no {l : List Me} {j : Nat} {a b : Me} (ha : l[j]? = some a) (hb : l[j + 1]? = some b) (h : ¬ a.id < b.id) : riseMB l = false := by
  cases hr : riseMB l with
  | false => rfl
  | true => exact absurd ((riseMB_iff l).1 hr j a b ha hb) h

set_option maxHeartbeats 1600000 in
theorem DRising_any (v : Value) (l : List Me) (w : World) (h : Mes w v l) :
    Calls Try.prog 6 #[v] w fun e w' => e = .returned (.bool (riseMB l)) ∧ Below w.heap.size w w' := by
  have SL := Lib.hid h
  obtain ⟨A, c, rfl, hc1, hc2⟩ := h.form
  clear h
  go_enter Try.func6, Try.ntmps6
  go_wp2_with fail
  go_loopg [3] l.length (fun gk iv wr => ∃ k : Nat, k + gk = l.length ∧ iv = .int .i64 ((k : Int) + 1) ∧ Hid (Below w.heap.size w wr ∧ ∀ (j : Nat) a b, l[j]? = some a → l[j + 1]? = some b → j < k → a.id < b.id))
  case atStart => exact ⟨0, by omega, rfl, Lib.hid ⟨Below.refl _ _, fun j a b _ _ h => by omega⟩⟩
  case round =>
    obtain ⟨k, hk, rfl, HW⟩ := hrel
    by_cases hlt : k + 1 < l.length
    · obtain ⟨gk1, hgk1⟩ : ∃ x, gk = x + 1 := ⟨gk - 1, by omega⟩
      obtain ⟨a, ha⟩ : ∃ t, l[k]? = some t := ⟨_, List.getElem?_eq_getElem (by omega)⟩
      obtain ⟨b, hb⟩ : ∃ t, l[k + 1]? = some t := ⟨_, List.getElem?_eq_getElem hlt⟩
      obtain ⟨g, o, rfl, hg, c0, _⟩ := (SL.out.below HW.out.1).cells ha
      obtain ⟨g', o', hA', hg', x0, _⟩ := (SL.out.below HW.out.1).cells hb
      injection hA' with hA'
      injection hA' with e1 e2
      subst e1 e2
      have e3 : ((k : Int) + 1) - 1 = (k : Int) := by omega
      have b0 : (0 : Int) ≤ (k : Int) := by omega
      have b1 : (k : Int) < (l.length : Int) := by omega
      have b2 : (0 : Int) ≤ (k : Int) + 1 := by omega
      have b3 : (k : Int) + 1 < (l.length : Int) := by omega
      have HA := Lib.hid ha
      have HBB := Lib.hid hb
      clear hg hg'
      by_cases hab : a.id < b.id
      · have hd : decide (b.id ≤ a.id) = false := decide_eq_false (by omega)
        have HAB := Lib.hid hab
        clear hab ha hb
        go_wp2_with fail
        go_quiet (fail)
        go_wp2_with fail
        go_roundg gk1
        case measure => omega
        case rel => exact ⟨k + 1, by omega, by go_num, Lib.hid ⟨below_drewN HW.out.1 _, fun j x y hx hy hj => by
          by_cases hjk : j < k
          · exact HW.out.2 j x y hx hy hjk
          · have : j = k := by omega
            subst this
            rw [HA.out] at hx
            rw [HBB.out] at hy
            rw [← Option.some.inj hx, ← Option.some.inj hy]
            exact HAB.out⟩⟩
      · have hd : decide (b.id ≤ a.id) = true := decide_eq_true (by omega)
        have HN : Hid (riseMB l = false) := Lib.hid (riseM_no ha hb hab)
        clear hab ha hb HA HBB
        go_wp2_with fail
        go_quiet (fail)
        go_wp2_with fail
        go_ret
        rw [HN.out]
        exact ⟨rfl, below_drewN HW.out.1 _⟩
    · have HY : Hid (riseMB l = true) := Lib.hid ((riseMB_iff l).2 fun j a b ha hb => HW.out.2 j a b ha hb (by
        have := (List.getElem?_eq_some_iff.1 hb).1
        omega))
      have hd : decide ((k : Int) + 1 < (l.length : Int)) = false := decide_eq_false (by omega)
      go_wp2_with fail
      go_ret
      rw [HY.out]
      exact ⟨rfl, HW.out.1⟩

end Go.Proofs.Ytohcbgchloncmaa
