/-
  WHAT A FILTER OF THE PROGRAM IS TO KEEP ('BloomK', over the plain Bl); the head of layer 11's statements, walked over it. No condition but what each theorem says.
-/
import Derived.Test.YtdbgmobgbnfdbaaBlA
import Derived.Test.YtdbgmobgbnfdbaaKee
import Derived.Test.YtdbgmobgbnfdbaaMix
import Derived.Outline
import Derived.Lib.Hide
import Derived.Deep.QuietTactic
import Derived.BigQuiet
import Derived.WalkSpells
namespace Go.Proofs.Ytdbgmobgbnfdbaa
open Go.RowKit
set_option maxRecDepth 100000

theorem Bs.lit1 (w : World) (z : UInt8) (u : Value) (e : TypeId) (h : u = .int .u8 (z.toNat : Int)) : Bs (w.alloc (.cells #[u] e)) (.slice (some ⟨w.heap.size, 0, none⟩) 1 1) [z] :=
  ⟨_, 1, rfl, Nat.le_refl _, by omega, Rd.one w u e h⟩

/-- 'PB w F g b': in the world w the filter in block g is b, and lies in the blocks F. Its contracts: only Add turns blocks of F; all else is new. -/
structure BloomK (PB : World → (Nat → Prop) → Nat → Bl → Prop) : Prop where
  thing : ∀ (g : Nat) (b : Bl), Thing fun w F => PB w F g b
  ok : ∀ {w : World} {F : Nat → Prop} {g : Nat} {b : Bl}, PB w F g b → b.Ok
  new_bad : ∀ {s bi h : Int} (w : World), rightI s bi h = false → Calls Try.prog 7 #[.int .i64 s, .int .i64 bi, .int .i64 h] w fun e w' => e = .returned (.tuple #[.pointer none, code 1]) ∧ Below w.heap.size w w'
  new_ok : ∀ {s bi h : Nat} (w : World), rightI s bi h = true → Calls Try.prog 7 #[.int .i64 (s : Int), .int .i64 (bi : Int), .int .i64 (h : Int)] w fun e w' => ∃ (g : Nat) (F : Nat → Prop), e = .returned (.tuple #[.pointer (some ⟨g, 0, none⟩), .nilIface]) ∧ PB w' F g (Bl.new s bi h) ∧ Below w.heap.size w w' ∧ ∀ q, F q → w.heap.size ≤ q
  add : ∀ {w : World} {F : Nat → Prop} {g : Nat} {b : Bl} (id : Nat), PB w F g b → id < 18446744073709551616 →
    Calls Try.prog 10 #[.pointer (some ⟨g, 0, none⟩), .int .u64 (id : Int)] w fun e w' => e = .returned (.tuple #[]) ∧ ∃ F', PB w' F' g (b.add id) ∧ Goes w F w' F'
  has : ∀ {w : World} {F : Nat → Prop} {g : Nat} {b : Bl} (id : Nat), PB w F g b → id < 18446744073709551616 →
    Calls Try.prog 12 #[.pointer (some ⟨g, 0, none⟩), .int .u64 (id : Int)] w fun e w' => e = .returned (.bool (b.has id)) ∧ Below w.heap.size w w'
  bytes : ∀ {w : World} {F : Nat → Prop} {g : Nat} {b : Bl}, PB w F g b →
    Calls Try.prog 14 #[.pointer (some ⟨g, 0, none⟩)] w fun e w' => ∃ v, e = .returned v ∧ Own w' w.heap.size 5 v b.bytes ∧ Below w.heap.size w w'
  get : ∀ {x : List UInt8} {v : Value} (w : World), Bs w v x → x.length ≤ 140737488355320 →
    Calls Try.prog 16 #[v] w fun e w' => Below w.heap.size w w' ∧ ((∃ n : Nat, getX x = .error n ∧ e = .returned (.tuple #[.pointer none, code n])) ∨
      ∃ (g : Nat) (F : Nat → Prop) (b : Bl), getX x = .ok b ∧ e = .returned (.tuple #[.pointer (some ⟨g, 0, none⟩), .nilIface]) ∧ PB w' F g b ∧ ∀ q, F q → w.heap.size ≤ q)

section
variable {PB : World → (Nat → Prop) → Nat → Bl → Prop}
theorem BloomK.later (hK : BloomK PB) {w w' : World} {F : Nat → Prop} {g : Nat} {b : Bl} (h : PB w F g b) (hb : Below w.heap.size w w') : PB w' F g b := (hK.thing g b).keep h (Apt.of_below hb)
end

set_option maxHeartbeats 1600000 in
theorem up11_any {PB : World → (Nat → Prop) → Nat → Bl → Prop} (hK : BloomK PB) (w : World) : Calls Try.prog 6 #[] w fun e w' => e = .returned (.bool true) ∧ Below w.heap.size w w' := by
  have eqc := eqCode
  have HK := Lib.hid hK
  have HN := Lib.hid fun u : World => (hK.new_ok (s := 1) (bi := 8) (h := 1) u (by decide))
  have HNb := Lib.hid fun u : World => (hK.new_bad (s := 0) (bi := 8) (h := 1) u (by decide))
  have HG := Lib.hid fun u : World => (hK.get (x := []) u (Bs.nil u) (by simp))
  have H0 : Hid ((Bl.new 1 8 1).has 5 = false) := Lib.hid (Bl.new_has 1 8 1 5 (Nat.le_refl _))
  have H1 : Hid (((Bl.new 1 8 1).add 5).has 5 = true) := Lib.hid ((Bl.new_ok (by decide)).has_add 5)
  clear hK
  go_enter Try.func6, Try.ntmps6
  go_wp2_with fail
  refine (HN.out _).mono ?_
  rintro e w1 ⟨g, F1, rfl, hP1, hb1, hF1⟩
  go_wp2_with fail
  refine (HNb.out _).mono ?_
  rintro e w2 ⟨rfl, hb2⟩
  have HP2 := Lib.hid (HK.out.later hP1 hb2)
  have HB2 := Lib.hid (hb1.trans (hb2.mono hb1.size))
  have HF1 := Lib.hid hF1
  clear hP1 hb1 hb2 hF1
  go_wp2_with fail
  refine (HG.out _).mono ?_
  rintro e w3 ⟨hb3, he⟩
  obtain ⟨n, hn, rfl⟩ | ⟨_, _, _, hn, _⟩ := he
  rotate_left
  · rw [getX_short (by simp)] at hn
    cases hn
  rw [getX_short (by simp)] at hn
  injection hn with hn
  subst hn
  have HP3 := Lib.hid (HK.out.later HP2.out hb3)
  have HB3 := Lib.hid (HB2.out.trans (hb3.mono HB2.out.size))
  have hC := HK.out.has 5 HP3.out (by omega)
  rw [H0.out] at hC
  clear HP2 HB2 hb3
  go_wp2_with fail
  refine hC.mono ?_
  rintro e w4 ⟨rfl, hb4⟩
  have HP4 := Lib.hid (HK.out.later HP3.out hb4)
  have HB4 := Lib.hid (HB3.out.trans (hb4.mono HB3.out.size))
  have hC := HK.out.add 5 HP4.out (by omega)
  clear HP3 HB3 hb4
  go_wp2_with fail
  refine hC.mono ?_
  rintro e w5 ⟨rfl, F5, hP5, hG5⟩
  have HB5 := Lib.hid (below_apt HB4.out hG5.apt HF1.out HB4.out.size)
  have hC := HK.out.has 5 hP5 (by omega)
  rw [H1.out] at hC
  clear HP4 HB4 hP5 hG5
  go_wp2_with fail
  refine hC.mono ?_
  rintro e w6 ⟨rfl, hb6⟩
  have HB6 := Lib.hid (HB5.out.trans (hb6.mono HB5.out.size))
  go_wp2_with fail
  go_ret
  exact ⟨rfl, HB6.out⟩
end Go.Proofs.Ytdbgmobgbnfdbaa
