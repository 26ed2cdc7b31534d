/-
  THE HEAD OF LAYER 1's STATEMENTS: 'up' returns true; nothing that was there has turned.
-/
import Derived.Test.YtkffefbljmkdjaaWordF
import Derived.Lib.IfaceEq
import Derived.Lib.IfaceNeq
import Derived.WalkSpells
namespace Go.Proofs.Ytkffefbljmkdjaa
open Go.RowKit

theorem ownK : ownKnob Try.prog.godebug = none := by kernel_rfl
theorem laidO : laidOutB Try.prog = true := by kernel_rfl
theorem cellsB : Try.prog.cellsOf 5 = 1 := by kernel_rfl
theorem strT : Try.prog.underlying 9 = some .string := Try.underlying9
theorem eqCode (u : World) (a b : Int) : (binOp .eql 26 (code a) (code b)).run Try.prog u = .ok (.bool (a == b)) u :=
  Lib.run_eql_iface_int u a b Try.underlying26 (by kernel_rfl) Try.underlying32
theorem neCode (u : World) (a b : Int) : (binOp .neq 26 (code a) (code b)).run Try.prog u = .ok (.bool (!(a == b))) u :=
  Lib.run_neq_iface_int u a b Try.underlying26 (by kernel_rfl) Try.underlying32

/-- the string of bytes -/
def Bstr (l : List UInt8) : ByteArray := ⟨l.toArray⟩
theorem Bstr_append (l m : List UInt8) : Bstr l ++ Bstr m = Bstr (l ++ m) := by
  apply ByteArray.ext
  simp [Bstr]
theorem Bstr_inj {l m : List UInt8} (h : Bstr l = Bstr m) : l = m := by
  have := congrArg (fun b : ByteArray => b.data.toList) h
  simpa [Bstr] using this

theorem Bstr_size (l : List UInt8) : (Bstr l).size = l.length := by simp [Bstr, ByteArray.size]
/-- two strings, joined -/
theorem addStr (l m : List UInt8) (h : l.length + m.length ≤ 140737488355328) (u : World) : (Op.stringOp .add (Bstr l) (Bstr m)).run Try.prog u = .ok (.string (Bstr (l ++ m))) u := by
  rw [run_string_add_sum u _ _ (by rw [Bstr_size, Bstr_size]; omega), Bstr_append]

/-- string(v) -/
theorem strOf {w : World} {v : Value} {l : List UInt8} (h : Bs w v l) : (convert 22 9 v).run Try.prog w = .ok (.string (Bstr l)) w := by
  obtain ⟨A, c, rfl, _, _, hr⟩ := h
  exact run_string w byteT strT A c l hr

set_option maxHeartbeats 800000 in
theorem up_any (w : World) : Calls Try.prog 6 #[] w fun e w' => e = .returned (.bool true) ∧ Below w.heap.size w w' := by
  have eqc := eqCode
  go_enter Try.func6, Try.ntmps6
  go_wp2_with fail
  refine (put_ok [] _ _ _ _ (by omega) (by decide) (by simp) (Bs.nil _)).mono ?_
  rintro e w1 ⟨v1, rfl, hown1, hb1⟩
  go_wp2_with fail
  refine (put_bad _ _ _ _ (by omega) (by decide)).mono ?_
  rintro e w2 ⟨rfl, rfl⟩
  go_wp2_with fail
  refine (read_any _ [] _ (Bs.nil _)).mono ?_
  rintro e w3 ⟨rfl, hW3, hb3⟩
  go_wp2_with fail
  refine (word_no _ _ [] 0 false _ _ hW3 (by decide)).mono ?_
  rintro e w4 ⟨rfl, hW4, hg4⟩
  have hb4 : Below w1.heap.size w1 w4 := hb3.grown hg4 hb3.size (by intro k hk; injection hk; omega)
  have hl : ([] : List UInt8) ++ bet (Int.toNat 258) (Int.toNat 2) = [1, 2] := by decide
  rw [hl] at hown1
  have hstr := strOf (hown1.bs.below hb4)
  have hb : Below w.heap.size w w4 := hb1.trans (hb4.mono hb1.size)
  have hlit : Bstr [1, 2] = ⟨#[1, 2]⟩ := rfl
  rw [hlit] at hstr
  clear hlit hl hown1 hb1 hb3 hW3 hg4
  go_wp2_with (go_at_call 19; refine (bad_any _ _ _ _ _ _ hW4).mono ?_; rintro e w' ⟨rfl, rfl⟩)
  go_ret
  exact ⟨rfl, hb⟩

end Go.Proofs.Ytkffefbljmkdjaa
