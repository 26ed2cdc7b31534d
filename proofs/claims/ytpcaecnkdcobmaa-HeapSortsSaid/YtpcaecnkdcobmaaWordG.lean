/-
  THE HEAD OF LAYER 1's STATEMENTS: 'up' returns true; nothing that was there has turned.
-/
import Derived.Test.YtpcaecnkdcobmaaWordF
import Derived.Lib.IfaceEq
import Derived.Lib.IfaceNeq
import Derived.WalkSpells
namespace Go.Proofs.Ytpcaecnkdcobmaa
open Go.RowKit

theorem ownK : ownKnob Try.prog.godebug = none := by kernel_rfl
theorem laidO : laidOutB Try.prog = true := by kernel_rfl

theorem strT : Try.prog.underlying 9 = some .string := Try.underlying9

/-- the string of bytes -/
def Bstr (l : List UInt8) : ByteArray := ⟨l.toArray⟩
theorem Bstr_append (l m : List UInt8) : Bstr l ++ Bstr m = Bstr (l ++ m) := by
  apply ByteArray.ext
  simp [Bstr]
theorem Bstr_inj {l m : List UInt8} (h : Bstr l = Bstr m) : l = m := by
  have := congrArg (fun b : ByteArray => b.data.toList) h
  simpa [Bstr] using this

theorem Bstr_toList (l : List UInt8) : (Bstr l).toList = l := ByteArray.toList_mk l
theorem Bstr_size (l : List UInt8) : (Bstr l).size = l.length := by simp [Bstr, ByteArray.size]
/-- two strings, joined -/
theorem addStr (l m : List UInt8) (h : l.length + m.length ≤ 140737488355328) (u : World) : (Op.stringOp .add (Bstr l) (Bstr m)).run Try.prog u = .ok (.string (Bstr (l ++ m))) u := by
  rw [run_string_add_sum u _ _ (by rw [Bstr_size, Bstr_size]; omega), Bstr_append]

end Go.Proofs.Ytpcaecnkdcobmaa
