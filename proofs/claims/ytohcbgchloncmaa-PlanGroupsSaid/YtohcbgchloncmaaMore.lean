/-
  CONTRACT of tankardlaw00.Code: an error's number. Conditions: what each says.
  MORE WORDS FOR MEMORY, over any program: b[:hi], numbers and their bytes. No condition but what each theorem says.
  SLICES OF STRINGS; []byte(s) of a string that is no constant. No condition but what each theorem says.
  CONTRACTS of both Readers' Word and Text, at whatever stands next: one statement each.
-/
import Derived.Test.YtohcbgchloncmaaWordA
import Derived.Lib.SliceRun
import Derived.BigFrame
import Derived.Test.YtohcbgchloncmaaLs
import Derived.Test.YtohcbgchloncmaaKee
import Derived.Lib.ConvBytes
namespace Go.Proofs.Ytohcbgchloncmaa
open Go.RowKit

theorem Bstr_take (s : List UInt8) (n : Nat) : (Bstr s).extract 0 n = Bstr (s.take n) := by
  apply ByteArray.ext
  simp [Bstr]

/-- an error, by its number -/
def errV (c : Int) : Value := if c = 0 then .nilIface else code c

theorem errV_zero : errV 0 = .nilIface := rfl

theorem errV_code {c : Int} (h : c ≠ 0) : errV c = code c := by rw [errV, if_neg h]

end Go.Proofs.Ytohcbgchloncmaa

namespace Go.Proofs.Ytohcbgchloncmaa
open Go.RowKit

/-- b[:hi], within b's length -/
theorem slice_bytes_to {P : Program} (w : World) {t e : TypeId} (HT : ByteT P t e) (he : P.elem t = e) {A : Option Addr} {c : Nat} {l : List UInt8} (hr : Rd w A (BV l)) (h2 : l.length ≤ c) (h3 : c ≤ 9223372036854775807) (hi : Nat) (h1 : hi ≤ l.length) (y : Int) (hy : y = (hi : Int)) :
    ∃ V, (∀ u : World, (Instr.slice t (.slice A l.length c) none (some (.int .i64 y)) none).run P u = .ok V u) ∧ Bs w V (l.take hi) ∧ V.ownBlock = (Value.slice A l.length c).ownBlock := by
  subst hy
  obtain ⟨i, hi', hz, hs, hb⟩ := HT.info
  refine ⟨.slice A hi c, fun u => ?_, ?_, ?_⟩
  · rw [run_slice_h (P := P) (w := u) (t := t) (a := A) (len := l.length) (cap := c) (ht := by rw [he]; exact HT.under) .i64 hi (by omega) (by omega)]
    simp [sizeOf, typeInfo, he, hi', hs, sliced]
    intro _
    cases A <;> simp [Addr.add]
  · have h := Bs.cut (p := 0) (k := hi) hr (by omega) h2 h3 A (fun a ha _ => by rw [ha]; simp [Addr.add])
    simpa using h
  · cases A <;> rfl

/-- append, where it stands behind a guard -/
theorem wpList_append_w {P : Program} (w : World) {t e : TypeId} (HT : ByteT P t e) {ops : Array Oper} {rest : List Oper} {o : Oper} {a : Act} {Q : Exit → Act → World → Prop} (hw : Region.wanted o (yielded ops a.tmps) = true) (s x : Operand)
    (ho : o.op = .call { callee := .builtin .append, args := #[s, x], argTypes := #[t, t] })
    (base : Nat) (v : Value) (l : List UInt8) (hs : a.eval s = v) (hown : Own w base e v l) (V : Value) (k : List UInt8) (hx : a.eval x = V) (hr : Bs w V k)
    (hsum : l.length + k.length ≤ 140737488355328) (hbase : base ≤ w.heap.size)
    (h : ∀ v' w', Own w' base e v' (l ++ k) → w.grownBy w' v.ownBlock → (v'.ownBlock = v.ownBlock ∨ v'.ownBlock = some w.heap.size) → wpList P ops Q rest (a.put o.dst v') w') : wpList P ops Q (o :: rest) a w :=
  BigFrame.wpList_want hw fun _ hK => wp_append_v w HT s x ho base v l hs hown V k hx hr hsum hbase fun v' w' h2 h3 h4 => hK _ _ (h v' w' h2 h3 h4)

theorem bet_num_at (k : Nat) : ∀ m : List UInt8, m.length = k → bet (num m) k = m := by
  induction k with
  | zero =>
    intro m hm
    rw [List.eq_nil_of_length_eq_zero hm]
    rfl
  | succ k ih =>
    intro m hm
    have hne : m ≠ [] := by intro h; subst h; simp at hm
    have hd := List.dropLast_concat_getLast hne
    have hl : m.dropLast.length = k := by simp; omega
    have hb := (m.getLast hne).toNat_lt
    have hn : num m = num m.dropLast * 256 + (m.getLast hne).toNat := by rw [← num_snoc, hd]
    have h1 : num m / 256 = num m.dropLast := by omega
    have h2 : UInt8.ofNat (num m) = m.getLast hne := by
      apply UInt8.toNat.inj
      rw [UInt8.toNat_ofNat']
      omega
    rw [bet_snoc, h1, ih _ hl, h2, hd]

theorem bet_num (m : List UInt8) : bet (num m) m.length = m := bet_num_at _ m rfl

theorem num_bet (k : Nat) : ∀ n : Nat, n < 256 ^ k → num (bet n k) = n := by
  induction k with
  | zero => intro n hn; simp at hn; subst hn; rfl
  | succ k ih =>
    intro n hn
    rw [bet_snoc, num_snoc, ih (n / 256) (by rw [Nat.pow_succ] at hn; omega)]
    simp
    omega

theorem num_inj {a b : List UInt8} (hl : a.length = b.length) (h : num a = num b) : a = b := by
  rw [← bet_num a, ← bet_num b, hl, h]

end Go.Proofs.Ytohcbgchloncmaa

namespace Go.Proofs.Ytohcbgchloncmaa
open Go.RowKit
set_option maxRecDepth 100000

def stC (s : List UInt8) : List Value := [.string (Bstr s)]

/-- two slices of texts -/
def StL (w : World) (v : Value) (l : List (List UInt8)) : Prop := Lv 1 w v (l.map fun s => [.string (Bstr s)])

theorem StL.form {w : World} {v : Value} {l : List (List UInt8)} (h : StL w v l) : ∃ A c, v = .slice A l.length c ∧ l.length ≤ c ∧ c ≤ 9223372036854775807 := by
  obtain ⟨A, c, hv, h1, h2⟩ := Lv.form h
  rw [List.length_map] at hv h1
  exact ⟨A, c, hv, h1, h2⟩

theorem StL.cell {w : World} {A : Option Addr} {n c : Nat} {l : List (List UInt8)} (h : StL w (.slice A n c) l) {i : Nat} {s : List UInt8} (hi : l[i]? = some s) :
    ∃ q p, A = some ⟨q, p, none⟩ ∧ q < w.heap.size ∧ w.cell? ⟨q, p + i, none⟩ = some (.string (Bstr s)) := by
  obtain ⟨q, p, hA, hq, hc⟩ := Lv.cells h (by omega) (i := i) (x := [.string (Bstr s)]) (by rw [List.getElem?_map, hi]; rfl)
  exact ⟨q, p, hA, hq, by simpa using hc 0 _ rfl⟩

end Go.Proofs.Ytohcbgchloncmaa

namespace Go.Proofs.Ytohcbgchloncmaa
open Go.RowKit

/-- what Word tells, and how far it has read then -/
def wOut (l : List UInt8) (p : Nat) (bad : Bool) (k : Int) : Nat := if wordOk l p bad k then num ((l.drop p).take k.toNat) else 0

def wNext (l : List UInt8) (p : Nat) (bad : Bool) (k : Int) : Nat := if wordOk l p bad k then p + k.toNat else p

/-- what Text tells, and how far it has read then -/
def tOut (l : List UInt8) (p : Nat) (bad : Bool) (most : Int) : List UInt8 := if textOk l p bad most then (l.drop (p + 2)).take (tsize l p) else []

def tNext (l : List UInt8) (p : Nat) (bad : Bool) (most : Int) : Nat := if textOk l p bad most then p + 2 + tsize l p else p

end Go.Proofs.Ytohcbgchloncmaa
