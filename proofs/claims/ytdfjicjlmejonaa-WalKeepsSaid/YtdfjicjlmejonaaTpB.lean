/-
  WHAT A TAPE OF THE PROGRAM IS TO KEEP ('TapeK': its contracts, over the plain tAppend, tSync, tCut, tCrash, tFail, tUp, tRead); the head of layer 7's statements, and TapeLasts, walked over it. No condition but what each theorem says.
-/
import Derived.Test.YtdfjicjlmejonaaTpA
import Derived.Lib.SlBytesConst
namespace Go.Proofs.Ytdfjicjlmejonaa
open Go.RowKit
set_option maxRecDepth 100000

/-- 'PT w F g m': in the world w the tape in block g is m, and lies in the blocks F. Its contracts: F may grow by what is new; what lies elsewhere stays. -/
structure TapeK (PT : World → (Nat → Prop) → Nat → Tm → Prop) : Prop where
  thing : ∀ (g : Nat) (m : Tm), Thing fun w F => PT w F g m
  new_ok : ∀ (room : Int) (w : World), 1 ≤ room → room ≤ 1048576 → Calls Try.prog 10 #[.int .i64 room] w fun e w' => ∃ (g : Nat) (F : Nat → Prop), e = .returned (.tuple #[.pointer (some ⟨g, 0, none⟩), .nilIface]) ∧ PT w' F g ⟨room, 0, -1, [], false⟩ ∧ Below w.heap.size w w' ∧ ∀ q, F q → w.heap.size ≤ q
  new_no : ∀ (room : Int) (w : World), (room < 1 ∨ 1048576 < room) → Calls Try.prog 10 #[.int .i64 room] w fun e w' => e = .returned (.tuple #[.pointer none, code 1]) ∧ Below w.heap.size w w'
  append : ∀ {w : World} {F : Nat → Prop} {g : Nat} {m : Tm} {b : List UInt8} {bv : Value}, PT w F g m → m.fine → Bs w bv b → (b ≠ [] → ∀ q, bv.ownBlock = some q → ¬ F q) → b.length ≤ 1000000000 →
    Calls Try.prog 11 #[.pointer (some ⟨g, 0, none⟩), bv] w fun e w' => e = .returned (errV (tAppend m b).2) ∧ ∃ F', PT w' F' g (tAppend m b).1 ∧ Apt F w w' ∧ ∀ q, F' q → F q ∨ w.heap.size ≤ q
  sync : ∀ {w : World} {F : Nat → Prop} {g : Nat} {m : Tm}, PT w F g m → m.fine →
    Calls Try.prog 37 #[.pointer (some ⟨g, 0, none⟩)] w fun e w' => e = .returned (errV (tSync m).2) ∧ ∃ F', PT w' F' g (tSync m).1 ∧ Apt F w w' ∧ ∀ q, F' q → F q ∨ w.heap.size ≤ q
  read : ∀ {w : World} {F : Nat → Prop} {g : Nat} {m : Tm}, PT w F g m → m.fine →
    Calls Try.prog 25 #[.pointer (some ⟨g, 0, none⟩)] w fun e w' => ∃ x F', e = .returned (.tuple #[x, errV (tRead m).2]) ∧ Own w' w.heap.size 5 x (tRead m).1 ∧ PT w' F' g m ∧ Apt F w w' ∧ (∀ q, F' q → F q ∨ w.heap.size ≤ q) ∧ ∀ q, x.ownBlock = some q → ¬ F' q
  cut : ∀ {w : World} {F : Nat → Prop} {g : Nat} {m : Tm} {n : Int}, PT w F g m → m.fine → -9223372036854775808 ≤ n → n ≤ 9223372036854775807 →
    Calls Try.prog 32 #[.pointer (some ⟨g, 0, none⟩), .int .i64 n] w fun e w' => e = .returned (errV (tCut m n).2) ∧ ∃ F', PT w' F' g (tCut m n).1 ∧ Apt F w w' ∧ ∀ q, F' q → F q ∨ w.heap.size ≤ q
  fail : ∀ {w : World} {F : Nat → Prop} {g : Nat} {m : Tm} {n : Int}, PT w F g m → m.fine → -9223372036854775808 ≤ n → n ≤ 9223372036854775807 →
    Calls Try.prog 20 #[.pointer (some ⟨g, 0, none⟩), .int .i64 n] w fun e w' => e = .returned (.tuple #[]) ∧ ∃ F', PT w' F' g (tFail m n) ∧ Apt F w w' ∧ ∀ q, F' q → F q ∨ w.heap.size ≤ q
  crash : ∀ {w : World} {F : Nat → Prop} {g : Nat} {m : Tm} {n : Int}, PT w F g m → m.fine → -9223372036854775808 ≤ n → n ≤ 9223372036854775807 →
    Calls Try.prog 21 #[.pointer (some ⟨g, 0, none⟩), .int .i64 n] w fun e w' => e = .returned (.tuple #[]) ∧ ∃ F', PT w' F' g (tCrash m n) ∧ Apt F w w' ∧ ∀ q, F' q → F q ∨ w.heap.size ≤ q
  up : ∀ {w : World} {F : Nat → Prop} {g : Nat} {m : Tm}, PT w F g m → m.fine →
    Calls Try.prog 31 #[.pointer (some ⟨g, 0, none⟩)] w fun e w' => e = .returned (.tuple #[]) ∧ ∃ F', PT w' F' g (tUp m) ∧ Apt F w w' ∧ ∀ q, F' q → F q ∨ w.heap.size ≤ q

theorem TapeK.later {PT : World → (Nat → Prop) → Nat → Tm → Prop} (hK : TapeK PT) {w w' : World} {F : Nat → Prop} {g : Nat} {m : Tm} (h : PT w F g m) (hb : Below w.heap.size w w') : PT w' F g m := (hK.thing g m).keep h (Apt.of_below hb)

theorem Rd.mark7 (w : World) (cs : Array Value) (e : TypeId) (f : Nat × Nat) : Rd (w.alloc (.cells cs e f)) (some ⟨w.heap.size, 0, none⟩) cs.toList :=
  Rd.of_cells (World.news_of_block (heap_alloc_new w _))

/-- the tape of the document's example, call by call -/
def tx0 : Tm := ⟨10, 0, -1, [], false⟩
def tx1 : Tm := ⟨10, 0, -1, [97, 98], false⟩
def tx2 : Tm := ⟨10, 2, -1, [97, 98], false⟩
def tx3 : Tm := ⟨10, 2, -1, [97, 98, 99, 100], false⟩
def tx4 : Tm := ⟨10, 3, -1, [97, 98, 99], true⟩
def tx5 : Tm := ⟨10, 3, -1, [97, 98, 99], false⟩
theorem tx01 : tAppend tx0 [97, 98] = (tx1, 0) := by kernel_rfl
theorem tx12 : tSync tx1 = (tx2, 0) := by kernel_rfl
theorem tx23 : tAppend tx2 [99, 100] = (tx3, 0) := by kernel_rfl
theorem tx34 : tCrash tx3 1 = tx4 := by kernel_rfl
theorem tx44 : tSync tx4 = (tx4, 9) := by kernel_rfl
theorem tx45 : tUp tx4 = tx5 := by kernel_rfl
theorem tx5r : tRead tx5 = ([97, 98, 99], 0) := by kernel_rfl
theorem tx_fine : tx0.fine ∧ tx1.fine ∧ tx2.fine ∧ tx3.fine ∧ tx4.fine ∧ tx5.fine := by
  refine ⟨⟨?_, ?_, ?_, ?_, ?_, ?_⟩, ⟨?_, ?_, ?_, ?_, ?_, ?_⟩, ⟨?_, ?_, ?_, ?_, ?_, ?_⟩, ⟨?_, ?_, ?_, ?_, ?_, ?_⟩, ⟨?_, ?_, ?_, ?_, ?_, ?_⟩, ⟨?_, ?_, ?_, ?_, ?_, ?_⟩⟩ <;> decide

theorem tAppend_ok {m : Tm} {b : List UInt8} (h : m.down = false) (hl : m.left = -1) (hr : ¬ m.room < (m.b.length : Int) + b.length) : tAppend m b = ({ m with b := m.b ++ b }, 0) := by
  have hc : tCall m = (m, 0) := by
    rw [tCall_ok h (by omega), if_neg (by omega)]
  rw [tAppend, hc, if_pos rfl, if_neg hr]
theorem tSync_ok {m : Tm} (h : m.down = false) (hl : m.left = -1) : tSync m = ({ m with synced := m.b.length }, 0) := by
  have hc : tCall m = (m, 0) := by
    rw [tCall_ok h (by omega), if_neg (by omega)]
  rw [tSync, hc, if_pos rfl]
/-- b[:k] -/
theorem slice_bytes_upto {P : Program} {t e : TypeId} (HT : ByteT P t e) (he : P.elem t = e) {w : World} {A : Option Addr} {c : Nat} {l : List UInt8} (hr : Rd w A (BV l)) (h2 : l.length ≤ c) (h3 : c ≤ 9223372036854775807) (k : Nat) (hk : k ≤ l.length) (x : Int) (hx : x = (k : Int)) :
    (∀ u : World, (Instr.slice t (.slice A l.length c) none (some (.int .i64 x)) none).run P u = .ok (.slice A k c) u) ∧ Bs w (.slice A k c) (l.take k) := by
  subst hx
  obtain ⟨i, hi', hz, hs, hb⟩ := HT.info
  refine ⟨fun u => ?_, ?_⟩
  · rw [run_slice_h (P := P) (w := u) (t := t) (a := A) (len := l.length) (cap := c) (ht := by rw [he]; exact HT.under) .i64 k (by omega) (by omega)]
    simp [sizeOf, typeInfo, he, hi', hs, sliced]
    intro _
    cases A <;> simp [Addr.add]
  · have := Bs.cut (k := k) (p := 0) hr (by omega) h2 h3 A fun a ha _ => by rw [ha]; simp [Addr.add]
    simpa using this

end Go.Proofs.Ytdfjicjlmejonaa
