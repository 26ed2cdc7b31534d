/-
  WHAT A TAPE OF THE PROGRAM IS TO KEEP ('TapeK': its contracts, over the plain tAppend, tSync, tCut, tCrash, tFail, tUp, tRead); the head of layer 7's statements, and TapeLasts, walked over it. No condition but what each theorem says.
-/
import Derived.Test.YtanabbeohaengaaTpA
import Derived.Lib.SlBytesConst
namespace Go.Proofs.Ytanabbeohaengaa
open Go.RowKit
set_option maxRecDepth 100000

/-- 'PT w F g m': in the world w the tape in block g is m, and lies in the blocks F. Its contracts: F may grow by what is new; what lies elsewhere stays. -/
structure TapeK (PT : World → (Nat → Prop) → Nat → Tm → Prop) : Prop where
  thing : ∀ (g : Nat) (m : Tm), Thing fun w F => PT w F g m
  new_ok : ∀ (room : Int) (w : World), 1 ≤ room → room ≤ 1048576 → Calls Try.prog 6 #[.int .i64 room] w fun e w' => ∃ (g : Nat) (F : Nat → Prop), e = .returned (.tuple #[.pointer (some ⟨g, 0, none⟩), .nilIface]) ∧ PT w' F g ⟨room, 0, -1, [], false⟩ ∧ Below w.heap.size w w' ∧ ∀ q, F q → w.heap.size ≤ q
  new_no : ∀ (room : Int) (w : World), (room < 1 ∨ 1048576 < room) → Calls Try.prog 6 #[.int .i64 room] w fun e w' => e = .returned (.tuple #[.pointer none, code 1]) ∧ Below w.heap.size w w'
  append : ∀ {w : World} {F : Nat → Prop} {g : Nat} {m : Tm} {b : List UInt8} {bv : Value}, PT w F g m → m.fine → Bs w bv b → (b ≠ [] → ∀ q, bv.ownBlock = some q → ¬ F q) → b.length ≤ 1000000000 →
    Calls Try.prog 8 #[.pointer (some ⟨g, 0, none⟩), bv] w fun e w' => e = .returned (errV (tAppend m b).2) ∧ ∃ F', PT w' F' g (tAppend m b).1 ∧ Apt F w w' ∧ ∀ q, F' q → F q ∨ w.heap.size ≤ q
  sync : ∀ {w : World} {F : Nat → Prop} {g : Nat} {m : Tm}, PT w F g m → m.fine →
    Calls Try.prog 10 #[.pointer (some ⟨g, 0, none⟩)] w fun e w' => e = .returned (errV (tSync m).2) ∧ ∃ F', PT w' F' g (tSync m).1 ∧ Apt F w w' ∧ ∀ q, F' q → F q ∨ w.heap.size ≤ q
  read : ∀ {w : World} {F : Nat → Prop} {g : Nat} {m : Tm}, PT w F g m → m.fine →
    Calls Try.prog 18 #[.pointer (some ⟨g, 0, none⟩)] w fun e w' => ∃ x F', e = .returned (.tuple #[x, errV (tRead m).2]) ∧ Own w' w.heap.size 5 x (tRead m).1 ∧ PT w' F' g m ∧ Apt F w w' ∧ (∀ q, F' q → F q ∨ w.heap.size ≤ q) ∧ ∀ q, x.ownBlock = some q → ¬ F' q
  cut : ∀ {w : World} {F : Nat → Prop} {g : Nat} {m : Tm} {n : Int}, PT w F g m → m.fine → -9223372036854775808 ≤ n → n ≤ 9223372036854775807 →
    Calls Try.prog 12 #[.pointer (some ⟨g, 0, none⟩), .int .i64 n] w fun e w' => e = .returned (errV (tCut m n).2) ∧ ∃ F', PT w' F' g (tCut m n).1 ∧ Apt F w w' ∧ ∀ q, F' q → F q ∨ w.heap.size ≤ q
  fail : ∀ {w : World} {F : Nat → Prop} {g : Nat} {m : Tm} {n : Int}, PT w F g m → m.fine → -9223372036854775808 ≤ n → n ≤ 9223372036854775807 →
    Calls Try.prog 14 #[.pointer (some ⟨g, 0, none⟩), .int .i64 n] w fun e w' => e = .returned (.tuple #[]) ∧ ∃ F', PT w' F' g (tFail m n) ∧ Apt F w w' ∧ ∀ q, F' q → F q ∨ w.heap.size ≤ q
  crash : ∀ {w : World} {F : Nat → Prop} {g : Nat} {m : Tm} {n : Int}, PT w F g m → m.fine → -9223372036854775808 ≤ n → n ≤ 9223372036854775807 →
    Calls Try.prog 15 #[.pointer (some ⟨g, 0, none⟩), .int .i64 n] w fun e w' => e = .returned (.tuple #[]) ∧ ∃ F', PT w' F' g (tCrash m n) ∧ Apt F w w' ∧ ∀ q, F' q → F q ∨ w.heap.size ≤ q
  up : ∀ {w : World} {F : Nat → Prop} {g : Nat} {m : Tm}, PT w F g m → m.fine →
    Calls Try.prog 17 #[.pointer (some ⟨g, 0, none⟩)] w fun e w' => e = .returned (.tuple #[]) ∧ ∃ F', PT w' F' g (tUp m) ∧ Apt F w w' ∧ ∀ q, F' q → F q ∨ w.heap.size ≤ q

theorem TapeK.later {PT : World → (Nat → Prop) → Nat → Tm → Prop} (hK : TapeK PT) {w w' : World} {F : Nat → Prop} {g : Nat} {m : Tm} (h : PT w F g m) (hb : Below w.heap.size w w') : PT w' F g m := (hK.thing g m).keep h (Apt.of_below hb)

theorem Rd.mark7 (w : World) (cs : Array Value) (e : TypeId) (f : Nat × Nat) : Rd (w.alloc (.cells cs e f)) (some ⟨w.heap.size, 0, none⟩) cs.toList :=
  Rd.of_cells (World.news_of_block (heap_alloc_new w _))

/-- the tape of the document's example, call by call -/
def tx0 : Tm := ⟨10, 0, -1, [], false⟩
def tx1 : Tm := ⟨10, 0, -1, [97, 98], false⟩
def tx2 : Tm := ⟨10, 2, -1, [97, 98], false⟩
def tx3 : Tm := ⟨10, 2, -1, [97, 98, 99, 100], false⟩
def tx4 : Tm := ⟨10, 3, -1, [97, 98, 99], true⟩
def tx5 : Tm := ⟨10, 3, -1, [97, 98, 99], false⟩
theorem tx01 : tAppend tx0 [97, 98] = (tx1, 0) := by kernel_rfl
theorem tx12 : tSync tx1 = (tx2, 0) := by kernel_rfl
theorem tx23 : tAppend tx2 [99, 100] = (tx3, 0) := by kernel_rfl
theorem tx34 : tCrash tx3 1 = tx4 := by kernel_rfl
theorem tx44 : tSync tx4 = (tx4, 9) := by kernel_rfl
theorem tx45 : tUp tx4 = tx5 := by kernel_rfl
theorem tx5r : tRead tx5 = ([97, 98, 99], 0) := by kernel_rfl
theorem tx_fine : tx0.fine ∧ tx1.fine ∧ tx2.fine ∧ tx3.fine ∧ tx4.fine ∧ tx5.fine := by
  refine ⟨⟨?_, ?_, ?_, ?_, ?_, ?_⟩, ⟨?_, ?_, ?_, ?_, ?_, ?_⟩, ⟨?_, ?_, ?_, ?_, ?_, ?_⟩, ⟨?_, ?_, ?_, ?_, ?_, ?_⟩, ⟨?_, ?_, ?_, ?_, ?_, ?_⟩, ⟨?_, ?_, ?_, ?_, ?_, ?_⟩⟩ <;> decide

set_option maxHeartbeats 3200000 in
theorem up7_any {PT : World → (Nat → Prop) → Nat → Tm → Prop} (hK : TapeK PT) (w : World) : Calls Try.prog 5 #[] w fun e w' => e = .returned (.bool true) ∧ Below w.heap.size w w' := by
  have HK := Lib.hid hK
  have eqc := eqCode
  have neq_ := neCode
  have HF := Lib.hid tx_fine
  have hcv1 := fun u : World => Lib.run_convert_bytes_const (P := Try.prog) u 33 5 #[.int .u8 97, .int .u8 98] 2 2 byteT.under byteT.elem
  have hcv2 := fun u : World => Lib.run_convert_bytes_const (P := Try.prog) u 33 5 #[.int .u8 99, .int .u8 100] 2 2 byteT.under byteT.elem
  clear hK
  go_enter Try.func5, Try.ntmps5
  go_wp2_with fail
  refine (HK.out.new_ok 10 _ (by omega) (by omega)).mono ?_
  rintro e w1 ⟨g, F, rfl, hP1, hb1, hF1⟩
  go_wp2_with fail
  refine (HK.out.new_no 0 _ (by omega)).mono ?_
  rintro e w2 ⟨rfl, hb2⟩
  have hB2 := hb1.trans (hb2.mono hb1.size)
  have hP2 : PT w2 F g tx0 := HK.out.later hP1 hb2
  clear hP1 hb1 hb2
  go_wp2_with fail
  have ha2 : Below w2.heap.size w2 (w2.alloc (.cells #[.int .u8 97, .int .u8 98] 5 (2, 3))) := (Below.refl _ _).alloc (Nat.le_refl _) _
  have hB2a := hB2.trans (ha2.mono hB2.size)
  have hA := HK.out.append (b := [97, 98]) (HK.out.later hP2 ha2) HF.out.1 ⟨_, 2, rfl, by decide, by decide, Rd.mark7 w2 #[.int .u8 97, .int .u8 98] _ _⟩ (fun _ q hq hF => by
    simp [Value.ownBlock] at hq
    have := (HK.out.thing g tx0).lt hP2 q hF
    omega) (by decide)
  rw [tx01] at hA
  refine hA.mono ?_
  rintro e w3 ⟨rfl, F3, hP3, hA3, hN3⟩
  have hB3 := below_apt hB2a hA3 hF1 hB2a.size
  have hF3 : ∀ z, F3 z → w.heap.size ≤ z := fun z hz => (hN3 z hz).elim (hF1 z) fun h => Nat.le_trans hB2a.size h
  clear hA hA3 hN3 hP2 hB2 ha2 hB2a hcv1
  rw [errV_zero]
  have hS := HK.out.sync hP3 HF.out.2.1
  rw [tx12] at hS
  go_wp2_with fail
  refine hS.mono ?_
  rintro e w4 ⟨rfl, F4, hP4, hA4, hN4⟩
  have hB4 := below_apt hB3 hA4 hF3 hB3.size
  have hF4 : ∀ z, F4 z → w.heap.size ≤ z := fun z hz => (hN4 z hz).elim (hF3 z) fun h => Nat.le_trans hB3.size h
  clear hS hA4 hN4 hP3 hB3
  rw [errV_zero]
  go_wp2_with fail
  have ha4 : Below w4.heap.size w4 (w4.alloc (.cells #[.int .u8 99, .int .u8 100] 5 (2, 3))) := (Below.refl _ _).alloc (Nat.le_refl _) _
  have hB4a := hB4.trans (ha4.mono hB4.size)
  have hA := HK.out.append (b := [99, 100]) (HK.out.later hP4 ha4) HF.out.2.2.1 ⟨_, 2, rfl, by decide, by decide, Rd.mark7 w4 #[.int .u8 99, .int .u8 100] _ _⟩ (fun _ q hq hF => by
    simp [Value.ownBlock] at hq
    have := (HK.out.thing g tx2).lt hP4 q hF
    omega) (by decide)
  rw [tx23] at hA
  refine hA.mono ?_
  rintro e w5 ⟨rfl, F5, hP5, hA5, hN5⟩
  have hB5 := below_apt hB4a hA5 hF4 hB4a.size
  have hF5 : ∀ z, F5 z → w.heap.size ≤ z := fun z hz => (hN5 z hz).elim (hF4 z) fun h => Nat.le_trans hB4a.size h
  clear hA hA5 hN5 hP4 hB4 ha4 hB4a hcv2
  rw [errV_zero]
  have hC := HK.out.crash (n := 1) hP5 HF.out.2.2.2.1 (by omega) (by omega)
  rw [tx34] at hC
  go_wp2_with fail
  refine hC.mono ?_
  rintro e w6 ⟨rfl, F6, hP6, hA6, hN6⟩
  have hB6 := below_apt hB5 hA6 hF5 hB5.size
  have hF6 : ∀ z, F6 z → w.heap.size ≤ z := fun z hz => (hN6 z hz).elim (hF5 z) fun h => Nat.le_trans hB5.size h
  clear hC hA6 hN6 hP5 hB5
  have hS := HK.out.sync hP6 HF.out.2.2.2.2.1
  rw [tx44] at hS
  go_wp2_with fail
  refine hS.mono ?_
  rintro e w7 ⟨rfl, F7, hP7, hA7, hN7⟩
  have hB7 := below_apt hB6 hA7 hF6 hB6.size
  have hF7 : ∀ z, F7 z → w.heap.size ≤ z := fun z hz => (hN7 z hz).elim (hF6 z) fun h => Nat.le_trans hB6.size h
  clear hS hA7 hN7 hP6 hB6
  rw [errV_code (by omega)]
  have hU := HK.out.up hP7 HF.out.2.2.2.2.1
  rw [tx45] at hU
  go_wp2_with fail
  refine hU.mono ?_
  rintro e w8 ⟨rfl, F8, hP8, hA8, hN8⟩
  have hB8 := below_apt hB7 hA8 hF7 hB7.size
  have hF8 : ∀ z, F8 z → w.heap.size ≤ z := fun z hz => (hN8 z hz).elim (hF7 z) fun h => Nat.le_trans hB7.size h
  clear hU hA8 hN8 hP7 hB7
  have hR := HK.out.read hP8 HF.out.2.2.2.2.2
  rw [tx5r] at hR
  go_wp2_with fail
  refine hR.mono ?_
  rintro e w9 ⟨x, F9, rfl, hx, _, hA9, _, _⟩
  have hB9 := below_apt hB8 hA9 hF8 hB8.size
  have hst := strOf hx.bs
  obtain ⟨Ax, cx, hxv, _⟩ := hx.form
  subst hxv
  replace hst : (convert 33 9 (.slice Ax 3 cx)).run Try.prog w9 = .ok (.string ⟨#[97, 98, 99]⟩) w9 := hst
  clear hR hA9
  rw [errV_zero]
  go_wp2_with fail
  go_ret
  exact ⟨rfl, hB9⟩

theorem tAppend_ok {m : Tm} {b : List UInt8} (h : m.down = false) (hl : m.left = -1) (hr : ¬ m.room < (m.b.length : Int) + b.length) : tAppend m b = ({ m with b := m.b ++ b }, 0) := by
  have hc : tCall m = (m, 0) := by
    rw [tCall_ok h (by omega), if_neg (by omega)]
  rw [tAppend, hc, if_pos rfl, if_neg hr]
theorem tSync_ok {m : Tm} (h : m.down = false) (hl : m.left = -1) : tSync m = ({ m with synced := m.b.length }, 0) := by
  have hc : tCall m = (m, 0) := by
    rw [tCall_ok h (by omega), if_neg (by omega)]
  rw [tSync, hc, if_pos rfl]
/-- b[:k] -/
theorem slice_bytes_upto {P : Program} {t e : TypeId} (HT : ByteT P t e) (he : P.elem t = e) {w : World} {A : Option Addr} {c : Nat} {l : List UInt8} (hr : Rd w A (BV l)) (h2 : l.length ≤ c) (h3 : c ≤ 9223372036854775807) (k : Nat) (hk : k ≤ l.length) (x : Int) (hx : x = (k : Int)) :
    (∀ u : World, (Instr.slice t (.slice A l.length c) none (some (.int .i64 x)) none).run P u = .ok (.slice A k c) u) ∧ Bs w (.slice A k c) (l.take k) := by
  subst hx
  obtain ⟨i, hi', hz, hs, hb⟩ := HT.info
  refine ⟨fun u => ?_, ?_⟩
  · rw [run_slice_h (P := P) (w := u) (t := t) (a := A) (len := l.length) (cap := c) (ht := by rw [he]; exact HT.under) .i64 k (by omega) (by omega)]
    simp [sizeOf, typeInfo, he, hi', hs, sliced]
    intro _
    cases A <;> simp [Addr.add]
  · have := Bs.cut (k := k) (p := 0) hr (by omega) h2 h3 A fun a ha _ => by rw [ha]; simp [Addr.add]
    simpa using this

set_option maxHeartbeats 6400000 in
theorem tapeLasts_any {PT : World → (Nat → Prop) → Nat → Tm → Prop} (hK : TapeK PT) (av bv : Value) (a b : List UInt8) (keep : Int) (w : World) (ha : Bs w av a) (hb : Bs w bv b) (hal : a.length ≤ 140737488355328) (hbl : b.length ≤ 140737488355328) (hk0 : -9223372036854775808 ≤ keep) (hk1 : keep ≤ 9223372036854775807) :
    Calls Try.prog 4 #[av, bv, .int .i64 keep] w fun e w' => e = .returned (.bool true) ∧ Below w.heap.size w w' := by
  have HK := Lib.hid hK
  have HA := Lib.hid ha
  have HB := Lib.hid hb
  have eqc := eqCode
  have neq_ := neCode
  obtain ⟨Aa, ca, rfl, hca1, hca2, _⟩ := ha
  obtain ⟨Ab, cb, rfl, hcb1, hcb2, hrb⟩ := hb
  clear hK
  go_enter Try.func4, Try.ntmps4
  go_wp2_with fail
  refine (up7_any HK.out _).mono ?_
  rintro e w1 ⟨rfl, hb1⟩
  by_cases hbig : (5000 : Int) < (a.length : Int) + (b.length : Int)
  · go_wp2_with fail
    go_ret
    exact ⟨rfl, hb1⟩
  go_wp2_with fail
  refine (HK.out.new_ok 6000 _ (by omega) (by omega)).mono ?_
  rintro e w2 ⟨g, F, rfl, hP2, hb2, hF2'⟩
  have hB2 := hb1.trans (hb2.mono hb1.size)
  have hF2 : ∀ q, F q → w.heap.size ≤ q := fun q hq => Nat.le_trans hb1.size (hF2' q hq)
  clear hb1 hb2 hF2'
  have hsep : ∀ {V : Value} {l : List UInt8} {G : Nat → Prop}, Bs w V l → (∀ q, G q → w.heap.size ≤ q) → l ≠ [] → ∀ q, V.ownBlock = some q → ¬ G q := fun {V l G} hV hG hne q hq hGq => by
    obtain ⟨y, hy, hy'⟩ := hV.block hne
    rw [hy] at hq
    injection hq with hq
    have := hG q hGq
    omega
  have HSEP : Hid (∀ (V : Value) (l : List UInt8) (G : Nat → Prop), Bs w V l → (∀ q, G q → w.heap.size ≤ q) → l ≠ [] → ∀ q, V.ownBlock = some q → ¬ G q) := Lib.hid fun V l G h1 h2 => hsep h1 h2
  have hf0 : (⟨6000, 0, -1, [], false⟩ : Tm).fine := ⟨by decide, by decide, by decide, by decide, by decide, by decide⟩
  have e1 := tAppend_ok (m := ⟨6000, 0, -1, [], false⟩) (b := a) rfl rfl (by simp; omega)
  have hA1 := HK.out.append (b := a) hP2 hf0 (HA.out.below hB2) (HSEP.out _ _ _ HA.out hF2) (by omega)
  have hf1 := hf0.append a
  rw [e1] at hA1 hf1
  simp only [List.nil_append] at hA1 hf1
  clear e1 hf0 hsep
  go_wp2_with fail
  refine hA1.mono ?_
  rintro e w3 ⟨rfl, F3, hP3, hA3, hN3⟩
  have hB3 := below_apt hB2 hA3 hF2 hB2.size
  have hF3 : ∀ z, F3 z → w.heap.size ≤ z := fun z hz => (hN3 z hz).elim (hF2 z) fun h => Nat.le_trans hB2.size h
  have e2 := tSync_ok (m := ⟨6000, 0, -1, a, false⟩) rfl rfl
  have hS := HK.out.sync hP3 hf1
  have hf2 := hf1.syn
  rw [e2] at hS hf2
  simp only at hS hf2
  clear hA1 hA3 hN3 hP3 e2 hf1 hP2 hB2 hF2
  go_wp2_with fail
  refine hS.mono ?_
  rintro e w4 ⟨rfl, F4, hP4, hA4, hN4⟩
  have hB4 := below_apt hB3 hA4 hF3 hB3.size
  have hF4 : ∀ z, F4 z → w.heap.size ≤ z := fun z hz => (hN4 z hz).elim (hF3 z) fun h => Nat.le_trans hB3.size h
  have e3 := tAppend_ok (m := ⟨6000, a.length, -1, a, false⟩) (b := b) rfl rfl (by simp only; omega)
  have hA5 := HK.out.append (b := b) hP4 hf2 (HB.out.below hB4) (HSEP.out _ _ _ HB.out hF4) (by omega)
  have hf3 := hf2.append b
  rw [e3] at hA5 hf3
  simp only at hA5 hf3
  clear hS hA4 hN4 hP4 e3 hf2 hB3 hF3
  go_wp2_with fail
  refine hA5.mono ?_
  rintro e w5 ⟨rfl, F5, hP5, hA5', hN5⟩
  have hB5 := below_apt hB4 hA5' hF4 hB4.size
  have hF5 : ∀ z, F5 z → w.heap.size ≤ z := fun z hz => (hN5 z hz).elim (hF4 z) fun h => Nat.le_trans hB4.size h
  have hC := HK.out.crash (n := keep) hP5 hf3 hk0 hk1
  have hf4 := hf3.crash keep
  obtain ⟨t, ht⟩ : ∃ t, t = tMore ⟨6000, a.length, -1, a ++ b, false⟩ keep := ⟨_, rfl⟩
  have htl : t ≤ b.length := by
    have := tMore_le hf3.sync keep
    rw [← ht] at this
    simp only [List.length_append] at this
    omega
  have hcases : (keep < 0 ∧ (0 : Int) = (t : Int)) ∨ (0 ≤ keep ∧ keep ≤ (b.length : Int) ∧ keep = (t : Int)) ∨ ((b.length : Int) < keep ∧ (b.length : Int) = (t : Int)) := by
    have hm : tMore ⟨6000, a.length, -1, a ++ b, false⟩ keep = (if keep < (b.length : Int) then keep else (b.length : Int)).toNat := by
      unfold tMore
      simp only [List.length_append]
      have e : (((a.length + b.length : Nat) : Int) - (a.length : Int)) = (b.length : Int) := by omega
      rw [e]
    rw [hm] at ht
    split at ht <;> omega
  have e4 : tCrash ⟨6000, a.length, -1, a ++ b, false⟩ keep = ⟨6000, a.length + t, -1, a ++ b.take t, true⟩ := by
    rw [tCrash, if_neg (by simp), ← ht]
    simp only [Tm.mk.injEq, true_and, and_true]
    rw [List.take_append, List.take_of_length_le (by omega)]
    congr 2
    omega
  rw [e4] at hC hf4
  clear hA5 hA5' hN5 hP5 e4 hf3 ht hB4 hF4
  go_wp2_with fail
  refine hC.mono ?_
  rintro e w6 ⟨rfl, F6, hP6, hA6, hN6⟩
  have hB6 := below_apt hB5 hA6 hF5 hB5.size
  have hF6 : ∀ z, F6 z → w.heap.size ≤ z := fun z hz => (hN6 z hz).elim (hF5 z) fun h => Nat.le_trans hB5.size h
  have hU := HK.out.up hP6 hf4
  have hf5 := hf4.up
  clear hC hA6 hN6 hP6 hf4 hB5 hF5
  go_wp2_with fail
  refine hU.mono ?_
  rintro e w7 ⟨rfl, F7, hP7, hA7, hN7⟩
  have hB7 := below_apt hB6 hA7 hF6 hB6.size
  have hF7 : ∀ z, F7 z → w.heap.size ≤ z := fun z hz => (hN7 z hz).elim (hF6 z) fun h => Nat.le_trans hB6.size h
  have hR := HK.out.read hP7 hf5
  rw [show tRead (tUp ⟨6000, a.length + t, -1, a ++ b.take t, true⟩) = (a ++ b.take t, 0) from rfl] at hR
  clear hU hA7 hN7 hP7 hf5 hB6 hF6
  go_wp2_with fail
  refine hR.mono ?_
  rintro e w8 ⟨x, F8, rfl, hx, _, hA8, _, _⟩
  have hB8 := below_apt hB7 hA8 hF7 hB7.size
  have hstx := fun n : Nat => strOf (hx.bs.drewN n)
  have hsta := fun n : Nat => strOf ((HA.out.below hB8).drewN n)
  have hslb := fun (x : Int) (hx : x = (t : Int)) => slice_bytes_upto byteT elemB (hrb.below hB8) hcb1 hcb2 t htl x hx
  have hstb := fun n : Nat => strOf ((hslb t rfl).2.drewN n)
  have hadd := addStr a (b.take t) (by rw [List.length_take]; omega)
  obtain ⟨Ax, cx, hxv, _⟩ := hx.form
  rw [show (a ++ b.take t).length = a.length + t from by rw [List.length_append, List.length_take]; omega] at hxv
  subst hxv
  have hbb : ((Bstr (a ++ b.take t)).toList == (Bstr (a ++ b.take t)).toList) = true := by simp
  have HB8 := Lib.hid hB8
  clear hR hA8 hx hB8 hB7 hF7
  rw [errV_zero]
  rcases hcases with ⟨h1, h2⟩ | ⟨h1, h1', h2⟩ | ⟨h1, h2⟩
  · have hs := (hslb 0 h2).1
    clear hslb h2
    go_wp2_with fail
    go_quiet (fail)
    go_wp2_with fail
    go_ret
    exact ⟨rfl, below_drewN HB8.out _⟩
  · have hs := (hslb keep h2).1
    clear hslb h2
    go_wp2_with fail
    go_quiet (fail)
    go_wp2_with fail
    go_ret
    exact ⟨rfl, below_drewN HB8.out _⟩
  · have hs := (hslb b.length h2).1
    clear hslb h2
    go_wp2_with fail
    go_quiet (fail)
    go_wp2_with fail
    go_ret
    exact ⟨rfl, below_drewN HB8.out _⟩
end Go.Proofs.Ytanabbeohaengaa
