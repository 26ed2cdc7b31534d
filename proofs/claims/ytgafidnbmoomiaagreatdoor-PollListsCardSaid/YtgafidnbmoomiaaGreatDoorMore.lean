/-
  CONTRACT of tankardlaw00.Code: an error's number. Conditions: what each says.
  MORE WORDS FOR MEMORY, over any program: b[:hi], numbers and their bytes. No condition but what each theorem says.
  SLICES OF STRINGS; []byte(s) of a string that is no constant. No condition but what each theorem says.
  CONTRACTS of both Readers' Word and Text, at whatever stands next: one statement each.
-/
import Derived.Test.YtgafidnbmoomiaaGreatDoorWordA
import Derived.Lib.SliceRun
import Derived.BigFrame
import Derived.Test.YtgafidnbmoomiaaGreatDoorLs
import Derived.Test.YtgafidnbmoomiaaGreatDoorKee
import Derived.Lib.ConvBytes
namespace Go.Proofs.YtgafidnbmoomiaaGreatDoor
open Go.RowKit

theorem Bstr_take (s : List UInt8) (n : Nat) : (Bstr s).extract 0 n = Bstr (s.take n) := by
  apply ByteArray.ext
  simp [Bstr]

theorem Code_nil (w : World) : Calls Tryz.prog 11 #[.nilIface] w fun e w' => e = .returned (.int .i64 0) ∧ w = w' := by
  go_enter Tryz.func11, Tryz.ntmps11
  go_wp2_with fail
  go_ret
  exact ⟨rfl, rfl⟩

theorem Code_any (n : Int) (w : World) (h1 : 1 ≤ n) (h2 : n ≤ 10) : Calls Tryz.prog 11 #[code n] w fun e w' => e = .returned (.int .i64 n) ∧ w = w' := by
  have eqc := fun u j => eqCode u n j
  obtain ⟨n, rfl⟩ := nat_of (n := n) (by omega)
  go_enter Tryz.func11, Tryz.ntmps11
  go_wp2
  go_loop [3] (fun i => ∃ j : Nat, 1 ≤ j ∧ j ≤ n ∧ i = .int .i64 j) (fun i => n - (intOf i).toNat)
  case atStart => exact ⟨1, Nat.le_refl _, by omega, rfl⟩
  case round =>
    obtain ⟨j, hj1, hj2, rfl⟩ := hrel
    by_cases hlt : j < n
    · have hne : ((n : Int) == (j : Int)) = false := by rw [beq_eq_false_iff_ne]; omega
      go_wp2
      refine ⟨⟨j + 1, by omega, by omega, by go_num⟩, by simp [intOf]; omega⟩
    · obtain rfl : j = n := by omega
      have heq : ((j : Int) == (j : Int)) = true := by simp
      go_wp2
      go_ret
      exact ⟨rfl, rfl⟩

def errV (c : Int) : Value := if c = 0 then .nilIface else code c

theorem errV_zero : errV 0 = .nilIface := rfl

theorem errV_code {c : Int} (h : c ≠ 0) : errV c = code c := by rw [errV, if_neg h]

theorem Code_err (c : Int) (w : World) (h : 0 ≤ c ∧ c ≤ 10) : Calls Tryz.prog 11 #[errV c] w fun e w' => e = .returned (.int .i64 c) ∧ w = w' := by
  by_cases h0 : c = 0
  · subst h0
    rw [errV_zero]
    exact Code_nil w
  · rw [errV_code h0]
    exact Code_any c w (by omega) h.2

theorem slice_bytes_to {P : Program} (w : World) {t e : TypeId} (HT : ByteT P t e) (he : P.elem t = e) {A : Option Addr} {c : Nat} {l : List UInt8} (hr : Rd w A (BV l)) (h2 : l.length ≤ c) (h3 : c ≤ 9223372036854775807) (hi : Nat) (h1 : hi ≤ l.length) (y : Int) (hy : y = (hi : Int)) :
    ∃ V, (∀ u : World, (Instr.slice t (.slice A l.length c) none (some (.int .i64 y)) none).run P u = .ok V u) ∧ Bs w V (l.take hi) ∧ V.ownBlock = (Value.slice A l.length c).ownBlock := by
  subst hy
  obtain ⟨i, hi', hz, hs, hb⟩ := HT.info
  refine ⟨.slice A hi c, fun u => ?_, ?_, ?_⟩
  · rw [run_slice_h (P := P) (w := u) (t := t) (a := A) (len := l.length) (cap := c) (ht := by rw [he]; exact HT.under) .i64 hi (by omega) (by omega)]
    simp [sizeOf, typeInfo, he, hi', hs, sliced]
    intro _
    cases A <;> simp [Addr.add]
  · have h := Bs.cut (p := 0) (k := hi) hr (by omega) h2 h3 A (fun a ha _ => by rw [ha]; simp [Addr.add])
    simpa using h
  · cases A <;> rfl

theorem bet_num_at (k : Nat) : ∀ m : List UInt8, m.length = k → bet (num m) k = m := by
  induction k with
  | zero =>
    intro m hm
    rw [List.eq_nil_of_length_eq_zero hm]
    rfl
  | succ k ih =>
    intro m hm
    have hne : m ≠ [] := by intro h; subst h; simp at hm
    have hd := List.dropLast_concat_getLast hne
    have hl : m.dropLast.length = k := by simp; omega
    have hb := (m.getLast hne).toNat_lt
    have hn : num m = num m.dropLast * 256 + (m.getLast hne).toNat := by rw [← num_snoc, hd]
    have h1 : num m / 256 = num m.dropLast := by omega
    have h2 : UInt8.ofNat (num m) = m.getLast hne := by
      apply UInt8.toNat.inj
      rw [UInt8.toNat_ofNat']
      omega
    rw [bet_snoc, h1, ih _ hl, h2, hd]

theorem bet_num (m : List UInt8) : bet (num m) m.length = m := bet_num_at _ m rfl

theorem num_bet (k : Nat) : ∀ n : Nat, n < 256 ^ k → num (bet n k) = n := by
  induction k with
  | zero => intro n hn; simp at hn; subst hn; rfl
  | succ k ih =>
    intro n hn
    rw [bet_snoc, num_snoc, ih (n / 256) (by rw [Nat.pow_succ] at hn; omega)]
    simp
    omega

set_option maxRecDepth 100000

theorem strT1 : ElemT Tryz.prog 112 9 1 16 := ⟨Tryz.underlying112, by omega, by
  refine ⟨_, _, rfl, rfl, rfl, rfl, ?_⟩
  rfl⟩

def stC (s : List UInt8) : List Value := [.string (Bstr s)]

def StL (w : World) (v : Value) (l : List (List UInt8)) : Prop := Lv 1 w v (l.map fun s => [.string (Bstr s)])

theorem StL.form {w : World} {v : Value} {l : List (List UInt8)} (h : StL w v l) : ∃ A c, v = .slice A l.length c ∧ l.length ≤ c ∧ c ≤ 9223372036854775807 := by
  obtain ⟨A, c, hv, h1, h2⟩ := Lv.form h
  rw [List.length_map] at hv h1
  exact ⟨A, c, hv, h1, h2⟩

theorem StL.cell {w : World} {A : Option Addr} {n c : Nat} {l : List (List UInt8)} (h : StL w (.slice A n c) l) {i : Nat} {s : List UInt8} (hi : l[i]? = some s) :
    ∃ q p, A = some ⟨q, p, none⟩ ∧ q < w.heap.size ∧ w.cell? ⟨q, p + i, none⟩ = some (.string (Bstr s)) := by
  obtain ⟨q, p, hA, hq, hc⟩ := Lv.cells h (by omega) (i := i) (x := [.string (Bstr s)]) (by rw [List.getElem?_map, hi]; rfl)
  exact ⟨q, p, hA, hq, by simpa using hc 0 _ rfl⟩

theorem bytesOf (l : List UInt8) (w : World) (hl : l.length ≤ 1048576) : ∃ G W, (convert 9 42 (.string (Bstr l))).run Tryz.prog w = .ok (.slice (some ⟨w.heap.size, 0, none⟩) l.length G) W ∧ l.length ≤ G ∧ G ≤ 9223372036854775807 ∧ Below w.heap.size w W ∧ w.heap.size < W.heap.size ∧
    (∀ (j : Nat) (y : UInt8), l[j]? = some y → W.cell? ⟨w.heap.size, j, none⟩ = some (.int .u8 (y.toNat : Int)) ∧ W.frozen? ⟨w.heap.size, j, none⟩ = false) := by
  have hs := Bstr_size l
  have h := Lib.run_convert_string_bytes (P := Tryz.prog) w 9 42 5 (Bstr l) strT byteT.under byteT.elem
  rw [hs] at h
  refine ⟨_, _, h, ?_, ?_, ?_, ?_, fun j y hy => ?_⟩
  · exact grownCap_ge w _ _ _
  · have := grownCap_le_maxLen w l.length 0 5 (by simp only [maxLen]; omega)
    simp only [maxLen] at this
    omega
  · exact ⟨rfl, rfl, rfl, by rw [Lib.bytesWorld_size]; omega, fun j hj => Lib.bytesWorld_at_old w _ _ j hj⟩
  · rw [Lib.bytesWorld_size]
    omega
  · obtain ⟨hj, rfl⟩ := List.getElem?_eq_some_iff.1 hy
    refine ⟨?_, ?_⟩
    · rw [Lib.bytesWorld_cell w _ _ j (by rw [hs]; exact hj)]
      simp [Bstr, List.getD, hj]
    · have hz : (Lib.bytesCells w 5 (Bstr l)).size = l.length + (grownCap w (Bstr l).size 0 5 - (Bstr l).size) := by
        simp [Lib.bytesCells, Bstr]
      simp only [World.frozen?, Lib.bytesWorld_at_new]
      simp
      omega

def wOut (l : List UInt8) (p : Nat) (bad : Bool) (k : Int) : Nat := if wordOk l p bad k then num ((l.drop p).take k.toNat) else 0

def wNext (l : List UInt8) (p : Nat) (bad : Bool) (k : Int) : Nat := if wordOk l p bad k then p + k.toNat else p

theorem word_all (g : Nat) (v : Value) (l : List UInt8) (p : Nat) (bad : Bool) (k : Int) (w : World) (h : WR w g v l p bad) :
    Calls Tryz.prog 78 #[.pointer (some ⟨g, 0, none⟩), .int .i64 k] w fun e w' => e = .returned (.int .u64 (wOut l p bad k)) ∧ WR w' g v l (wNext l p bad k) (!wordOk l p bad k) ∧ w.grownBy w' (some g) := by
  cases hk : wordOk l p bad k with
  | false =>
    have h1 : wOut l p bad k = 0 := by simp [wOut, hk]
    have h2 : wNext l p bad k = p := by simp [wNext, hk]
    rw [h1, h2]
    exact word_no g v l p bad k w h hk
  | true =>
    have h1 : wOut l p bad k = num ((l.drop p).take k.toNat) := by simp [wOut, hk]
    have h2 : wNext l p bad k = p + k.toNat := by simp [wNext, hk]
    rw [h1, h2]
    exact word_yes g v l p bad k w h hk

theorem RR.new {w : World} {A : Option Addr} {c : Nat} {b : List UInt8} (h : Bs w (.slice A b.length c) b) (hbl : b.length ≤ 140737488355328) :
    RR (w.alloc (.cells #[.slice A b.length c, .int .i64 0, .int .i64 (-1)] 159)) w.heap.size (.slice A b.length c) b 0 false :=
  ⟨Blk.new _ _ _, h.alloc _, Nat.zero_le _, fun hb e => by
    obtain ⟨k, hk, hk'⟩ := h.block hb
    rw [e] at hk
    injection hk
    omega, hbl⟩

end Go.Proofs.YtgafidnbmoomiaaGreatDoor
