/-
  SLICES OF SLICES OF BYTES ('Bss'); WHAT A LOG OF THE PROGRAM IS TO KEEP ('LogK': its contracts, over the plain wApp, tCut, Recs); the head of layer 8's statements, and WalRecords, walked over it. No condition but what each theorem says.
-/
import Derived.Test.YtdfjicjlmejonaaWlC
import Derived.Test.YtdfjicjlmejonaaTpB
namespace Go.Proofs.Ytdfjicjlmejonaa
open Go.RowKit
set_option maxRecDepth 100000

/-- one element: it reads as these bytes -/
def BsC (w : World) (l : List UInt8) (x : List Value) : Prop := ∃ d, x = [d] ∧ Bs w d l
theorem BsC.below {w w' : World} {l : List UInt8} {x : List Value} (h : BsC w l x) (hb : Below w.heap.size w w') : BsC w' l x := by
  obtain ⟨d, hx, hd⟩ := h
  exact ⟨d, hx, hd.below hb⟩
/-- the value v is a slice of these bytes -/
def Bss (w : World) (v : Value) (p : List (List UInt8)) : Prop := ∃ xs, Lv 1 w v xs ∧ Two (BsC w) p xs
theorem Bss.below {w w' : World} {v : Value} {p : List (List UInt8)} (h : Bss w v p) (hb : Below w.heap.size w w') : Bss w' v p := by
  obtain ⟨xs, h1, h2⟩ := h
  exact ⟨xs, h1.below hb, h2.mono fun _ _ h => h.below hb⟩
theorem Bss.form {w : World} {v : Value} {p : List (List UInt8)} (h : Bss w v p) : ∃ A c, v = .slice A p.length c ∧ p.length ≤ c ∧ c ≤ 9223372036854775807 := by
  obtain ⟨xs, h1, h2⟩ := h
  obtain ⟨A, c, hv, h3, h4⟩ := h1.form
  rw [← h2.len] at hv h3
  exact ⟨A, c, hv, h3, h4⟩
/-- the cell of one element -/
theorem Bss.cells {w : World} {A : Option Addr} {n c : Nat} {p : List (List UInt8)} (h : Bss w (.slice A n c) p) {i : Nat} {l : List UInt8} (hi : p[i]? = some l) :
    ∃ g o d, A = some ⟨g, o, none⟩ ∧ g < w.heap.size ∧ w.cell? ⟨g, o + i, none⟩ = some d ∧ Bs w d l := by
  obtain ⟨xs, h1, h2⟩ := h
  obtain ⟨x, hx, d, rfl, hd⟩ := h2.right hi
  obtain ⟨g, o, hA, hg, hc⟩ := h1.cells (by omega) hx
  exact ⟨g, o, d, hA, hg, by simpa using hc 0 _ rfl, hd⟩

set_option maxHeartbeats 1600000 in
theorem alike_any (va vb : Value) (l : List (List UInt8)) (w : World) (ha : Bss w va l) (hb : Lv 1 w vb (l.map stC)) :
    Calls Try.prog 9 #[va, vb] w fun e w' => e = .returned (.bool true) ∧ Below w.heap.size w w' := by
  have HA := Lib.hid ha
  have HB : Hid (StL w vb l) := Lib.hid hb
  obtain ⟨A, c, rfl, hc1, hc2⟩ := ha.form
  obtain ⟨A', c', rfl, hc1', hc2'⟩ := HB.out.form
  clear ha hb
  go_enter Try.func9, Try.ntmps9
  go_wp2_with fail
  go_loopw [5] (fun iv wr => ∃ k : Nat, k ≤ l.length ∧ iv = .int .i64 (k : Int) ∧ ∃ n, wr = w.drewN n) (fun iv _ => l.length - (intOf iv).toNat)
  case atStart => exact ⟨0, Nat.zero_le _, rfl, 0, rfl⟩
  case round =>
    obtain ⟨k, hk, rfl, n, rfl⟩ := hrel
    by_cases hlt : k < l.length
    · obtain ⟨s, hks⟩ : ∃ s, l[k]? = some s := ⟨_, List.getElem?_eq_getElem hlt⟩
      obtain ⟨q, p, d, rfl, hq, c0, hd⟩ := HA.out.cells hks
      obtain ⟨q', p', rfl, hq', c0'⟩ := HB.out.cell hks
      have hst := fun n : Nat => strOf (hd.drewN n)
      obtain ⟨Ad, cd, rfl, _⟩ := hd
      have hb0 : (0 : Int) ≤ (k : Int) := by omega
      have hb1 : (k : Int) < (l.length : Int) := by omega
      have he : ((Bstr s).toList == (Bstr s).toList) = true := by simp
      clear hks
      go_wp2_with fail
      go_quiet (fail)
      go_wp2_with fail
      exact ⟨⟨k + 1, by omega, by go_num, _, rfl⟩, by simp [intOf]; omega⟩
    · go_wp2_with fail
      go_ret
      exact ⟨rfl, below_drewN (Below.refl _ _) _⟩

theorem tAppend_code8 (m : Tm) (b : List UInt8) : 0 ≤ (tAppend m b).2 ∧ (tAppend m b).2 ≤ 10 := by
  have := tCall_code m
  unfold tAppend
  split
  · split <;> simp
  · rcases this with h | h | h <;> rw [h] <;> omega
theorem tSync_code8 (m : Tm) : 0 ≤ (tSync m).2 ∧ (tSync m).2 ≤ 10 := by
  have := tCall_code m
  unfold tSync
  split
  · simp
  · rcases this with h | h | h <;> rw [h] <;> omega
/-- a tape that is up holds its log's records and nothing else -/
structure Whole (m : Tm) (rs : List (List UInt8)) : Prop where
  fine : m.fine
  up : m.down = false
  b : m.b = recsB rs
  sync : m.synced = m.b.length
  ok : ∀ s ∈ rs, RecOk s
theorem whole_open {m : Tm} {t : List (List UInt8)} {q : Nat} (h : m.fine) (hR : Recs m.b t 0 q) : Whole (tCut (tUp m) (q : Int)).1 t ∧ (tCut (tUp m) (q : Int)).1.room = m.room := by
  obtain ⟨h1, h2, h3, h4⟩ := hR.1.flat
  have h5 := h3 (Nat.zero_le _)
  have e : tCut (tUp m) (q : Int) = ({ tUp m with b := m.b.take q, synced := q }, 0) := by
    rw [tCut, if_neg (by simp [tUp]), if_neg (by simp only [tUp]; omega)]
    rfl
  refine ⟨⟨h.up.cut _, ?_, ?_, ?_, hR.1.ok⟩, ?_⟩
  · rw [e]; rfl
  · rw [e]
    simpa using h4
  · rw [e]
    show q = (m.b.take q).length
    rw [List.length_take]
    omega
  · rw [e]; rfl
theorem recsB_many {rs : List (List UInt8)} (h : ∀ s ∈ rs, RecOk s) : 7 * rs.length ≤ (recsB rs).length := by
  induction rs with
  | nil => simp
  | cons s t ih =>
    have h1 := (h s (List.mem_cons_self ..)).1
    have h2 := ih fun x hx => h x (List.mem_cons_of_mem _ hx)
    rw [recsB_cons, List.length_append, recB_length, List.length_cons]
    omega
theorem Whole.small {m : Tm} {rs : List (List UInt8)} (h : Whole m rs) : (recsB rs).length ≤ 1048576 ∧ rs.length ≤ 149797 := by
  have h1 := h.fine.len
  have h2 := h.fine.room1
  have h3 := recsB_many h.ok
  rw [h.b] at h1
  omega
theorem tAppend_same (m : Tm) (b : List UInt8) : (tAppend m b).1.room = m.room ∧ (tAppend m b).1.down = m.down ∧ (tAppend m b).1.b = (if (tAppend m b).2 = 0 then m.b ++ b else m.b) ∧ (tAppend m b).1.synced = m.synced := by
  obtain ⟨e1, e2, e3, e4⟩ := tCall_same m
  unfold tAppend
  split
  · split
    · exact ⟨e1, e4, by simp [e3], e2⟩
    · exact ⟨e1, e4, by rw [if_pos rfl], e2⟩
  · rename_i h
    exact ⟨e1, e4, e3, e2⟩
theorem tSync_same (m : Tm) : (tSync m).1.room = m.room ∧ (tSync m).1.down = m.down ∧ (tSync m).1.b = m.b ∧ ((tSync m).2 = 0 → (tSync m).1.synced = m.b.length) := by
  obtain ⟨e1, e2, e3, e4⟩ := tCall_same m
  unfold tSync
  split
  · exact ⟨e1, e4, e3, fun _ => rfl⟩
  · rename_i h
    exact ⟨e1, e4, e3, fun h0 => absurd h0 h⟩
theorem tCut_up {m : Tm} {n : Nat} (h : m.down = false) (hn : n ≤ m.b.length) : tCut m (n : Int) = ({ m with b := m.b.take n, synced := n }, 0) := by
  rw [tCut, if_neg (by rw [h]; simp), if_neg (by omega)]
  rfl
/-- cut back to its records -/
theorem Whole.back {m m1 : Tm} {rs : List (List UInt8)} {k : List UInt8} (h : Whole m rs) (h1 : m1.fine) (h2 : m1.down = false) (h3 : m1.b = recsB rs ++ k) (h4 : m1.room = m.room) : Whole (tCut m1 ((recsB rs).length : Int)).1 rs ∧ (tCut m1 ((recsB rs).length : Int)).1.room = m.room := by
  have e := tCut_up (m := m1) (n := (recsB rs).length) h2 (by rw [h3, List.length_append]; omega)
  refine ⟨⟨h1.cut _, by rw [e]; exact h2, by rw [e]; show m1.b.take _ = _; rw [h3, List.take_left' rfl], ?_, h.ok⟩, by rw [e]; exact h4⟩
  rw [e]
  show (recsB rs).length = (m1.b.take (recsB rs).length).length
  rw [h3, List.take_left' rfl]
theorem Whole.append {m : Tm} {rs : List (List UInt8)} (h : Whole m rs) (b : List UInt8) : Whole (wApp m rs b).1 (wApp m rs b).2.1 ∧ (wApp m rs b).1.room = m.room ∧ (0 ≤ (wApp m rs b).2.2 ∧ (wApp m rs b).2.2 ≤ 10) ∧ (wApp m rs b).2.1 = if (wApp m rs b).2.2 = 0 then rs ++ [b] else rs := by
  have hf1 := h.fine.append (recB b)
  have hf2 := hf1.syn
  obtain ⟨a1, a2, a3, _⟩ := tAppend_same m (recB b)
  obtain ⟨s1, s2, s3, s4⟩ := tSync_same (tAppend m (recB b)).1
  have c1 := tAppend_code8 m (recB b)
  have c2 := tSync_code8 (tAppend m (recB b)).1
  unfold wApp
  split
  · exact ⟨h, rfl, ⟨by simp, by simp⟩, by simp⟩
  · rename_i hb
    split
    · rename_i h0
      rw [if_pos h0.1] at a3
      refine ⟨⟨hf2, by rw [s2, a2]; exact h.up, by rw [s3, a3, h.b, recsB_snoc], by rw [s4 h0.2, s3], fun s hs => ?_⟩, by rw [s1, a1], ⟨by simp, by simp⟩, by simp⟩
      rcases List.mem_append.1 hs with hs | hs
      · exact h.ok s hs
      · rw [List.mem_singleton] at hs
        subst hs
        exact ⟨by omega, by omega⟩
    · rename_i h0
      split
      · rename_i h1
        rw [if_pos h1] at a3
        have hs : (tSync (tAppend m (recB b)).1).2 ≠ 0 := fun e => h0 ⟨h1, e⟩
        obtain ⟨w1, w2⟩ := h.back hf2 (by rw [s2, a2]; exact h.up) (k := recB b) (by rw [s3, a3, h.b]) (by rw [s1, a1])
        exact ⟨w1, w2, c2, by rw [if_neg hs]⟩
      · rename_i h1
        rw [if_neg h1] at a3
        obtain ⟨w1, w2⟩ := h.back hf1 (by rw [a2]; exact h.up) (k := []) (by rw [a3, h.b, List.append_nil]) a1
        exact ⟨w1, w2, c1, rfl⟩
theorem Whole.clear {m : Tm} {rs : List (List UInt8)} (h : Whole m rs) : tCut m 0 = ({ m with b := [], synced := 0 }, 0) ∧ Whole { m with b := [], synced := 0 } [] := by
  have e := tCut_up (m := m) (n := 0) h.up (Nat.zero_le _)
  have hf := h.fine.cut 0
  rw [List.take_zero] at e
  have e' : tCut m 0 = ({ m with b := [], synced := 0 }, 0) := e
  rw [e'] at hf
  exact ⟨e', hf, h.up, rfl, rfl, fun s hs => by cases hs⟩
theorem Whole.fail {m : Tm} {rs : List (List UInt8)} (h : Whole m rs) (n : Int) (hn : n ≤ 9223372036854775807) : Whole (tFail m n) rs := ⟨h.fine.fail n hn, h.up, h.b, h.sync, h.ok⟩
/-- what was synced outlasts a crash, and is what it was -/
theorem Whole.crash {m : Tm} {rs : List (List UInt8)} (h : Whole m rs) (keep : Int) : (tCrash m keep).fine ∧ Recs (tCrash m keep).b rs 0 (recsB rs).length := by
  refine ⟨h.fine.crash keep, ?_⟩
  have h1 := tMore_le h.fine.sync keep
  have h2 := h.sync
  have e : (tCrash m keep).b = m.b := by
    rw [tCrash, if_neg (by rw [h.up]; simp)]
    show m.b.take _ = _
    rw [List.take_of_length_le (by omega)]
  rw [e, h.b]
  exact recs_flat rs h.ok

/-- 'LK w F g gt m rs': in the world w the log in block g has the records rs over the tape in block gt, which is m; both lie in the blocks F. Its contracts: F may grow by what is new; what lies elsewhere stays. -/
structure LogK (PT : World → (Nat → Prop) → Nat → Tm → Prop) (LK : World → (Nat → Prop) → Nat → Nat → Tm → List (List UInt8) → Prop) : Prop where
  thing : ∀ (g gt : Nat) (m : Tm) (rs : List (List UInt8)), Thing fun w F => LK w F g gt m rs
  /-- its tape alone, and back -/
  tape : ∀ {w : World} {F : Nat → Prop} {g gt : Nat} {m : Tm} {rs : List (List UInt8)}, LK w F g gt m rs → ∃ Ft, PT w Ft gt m ∧ (∀ q, Ft q → F q) ∧
    ∀ (w' : World) (Ft' : Nat → Prop) (m' : Tm), PT w' Ft' gt m' → Apt Ft w w' → (∀ q, Ft' q → Ft q ∨ w.heap.size ≤ q) → ∃ F', LK w' F' g gt m' rs ∧ ∀ q, F' q → F q ∨ Ft' q
  records : ∀ {w : World} {bv : Value} {b : List UInt8}, Bs w bv b → b.length ≤ 1048576 →
    Calls Try.prog 7 #[bv] w fun e w' => ∃ (x : Value) (t : List (List UInt8)) (q : Nat), e = .returned (.tuple #[x, .int .i64 (q : Int)]) ∧ Recs b t 0 q ∧ Bss w' x t ∧ Below w.heap.size w w'
  open_nil : ∀ (w : World), Calls Try.prog 13 #[.pointer none] w fun e w' => e = .returned (.tuple #[.pointer none, code 1]) ∧ Below w.heap.size w w'
  open_ok : ∀ {w : World} {F : Nat → Prop} {gt : Nat} {m : Tm}, PT w F gt m → m.fine →
    Calls Try.prog 13 #[.pointer (some ⟨gt, 0, none⟩)] w fun e w' => ∃ (g : Nat) (F' : Nat → Prop) (t : List (List UInt8)) (q : Nat), e = .returned (.tuple #[.pointer (some ⟨g, 0, none⟩), .nilIface]) ∧ Recs m.b t 0 q ∧ LK w' F' g gt (tCut (tUp m) (q : Int)).1 t ∧ Apt F w w' ∧ ∀ q, F' q → F q ∨ w.heap.size ≤ q
  append : ∀ {w : World} {F : Nat → Prop} {g gt : Nat} {m : Tm} {rs : List (List UInt8)} {b : List UInt8} {bv : Value}, LK w F g gt m rs → Whole m rs → Bs w bv b → (b ≠ [] → ∀ q, bv.ownBlock = some q → ¬ F q) → b.length ≤ 1000000 →
    Calls Try.prog 18 #[.pointer (some ⟨g, 0, none⟩), bv] w fun e w' => e = .returned (errV (wApp m rs b).2.2) ∧ ∃ F', LK w' F' g gt (wApp m rs b).1 (wApp m rs b).2.1 ∧ Apt F w w' ∧ ∀ q, F' q → F q ∨ w.heap.size ≤ q
  all : ∀ {w : World} {F : Nat → Prop} {g gt : Nat} {m : Tm} {rs : List (List UInt8)}, LK w F g gt m rs → m.fine → m.b = recsB rs →
    Calls Try.prog 15 #[.pointer (some ⟨g, 0, none⟩)] w fun e w' => ∃ x F', e = .returned x ∧ Bss w' x rs ∧ LK w' F' g gt m rs ∧ Apt F w w' ∧ ∀ q, F' q → F q ∨ w.heap.size ≤ q
  clear : ∀ {w : World} {F : Nat → Prop} {g gt : Nat} {m : Tm} {rs : List (List UInt8)}, LK w F g gt m rs → m.fine → m.b = recsB rs →
    Calls Try.prog 23 #[.pointer (some ⟨g, 0, none⟩)] w fun e w' => e = .returned (errV (tCut m 0).2) ∧ ∃ F', LK w' F' g gt (tCut m 0).1 (if (tCut m 0).2 = 0 then [] else rs) ∧ Apt F w w' ∧ ∀ q, F' q → F q ∨ w.heap.size ≤ q

set_option maxHeartbeats 1600000 in
theorem up8_any {PT : World → (Nat → Prop) → Nat → Tm → Prop} {LK : World → (Nat → Prop) → Nat → Nat → Tm → List (List UInt8) → Prop} (hT : TapeK PT) (hK : LogK PT LK) (w : World) : Calls Try.prog 6 #[] w fun e w' => e = .returned (.bool true) ∧ Below w.heap.size w w' := by
  have HT := Lib.hid hT
  have HK := Lib.hid hK
  have eqc := eqCode
  have neq_ := neCode
  have hcv1 := fun u : World => Lib.run_convert_bytes_const (P := Try.prog) u 22 5 #[.int .u8 97] 1 1 byteT.under byteT.elem
  clear hT hK
  go_enter Try.func6, Try.ntmps6
  go_wp2_with fail
  refine (HT.out.new_ok 100 _ (by omega) (by omega)).mono ?_
  rintro e w1 ⟨gt, F, rfl, hP1, hb1, hF1⟩
  have hf0 : (⟨100, 0, -1, [], false⟩ : Tm).fine := ⟨by decide, by decide, by decide, by decide, by decide, by decide⟩
  go_wp2_with fail
  have hO := HK.out.open_ok hP1 hf0
  refine hO.mono ?_
  rintro e w2 ⟨g, F2, t, q, rfl, hR, hL2, hA2, hN2⟩
  obtain ⟨hW2, hroom⟩ := whole_open hf0 hR
  obtain ⟨rfl, rfl⟩ : t = [] ∧ q = 0 := by
    obtain ⟨h1, h2, h3, h4⟩ := hR.1.flat
    have h5 := h3 (Nat.zero_le _)
    simp at h5
    subst h5
    refine ⟨?_, rfl⟩
    rcases t with _ | ⟨s, t⟩
    · rfl
    · rw [recsB_cons, List.length_append, recB_length] at h2
      omega
  have hB2 := below_apt hb1 hA2 hF1 hb1.size
  have hF2 : ∀ z, F2 z → w.heap.size ≤ z := fun z hz => (hN2 z hz).elim (hF1 z) fun h => Nat.le_trans hb1.size h
  have e2 : tCut (tUp ⟨100, 0, -1, [], false⟩) ((0 : Nat) : Int) = (⟨100, 0, -1, [], false⟩, 0) := by kernel_rfl
  rw [e2] at hL2 hW2
  clear hO hP1 hb1 hF1 hA2 hN2 hR hroom e2
  go_wp2_with fail
  refine (HK.out.open_nil _).mono ?_
  rintro e w3 ⟨rfl, hb3⟩
  have hB3 := hB2.trans (hb3.mono hB2.size)
  have hL3 := (HK.out.thing _ _ _ _).keep hL2 (Apt.of_below hb3)
  clear hL2 hb3 hB2
  go_wp2_with fail
  have ha3 : Below w3.heap.size w3 (w3.alloc (.cells #[.int .u8 97] 5 (1, 2))) := (Below.refl _ _).alloc (Nat.le_refl _) _
  have hB3a := hB3.trans (ha3.mono hB3.size)
  have hA := HK.out.append (b := [97]) ((HK.out.thing _ _ _ _).keep hL3 (Apt.of_below ha3)) hW2 ⟨_, 1, rfl, by decide, by decide, Rd.mark7 w3 #[.int .u8 97] _ _⟩ (fun _ z hz hF => by
    simp [Value.ownBlock] at hz
    have := (HK.out.thing _ _ _ _).lt hL3 z hF
    omega) (by decide)
  have e4 : wApp ⟨100, 0, -1, [], false⟩ [] [97] = (⟨100, 7, -1, recB [97], false⟩, [[97]], 0) := by kernel_rfl
  have hf4 : (⟨100, 7, -1, recB [97], false⟩ : Tm).fine := ⟨by decide, by decide, by rw [recB_length]; decide, by rw [recB_length]; decide, by decide, by decide⟩
  rw [e4] at hA
  refine hA.mono ?_
  rintro e w4 ⟨rfl, F4, hL4, hA4, hN4⟩
  have hB4 := below_apt hB3a hA4 hF2 hB3a.size
  have hF4 : ∀ z, F4 z → w.heap.size ≤ z := fun z hz => (hN4 z hz).elim (hF2 z) fun h => Nat.le_trans hB3a.size h
  have hAll := HK.out.all hL4 hf4 (by simp [recsB])
  clear hA hA4 hN4 hL3 ha3 hB3 hB3a e4 hcv1 hf4 hW2 hf0 hL4
  rw [errV_zero]
  go_wp2_with fail
  refine hAll.mono ?_
  rintro e w5 ⟨x, F5, rfl, hx, _, hA5, _⟩
  have hB5 := below_apt hB4 hA5 hF4 hB4.size
  obtain ⟨Ax, cx, rfl, _⟩ := hx.form
  clear hAll hA5 hx
  go_wp2_with fail
  go_ret
  exact ⟨rfl, hB5⟩

set_option maxHeartbeats 1600000 in
theorem walRecords_any {PT : World → (Nat → Prop) → Nat → Tm → Prop} {LK : World → (Nat → Prop) → Nat → Nat → Tm → List (List UInt8) → Prop} (hT : TapeK PT) (hK : LogK PT LK) (v : Value) (b : List UInt8) (w : World) (h : Bs w v b) :
    Calls Try.prog 3 #[v] w fun e w' => e = .returned (.bool true) ∧ Below w.heap.size w w' := by
  have HT := Lib.hid hT
  have HK := Lib.hid hK
  have H := Lib.hid h
  obtain ⟨A, c, rfl, hc1, hc2, _⟩ := h
  clear hT hK
  go_enter Try.func3, Try.ntmps3
  go_wp2_with fail
  refine (up8_any HT.out HK.out _).mono ?_
  rintro e w1 ⟨rfl, hb1⟩
  by_cases hbig : 5000 < b.length
  · go_wp2_with fail
    go_ret
    exact ⟨rfl, hb1⟩
  go_wp2_with fail
  refine (HK.out.records (H.out.below hb1) (by omega)).mono ?_
  rintro e w2 ⟨x, t, q, rfl, hR, hx, hb2⟩
  have hB2 := hb1.trans (hb2.mono hb1.size)
  have hst := strOf (H.out.below hB2)
  clear hb1 hb2
  go_wp2_with fail
  refine (Records_any b _ (by omega)).mono ?_
  rintro e w3 ⟨t', q', y, rfl, hR', hy, hb3⟩
  obtain ⟨rfl, rfl⟩ := hR.one hR'
  have hx3 := hx.below hb3
  have hB3 := hB2.trans (hb3.mono hB2.size)
  have hqq : ((q : Int) == (q : Int)) = true := by simp
  have hAl := alike_any x y t _ hx3 hy.lv
  obtain ⟨Ax, cx, rfl, _⟩ := hx3.form
  obtain ⟨Ay, cy, hyv, _⟩ := hy.lv.form
  rw [List.length_map] at hyv
  subst hyv
  clear hR hR' hx hx3 hy hb3 hst hB2
  go_wp2_with fail
  refine hAl.mono ?_
  rintro e w4 ⟨rfl, hb4⟩
  go_wp2_with fail
  go_ret
  exact ⟨rfl, hB3.trans (hb4.mono hB3.size)⟩
end Go.Proofs.Ytdfjicjlmejonaa
