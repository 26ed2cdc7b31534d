/-
  THE PROGRAM's STORE IN MEMORY ('PSt'); CONTRACTS of goesWell, New, Used, Calls, Fail. Conditions: what each says.
  CONTRACTS of the program's isName, Put, Get, Delete, Alter. Conditions: what each says.
  CONTRACTS of the program's Get, Delete, Alter. Conditions: what each says.
  CONTRACTS of strings.HasPrefix and the program's List: the names that were collected, in whatever order the map gave them, sorted. Conditions: what each says.
  THE PROGRAM's STORE KEEPS WHAT A STORE IS TO KEEP ('storeK'); the head of layer 6's statements. No condition.
-/
import Derived.Test.YtgafidnbmoomiaaGreatDoorStA
import Derived.Maps.OwnSet
import Derived.Test.YtgafidnbmoomiaaGreatDoorStS
import Derived.Test.YtgafidnbmoomiaaGreatDoorCln
import Derived.Lib.SliceRun
import Derived.Laws.BitsAllLaws
import Derived.Lib.SlBytesConst
namespace Go.Proofs.YtgafidnbmoomiaaGreatDoor
open Go.RowKit Go.Maps
set_option maxRecDepth 100000

theorem lawS : Keyed Tryz.prog 9 := string_keyed Tryz.underlying9

def pR (v : Value) : Option (DataW Value × List MemPlace) := some (.held v, [])

abbrev noB : DataW Value := .held (.slice none 0 0)

theorem zeroB (w : World) : (zeroValue 42).run Tryz.prog w = .ok (.slice none 0 0) w := by kernel_rfl

theorem keyS (n : List UInt8) (h : n.length ≤ 9223372036854775807) : keyOf Tryz.prog 9 (.string (Bstr n)) = some (.string n) := by
  have := WideMaps.keyOf_string_mk (s := Bstr n) Tryz.underlying9 (by rw [Bstr_size]; simpa [maxLen] using h)
  simpa [Bstr] using this

theorem isKeyS (n : List UInt8) : WideAt.IsKeyLit (.string n) := trivial

structure PMap (w : World) (F : Nat → Prop) (g mb : Nat) (D : DataW Value) (N : Nat) (l : List Ob) : Prop where
  own : w.ownsMap Tryz.prog 9 pR mb N D
  mg : mb ≠ g
  Fm : F mb
  has : ∀ s, Maps.has D (.string s) = (fnd s l).isSome
  val : ∀ s o, fnd s l = some o → ∃ v, D.atKey (.string s) noB = .held v ∧ Own w 0 5 v o.b ∧ ∀ q, v.ownBlock = some q → F q ∧ q ≠ g ∧ q ≠ mb
  two : ∀ s t v u q, s ≠ t → D.atKey (.string s) noB = .held v → D.atKey (.string t) noB = .held u → v.ownBlock = some q → u.ownBlock ≠ some q
  rise : Rise l
  nm : ∀ s o, fnd s l = some o → s.length ≤ 32

section
variable {w w' : World} {F F' : Nat → Prop} {g mb N : Nat} {D : DataW Value} {l : List Ob}
theorem PMap.no (h : PMap w F g mb D N l) {s : List UInt8} (hs : fnd s l = none) : ∀ z, D.atKey (.string s) z = z :=
  atKey_of_not_has (by rw [h.has s, hs]; rfl)

theorem PMap.at_ (h : PMap w F g mb D N l) (s : List UInt8) : ∃ v, D.atKey (.string s) noB = .held v ∧ ∀ q, v.ownBlock = some q → F q ∧ q ≠ g ∧ q ≠ mb := by
  cases hf : fnd s l with
  | none => exact ⟨_, h.no hf _, fun q hq => by simp [Value.ownBlock] at hq⟩
  | some o =>
    obtain ⟨v, h1, _, h2⟩ := h.val s o hf
    exact ⟨v, h1, h2⟩

theorem PMap.kept {row : Option Nat} (h : PMap w F g mb D N l) (hg : w.grownBy w' row) (hm : some mb ≠ row) (hv : ∀ s v q, D.atKey (.string s) noB = .held v → v.ownBlock = some q → some q ≠ row) : PMap w' F g mb D N l := by
  refine ⟨h.own.kept hg hm, h.mg, h.Fm, h.has, fun s o ho => ?_, h.two, h.rise, h.nm⟩
  obtain ⟨v, h1, h2, h3⟩ := h.val s o ho
  refine ⟨v, h1, h2.kept hg ?_, h3⟩
  cases hq : v.ownBlock with
  | none => exact .inl rfl
  | some q => exact .inr (hv s v q h1 hq)

theorem PMap.set (h : PMap w F g mb D N l) (i : Nat) (u : Value) : PMap (w.setCell ⟨g, i, none⟩ u) F g mb D N l :=
  h.kept (grown_set w g i u) (by intro e; injection e with e; exact h.mg e) fun s v q hs hq e => by
    injection e with e
    obtain ⟨v', h1, h2⟩ := h.at_ s
    rw [hs] at h1
    injection h1 with h1
    subst h1
    exact (h2 q hq).2.1 e

theorem PMap.below (h : PMap w F g mb D N l) (hb : Below w.heap.size w w') : PMap w' F g mb D N l := h.kept (row := .none) (grown_of_below hb _) (by simp) fun _ _ _ _ _ => by simp

theorem PMap.apt (h : PMap w F g mb D N l) (ha : Apt (fun q => ¬ F q) w w') : PMap w' F g mb D N l := by
  obtain ⟨es, clock, hb, F1, hs, hD⟩ := h.own
  have hlt := (Array.getElem?_eq_some_iff.1 hb).1
  refine ⟨⟨es, clock, (ha.block mb hlt (fun hn => hn h.Fm)).trans hb, F1, hs, hD⟩, h.mg, h.Fm, h.has, fun s o ho => ?_, h.two, h.rise, h.nm⟩
  obtain ⟨v, h1, h2, h3⟩ := h.val s o ho
  exact ⟨v, h1, h2.apt ha fun q hq hn => hn (h3 q hq).1, h3⟩

theorem PMap.more (h : PMap w F g mb D N l) (hF : ∀ q, F q → F' q) : PMap w F' g mb D N l := by
  refine ⟨h.own, h.mg, hF _ h.Fm, h.has, fun s o ho => ?_, h.two, h.rise, h.nm⟩
  obtain ⟨v, h1, h2, h3⟩ := h.val s o ho
  exact ⟨v, h1, h2, fun q hq => ⟨hF _ (h3 q hq).1, (h3 q hq).2⟩⟩

theorem PMap.put {n b : List UInt8} {x : Value} {l' : List Ob} (h : PMap w F g mb D N l) (hown : w'.ownsMap Tryz.prog 9 pR mb (N + 1) (D.put (.string n) (.held x))) (hg : w.grownBy w' (some mb)) (hx : Own w 0 5 x b) (hxn : ∀ q, x.ownBlock = some q → ¬ F q)
    (hFg : F g) (hn32 : n.length ≤ 32) (hr : Rise l') (hfn : fnd n l' = some ⟨n, b⟩) (hfo : ∀ s, s ≠ n → fnd s l' = fnd s l) : PMap w' (fun q => F q ∨ x.ownBlock = some q) g mb (D.put (.string n) (.held x)) (N + 1) l' := by
  have hne : ∀ {s : List UInt8}, s ≠ n → (Lit.string s) ≠ .string n := fun hs e => hs (by injection e)
  have hsame : (D.put (.string n) (.held x)).atKey (.string n) noB = .held x := atKey_put_same h.own.isMap (isKeyS _) _ _
  have hother : ∀ {s : List UInt8}, s ≠ n → (D.put (.string n) (.held x)).atKey (.string s) noB = D.atKey (.string s) noB := fun hs => atKey_put_other (hne hs) _ _
  have hold : ∀ {s : List UInt8} {v : Value} {q : Nat}, D.atKey (.string s) noB = .held v → v.ownBlock = some q → F q ∧ q ≠ g ∧ q ≠ mb := fun {s v q} hv hq => by
    obtain ⟨v', h1, h2⟩ := h.at_ s
    rw [hv] at h1
    injection h1 with h1
    subst h1
    exact h2 q hq
  refine ⟨hown, h.mg, .inl h.Fm, fun s => ?_, fun s o ho => ?_, fun s t v u q hst hv hu hq => ?_, hr, fun s o ho => if hs : s = n then hs ▸ hn32 else h.nm s o (by rw [← hfo s hs]; exact ho)⟩
  · by_cases hs : s = n
    · subst hs
      rw [has_put_same h.own.isMap (isKeyS _), hfn]
      rfl
    · rw [has_put_other (hne hs), h.has s, hfo s hs]
  · by_cases hs : s = n
    · subst hs
      rw [hfn] at ho
      injection ho with ho
      subst ho
      refine ⟨x, hsame, hx.kept hg ?_, fun q hq => ⟨.inr hq, fun e => hxn q hq (e ▸ hFg), fun e => hxn q hq (e ▸ h.Fm)⟩⟩
      cases hq : x.ownBlock with
      | none => exact .inl rfl
      | some q => exact .inr fun e => hxn q hq (by injection e with e; exact e ▸ h.Fm)
    · rw [hfo s hs] at ho
      obtain ⟨v, h1, h2, h3⟩ := h.val s o ho
      refine ⟨v, by rw [hother hs]; exact h1, h2.kept hg ?_, fun q hq => ⟨.inl (h3 q hq).1, (h3 q hq).2⟩⟩
      cases hq : v.ownBlock with
      | none => exact .inl rfl
      | some q => exact .inr fun e => (h3 q hq).2.2 (by injection e)
  · by_cases hs : s = n
    · subst hs
      rw [hsame] at hv
      injection hv with hv
      subst hv
      rw [hother (Ne.symm hst)] at hu
      exact fun e => hxn q hq (hold hu e).1
    · rw [hother hs] at hv
      by_cases ht : t = n
      · subst ht
        rw [hsame] at hu
        injection hu with hu
        subst hu
        exact fun e => hxn q e (hold hv hq).1
      · rw [hother ht] at hu
        exact h.two s t v u q hst hv hu hq

theorem PMap.del {n : List UInt8} {l' : List Ob} (h : PMap w F g mb D N l) (hown : w'.ownsMap Tryz.prog 9 pR mb N (D.del (.string n))) (hg : w.grownBy w' (some mb))
    (hr : Rise l') (hfn : fnd n l' = .none) (hfo : ∀ s, s ≠ n → fnd s l' = fnd s l) : PMap w' F g mb (D.del (.string n)) N l' := by
  have hne : ∀ {s : List UInt8}, s ≠ n → (Lit.string s) ≠ .string n := fun hs e => hs (by injection e)
  have hsame : (D.del (.string n)).atKey (.string n) noB = noB := atKey_del_same _
  have hother : ∀ {s : List UInt8}, s ≠ n → (D.del (.string n)).atKey (.string s) noB = D.atKey (.string s) noB := fun hs => atKey_del_other (hne hs) _
  refine ⟨hown, h.mg, h.Fm, fun s => ?_, fun s o ho => ?_, fun s t v u q hst hv hu hq => ?_, hr, fun s o ho => if hs : s = n then (by subst hs; rw [hfn] at ho; cases ho) else h.nm s o (by rw [← hfo s hs]; exact ho)⟩
  · by_cases hs : s = n
    · subst hs
      rw [has_del_same, hfn]
      rfl
    · rw [has_del_other (hne hs), h.has s, hfo s hs]
  · by_cases hs : s = n
    · subst hs
      rw [hfn] at ho
      cases ho
    · rw [hfo s hs] at ho
      obtain ⟨v, h1, h2, h3⟩ := h.val s o ho
      refine ⟨v, by rw [hother hs]; exact h1, h2.kept hg ?_, h3⟩
      cases hq : v.ownBlock with
      | none => exact .inl rfl
      | some q => exact .inr fun e => (h3 q hq).2.2 (by injection e)
  · by_cases hs : s = n
    · subst hs
      rw [hsame] at hv
      injection hv with hv
      subst hv
      simp [Value.ownBlock] at hq
    · rw [hother hs] at hv
      by_cases ht : t = n
      · subst ht
        rw [hsame] at hu
        injection hu with hu
        subst hu
        simp [Value.ownBlock]
      · rw [hother ht] at hu
        exact h.two s t v u q hst hv hu hq

end

structure PStK (k : Int) (w : World) (F : Nat → Prop) (g : Nat) (m : Sm) : Prop where
  lt : ∀ q, F q → q < w.heap.size
  Fg : F g
  ex : ∃ (mb : Nat) (D : DataW Value) (N : Nat) (W : Int), Blk w g 95 #[.int .i64 m.room, .map (some mb), .int .i64 ((usedL m.l : Nat) : Int), .int .i64 m.calls, .int .i64 W] ∧ PMap w F g mb D N m.l ∧ (N : Int) + k ≤ m.calls ∧
    (-9223372036854775808 ≤ W ∧ W ≤ 9223372036854775807) ∧ m.left = if W < 0 then -1 else W

abbrev PSt (w : World) (F : Nat → Prop) (g : Nat) (m : Sm) : Prop := PStK 0 w F g m

theorem PStK.keep {k : Int} {w w' : World} {F : Nat → Prop} {g : Nat} {m : Sm} (h : PStK k w F g m) (ha : Apt (fun q => ¬ F q) w w') : PStK k w' F g m := by
  obtain ⟨mb, D, N, W, hB, hM, h1, h2, h3⟩ := h.ex
  exact ⟨fun q hq => Nat.lt_of_lt_of_le (h.lt q hq) ha.size, h.Fg, mb, D, N, W, (ha.block g hB.lt fun hn => hn h.Fg).trans hB, hM.apt ha, h1, h2, h3⟩

theorem PStK.below {k : Int} {w w' : World} {F : Nat → Prop} {g : Nat} {m : Sm} (h : PStK k w F g m) (hb : Below w.heap.size w w') : PStK k w' F g m := h.keep (Apt.of_below hb)

theorem PStK.plain {k : Int} {w : World} {F : Nat → Prop} {g : Nat} {m : Sm} (h : PStK k w F g m) (hk : 0 ≤ k) : PSt w F g m := by
  obtain ⟨mb, D, N, W, hB, hM, h1, h2, h3⟩ := h.ex
  exact ⟨h.lt, h.Fg, mb, D, N, W, hB, hM, by omega, h2, h3⟩

set_option maxHeartbeats 800000 in
theorem gw_any {w : World} {F : Nat → Prop} {g : Nat} {m : Sm} (h : PSt w F g m) (hc0 : 0 ≤ m.calls) (hc : m.calls < 1000000000) :
    Calls Tryz.prog 30 #[.pointer (some ⟨g, 0, none⟩)] w fun e w' => e = .returned (.bool (callB m)) ∧ PStK 1 w' F g (callS m) ∧ w.grownBy w' (some g) := by
  obtain ⟨mb, D, N, W, hB, hM, hN, ⟨hW0, hW1⟩, hl⟩ := h.ex
  have k3 := hB.cell 3
  have k4 := hB.cell 4
  have f3 := hB.frozen 3
  have f4 := hB.frozen 4
  simp at k3 k4
  have SetB : Hid (∀ x : Int, Blk (w.setCell ⟨g, 3, none⟩ (.int .i64 x)) g 95 #[.int .i64 m.room, .map (some mb), .int .i64 ((usedL m.l : Nat) : Int), .int .i64 x, .int .i64 W]) := Lib.hid fun x => by
    have := hB.set_ 3 (.int .i64 x)
    simp only [List.setIfInBounds_toArray, List.set_cons_succ, List.set_cons_zero] at this
    exact this
  have SetB2 : Hid (∀ x y : Int, Blk ((w.setCell ⟨g, 3, none⟩ (.int .i64 x)).setCell ⟨g, 4, none⟩ (.int .i64 y)) g 95 #[.int .i64 m.room, .map (some mb), .int .i64 ((usedL m.l : Nat) : Int), .int .i64 x, .int .i64 y]) := Lib.hid fun x y => by
    have := (SetB.out x).set_ 4 (.int .i64 y)
    simp only [List.setIfInBounds_toArray, List.set_cons_succ, List.set_cons_zero] at this
    exact this
  have hset1 : ∀ (x : Int), m.calls + 1 ≤ x → ∀ m' : Sm, m' = { m with calls := x } → PStK 1 (w.setCell ⟨g, 3, none⟩ (.int .i64 x)) F g m' ∧ w.grownBy (w.setCell ⟨g, 3, none⟩ (.int .i64 x)) (some g) := by
    rintro x hx m' rfl
    have hg := grown_set w g 3 (.int .i64 x)
    exact ⟨⟨fun q hq => Nat.lt_of_lt_of_le (h.lt q hq) hg.size, h.Fg, mb, D, N, W, SetB.out _, hM.set _ _, (by show (N : Int) + 1 ≤ x; omega), ⟨hW0, hW1⟩, hl⟩, hg⟩
  have hset : ∀ (x y : Int), m.calls + 1 ≤ x → -9223372036854775808 ≤ y → y ≤ 9223372036854775807 → ∀ m' : Sm, m' = { m with calls := x, left := if y < 0 then -1 else y } →
      PStK 1 ((w.setCell ⟨g, 3, none⟩ (.int .i64 x)).setCell ⟨g, 4, none⟩ (.int .i64 y)) F g m' ∧ w.grownBy ((w.setCell ⟨g, 3, none⟩ (.int .i64 x)).setCell ⟨g, 4, none⟩ (.int .i64 y)) (some g) := by
    rintro x y hx hy0 hy1 m' rfl
    have hg1 := grown_set w g 3 (.int .i64 x)
    have hg2 := grown_set (w.setCell ⟨g, 3, none⟩ (.int .i64 x)) g 4 (.int .i64 y)
    have hg := grown_trans hg1 hg2
    exact ⟨⟨fun q hq => Nat.lt_of_lt_of_le (h.lt q hq) hg.size, h.Fg, mb, D, N, y, SetB2.out _ _, (hM.set _ _).set _ _, (by show (N : Int) + 1 ≤ x; omega), ⟨hy0, hy1⟩, rfl⟩, hg⟩
  have HS1 := Lib.hid hset1
  have HS := Lib.hid hset
  have HL := Lib.hid hl
  clear hset hset1 h hM hl SetB SetB2 hB
  rcases Int.lt_trichotomy W 0 with hw | hw | hw
  · have hlm : m.left = -1 := by rw [HL.out, if_pos hw]
    have hb : Hid (callB m = true) := Lib.hid (by simp [callB, hlm])
    have hsm : Hid (callS m = { m with calls := m.calls + 1 }) := Lib.hid (by simp [callS, hlm])
    have hz : (W == 0) = false := by simp; omega
    clear hlm
    go_enter Tryz.func30, Tryz.ntmps30
    go_wp2_with fail
    go_ret
    rw [hb.out]
    exact ⟨rfl, HS1.out _ (by omega) _ hsm.out⟩
  · subst hw
    have hlm : m.left = 0 := by rw [HL.out]; rfl
    have hb : Hid (callB m = false) := Lib.hid (by simp [callB, hlm])
    have hsm : Hid (callS m = { m with calls := m.calls + 1, left := if (-1 : Int) < 0 then -1 else -1 }) := Lib.hid (by simp [callS, hlm])
    clear hlm
    go_enter Tryz.func30, Tryz.ntmps30
    go_wp2_with fail
    go_ret
    rw [hb.out]
    exact ⟨rfl, HS.out _ _ (by omega) (by omega) (by omega) _ hsm.out⟩
  · have hlm : m.left = W := by rw [HL.out, if_neg (by omega)]
    have hb : Hid (callB m = true) := Lib.hid (by simp [callB, hlm]; omega)
    have hsm : Hid (callS m = { m with calls := m.calls + 1, left := if W - 1 < 0 then -1 else W - 1 }) := Lib.hid (by rw [callS, hlm, if_neg (by omega), if_neg (by omega)])
    have hz : (W == 0) = false := by simp; omega
    clear hlm
    go_enter Tryz.func30, Tryz.ntmps30
    go_wp2_with fail
    go_ret
    rw [hb.out]
    exact ⟨rfl, HS.out _ _ (by omega) (by omega) (by omega) _ hsm.out⟩

theorem snew_ok (room : Int) (w : World) (h0 : 1 ≤ room) (h1 : room ≤ 1048576) :
    Calls Tryz.prog 25 #[.int .i64 room] w fun e w' => ∃ (g : Nat) (F : Nat → Prop), e = .returned (.tuple #[.pointer (some ⟨g, 0, none⟩), .nilIface]) ∧ PSt w' F g ⟨room, -1, 0, []⟩ ∧ Below w.heap.size w w' ∧ ∀ q, F q → w.heap.size ≤ q := by
  have hmm := @run_makeMap Tryz.prog
  go_enter Tryz.func25, Tryz.ntmps25
  go_wp2_with fail
  go_ret2
  have e1 : (w.alloc (.map #[] 0)).heap.size = w.heap.size + 1 := by simp
  have hB : Blk ((w.alloc (.map #[] 0)).alloc (.cells #[.int .i64 room, .map (some w.heap.size), .int .i64 0, .int .i64 0, .int .i64 (-1)] 95)) (w.heap.size + 1) 95 #[.int .i64 room, .map (some w.heap.size), .int .i64 0, .int .i64 0, .int .i64 (-1)] := by
    rw [← e1]
    exact Blk.new _ _ _
  have hM : PMap ((w.alloc (.map #[] 0)).alloc (.cells #[.int .i64 room, .map (some w.heap.size), .int .i64 0, .int .i64 0, .int .i64 (-1)] 95)) (fun q => q = w.heap.size ∨ q = w.heap.size + 1) (w.heap.size + 1) w.heap.size (.map []) 0 [] :=
    ⟨(World.ownsMap_made w _ _ _).alloc _, by omega, .inl rfl, fun s => rfl, fun s o h => by simp [fnd] at h, fun s t v u q _ h1 _ hq => by
      have : (DataW.map (H := Value) []).atKey (.string s) noB = noB := rfl
      rw [this] at h1
      injection h1 with h1
      subst h1
      simp [Value.ownBlock] at hq, Rise.nil, fun s o h => by simp [fnd] at h⟩
  exact ⟨w.heap.size + 1, fun q => q = w.heap.size ∨ q = w.heap.size + 1, rfl, ⟨fun q hq => by simp; omega, .inr rfl, w.heap.size, .map [], 0, -1, hB, hM, by simp, by omega, by simp⟩, ((Below.refl _ w).alloc (Nat.le_refl _) _).alloc (by simp) _, fun q hq => by omega⟩

theorem scalls_any {w : World} {F : Nat → Prop} {g : Nat} {m : Sm} (h : PSt w F g m) : Calls Tryz.prog 22 #[.pointer (some ⟨g, 0, none⟩)] w fun e w' => e = .returned (.int .i64 m.calls) ∧ w = w' := by
  obtain ⟨mb, D, N, W, hB, _⟩ := h.ex
  have k3 := hB.cell 3
  simp at k3
  clear hB h
  go_enter Tryz.func22, Tryz.ntmps22
  go_wp2_with fail
  go_ret
  exact ⟨rfl, rfl⟩

theorem sfail_any {w : World} {F : Nat → Prop} {g : Nat} {m : Sm} {n : Int} (h : PSt w F g m) (h0 : -9223372036854775808 ≤ n) (h1 : n ≤ 9223372036854775807) :
    Calls Tryz.prog 16 #[.pointer (some ⟨g, 0, none⟩), .int .i64 n] w fun e w' => e = .returned (.tuple #[]) ∧ PSt w' F g (failS m n) ∧ w.grownBy w' (some g) := by
  obtain ⟨mb, D, N, W, hB, hM, hN, hW, hl⟩ := h.ex
  have f4 := hB.frozen 4
  have k4 := hB.cell 4
  simp at k4
  have hg := grown_set w g 4 (.int .i64 n)
  have HP : Hid (PSt (w.setCell ⟨g, 4, none⟩ (.int .i64 n)) F g (failS m n)) := Lib.hid ⟨fun q hq => Nat.lt_of_lt_of_le (h.lt q hq) hg.size, h.Fg, mb, D, N, n, by
    have := hB.set_ 4 (.int .i64 n)
    simp only [List.setIfInBounds_toArray, List.set_cons_succ, List.set_cons_zero] at this
    exact this, hM.set _ _, hN, ⟨h0, h1⟩, rfl⟩
  clear hB h hM hl
  go_enter Tryz.func16, Tryz.ntmps16
  go_wp2_with fail
  refine bodyPost_end (results_none rfl _ _ _) rfl ?_
  exact ⟨rfl, HP.out, hg⟩

set_option maxHeartbeats 1600000 in
theorem isOfName_any (x : Nat) (w : World) (hxl : x < 256) : Calls Tryz.prog 52 #[.int .u8 (x : Int)] w fun e w' => e = .returned (.bool (nameC x)) ∧ w = w' := by
  by_cases a1 : 97 ≤ x
  · by_cases a2 : x ≤ 122
    · have d2 : decide ((x : Int) ≤ 122) = true := decide_eq_true (by omega)
      go_enter Tryz.func52, Tryz.ntmps52
      go_wp2_with fail
      go_ret
      exact ⟨ret_bool (by first | (simp [nameC]; done) | (simp [nameC]; omega)), rfl⟩
    · have d2 : decide ((x : Int) ≤ 122) = false := decide_eq_false (by omega)
      have d4 : decide ((x : Int) ≤ 57) = false := decide_eq_false (by omega)
      have k47 : ((x : Int) == 47) = false := beq_eq_false_iff_ne.2 (by omega)
      have k45 : ((x : Int) == 45) = false := beq_eq_false_iff_ne.2 (by omega)
      go_enter Tryz.func52, Tryz.ntmps52
      go_wp2_with fail
      go_ret
      exact ⟨ret_bool (by first | (simp [nameC]; done) | (simp [nameC]; omega)), rfl⟩
  · by_cases a3 : 48 ≤ x
    · by_cases a4 : x ≤ 57
      · have d4 : decide ((x : Int) ≤ 57) = true := decide_eq_true (by omega)
        go_enter Tryz.func52, Tryz.ntmps52
        go_wp2_with fail
        go_ret
        exact ⟨ret_bool (by first | (simp [nameC]; done) | (simp [nameC]; omega)), rfl⟩
      · have d4 : decide ((x : Int) ≤ 57) = false := decide_eq_false (by omega)
        have k47 : ((x : Int) == 47) = false := beq_eq_false_iff_ne.2 (by omega)
        have k45 : ((x : Int) == 45) = false := beq_eq_false_iff_ne.2 (by omega)
        go_enter Tryz.func52, Tryz.ntmps52
        go_wp2_with fail
        go_ret
        exact ⟨ret_bool (by first | (simp [nameC]; done) | (simp [nameC]; omega)), rfl⟩
    · by_cases e47 : x = 47
      · subst e47
        go_enter Tryz.func52, Tryz.ntmps52
        go_wp2_with fail
        go_ret
        exact ⟨rfl, rfl⟩
      · have k47 : ((x : Int) == 47) = false := beq_eq_false_iff_ne.2 (by omega)
        by_cases e45 : x = 45
        · subst e45
          go_enter Tryz.func52, Tryz.ntmps52
          go_wp2_with fail
          go_ret
          exact ⟨rfl, rfl⟩
        · have k45 : ((x : Int) == 45) = false := beq_eq_false_iff_ne.2 (by omega)
          go_enter Tryz.func52, Tryz.ntmps52
          go_wp2_with fail
          go_ret
          exact ⟨ret_bool (by first | (simp [nameC]; done) | (simp [nameC]; omega)), rfl⟩

set_option maxHeartbeats 1600000 in
theorem isName_any (n : List UInt8) (w : World) (hl : n.length ≤ 9223372036854775807) : Calls Tryz.prog 31 #[.string (Bstr n)] w fun e w' => e = .returned (.bool (nameB n)) ∧ w = w' := by
  have hs : (Bstr n).size = n.length := Bstr_size _
  by_cases l0 : n.length < 1
  · have HL : Hid (nameB n = false) := Lib.hid (by simp [nameB]; intros; omega)
    go_enter Tryz.func31, Tryz.ntmps31
    go_wp2_with fail
    go_ret
    exact ⟨ret_bool HL.out.symm, rfl⟩
  by_cases l1 : 32 < n.length
  · have HL : Hid (nameB n = false) := Lib.hid (by simp [nameB]; intros; omega)
    go_enter Tryz.func31, Tryz.ntmps31
    go_wp2_with fail
    go_ret
    exact ⟨ret_bool HL.out.symm, rfl⟩
  go_enter Tryz.func31, Tryz.ntmps31
  go_wp2_with fail
  go_loop [14] (fun iv => ∃ k : Nat, k ≤ n.length ∧ iv = .int .i64 (k : Int) ∧ Hid ((n.take k).all (fun c => nameC c.toNat) = true)) (fun iv => n.length - (intOf iv).toNat)
  case atStart => exact ⟨0, Nat.zero_le _, rfl, Lib.hid (by simp)⟩
  case round =>
    obtain ⟨k, hk, rfl, HN⟩ := hrel
    by_cases hlt : k < n.length
    · obtain ⟨c, hkc⟩ : ∃ c, n[k]? = some c := ⟨_, List.getElem?_eq_getElem hlt⟩
      obtain ⟨x, hx⟩ : ∃ x, x = c.toNat := ⟨_, rfl⟩
      have hix : ∀ u : World, (Instr.index 9 (.string (Bstr n)) (.int .i64 (k : Int))).run Tryz.prog u = .ok (.int .u8 (x : Int)) u := fun u => str_at hkc hx u
      have HGO : Hid (nameC x = true → (n.take (k + 1)).all (fun c => nameC c.toNat) = true) := Lib.hid fun h => by
        rw [take_snoc_st hkc, List.all_append, HN.out]
        simpa [← hx] using h
      have HNO : Hid (nameC x = false → nameB n = false) := Lib.hid fun h => by
        have : n.all (fun c => nameC c.toNat) = false := by
          rw [List.all_eq_false]
          exact ⟨c, List.mem_of_getElem? hkc, by rw [← hx, h]; simp⟩
        rw [nameB, this]
        rfl
      have hxl : x < 256 := by rw [hx]; exact c.toNat_lt
      clear hkc hx
      go_wp2_with fail
      refine (isOfName_any x _ hxl).mono ?_
      rintro e w1 ⟨rfl, rfl⟩
      cases hcx : nameC x with
      | true =>
        have HT := HGO.out hcx
        clear hcx
        go_wp2_with fail
        exact ⟨⟨k + 1, by omega, by go_num, Lib.hid HT⟩, by simp [intOf]; omega⟩
      | false =>
        have HT := HNO.out hcx
        clear hcx
        go_wp2_with fail
        go_ret
        exact ⟨ret_bool HT.symm, rfl⟩
    · have e := HN.out
      rw [List.take_of_length_le (by omega)] at e
      have HL : Hid (nameB n = true) := Lib.hid (by rw [nameB, e]; simp; omega)
      clear e
      go_wp2_with fail
      go_ret
      exact ⟨ret_bool HL.out.symm, rfl⟩

section
variable {w : World} {F : Nat → Prop} {g mb N : Nat} {D : DataW Value} {l : List Ob}
theorem PMap.look (h : PMap w F g mb D N l) {n : List UInt8} (hn : n.length ≤ 9223372036854775807) : ∃ v, D.atKey (.string n) noB = .held v ∧ (Instr.lookup 93 (.map (some mb)) (.string (Bstr n)) false).run Tryz.prog w = .ok v w := by
  obtain ⟨v, ps, h1, h2⟩ := h.own.lookup lawS Tryz.underlying93 (zeroB _) (zd := noB) (zp := []) rfl (keyS n hn)
  simp only [pR, Option.some.injEq, Prod.mk.injEq] at h2
  exact ⟨v, h2.1.symm, h1⟩

theorem PMap.look_ok (h : PMap w F g mb D N l) {n : List UInt8} (hn : n.length ≤ 9223372036854775807) : ∃ v, D.atKey (.string n) noB = .held v ∧ (Instr.lookup 93 (.map (some mb)) (.string (Bstr n)) true).run Tryz.prog w = .ok (.tuple #[v, .bool (fnd n l).isSome]) w := by
  obtain ⟨v, ps, h1, h2⟩ := h.own.look_ok lawS Tryz.underlying93 (zeroB _) (zd := noB) (zp := []) rfl (keyS n hn)
  simp only [pR, Option.some.injEq, Prod.mk.injEq] at h2
  rw [h.has n] at h1
  exact ⟨v, h2.1.symm, h1⟩

theorem PMap.len (h : PMap w F g mb D N l) {n : List UInt8} {v : Value} (hv : D.atKey (.string n) noB = .held v) : ∃ (A : Option Addr) (k c : Nat), v = .slice A k c ∧ k ≤ c ∧ c ≤ 9223372036854775807 ∧ (k : Int) = obLen (fnd n l) := by
  cases hf : fnd n l with
  | none =>
    rw [h.no hf] at hv
    injection hv with hv
    exact ⟨none, 0, 0, hv.symm, Nat.le_refl _, by omega, rfl⟩
  | some o =>
    obtain ⟨v', h1, h2, _⟩ := h.val n o hf
    rw [h1] at hv
    injection hv with hv
    subst hv
    obtain ⟨A, c, e, h3, h4, _⟩ := h2.form
    exact ⟨A, o.b.length, c, e, h3, h4, rfl⟩

end

set_option maxHeartbeats 3200000 in
theorem stPut_any {w : World} {F : Nat → Prop} {g : Nat} {m : Sm} {N : Nat} {n b : List UInt8} {bv : Value} (h : PSt w F g m) (hm : m.fine N) (hN : N ≤ 100000) (hn : n.length ≤ 9223372036854775807) (hb : Bs w bv b) (hsep : b ≠ [] → ∀ q, bv.ownBlock = some q → ¬ F q) (hbl : b.length ≤ 100000) :
    Calls Tryz.prog 12 #[.pointer (some ⟨g, 0, none⟩), .string (Bstr n), bv] w fun e w' => e = .returned (errV (sPut m n b).2) ∧ ∃ F', PSt w' F' g (sPut m n b).1 ∧ Apt F w w' ∧ ∀ q, F' q → F q ∨ w.heap.size ≤ q := by
  have hfg := h.Fg
  have hgw := gw_any h hm.calls0 (by have := hm.calls1; omega)
  have hmr0 := hm.room0
  have hmr1 := hm.room1
  have hmu := hm.used
  have hmc := hm.calls1
  have hmc0 := hm.calls0
  have HB := Lib.hid hb
  obtain ⟨Ab, cb, rfl, hb1, hb2, _⟩ := hb
  clear h hm
  go_enter Tryz.func12, Tryz.ntmps12
  go_wp2_with fail
  refine hgw.mono ?_
  rintro e w1 ⟨rfl, h1, hg1⟩
  have HA1 : Hid (Apt F w w1) := Lib.hid (Apt.of_grown hg1 fun q hq => by injection hq with hq; subst hq; exact hfg)
  have HB1 : Hid (Bs w1 (.slice Ab b.length cb) b) := Lib.hid (HB.out.grown hg1 fun hne e => hsep hne g e hfg)
  have H1 := Lib.hid h1
  clear hgw
  cases hcb : callB m with
  | false =>
    have HG : Hid (sPut m n b = (callS m, 8)) := Lib.hid (sPut_e8 hcb)
    clear hcb h1
    go_wp2_with fail
    go_ret
    rw [HG.out]
    exact ⟨rfl, F, H1.out.plain (by omega), HA1.out, fun q hq => .inl hq⟩
  | true =>
    have HCB := Lib.hid hcb
    clear hcb
    go_wp2_with fail
    refine (isName_any n _ hn).mono ?_
    rintro e w2 ⟨rfl, rfl⟩
    cases hnb : nameB n with
    | false =>
      have HG : Hid (sPut m n b = (callS m, 1)) := Lib.hid (sPut_e1 HCB.out hnb)
      clear hnb h1
      go_wp2_with fail
      go_ret
      rw [HG.out]
      exact ⟨rfl, F, H1.out.plain (by omega), HA1.out, fun q hq => .inl hq⟩
    | true =>
      have HNB := Lib.hid hnb
      have hn32 : n.length ≤ 32 := by
        have := hnb
        simp only [nameB, Bool.and_eq_true, decide_eq_true_eq] at this
        exact this.2.2
      obtain ⟨mb, D, M, W, hBk, hM, hMc, hW, hlf⟩ := h1.ex
      have hrm : (callS m).room = m.room := rfl
      have hl : (callS m).l = m.l := rfl
      have hcl : (callS m).calls = m.calls + 1 := rfl
      rw [hl, hrm] at hBk
      rw [hl] at hM
      have k0 := hBk.cell 0
      have k1 := hBk.cell 1
      have k2 := hBk.cell 2
      simp at k0 k1 k2
      obtain ⟨v, hat, hlook⟩ := hM.look hn
      obtain ⟨Av, kv, cv, rfl, hkc, hcm, hkv⟩ := hM.len hat
      have hru : Hid (restU m n = (usedL m.l : Int) - (kv : Int)) := Lib.hid (by rw [restU_fnd, hkv])
      have hkl : kv ≤ usedL m.l := by
        cases hf : fnd n m.l with
        | none => rw [hf, obLen] at hkv; omega
        | some o => rw [hf, obLen] at hkv; have := usedL_fnd hf; omega
      obtain ⟨U, hU⟩ : ∃ U : Nat, U = usedL m.l := ⟨_, rfl⟩
      rw [← hU] at k2 hkl hmu hBk
      have HU := Lib.hid hU
      have HM := Lib.hid hM
      have HBK := Lib.hid hBk
      have HAT := Lib.hid hat
      have hlookd : ∀ j, (Instr.lookup 93 (.map (some mb)) (.string (Bstr n)) false).run Tryz.prog (w1.drewN j) = .ok (.slice Av kv cv) (w1.drewN j) := fun j => by
        have h := (HM.out.below (below_drewN (Below.refl w1.heap.size w1) j)).look hn
        obtain ⟨v', h1, h2⟩ := h
        rw [HAT.out] at h1
        injection h1 with h1
        subst h1
        exact h2
      clear hnb h1 hkv hU hat hM hBk hlook
      go_wp2_with fail
      go_quiet (fail)
      have hb2 : Below w1.heap.size w1 (w1.drewN nq) := below_drewN (Below.refl _ _) _
      generalize w1.drewN nq = w2 at *
      have hB2 := HBK.out.below hb2 HBK.out.lt
      have j0 := hB2.cell 0
      have j1 := hB2.cell 1
      simp at j0 j1
      have HB2 := Lib.hid hB2
      clear k0 k1 k2 hlookd hB2
      by_cases hfull : m.room - ((U : Int) - (kv : Int)) < (b.length : Int)
      · have HG : Hid (sPut m n b = (callS m, 6)) := Lib.hid (sPut_e6 HCB.out HNB.out (by rw [hru.out, ← HU.out]; omega))
        go_wp2_with fail
        go_ret
        rw [HG.out]
        exact ⟨rfl, F, (H1.out.plain (by omega)).below hb2, HA1.out.trans (Apt.of_below hb2), fun q hq => .inl hq⟩
      · obtain ⟨l', hp, hr', hu', hfn, hfo⟩ := sPut_ok HCB.out HNB.out (b := b) (by rw [hru.out, ← HU.out]; omega) HM.out.rise
        have HP := Lib.hid hp
        have HU' : Hid ((usedL l' : Int) = (U : Int) - (kv : Int) + (b.length : Int)) := Lib.hid (by rw [hu', hru.out, HU.out])
        have HFO := Lib.hid hfo
        have hszn : (Bstr n).size ≤ 281474976710656 := by rw [Bstr_size]; omega
        have hgl : g < w1.heap.size := HBK.out.lt
        clear hp hu' hfo
        go_wp2_with fail
        refine wp_region_mix [(0, false), (1, false), (2, false), (3, false), (4, false), (6, false), (5, true), (7, true), (8, true)] (fun u => u.cell? ⟨g, 1, none⟩ = some (.map (some mb))) (by kernel_rfl) (by kernel_rfl) (by decide +kernel) rfl j1 ?_
        repeat
          (refine mix_read (o := ⟨_, _, _, _, _, _⟩) (v := ?_) rfl (by rfl) (fun w' hS => ?_) ?_
           rotate_left
           go_simp
           with_reducible rfl
           try simp only [Act.put, List.setIfInBounds_toArray, List.set_cons_zero, List.set_cons_succ])
        refine mix_step (o := ⟨_, _, _, _, _, _⟩) rfl (fun K hK => ?_)
        go_simp
        refine (cloneS_any (Bstr n) _ hszn).mono ?_
        rintro e w3 ⟨rfl, hb3⟩
        have hb13 := hb2.drew.trans (hb3.mono hb2.drew.size)
        refine hK.out _ _ ((hb13.cell (p := ⟨g, 1, none⟩) hgl).trans (by have := HBK.out.cell 1; simpa using this)) ?_
        clear hK K
        try simp only [Act.put, List.setIfInBounds_toArray, List.set_cons_zero, List.set_cons_succ]
        refine mix_step (o := ⟨_, _, _, _, _, _⟩) rfl (fun K hK => ?_)
        go_simp
        refine (bclone_any b _ _ (by omega) (HB1.out.below hb13)).mono ?_
        rintro e w4 ⟨x, rfl, hx, hb4⟩
        have hb14 := hb13.trans (hb4.mono hb13.size)
        refine hK.out _ _ ((hb14.cell (p := ⟨g, 1, none⟩) hgl).trans (by have := HBK.out.cell 1; simpa using this)) ?_
        clear hK K
        try simp only [Act.put, List.setIfInBounds_toArray, List.set_cons_zero, List.set_cons_succ]
        have hM4 := HM.out.below hb14
        have hxn : ∀ q, x.ownBlock = some q → ¬ F q := fun q hq hFq => by
          have h1 := hx.ge q hq
          have h2 := H1.out.lt q hFq
          have h3 := hb13.size
          omega
        have hmg : mb ≠ g := hM4.mg
        have hMx : M < maxLen := by simp only [maxLen]; omega
        obtain ⟨w5, hrun, hown5, hg5⟩ := hM4.own.update lawS Tryz.underlying93 hMx (keyS n hn) (val := x) (d := .held x) (ps := []) rfl
        have hM5 := hM4.put hown5 hg5 (hx.lower (Nat.zero_le _)) hxn hfg hn32 hr' hfn HFO.out
        have hBk5 : Blk w5 g 95 #[.int .i64 m.room, .map (some mb), .int .i64 (U : Int), .int .i64 (callS m).calls, .int .i64 W] := (HBK.out.below hb14 hgl).grown hg5 (fun e => hmg (by injection e with e; exact e.symm))
        have i1 := hBk5.cell 1
        simp at i1
        refine mix_step (o := ⟨_, _, _, _, _, _⟩) rfl (fun K hK => ?_)
        go_simp
        refine hK.out _ _ i1 ?_
        clear hK K
        try simp only [Act.put, List.setIfInBounds_toArray, List.set_cons_zero, List.set_cons_succ]
        refine mix_done ?_
        have i2 := hBk5.cell 2
        have f2 := hBk5.frozen 2
        simp at i2
        have HBK5 := Lib.hid hBk5
        have HM5 := Lib.hid hM5
        have hxl : ∀ q, x.ownBlock = some q → q < w4.heap.size := fun q hq => by
          obtain ⟨A, c, e, _, _, _, hlt⟩ := hx.form
          subst e
          cases A with
          | none => simp [Value.ownBlock] at hq
          | some a => simp [Value.ownBlock] at hq; have := (hlt a rfl).2; omega
        have HXL := Lib.hid hxl
        have HXG := Lib.hid hx.ge
        have hA5 : Apt F w w5 := (HA1.out.trans (Apt.of_below hb14)).trans (Apt.of_grown hg5 fun q hq => by injection hq with hq; subst hq; exact HM.out.Fm)
        clear hM4 hM5 hBk5 hrun hown5 hx hxl j0 j1
        go_wp2_with fail
        go_ret
        have hgs := grown_set w5 g 2 (.int .i64 ((U : Int) - (kv : Int) + (b.length : Int)))
        have hbk6 := HBK5.out.set_ 2 (.int .i64 ((U : Int) - (kv : Int) + (b.length : Int)))
        simp only [List.setIfInBounds_toArray, List.set_cons_succ, List.set_cons_zero] at hbk6
        have hsz : ∀ q, (F q ∨ x.ownBlock = some q) → q < w5.heap.size := fun q hq => by
          rcases hq with hq | hq
          · exact Nat.lt_of_lt_of_le (Nat.lt_of_lt_of_le (H1.out.lt q hq) hb14.size) hg5.size
          · exact Nat.lt_of_lt_of_le (HXL.out q hq) hg5.size
        rw [HP.out]
        refine ⟨rfl, fun q => F q ∨ x.ownBlock = some q, ⟨fun q hq => Nat.lt_of_lt_of_le (hsz q hq) hgs.size, .inl hfg, mb, _, M + 1, W, ?_, HM5.out.set _ _, ?_, hW, hlf⟩, hA5.trans (Apt.of_grown hgs fun q hq => by injection hq with hq; subst hq; exact hfg), fun q hq => ?_⟩
        · show Blk _ _ _ #[.int .i64 m.room, .map (some mb), .int .i64 ((usedL l' : Nat) : Int), .int .i64 (callS m).calls, .int .i64 W]
          rw [HU'.out]
          exact hbk6
        · show ((M + 1 : Nat) : Int) + 0 ≤ (callS m).calls
          omega
        · rcases hq with hq | hq
          · exact .inl hq
          · have h1 := HXG.out q hq
            have h2 := hb13.size
            have h3 := hg1.size
            exact .inr (by omega)

set_option maxHeartbeats 3200000 in
theorem stGet_any {w : World} {F : Nat → Prop} {g : Nat} {m : Sm} {N : Nat} {n : List UInt8} (h : PSt w F g m) (hm : m.fine N) (hN : N ≤ 100000) (hn : n.length ≤ 9223372036854775807) :
    Calls Tryz.prog 59 #[.pointer (some ⟨g, 0, none⟩), .string (Bstr n)] w fun e w' => ∃ x F', e = .returned (.tuple #[x, errV (sGet m n).2]) ∧ Own w' w.heap.size 5 x (sGet m n).1 ∧ PSt w' F' g (callS m) ∧ Apt F w w' ∧ (∀ q, F' q → F q ∨ w.heap.size ≤ q) ∧ ∀ q, x.ownBlock = some q → ¬ F' q := by
  have hfg := h.Fg
  have hgw := gw_any h hm.calls0 (by have := hm.calls1; omega)
  have hmu := hm.used
  clear h hm
  go_enter Tryz.func59, Tryz.ntmps59
  go_wp2_with fail
  refine hgw.mono ?_
  rintro e w1 ⟨rfl, h1, hg1⟩
  have HA1 : Hid (Apt F w w1) := Lib.hid (Apt.of_grown hg1 fun q hq => by injection hq with hq; subst hq; exact hfg)
  have H1 := Lib.hid h1
  clear hgw
  cases hcb : callB m with
  | false =>
    have HG : Hid (sGet m n = ([], 8)) := Lib.hid (sGet_fail hcb)
    clear hcb h1
    go_wp2_with fail
    go_ret2
    rw [HG.out]
    exact ⟨_, F, rfl, Own.nil _ _ _, H1.out.plain (by omega), HA1.out, fun q hq => .inl hq, fun q hq => by simp [Value.ownBlock] at hq⟩
  | true =>
    have HCB := Lib.hid hcb
    obtain ⟨mb, D, M, W, hBk, hM, hMc, hW, hlf⟩ := h1.ex
    have hl : (callS m).l = m.l := rfl
    rw [hl] at hM
    have k1 := hBk.cell 1
    simp at k1
    obtain ⟨v, hat, hlook⟩ := hM.look_ok hn
    obtain ⟨Av, kv, cv, rfl, hkc, hcm, hkv⟩ := hM.len hat
    have HM := Lib.hid hM
    have HAT := Lib.hid hat
    have HKV := Lib.hid hkv
    clear hcb h1 hkv hat hM hBk
    cases hf : fnd n m.l with
    | none =>
      have HG : Hid (sGet m n = ([], 4)) := Lib.hid (sGet_no HCB.out hf)
      rw [hf, Option.isSome_none] at hlook
      clear hf
      go_wp2_with fail
      go_ret2
      rw [HG.out]
      exact ⟨_, F, rfl, Own.nil _ _ _, H1.out.plain (by omega), HA1.out, fun q hq => .inl hq, fun q hq => by simp [Value.ownBlock] at hq⟩
    | some o =>
      have HG : Hid (sGet m n = (o.b, 0)) := Lib.hid (sGet_fnd HCB.out hf)
      rw [hf, Option.isSome_some] at hlook
      have hol := usedL_fnd hf
      have hbs : Bs w1 (.slice Av kv cv) o.b := by
        obtain ⟨v', h1, h2, _⟩ := HM.out.val n o hf
        rw [HAT.out] at h1
        injection h1 with h1
        subst h1
        exact h2.bs
      have HBS := Lib.hid hbs
      clear hf hbs
      go_wp2_with fail
      refine (bclone_any o.b _ _ (by omega) HBS.out).mono ?_
      rintro e w2 ⟨x, rfl, hx, hb2⟩
      have HX := Lib.hid hx
      clear hx hlook
      go_wp2_with fail
      go_ret2
      rw [HG.out]
      refine ⟨x, F, rfl, HX.out.lower hg1.size, (H1.out.plain (by omega)).below hb2, HA1.out.trans (Apt.of_below hb2), fun q hq => .inl hq, fun q hq hFq => ?_⟩
      have h1 := HX.out.ge q hq
      have h2 := H1.out.lt q hFq
      omega

set_option maxHeartbeats 3200000 in
theorem stDel_any {w : World} {F : Nat → Prop} {g : Nat} {m : Sm} {N : Nat} {n : List UInt8} (h : PSt w F g m) (hm : m.fine N) (hN : N ≤ 100000) (hn : n.length ≤ 9223372036854775807) :
    Calls Tryz.prog 14 #[.pointer (some ⟨g, 0, none⟩), .string (Bstr n)] w fun e w' => e = .returned (errV (sDel m n).2) ∧ ∃ F', PSt w' F' g (sDel m n).1 ∧ Apt F w w' ∧ ∀ q, F' q → F q ∨ w.heap.size ≤ q := by
  have hfg := h.Fg
  have hgw := gw_any h hm.calls0 (by have := hm.calls1; omega)
  have hmu := hm.used
  clear h hm
  go_enter Tryz.func14, Tryz.ntmps14
  go_wp2_with fail
  refine hgw.mono ?_
  rintro e w1 ⟨rfl, h1, hg1⟩
  have HA1 : Hid (Apt F w w1) := Lib.hid (Apt.of_grown hg1 fun q hq => by injection hq with hq; subst hq; exact hfg)
  have H1 := Lib.hid h1
  clear hgw
  cases hcb : callB m with
  | false =>
    have HG : Hid (sDel m n = (callS m, 8)) := Lib.hid (sDel_fail hcb)
    clear hcb h1
    go_wp2_with fail
    go_ret
    rw [HG.out]
    exact ⟨rfl, F, H1.out.plain (by omega), HA1.out, fun q hq => .inl hq⟩
  | true =>
    have HCB := Lib.hid hcb
    obtain ⟨mb, D, M, W, hBk, hM, hMc, hW, hlf⟩ := h1.ex
    have hl : (callS m).l = m.l := rfl
    have hrm : (callS m).room = m.room := rfl
    rw [hl] at hM
    rw [hl, hrm] at hBk
    have k1 := hBk.cell 1
    simp at k1
    obtain ⟨v, hat, hlook⟩ := hM.look_ok hn
    obtain ⟨Av, kv, cv, rfl, hkc, hcm, hkv⟩ := hM.len hat
    have HM := Lib.hid hM
    have HBK := Lib.hid hBk
    have HKV := Lib.hid hkv
    clear hcb h1 hkv hat hM hBk
    cases hf : fnd n m.l with
    | none =>
      have HG : Hid (sDel m n = (callS m, 4)) := Lib.hid (sDel_no HCB.out hf)
      rw [hf, Option.isSome_none] at hlook
      clear hf
      go_wp2_with fail
      go_ret
      rw [HG.out]
      exact ⟨rfl, F, H1.out.plain (by omega), HA1.out, fun q hq => .inl hq⟩
    | some o =>
      obtain ⟨l', hp, hr', hu', hfn, hfo⟩ := sDel_ok HCB.out hf HM.out.rise
      have HP := Lib.hid hp
      have hko : (kv : Int) = o.b.length := by rw [HKV.out, hf]; rfl
      obtain ⟨U, hU⟩ : ∃ U : Nat, U = usedL m.l := ⟨_, rfl⟩
      have HU' : Hid ((usedL l' : Int) = (U : Int) - (kv : Int)) := Lib.hid (by omega)
      have hkU : kv ≤ U := by omega
      rw [hf, Option.isSome_some] at hlook
      rw [← hU] at HBK hmu
      have hmg : mb ≠ g := HM.out.mg
      have HFO := Lib.hid hfo
      clear hf hp hu' hfo hU hko
      go_wp2_with (at_delete; refine wpList_delete_own _ rfl _ _ 93 9 rfl 42 lawS Tryz.underlying93 pR mb M D rfl HM.out.own _ _ rfl (keyS n hn) ?_)
      intro w2 hown2 hturn
      have hg2 := hturn.grown
      have HM2 := Lib.hid (HM.out.del hown2 hg2 hr' hfn HFO.out)
      have hBk2 := HBK.out.grown hg2 (fun e => hmg (by injection e with e; exact e.symm))
      have i2 := hBk2.cell 2
      have f2 := hBk2.frozen 2
      simp at i2
      have HBK2 := Lib.hid hBk2
      have hA2 : Apt F w w2 := HA1.out.trans (Apt.of_grown hg2 fun q hq => by injection hq with hq; subst hq; exact HM.out.Fm)
      clear hown2 hturn k1 hlook hBk2
      go_wp2_with fail
      go_ret
      have hgs := grown_set w2 g 2 (.int .i64 ((U : Int) - (kv : Int)))
      have hbk6 := HBK2.out.set_ 2 (.int .i64 ((U : Int) - (kv : Int)))
      simp only [List.setIfInBounds_toArray, List.set_cons_succ, List.set_cons_zero] at hbk6
      rw [HP.out]
      refine ⟨rfl, F, ⟨fun q hq => Nat.lt_of_lt_of_le (Nat.lt_of_lt_of_le (H1.out.lt q hq) hg2.size) hgs.size, hfg, mb, _, M, W, ?_, HM2.out.set _ _, ?_, hW, hlf⟩, hA2.trans (Apt.of_grown hgs fun q hq => by injection hq with hq; subst hq; exact hfg), fun q hq => .inl hq⟩
      · show Blk _ _ _ #[.int .i64 m.room, .map (some mb), .int .i64 ((usedL l' : Nat) : Int), .int .i64 (callS m).calls, .int .i64 W]
        rw [HU'.out]
        exact hbk6
      · show (M : Int) + 0 ≤ (callS m).calls
        omega

theorem stC_flat (ss : List (List UInt8)) : (ss.map stC).flatten = ss.map encStr := by
  induction ss with
  | nil => rfl
  | cons x ss ih => rw [List.map_cons, List.flatten_cons, ih]; rfl

theorem hasPrefixL_any (s p : List UInt8) (w : World) (_ : s.length ≤ 9223372036854775807) (hp : p.length ≤ 9223372036854775807) :
    Calls Tryz.prog 86 #[.string (Bstr s), .string (Bstr p)] w fun e w' => e = .returned (.bool (begB s p)) ∧ w = w' := by
  have z1 : (Bstr s).size = s.length := Bstr_size _
  have z2 : (Bstr p).size = p.length := Bstr_size _
  by_cases hl : p.length ≤ s.length
  · have hsl : ∀ u : World, (Instr.slice 9 (.string (Bstr s)) none (some (.int .i64 (p.length : Int))) none).run Tryz.prog u = .ok (.string (Bstr (s.take p.length))) u := fun u => by
      rw [run_slice_string_h u _ _ strT .i64 (p.length : Int) (by omega) (by omega), Int.toNat_natCast, Bstr_take]
    have HE : Hid (begB s p = ((Bstr (s.take p.length)).toList == (Bstr p).toList)) := Lib.hid (by
      rw [Bstr_toList, Bstr_toList, begB, decide_eq_true hl]
      by_cases he : s.take p.length = p <;> simp [he])
    rw [HE.out]
    go_enter Tryz.func86, Tryz.ntmps86
    go_wp2_with fail
    go_ret
    exact ⟨rfl, rfl⟩
  · go_enter Tryz.func86, Tryz.ntmps86
    go_wp2_with fail
    go_ret
    exact ⟨ret_bool (by simp [begB, hl]), rfl⟩

theorem hasPrefix_any (s p : List UInt8) (w : World) (hs : s.length ≤ 9223372036854775807) (hp : p.length ≤ 9223372036854775807) :
    Calls Tryz.prog 71 #[.string (Bstr s), .string (Bstr p)] w fun e w' => e = .returned (.bool (begB s p)) ∧ w = w' := by
  go_enter Tryz.func71, Tryz.ntmps71
  go_wp2_with fail
  refine (hasPrefixL_any s p _ hs hp).mono ?_
  rintro e w1 ⟨rfl, rfl⟩
  go_wp2_with fail
  go_ret
  exact ⟨rfl, rfl⟩

def Met (D : DataW Value) (left : Lit → Bool) (p : List UInt8) (ss : List (List UInt8)) : Prop := ss.Nodup ∧ (∀ s ∈ ss, s.length ≤ 9223372036854775807) ∧ ∀ s, s ∈ ss ↔ (Maps.has D (.string s) = true ∧ left (.string s) = false) ∧ begB s p = true

theorem Met.start (D : DataW Value) (p : List UInt8) : Met D (Maps.has D) p [] := ⟨List.nodup_nil, by simp, fun s => by cases Maps.has D (.string s) <;> simp⟩

theorem Met.step {D : DataW Value} {left : Lit → Bool} {p x : List UInt8} {ss : List (List UInt8)} {y : DataW Value} (h : Met D left p ss) (hl : left (.string x) = true) (hat : ∀ zd, D.atKey (.string x) zd = y) (hx : x.length ≤ 9223372036854775807) :
    Met D (fun z => left z && !z.sameKey (.string x)) p (ss ++ if begB x p = true then [x] else []) := by
  have hhas : Maps.has D (.string x) = true := has_true_of_atKey hat
  have hnew : x ∉ ss := fun hx => by have := ((h.2.2 x).1 hx).1.2; rw [hl] at this; cases this
  cases hb : begB x p with
  | true =>
    rw [if_pos rfl]
    refine ⟨List.nodup_append.2 ⟨h.1, by simp, fun a ha b hb => by simp at hb; subst hb; exact fun e => hnew (e ▸ ha)⟩, fun s hs => ?_, fun y => ?_⟩
    · rcases List.mem_append.1 hs with h1 | h1
      · exact h.2.1 s h1
      · simp at h1
        subst h1
        exact hx
    · by_cases hy : y = x
      · subst hy; simp [hhas, Lit.sameKey, hb]
      · simp [h.2.2 y, hy, Lit.sameKey]
  | false =>
    rw [if_neg (by simp), List.append_nil]
    refine ⟨h.1, h.2.1, fun y => ?_⟩
    by_cases hy : y = x
    · subst hy; simp [hnew, hb]
    · simp [h.2.2 y, hy, Lit.sameKey]

theorem met_sorted {D : DataW Value} {left : Lit → Bool} {p : List UInt8} {ss : List (List UInt8)} {l : List Ob} (h : Met D left p ss) (hr : Rise l) (hhas : ∀ s, Maps.has D (.string s) = (fnd s l).isSome) (hl : ∀ kl, left kl = false) : ss.mergeSort (fun x y => decide (x ≤ y)) = sNames l p :=
  names_sorted hr h.1 fun s => by rw [h.2.2 s, hhas s, hl]; simp

set_option maxHeartbeats 3200000 in
theorem stList_any {w : World} {F : Nat → Prop} {g : Nat} {m : Sm} {N : Nat} {p : List UInt8} (h : PSt w F g m) (hm : m.fine N) (hN : N ≤ 100000) (hp : p.length ≤ 9223372036854775807) :
    Calls Tryz.prog 54 #[.pointer (some ⟨g, 0, none⟩), .string (Bstr p)] w fun e w' => ∃ x F', e = .returned (.tuple #[x, errV (sList m p).2]) ∧ Keep (fun q => q < w.heap.size ∨ F' q) (fun u => StL u x (sList m p).1) w' ∧ PSt w' F' g (callS m) ∧ Apt F w w' ∧ ∀ q, F' q → F q ∨ w.heap.size ≤ q := by
  have hfg := h.Fg
  have hgw := gw_any h hm.calls0 (by have := hm.calls1; omega)
  have hmc := hm.calls1
  clear h
  go_enter Tryz.func54, Tryz.ntmps54
  go_wp2_with fail
  refine hgw.mono ?_
  rintro e w1 ⟨rfl, h1, hg1⟩
  have HA1 : Hid (Apt F w w1) := Lib.hid (Apt.of_grown hg1 fun q hq => by injection hq with hq; subst hq; exact hfg)
  have H1 := Lib.hid h1
  clear hgw
  cases hcb : callB m with
  | false =>
    have HG : Hid (sList m p = ([], 8)) := Lib.hid (by rw [sList, if_pos hcb])
    clear hcb h1
    go_wp2_with fail
    go_ret2
    rw [HG.out]
    exact ⟨_, F, rfl, fun u _ => Lv.nil _ _, H1.out.plain (by omega), HA1.out, fun q hq => .inl hq⟩
  | true =>
    have HG : Hid (sList m p = (sNames m.l p, 0)) := Lib.hid (by rw [sList, if_neg (by rw [hcb]; simp)])
    obtain ⟨mb, D, M, W, hBk, hM, hMc, hW, hlf⟩ := h1.ex
    have hl : (callS m).l = m.l := rfl
    have hcl : (callS m).calls = m.calls + 1 := rfl
    rw [hl] at hM
    have k1 := hBk.cell 1
    simp at k1
    have HM := Lib.hid hM
    have hszM : Maps.size D ≤ M := hM.own.size_le
    clear hcb h1 hM hBk
    go_wp2_with (first | (at_range; refine wpList_range_own _ rfl _ 93 rfl 9 42 lawS Tryz.underlying93 pR mb M D rfl HM.out.own ?_; intro w2 hrg2 hg2 hs2) | fail)
    go_frame
    have hb2 : Below w1.heap.size w1 w2 := (Below.refl _ w1).grown hg2 (Nat.le_refl _) (fun j hj => by cases hj)
    go_loopw [6, 7] (fun ov _ wr => ∃ (left : Lit → Bool) (cnt : Nat) (ss : List (List UInt8)), wr.ranges Tryz.prog 9 pR mb w1.heap.size M D left cnt ∧ Hid (Met D left p ss) ∧ ss.length + cnt ≤ M ∧ OwnL 1 wr w1.heap.size 9 ov (ss.map stC) ∧ Below w1.heap.size w1 wr ∧ w1.heap.size + 1 ≤ wr.heap.size)
      (fun _ _ wr => wr.rangeLeft mb w1.heap.size)
    case atStart => exact ⟨Maps.has D, Maps.size D, [], hrg2, Lib.hid (Met.start _ _), by simpa using hszM, OwnL.nil _ _ _ _, hb2, by omega⟩
    case round =>
      obtain ⟨left, cnt, ss, hrg, HMet, hcnt, hO, hB, hsz⟩ := hrel
      have HO := Lib.hid hO
      clear hO
      go_wp2_with (first
        | (at_next; refine wpList_next_ranges _ rfl _ rfl 9 lawS pR (fun l : List UInt8 => Value.string (Bstr l)) (fun v : Value => v) (fun key kl hk => by obtain ⟨x, hx, _⟩ := Maps.keyOf_str Tryz.underlying9 hk; exact ⟨x, hx⟩) (fun v y hv => ⟨v, rfl⟩) mb w1.heap.size M _ _ _ rfl hrg ?_ ?_)
        | fail)
      · intro hc0 hl0
        have hts := met_sorted HMet.out HM.out.rise HM.out.has hl0
        have hfl := stC_flat ss
        obtain ⟨hrow, _⟩ := HO.out
        rw [List.length_map, hfl] at hrow
        have hsl : ss.length ≤ 100001 := by omega
        rcases hrow.2 with ⟨rfl, h0⟩ | ⟨q, cap, cur, rfl, hbase, hbq, q1, q2, q3, q4⟩
        · have hss : ss = [] := List.eq_nil_of_length_eq_zero h0
          subst hss
          have HN : Hid (sNames m.l p = []) := Lib.hid (by rw [← hts]; simp)
          clear hts hfl hrow h0 hrg hszM hrg2
          go_wp2_with fail
          refine (sortS_none none 0 _).mono ?_
          rintro e w4 ⟨rfl, rfl⟩
          go_wp2_with fail
          go_ret2
          rw [HG.out, HN.out]
          exact ⟨_, F, rfl, fun u _ => Lv.nil _ _, (H1.out.plain (by omega)).below hB, HA1.out.trans (Apt.of_below hB), fun q hq => .inl hq⟩
        · have hql := (Array.getElem?_eq_some_iff.1 hbq).1
          have hc := sortS_any q cap ss wr (holds_of_block hbq (by simpa using q4)) hql (by omega)
          have HTS : Hid (ss.mergeSort (fun x y => decide (x ≤ y)) = sNames m.l p) := Lib.hid hts
          have hend : ∀ (w4 : World) (nn : Nat) (os : Array Obj), w4 = Go.Sort.grow (Go.Sort.putRow encStr (Go.Sort.ahead wr nn) q 0 (ss.mergeSort fun x y => decide (x ≤ y)).toArray) os →
              OwnL 1 w4 w1.heap.size 9 (.slice (some ⟨q, 0, none⟩) ss.length cap) ((sNames m.l p).map stC) ∧ wr.grownBy w4 (some q) := by
            rintro w4 nn os rfl
            have hle : (ss.mergeSort fun x y => decide (x ≤ y)).length = ss.length := by simp
            have h1 := ownsRow_sorted (n := nn) (os := os) hle hbase hbq q1 q2 q3
            refine ⟨⟨?_, fun x hx => ?_⟩, grownBy_sorted _⟩
            · rw [List.length_map, stC_flat, ← HTS.out, hle]
              exact h1
            · obtain ⟨y, _, rfl⟩ := List.mem_map.1 hx
              rfl
          have HEND := Lib.hid hend
          clear hts hfl hrow hrg hszM hrg2 hend hbq q1 q2 q3 q4 HO
          go_wp2_with fail
          refine hc.mono ?_
          rintro e w4 ⟨rfl, nn, os, hw4⟩
          obtain ⟨ho4, hg4⟩ := HEND.out w4 nn os hw4
          have HO4 := Lib.hid ho4
          clear hw4 ho4 hc
          go_wp2_with fail
          go_ret2
          have hB4 := hB.grown hg4 hB.size (fun j hj => by injection hj with hj; subst hj; exact hbase)
          rw [HG.out]
          refine ⟨_, F, rfl, fun u hu => HO4.out.lv.apt hu fun _ z hz hbad => ?_, (H1.out.plain (by omega)).below hB4, HA1.out.trans (Apt.of_below hB4), fun q hq => .inl hq⟩
          simp [Value.ownBlock] at hz
          subst hz
          have h2 := hg1.size
          rcases hbad with hbad | hbad
          · omega
          · have := H1.out.lt _ hbad
            omega
      · intro x c kl yd yp w3 cnt3 hkey hlk hv hat hrg3 hlt hg3 hs3 hen
        obtain ⟨x', ex, rfl, _⟩ := Maps.keyOf_str Tryz.underlying9 hkey
        obtain rfl : x = x' := encStr_inj ex
        have hx32 : x.length ≤ 32 := by
          have h1 := has_true_of_atKey hat
          rw [HM.out.has x] at h1
          obtain ⟨o, ho⟩ := Option.isSome_iff_exists.1 h1
          exact HM.out.nm x o ho
        have HMet' := Lib.hid (HMet.out.step hlk hat (by omega))
        have hne3 := row_ne_iter HO.out.1 hrg
        have HO3 := Lib.hid (HO.out.kept hg3 (.inr fun e => hne3 e.symm))
        have hB3 : Below w1.heap.size w1 w3 := hB.grown hg3 hB.size (fun j hj => by injection hj with hj; omega)
        have hsz3 : w1.heap.size + 1 ≤ w3.heap.size := by omega
        have hmlt := HM.out.own.lt
        have hP := hasPrefix_any x p w3 (by omega) hp
        have HLE : Hid (wr.rangeLeft mb w1.heap.size = cnt) := Lib.hid hrg.left_eq
        have HRG3 := Lib.hid hrg3
        have hszn : (Bstr x).size ≤ 281474976710656 := by rw [Bstr_size]; omega
        have hssl : ss.length ≤ 100001 := by omega
        clear hkey hv hat hs3 hne3 HO hlk ex hrg hrg3 hszM hrg2
        cases hb : begB x p with
        | false =>
          rw [hb] at hP
          rw [hb, if_neg (by simp), List.append_nil] at HMet'
          clear hb
          go_wp2_with fail
          refine hP.mono ?_
          rintro e w4 ⟨rfl, rfl⟩
          go_wp2_with fail
          exact ⟨⟨_, cnt3, ss, HRG3.out, HMet', by omega, HO3.out, hB3, hsz3⟩, by rw [HRG3.out.left_eq, HLE.out]; exact hlt⟩
        | true =>
          rw [hb] at hP
          rw [hb, if_pos rfl] at HMet'
          clear hb
          go_wp2_with fail
          refine hP.mono ?_
          rintro e w4 ⟨rfl, rfl⟩
          go_wp2_with fail
          refine (cloneS_any (Bstr x) _ hszn).mono ?_
          rintro e w4 ⟨rfl, hb4⟩
          have ha : Below w4.heap.size w4 (w4.alloc (.cells #[.string (Bstr x)] 9)) := (Below.refl _ _).alloc (Nat.le_refl _) _
          have hb34 := hb4.trans (ha.mono hb4.size)
          have HOa := Lib.hid (HO3.out.below hb34)
          have hBa := hB3.trans (hb34.mono hB3.size)
          have HRGa := Lib.hid (HRG3.out.kept (row := none) (grown_of_below hb34 none) (by simp) (by simp))
          have HLV := Lib.hid (Lv.lit1 w4 [.string (Bstr x)] 9)
          have hsza : w1.heap.size + 1 ≤ (w4.alloc (.cells #[.string (Bstr x)] 9)).heap.size := Nat.le_trans hsz3 hb34.size
          go_wp2_with (at_builtin; refine wpList_append_elems _ strT1 rfl _ _ rfl w1.heap.size _ _ rfl HOa.out _ _ rfl HLV.out (by simp [Value.oneCell']) (by simp only [maxLen, List.length_map, List.length_singleton]; omega) (by simp only [List.length_map, List.length_singleton]; omega) hBa.size ?_)
          intro v5 w5 ho5 hg5 _
          have HO5 : Hid (OwnL 1 w5 w1.heap.size 9 v5 ((ss ++ [x]).map stC)) := Lib.hid (by simpa [stC] using ho5)
          have hB5 := hBa.grown hg5 hBa.size HOa.out.ge
          have HRG5 := Lib.hid (HRGa.out.kept hg5 (row_ne_low HOa.out.1 hmlt) (row_ne_iter HOa.out.1 HRGa.out))
          have hsz5 := Nat.le_trans hsza hg5.size
          clear ho5 hg5 hsza
          go_wp2_with fail
          exact ⟨⟨_, cnt3, _, HRG5.out, HMet', by simp; omega, HO5.out, hB5, hsz5⟩, by rw [HRG5.out.left_eq, HLE.out]; exact hlt⟩

end Go.Proofs.YtgafidnbmoomiaaGreatDoor
