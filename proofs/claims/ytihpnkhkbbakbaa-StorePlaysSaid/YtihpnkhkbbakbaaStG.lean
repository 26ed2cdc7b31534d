/-
  THE PROGRAM's STORE IN MEMORY ('PSt'); CONTRACTS of goesWell, New, Used, Calls, Fail. Conditions: what each says.
-/
import Derived.Test.YtihpnkhkbbakbaaStF
import Derived.Maps.OwnSet
namespace Go.Proofs.Ytihpnkhkbbakbaa
open Go.RowKit Go.Maps
set_option maxRecDepth 100000

theorem lawS : Keyed Try.prog 9 := string_keyed Try.underlying9
/-- an element is read as the value that it is -/
def pR (v : Value) : Option (DataW Value × List MemPlace) := some (.held v, [])
/-- what a name that is not there has -/
abbrev noB : DataW Value := .held (.slice none 0 0)
theorem zeroB (w : World) : (zeroValue 34).run Try.prog w = .ok (.slice none 0 0) w := by kernel_rfl
theorem keyS (n : List UInt8) (h : n.length ≤ 9223372036854775807) : keyOf Try.prog 9 (.string (Bstr n)) = some (.string n) := by
  have := WideMaps.keyOf_string_mk (s := Bstr n) Try.underlying9 (by rw [Bstr_size]; simpa [maxLen] using h)
  simpa [Bstr] using this

theorem isKeyS (n : List UInt8) : WideAt.IsKeyLit (.string n) := trivial

theorem Own.apt {bad : Nat → Prop} {w w' : World} {base : Nat} {e : TypeId} {v : Value} {l : List UInt8} (h : Own w base e v l) (ha : Apt bad w w') (hb : ∀ q, v.ownBlock = some q → ¬ bad q) : Own w' base e v l := by
  refine ⟨h.1, ?_⟩
  rcases h.2 with h0 | ⟨g, cap, cur, hv, hg, hr, hrest⟩
  · exact .inl h0
  · refine .inr ⟨g, cap, cur, hv, hg, ?_, hrest⟩
    have hlt := (Array.getElem?_eq_some_iff.1 hr).1
    exact (ha.block g hlt (hb g (by rw [hv]; rfl))).trans hr

/-- the map in block mb has what the list says: the name s has the value at s; each is a slice of its own -/
structure PMap (w : World) (F : Nat → Prop) (g mb : Nat) (D : DataW Value) (N : Nat) (l : List Ob) : Prop where
  own : w.ownsMap Try.prog 9 pR mb N D
  mg : mb ≠ g
  Fm : F mb
  has : ∀ s, Maps.has D (.string s) = (fnd s l).isSome
  val : ∀ s o, fnd s l = some o → ∃ v, D.atKey (.string s) noB = .held v ∧ Own w 0 5 v o.b ∧ ∀ q, v.ownBlock = some q → F q ∧ q ≠ g ∧ q ≠ mb
  two : ∀ s t v u q, s ≠ t → D.atKey (.string s) noB = .held v → D.atKey (.string t) noB = .held u → v.ownBlock = some q → u.ownBlock ≠ some q
  rise : Rise l
  nm : ∀ s o, fnd s l = some o → s.length ≤ 32

section
variable {w w' : World} {F F' : Nat → Prop} {g mb N : Nat} {D : DataW Value} {l : List Ob}
theorem PMap.no (h : PMap w F g mb D N l) {s : List UInt8} (hs : fnd s l = none) : ∀ z, D.atKey (.string s) z = z :=
  atKey_of_not_has (by rw [h.has s, hs]; rfl)
theorem PMap.at_ (h : PMap w F g mb D N l) (s : List UInt8) : ∃ v, D.atKey (.string s) noB = .held v ∧ ∀ q, v.ownBlock = some q → F q ∧ q ≠ g ∧ q ≠ mb := by
  cases hf : fnd s l with
  | none => exact ⟨_, h.no hf _, fun q hq => by simp [Value.ownBlock] at hq⟩
  | some o =>
    obtain ⟨v, h1, _, h2⟩ := h.val s o hf
    exact ⟨v, h1, h2⟩
theorem PMap.kept {row : Option Nat} (h : PMap w F g mb D N l) (hg : w.grownBy w' row) (hm : some mb ≠ row) (hv : ∀ s v q, D.atKey (.string s) noB = .held v → v.ownBlock = some q → some q ≠ row) : PMap w' F g mb D N l := by
  refine ⟨h.own.kept hg hm, h.mg, h.Fm, h.has, fun s o ho => ?_, h.two, h.rise, h.nm⟩
  obtain ⟨v, h1, h2, h3⟩ := h.val s o ho
  refine ⟨v, h1, h2.kept hg ?_, h3⟩
  cases hq : v.ownBlock with
  | none => exact .inl rfl
  | some q => exact .inr (hv s v q h1 hq)
theorem PMap.set (h : PMap w F g mb D N l) (i : Nat) (u : Value) : PMap (w.setCell ⟨g, i, none⟩ u) F g mb D N l :=
  h.kept (grown_set w g i u) (by intro e; injection e with e; exact h.mg e) fun s v q hs hq e => by
    injection e with e
    obtain ⟨v', h1, h2⟩ := h.at_ s
    rw [hs] at h1
    injection h1 with h1
    subst h1
    exact (h2 q hq).2.1 e
theorem PMap.below (h : PMap w F g mb D N l) (hb : Below w.heap.size w w') : PMap w' F g mb D N l := h.kept (row := .none) (grown_of_below hb _) (by simp) fun _ _ _ _ _ => by simp
theorem PMap.apt (h : PMap w F g mb D N l) (ha : Apt (fun q => ¬ F q) w w') : PMap w' F g mb D N l := by
  obtain ⟨es, clock, hb, F1, hs, hD⟩ := h.own
  have hlt := (Array.getElem?_eq_some_iff.1 hb).1
  refine ⟨⟨es, clock, (ha.block mb hlt (fun hn => hn h.Fm)).trans hb, F1, hs, hD⟩, h.mg, h.Fm, h.has, fun s o ho => ?_, h.two, h.rise, h.nm⟩
  obtain ⟨v, h1, h2, h3⟩ := h.val s o ho
  exact ⟨v, h1, h2.apt ha fun q hq hn => hn (h3 q hq).1, h3⟩
theorem PMap.more (h : PMap w F g mb D N l) (hF : ∀ q, F q → F' q) : PMap w F' g mb D N l := by
  refine ⟨h.own, h.mg, hF _ h.Fm, h.has, fun s o ho => ?_, h.two, h.rise, h.nm⟩
  obtain ⟨v, h1, h2, h3⟩ := h.val s o ho
  exact ⟨v, h1, h2, fun q hq => ⟨hF _ (h3 q hq).1, (h3 q hq).2⟩⟩
/-- m[n] = x -/
theorem PMap.put {n b : List UInt8} {x : Value} {l' : List Ob} (h : PMap w F g mb D N l) (hown : w'.ownsMap Try.prog 9 pR mb (N + 1) (D.put (.string n) (.held x))) (hg : w.grownBy w' (some mb)) (hx : Own w 0 5 x b) (hxn : ∀ q, x.ownBlock = some q → ¬ F q)
    (hFg : F g) (hn32 : n.length ≤ 32) (hr : Rise l') (hfn : fnd n l' = some ⟨n, b⟩) (hfo : ∀ s, s ≠ n → fnd s l' = fnd s l) : PMap w' (fun q => F q ∨ x.ownBlock = some q) g mb (D.put (.string n) (.held x)) (N + 1) l' := by
  have hne : ∀ {s : List UInt8}, s ≠ n → (Lit.string s) ≠ .string n := fun hs e => hs (by injection e)
  have hsame : (D.put (.string n) (.held x)).atKey (.string n) noB = .held x := atKey_put_same h.own.isMap (isKeyS _) _ _
  have hother : ∀ {s : List UInt8}, s ≠ n → (D.put (.string n) (.held x)).atKey (.string s) noB = D.atKey (.string s) noB := fun hs => atKey_put_other (hne hs) _ _
  have hold : ∀ {s : List UInt8} {v : Value} {q : Nat}, D.atKey (.string s) noB = .held v → v.ownBlock = some q → F q ∧ q ≠ g ∧ q ≠ mb := fun {s v q} hv hq => by
    obtain ⟨v', h1, h2⟩ := h.at_ s
    rw [hv] at h1
    injection h1 with h1
    subst h1
    exact h2 q hq
  refine ⟨hown, h.mg, .inl h.Fm, fun s => ?_, fun s o ho => ?_, fun s t v u q hst hv hu hq => ?_, hr, fun s o ho => if hs : s = n then hs ▸ hn32 else h.nm s o (by rw [← hfo s hs]; exact ho)⟩
  · by_cases hs : s = n
    · subst hs
      rw [has_put_same h.own.isMap (isKeyS _), hfn]
      rfl
    · rw [has_put_other (hne hs), h.has s, hfo s hs]
  · by_cases hs : s = n
    · subst hs
      rw [hfn] at ho
      injection ho with ho
      subst ho
      refine ⟨x, hsame, hx.kept hg ?_, fun q hq => ⟨.inr hq, fun e => hxn q hq (e ▸ hFg), fun e => hxn q hq (e ▸ h.Fm)⟩⟩
      cases hq : x.ownBlock with
      | none => exact .inl rfl
      | some q => exact .inr fun e => hxn q hq (by injection e with e; exact e ▸ h.Fm)
    · rw [hfo s hs] at ho
      obtain ⟨v, h1, h2, h3⟩ := h.val s o ho
      refine ⟨v, by rw [hother hs]; exact h1, h2.kept hg ?_, fun q hq => ⟨.inl (h3 q hq).1, (h3 q hq).2⟩⟩
      cases hq : v.ownBlock with
      | none => exact .inl rfl
      | some q => exact .inr fun e => (h3 q hq).2.2 (by injection e)
  · by_cases hs : s = n
    · subst hs
      rw [hsame] at hv
      injection hv with hv
      subst hv
      rw [hother (Ne.symm hst)] at hu
      exact fun e => hxn q hq (hold hu e).1
    · rw [hother hs] at hv
      by_cases ht : t = n
      · subst ht
        rw [hsame] at hu
        injection hu with hu
        subst hu
        exact fun e => hxn q e (hold hv hq).1
      · rw [hother ht] at hu
        exact h.two s t v u q hst hv hu hq
/-- delete(m, n) -/
theorem PMap.del {n : List UInt8} {l' : List Ob} (h : PMap w F g mb D N l) (hown : w'.ownsMap Try.prog 9 pR mb N (D.del (.string n))) (hg : w.grownBy w' (some mb))
    (hr : Rise l') (hfn : fnd n l' = .none) (hfo : ∀ s, s ≠ n → fnd s l' = fnd s l) : PMap w' F g mb (D.del (.string n)) N l' := by
  have hne : ∀ {s : List UInt8}, s ≠ n → (Lit.string s) ≠ .string n := fun hs e => hs (by injection e)
  have hsame : (D.del (.string n)).atKey (.string n) noB = noB := atKey_del_same _
  have hother : ∀ {s : List UInt8}, s ≠ n → (D.del (.string n)).atKey (.string s) noB = D.atKey (.string s) noB := fun hs => atKey_del_other (hne hs) _
  refine ⟨hown, h.mg, h.Fm, fun s => ?_, fun s o ho => ?_, fun s t v u q hst hv hu hq => ?_, hr, fun s o ho => if hs : s = n then (by subst hs; rw [hfn] at ho; cases ho) else h.nm s o (by rw [← hfo s hs]; exact ho)⟩
  · by_cases hs : s = n
    · subst hs
      rw [has_del_same, hfn]
      rfl
    · rw [has_del_other (hne hs), h.has s, hfo s hs]
  · by_cases hs : s = n
    · subst hs
      rw [hfn] at ho
      cases ho
    · rw [hfo s hs] at ho
      obtain ⟨v, h1, h2, h3⟩ := h.val s o ho
      refine ⟨v, by rw [hother hs]; exact h1, h2.kept hg ?_, h3⟩
      cases hq : v.ownBlock with
      | none => exact .inl rfl
      | some q => exact .inr fun e => (h3 q hq).2.2 (by injection e)
  · by_cases hs : s = n
    · subst hs
      rw [hsame] at hv
      injection hv with hv
      subst hv
      simp [Value.ownBlock] at hq
    · rw [hother hs] at hv
      by_cases ht : t = n
      · subst ht
        rw [hsame] at hu
        injection hu with hu
        subst hu
        simp [Value.ownBlock]
      · rw [hother ht] at hu
        exact h.two s t v u q hst hv hu hq
/-- a byte of the value at n -/
theorem PMap.alt {n b : List UInt8} {x : Value} {q0 : Nat} {l' : List Ob} (h : PMap w F g mb D N l) (hx : D.atKey (.string n) noB = .held x) (hq0 : x.ownBlock = some q0) (hg : w.grownBy w' (some q0)) (hx' : Own w' 0 5 x b)
    (hr : Rise l') (hfn : fnd n l' = some ⟨n, b⟩) (hsome : (fnd n l).isSome = true) (hfo : ∀ s, s ≠ n → fnd s l' = fnd s l) : PMap w' F g mb D N l' := by
  have hold : ∀ q, x.ownBlock = some q → F q ∧ q ≠ g ∧ q ≠ mb := fun q hq => by
    obtain ⟨v', h1, h2⟩ := h.at_ n
    rw [hx] at h1
    injection h1 with h1
    subst h1
    exact h2 q hq
  refine ⟨h.own.kept hg (fun e => (hold q0 hq0).2.2 (by injection e with e; exact e.symm)), h.mg, h.Fm, fun s => ?_, fun s o ho => ?_, h.two, hr, fun s o ho => if hs : s = n then (by subst hs; obtain ⟨o', ho'⟩ := Option.isSome_iff_exists.1 hsome; exact h.nm s o' ho') else h.nm s o (by rw [← hfo s hs]; exact ho)⟩
  · by_cases hs : s = n
    · subst hs
      rw [h.has s, hfn, hsome]
      rfl
    · rw [h.has s, hfo s hs]
  · by_cases hs : s = n
    · subst hs
      rw [hfn] at ho
      injection ho with ho
      subst ho
      exact ⟨x, hx, hx', hold⟩
    · rw [hfo s hs] at ho
      obtain ⟨v, h1, h2, h3⟩ := h.val s o ho
      refine ⟨v, h1, h2.kept hg ?_, h3⟩
      cases hq : v.ownBlock with
      | none => exact .inl rfl
      | some q => exact .inr fun e => h.two n s x v q0 (Ne.symm hs) hx h1 hq0 (by rw [hq]; exact e)
end

/-- in the world w the store in block g is m; it lies in the blocks F; k calls have stored nothing -/
structure PStK (k : Int) (w : World) (F : Nat → Prop) (g : Nat) (m : Sm) : Prop where
  lt : ∀ q, F q → q < w.heap.size
  Fg : F g
  ex : ∃ (mb : Nat) (D : DataW Value) (N : Nat) (W : Int), Blk w g 62 #[.int .i64 m.room, .map (some mb), .int .i64 ((usedL m.l : Nat) : Int), .int .i64 m.calls, .int .i64 W] ∧ PMap w F g mb D N m.l ∧ (N : Int) + k ≤ m.calls ∧
    (-9223372036854775808 ≤ W ∧ W ≤ 9223372036854775807) ∧ m.left = if W < 0 then -1 else W
abbrev PSt (w : World) (F : Nat → Prop) (g : Nat) (m : Sm) : Prop := PStK 0 w F g m

theorem PStK.keep {k : Int} {w w' : World} {F : Nat → Prop} {g : Nat} {m : Sm} (h : PStK k w F g m) (ha : Apt (fun q => ¬ F q) w w') : PStK k w' F g m := by
  obtain ⟨mb, D, N, W, hB, hM, h1, h2, h3⟩ := h.ex
  exact ⟨fun q hq => Nat.lt_of_lt_of_le (h.lt q hq) ha.size, h.Fg, mb, D, N, W, (ha.block g hB.lt fun hn => hn h.Fg).trans hB, hM.apt ha, h1, h2, h3⟩
theorem PStK.below {k : Int} {w w' : World} {F : Nat → Prop} {g : Nat} {m : Sm} (h : PStK k w F g m) (hb : Below w.heap.size w w') : PStK k w' F g m := h.keep (Apt.of_below hb)
theorem PStK.plain {k : Int} {w : World} {F : Nat → Prop} {g : Nat} {m : Sm} (h : PStK k w F g m) (hk : 0 ≤ k) : PSt w F g m := by
  obtain ⟨mb, D, N, W, hB, hM, h1, h2, h3⟩ := h.ex
  exact ⟨h.lt, h.Fg, mb, D, N, W, hB, hM, by omega, h2, h3⟩

set_option maxHeartbeats 800000 in
theorem gw_any {w : World} {F : Nat → Prop} {g : Nat} {m : Sm} (h : PSt w F g m) (hc0 : 0 ≤ m.calls) (hc : m.calls < 1000000000) :
    Calls Try.prog 25 #[.pointer (some ⟨g, 0, none⟩)] w fun e w' => e = .returned (.bool (callB m)) ∧ PStK 1 w' F g (callS m) ∧ w.grownBy w' (some g) := by
  obtain ⟨mb, D, N, W, hB, hM, hN, ⟨hW0, hW1⟩, hl⟩ := h.ex
  have k3 := hB.cell 3
  have k4 := hB.cell 4
  have f3 := hB.frozen 3
  have f4 := hB.frozen 4
  simp at k3 k4
  have SetB : Hid (∀ x : Int, Blk (w.setCell ⟨g, 3, none⟩ (.int .i64 x)) g 62 #[.int .i64 m.room, .map (some mb), .int .i64 ((usedL m.l : Nat) : Int), .int .i64 x, .int .i64 W]) := Lib.hid fun x => by
    have := hB.set_ 3 (.int .i64 x)
    simp only [List.setIfInBounds_toArray, List.set_cons_succ, List.set_cons_zero] at this
    exact this
  have SetB2 : Hid (∀ x y : Int, Blk ((w.setCell ⟨g, 3, none⟩ (.int .i64 x)).setCell ⟨g, 4, none⟩ (.int .i64 y)) g 62 #[.int .i64 m.room, .map (some mb), .int .i64 ((usedL m.l : Nat) : Int), .int .i64 x, .int .i64 y]) := Lib.hid fun x y => by
    have := (SetB.out x).set_ 4 (.int .i64 y)
    simp only [List.setIfInBounds_toArray, List.set_cons_succ, List.set_cons_zero] at this
    exact this
  have hset1 : ∀ (x : Int), m.calls + 1 ≤ x → ∀ m' : Sm, m' = { m with calls := x } → PStK 1 (w.setCell ⟨g, 3, none⟩ (.int .i64 x)) F g m' ∧ w.grownBy (w.setCell ⟨g, 3, none⟩ (.int .i64 x)) (some g) := by
    rintro x hx m' rfl
    have hg := grown_set w g 3 (.int .i64 x)
    exact ⟨⟨fun q hq => Nat.lt_of_lt_of_le (h.lt q hq) hg.size, h.Fg, mb, D, N, W, SetB.out _, hM.set _ _, (by show (N : Int) + 1 ≤ x; omega), ⟨hW0, hW1⟩, hl⟩, hg⟩
  have hset : ∀ (x y : Int), m.calls + 1 ≤ x → -9223372036854775808 ≤ y → y ≤ 9223372036854775807 → ∀ m' : Sm, m' = { m with calls := x, left := if y < 0 then -1 else y } →
      PStK 1 ((w.setCell ⟨g, 3, none⟩ (.int .i64 x)).setCell ⟨g, 4, none⟩ (.int .i64 y)) F g m' ∧ w.grownBy ((w.setCell ⟨g, 3, none⟩ (.int .i64 x)).setCell ⟨g, 4, none⟩ (.int .i64 y)) (some g) := by
    rintro x y hx hy0 hy1 m' rfl
    have hg1 := grown_set w g 3 (.int .i64 x)
    have hg2 := grown_set (w.setCell ⟨g, 3, none⟩ (.int .i64 x)) g 4 (.int .i64 y)
    have hg := grown_trans hg1 hg2
    exact ⟨⟨fun q hq => Nat.lt_of_lt_of_le (h.lt q hq) hg.size, h.Fg, mb, D, N, y, SetB2.out _ _, (hM.set _ _).set _ _, (by show (N : Int) + 1 ≤ x; omega), ⟨hy0, hy1⟩, rfl⟩, hg⟩
  have HS1 := Lib.hid hset1
  have HS := Lib.hid hset
  have HL := Lib.hid hl
  clear hset hset1 h hM hl SetB SetB2 hB
  rcases Int.lt_trichotomy W 0 with hw | hw | hw
  · have hlm : m.left = -1 := by rw [HL.out, if_pos hw]
    have hb : Hid (callB m = true) := Lib.hid (by simp [callB, hlm])
    have hsm : Hid (callS m = { m with calls := m.calls + 1 }) := Lib.hid (by simp [callS, hlm])
    have hz : (W == 0) = false := by simp; omega
    clear hlm
    go_enter Try.func25, Try.ntmps25
    go_wp2_with fail
    go_ret
    rw [hb.out]
    exact ⟨rfl, HS1.out _ (by omega) _ hsm.out⟩
  · subst hw
    have hlm : m.left = 0 := by rw [HL.out]; rfl
    have hb : Hid (callB m = false) := Lib.hid (by simp [callB, hlm])
    have hsm : Hid (callS m = { m with calls := m.calls + 1, left := if (-1 : Int) < 0 then -1 else -1 }) := Lib.hid (by simp [callS, hlm])
    clear hlm
    go_enter Try.func25, Try.ntmps25
    go_wp2_with fail
    go_ret
    rw [hb.out]
    exact ⟨rfl, HS.out _ _ (by omega) (by omega) (by omega) _ hsm.out⟩
  · have hlm : m.left = W := by rw [HL.out, if_neg (by omega)]
    have hb : Hid (callB m = true) := Lib.hid (by simp [callB, hlm]; omega)
    have hsm : Hid (callS m = { m with calls := m.calls + 1, left := if W - 1 < 0 then -1 else W - 1 }) := Lib.hid (by rw [callS, hlm, if_neg (by omega), if_neg (by omega)])
    have hz : (W == 0) = false := by simp; omega
    clear hlm
    go_enter Try.func25, Try.ntmps25
    go_wp2_with fail
    go_ret
    rw [hb.out]
    exact ⟨rfl, HS.out _ _ (by omega) (by omega) (by omega) _ hsm.out⟩

theorem snew_no (room : Int) (w : World) (h : room < 1 ∨ 1048576 < room) : Calls Try.prog 6 #[.int .i64 room] w fun e w' => e = .returned (.tuple #[.pointer none, code 1]) ∧ Below w.heap.size w w' := by
  by_cases h1 : room < 1
  · go_enter Try.func6, Try.ntmps6
    go_wp2_with fail
    go_ret2
    exact ⟨rfl, Below.refl _ _⟩
  · have h2 : 1048576 < room := by omega
    clear h
    go_enter Try.func6, Try.ntmps6
    go_wp2_with fail
    go_ret2
    exact ⟨rfl, Below.refl _ _⟩
theorem snew_ok (room : Int) (w : World) (h0 : 1 ≤ room) (h1 : room ≤ 1048576) :
    Calls Try.prog 6 #[.int .i64 room] w fun e w' => ∃ (g : Nat) (F : Nat → Prop), e = .returned (.tuple #[.pointer (some ⟨g, 0, none⟩), .nilIface]) ∧ PSt w' F g ⟨room, -1, 0, []⟩ ∧ Below w.heap.size w w' ∧ ∀ q, F q → w.heap.size ≤ q := by
  have hmm := @run_makeMap Try.prog
  go_enter Try.func6, Try.ntmps6
  go_wp2_with fail
  go_ret2
  have e1 : (w.alloc (.map #[] 0)).heap.size = w.heap.size + 1 := by simp
  have hB : Blk ((w.alloc (.map #[] 0)).alloc (.cells #[.int .i64 room, .map (some w.heap.size), .int .i64 0, .int .i64 0, .int .i64 (-1)] 62)) (w.heap.size + 1) 62 #[.int .i64 room, .map (some w.heap.size), .int .i64 0, .int .i64 0, .int .i64 (-1)] := by
    rw [← e1]
    exact Blk.new _ _ _
  have hM : PMap ((w.alloc (.map #[] 0)).alloc (.cells #[.int .i64 room, .map (some w.heap.size), .int .i64 0, .int .i64 0, .int .i64 (-1)] 62)) (fun q => q = w.heap.size ∨ q = w.heap.size + 1) (w.heap.size + 1) w.heap.size (.map []) 0 [] :=
    ⟨(World.ownsMap_made w _ _ _).alloc _, by omega, .inl rfl, fun s => rfl, fun s o h => by simp [fnd] at h, fun s t v u q _ h1 _ hq => by
      have : (DataW.map (H := Value) []).atKey (.string s) noB = noB := rfl
      rw [this] at h1
      injection h1 with h1
      subst h1
      simp [Value.ownBlock] at hq, Rise.nil, fun s o h => by simp [fnd] at h⟩
  exact ⟨w.heap.size + 1, fun q => q = w.heap.size ∨ q = w.heap.size + 1, rfl, ⟨fun q hq => by simp; omega, .inr rfl, w.heap.size, .map [], 0, -1, hB, hM, by simp, by omega, by simp⟩, ((Below.refl _ w).alloc (Nat.le_refl _) _).alloc (by simp) _, fun q hq => by omega⟩

theorem sused_any {w : World} {F : Nat → Prop} {g : Nat} {m : Sm} (h : PSt w F g m) : Calls Try.prog 23 #[.pointer (some ⟨g, 0, none⟩)] w fun e w' => e = .returned (.int .i64 ((usedL m.l : Nat) : Int)) ∧ w = w' := by
  obtain ⟨mb, D, N, W, hB, _⟩ := h.ex
  have k2 := hB.cell 2
  simp at k2
  clear hB h
  generalize ((usedL m.l : Nat) : Int) = x at *
  go_enter Try.func23, Try.ntmps23
  go_wp2_with fail
  go_ret
  exact ⟨rfl, rfl⟩
theorem scalls_any {w : World} {F : Nat → Prop} {g : Nat} {m : Sm} (h : PSt w F g m) : Calls Try.prog 22 #[.pointer (some ⟨g, 0, none⟩)] w fun e w' => e = .returned (.int .i64 m.calls) ∧ w = w' := by
  obtain ⟨mb, D, N, W, hB, _⟩ := h.ex
  have k3 := hB.cell 3
  simp at k3
  clear hB h
  go_enter Try.func22, Try.ntmps22
  go_wp2_with fail
  go_ret
  exact ⟨rfl, rfl⟩
theorem sfail_any {w : World} {F : Nat → Prop} {g : Nat} {m : Sm} {n : Int} (h : PSt w F g m) (h0 : -9223372036854775808 ≤ n) (h1 : n ≤ 9223372036854775807) :
    Calls Try.prog 17 #[.pointer (some ⟨g, 0, none⟩), .int .i64 n] w fun e w' => e = .returned (.tuple #[]) ∧ PSt w' F g (failS m n) ∧ w.grownBy w' (some g) := by
  obtain ⟨mb, D, N, W, hB, hM, hN, hW, hl⟩ := h.ex
  have f4 := hB.frozen 4
  have k4 := hB.cell 4
  simp at k4
  have hg := grown_set w g 4 (.int .i64 n)
  have HP : Hid (PSt (w.setCell ⟨g, 4, none⟩ (.int .i64 n)) F g (failS m n)) := Lib.hid ⟨fun q hq => Nat.lt_of_lt_of_le (h.lt q hq) hg.size, h.Fg, mb, D, N, n, by
    have := hB.set_ 4 (.int .i64 n)
    simp only [List.setIfInBounds_toArray, List.set_cons_succ, List.set_cons_zero] at this
    exact this, hM.set _ _, hN, ⟨h0, h1⟩, rfl⟩
  clear hB h hM hl
  go_enter Try.func17, Try.ntmps17
  go_wp2_with fail
  refine bodyPost_end (results_none rfl _ _ _) rfl ?_
  exact ⟨rfl, HP.out, hg⟩
end Go.Proofs.Ytihpnkhkbbakbaa
