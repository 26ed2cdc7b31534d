/-
  A SLICE OF SPANS OF THE CALL's OWN ('Own5'), and slices.SortFunc over it: what it makes of it. Conditions: the comparison answers by a plain comparison of three answers, and lays blocks alone.
  CONTRACTS of the comparisons: span.Compare once more (it lays blocks alone), trace's compareWhole, compareInTraces, isOfOne, bytes.Compare, and the document's Less.
-/
import Derived.Test.YtfccfnbmmgfgcaaGreatDoorGat
import Derived.Test.YtfccfnbmmgfgcaaGreatDoorSpanB
import Derived.Shelf.GgSortFunc.InsertionK
import Derived.Test.YtfccfnbmmgfgcaaGreatDoorMix
namespace Go.Proofs.YtfccfnbmmgfgcaaGreatDoor
open Go.RowKit
set_option maxRecDepth 100000


section
variable {α β γ : Type} {R : α → β → Prop}
theorem Two.tail {a : α} {b : β} {l : List α} {m : List β} (h : Two R (a :: l) (b :: m)) : R a b ∧ Two R l m :=
  ⟨h.at_ 0 a b rfl rfl, by have := h.len; simpa using this, fun i x y h1 h2 => h.at_ (i + 1) x y (by simpa using h1) (by simpa using h2)⟩
end

def SpF (w : World) (row : Option Nat) (s : Sn) (x : List Value) : Prop := s.ok ∧ ∃ d, x = spCells s d ∧ Bs w d s.data ∧ (s.data ≠ [] → d.ownBlock ≠ row)

def Own5 (w : World) (base : Nat) (v : Value) (l : List Sn) : Prop := ∃ xs, OwnL 5 w base 87 v xs ∧ Two (SpF w v.ownBlock) l xs

section
variable {w w' : World} {base : Nat} {v : Value} {l : List Sn} {s : Sn} {x : List Value} {row r : Option Nat}
theorem SpF.spc (h : SpF w row s x) : SpC w s x := by
  obtain ⟨ho, d, hx, hd, _⟩ := h
  exact ⟨ho, d, hx, hd⟩
theorem SpF.grown (h : SpF w row s x) (hg : w.grownBy w' row) : SpF w' row s x := by
  obtain ⟨ho, d, hx, hd, hn⟩ := h
  exact ⟨ho, d, hx, hd.grown hg hn, hn⟩
theorem SpF.below (h : SpF w row s x) (hb : Below w.heap.size w w') : SpF w' row s x := by
  obtain ⟨ho, d, hx, hd, hn⟩ := h
  exact ⟨ho, d, hx, hd.below hb, hn⟩
theorem Own5.nil (w : World) (base : Nat) : Own5 w base (.slice none 0 0) [] := ⟨[], OwnL.nil _ _ _ _, Two.nil⟩
theorem Own5.ss (h : Own5 w base v l) : Ss w v l := by
  obtain ⟨xs, h1, h2⟩ := h
  exact ⟨xs, h1.lv, h2.mono fun _ _ h => h.spc⟩
theorem Own5.below (h : Own5 w base v l) (hb : Below w.heap.size w w') : Own5 w' base v l := by
  obtain ⟨xs, h1, h2⟩ := h
  exact ⟨xs, h1.below hb, h2.mono fun _ _ h => h.below hb⟩
theorem Own5.lt (h : Own5 w base v l) : ∀ g, v.ownBlock = some g → base ≤ g ∧ g < w.heap.size := fun g hg => by
  obtain ⟨xs, h1, _⟩ := h
  exact ⟨h1.ge g hg, h1.lt g hg⟩
theorem Own5.lower {base' : Nat} (h : Own5 w base v l) (hb : base' ≤ base) : Own5 w base' v l := by
  obtain ⟨xs, ⟨h1, h1'⟩, h2⟩ := h
  refine ⟨xs, ⟨⟨h1.1, ?_⟩, h1'⟩, h2⟩
  rcases h1.2 with h0 | ⟨g, cap, cur, hv, hg, hr⟩
  · exact .inl h0
  · exact .inr ⟨g, cap, cur, hv, by omega, hr⟩
end

def El (w : World) (g : Nat) : Type := { p : Sn × Value // p.1.ok ∧ Bs w p.2 p.1.data ∧ (p.1.data ≠ [] → p.2.ownBlock ≠ some g) }
instance El.inh (w : World) (g : Nat) : Inhabited (El w g) :=
  ⟨⟨(⟨0, 0, 0, 0, []⟩, .slice none 0 0), ⟨by decide, by decide, by decide, by decide, by decide, by decide, by decide, by decide⟩, Bs.nil w, fun h => absurd rfl h⟩⟩

section
open Go.Sort
end

def Only (w w' : World) : Prop := ∃ q os, w' = Sort.grow (w.drewN q) os

section
variable {w w' w'' : World}
theorem Only.refl (w : World) : Only w w := ⟨0, #[], by simp [Sort.grow, World.drewN]⟩
theorem Only.alloc (h : Only w w') (o : Obj) : Only w (w'.alloc o) := by
  obtain ⟨q, os, rfl⟩ := h
  exact ⟨q, os ++ #[o], by rw [Sort.alloc_eq_grow, Sort.grow_grow]⟩
theorem Only.drew (h : Only w w') : Only w w'.drew := by
  obtain ⟨q, os, rfl⟩ := h
  exact ⟨q + 1, os, rfl⟩
theorem Only.trans (h : Only w w') (h' : Only w' w'') : Only w w'' := by
  obtain ⟨q, os, rfl⟩ := h
  obtain ⟨q', os', rfl⟩ := h'
  exact ⟨q + q', os ++ os', by rw [← Sort.grow_grow]; simp [Sort.grow, World.drewN, Nat.add_assoc]⟩
theorem Only.below (h : Only w w') : Below w.heap.size w w' := by
  obtain ⟨q, os, rfl⟩ := h
  exact ⟨rfl, rfl, rfl, by simp [World.drewN], fun k hk => by rw [Sort.heap_grow_old _ _ (by simpa [World.drewN] using hk)]; rfl⟩
end

section
variable {P : Program} (w : World)
end

def cmpT (a b : Sn) : Int := lexC (fun a b => cmpI a.tr b.tr) cmpS a b
set_option maxRecDepth 100000 in
set_option maxHeartbeats 800000 in
theorem Less_any (va vb : Value) (a b : Sn) (w : World) (ha : SV w va a) (hb : SV w vb b) :
    Calls Tryz.prog 161 #[va, vb] w fun e w' => e = .returned (.bool (lessB a b)) ∧ Below w.heap.size w w' := by
  obtain ⟨ho, d, rfl, hd⟩ := ha
  obtain ⟨ho', d', rfl, hd'⟩ := hb
  have hb : Below w.heap.size w ((w.alloc (.cells #[.int .u64 a.tr, .int .u64 a.id, .int .i64 a.st, .int .i64 a.en, d] 87)).alloc (.cells #[.int .u64 b.tr, .int .u64 b.id, .int .i64 b.st, .int .i64 b.en, d'] 87)) := ((Below.refl _ _).alloc (Nat.le_refl _) _).alloc (by simp) _
  have s1 := strOf (show Bs ((w.alloc (.cells #[.int .u64 a.tr, .int .u64 a.id, .int .i64 a.st, .int .i64 a.en, d] 87)).alloc (.cells #[.int .u64 b.tr, .int .u64 b.id, .int .i64 b.st, .int .i64 b.en, d'] 87)) d a.data from (hd.alloc _).alloc _)
  have s2 := strOf (show Bs ((w.alloc (.cells #[.int .u64 a.tr, .int .u64 a.id, .int .i64 a.st, .int .i64 a.en, d] 87)).alloc (.cells #[.int .u64 b.tr, .int .u64 b.id, .int .i64 b.st, .int .i64 b.en, d'] 87)) d' b.data from (hd'.alloc _).alloc _)
  have hq : Op.bytesLess (Bstr a.data).toList (Bstr b.data).toList = decide (Lib.compareBytes a.data b.data < 0) := by rw [Bstr_toList, Bstr_toList, bytesLess_cmp]
  by_cases h1 : a.st = b.st
  · have k1 : (a.st == b.st) = true := by simpa using h1
    by_cases h2 : a.en = b.en
    · have k2 : (a.en == b.en) = true := by simpa using h2
      have e : lessB a b = decide (Lib.compareBytes a.data b.data < 0) := by simp [lessB, h1, h2]
      rw [e, ← hq]
      clear e h1 h2 hq
      go_enter Tryz.func161, Tryz.ntmps161
      go_wp2_with fail
      go_ret
      exact ⟨rfl, hb⟩
    · have k2 : (a.en == b.en) = false := by simpa using h2
      have e : lessB a b = decide (a.en < b.en) := by simp [lessB, h1, h2]
      rw [e]
      clear e h1 h2 hq
      go_enter Tryz.func161, Tryz.ntmps161
      go_wp2_with fail
      go_ret
      exact ⟨rfl, hb⟩
  · have k1 : (a.st == b.st) = false := by simpa using h1
    have e : lessB a b = decide (a.st < b.st) := by simp [lessB, h1]
    rw [e]
    clear e h1 hq
    go_enter Tryz.func161, Tryz.ntmps161
    go_wp2_with fail
    go_ret
    exact ⟨rfl, hb⟩

end Go.Proofs.YtfccfnbmmgfgcaaGreatDoor
