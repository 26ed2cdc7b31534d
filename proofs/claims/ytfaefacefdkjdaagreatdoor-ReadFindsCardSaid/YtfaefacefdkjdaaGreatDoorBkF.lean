/-
  CONTRACTS of the document's Sizes and Make (a block's objects and its meta). Conditions: at most 200 traces, 10000000 spans.
  CONTRACT of the document's Make: the walk of its first loop (a filter beside a meta). Conditions: at most 200 traces, 10000000 spans.
  CONTRACT of the document's Make: a block's objects and its meta. Conditions: at most 200 traces, 10000000 spans.
-/
import Derived.Test.YtfaefacefdkjdaaGreatDoorBkB
namespace Go.Proofs.YtfaefacefdkjdaaGreatDoor
open Go.RowKit
set_option maxRecDepth 100000

def SpR (w : World) (base : Nat) (v : Value) (l : List Sn) : Prop := ∃ xs, OwnL 5 w base 106 v xs ∧ Two (fun s x => s.ok ∧ ∃ d, x = spCells s d) l xs
section
variable {w u : World} {base : Nat} {v : Value} {l : List Sn} {bad : Nat → Prop}
theorem SpR.apt (h : SpR w base v l) (ha : Apt bad w u) (hb : ∀ q, v.ownBlock = some q → ¬ bad q) : SpR u base v l := by
  obtain ⟨xs, h1, h2⟩ := h
  exact ⟨xs, h1.apt ha hb, h2⟩
theorem SpR.below (h : SpR w base v l) (hb : Below w.heap.size w u) : SpR u base v l := h.apt (bad := fun _ => False) (Apt.of_below hb) fun _ _ h => h
theorem SpR.form (h : SpR w base v l) (hl : 0 < l.length) : ∃ g c, v = .slice (some ⟨g, 0, none⟩) l.length c ∧ l.length ≤ c ∧ c ≤ 9223372036854775807 ∧ base ≤ g ∧ g < w.heap.size := by
  obtain ⟨xs, h1, h2⟩ := h
  have e := h2.len
  rcases h1.1.2 with ⟨_, h0⟩ | ⟨g, cap, cur, hv, hb, hg, hn, hm, _⟩
  · omega
  · simp only [maxLen] at hm
    exact ⟨g, cap, by rw [hv, e], by omega, hm, hb, (Array.getElem?_eq_some_iff.1 hg).1⟩
theorem SpR.cells {g n c : Nat} (h : SpR w base (.slice (some ⟨g, 0, none⟩) n c) l) {i : Nat} {s : Sn} (hi : l[i]? = some s) :
    w.cell? ⟨g, i * 5, none⟩ = some (.int .u64 s.tr) ∧ w.cell? ⟨g, i * 5 + 2, none⟩ = some (.int .i64 s.st) ∧ w.cell? ⟨g, i * 5 + 3, none⟩ = some (.int .i64 s.en) ∧ s.ok := by
  obtain ⟨xs, h1, h2⟩ := h
  obtain ⟨x, hx, hok, d, rfl⟩ := h2.right hi
  obtain ⟨g', o, hA, hg, hc⟩ := h1.lv.cells (by omega) hx
  injection hA with hA
  injection hA with e1 e2
  subst e1 e2
  have c0 := hc 0 _ rfl
  have c2 := hc 2 _ rfl
  have c3 := hc 3 _ rfl
  simp only [Nat.zero_add, Nat.add_zero] at c0 c2 c3
  exact ⟨c0, c2, c3, hok⟩
end

end Go.Proofs.YtfaefacefdkjdaaGreatDoor

namespace Go.Proofs.YtfaefacefdkjdaaGreatDoor
open Go.RowKit
set_option maxRecDepth 100000

structure FilM (w3 : World) (F0 : Nat → Prop) (gf gm : Nat) (b : Bl) (m : Me) (F : Nat → Prop) (u : World) : Prop where
  fil : DB u F gf b
  m : Blk u gm 34 (meC m)
  goes : Goes w3 (fun q => F0 q ∨ q = gm) u (fun q => F q ∨ q = gm)
  nf : ¬ F gm
section
variable {w3 u u' : World} {F0 F : Nat → Prop} {gf gm : Nat} {b b' : Bl} {m : Me}
theorem FilM.add (h : FilM w3 F0 gf gm b m F u) {F' : Nat → Prop} (hp : DB u' F' gf b') (hg : Goes u F u' F') : FilM w3 F0 gf gm b' m F' u' := by
  refine ⟨hp, (hg.apt.block gm h.m.lt h.nf).trans h.m, h.goes.trans ⟨hg.apt.mono fun q _ hq => .inl hq, fun q hq => ?_⟩, fun e => ?_⟩
  · rcases hq with hq | hq
    · exact (hg.new q hq).elim (fun h => .inl (.inl h)) .inr
    · exact .inl (.inr hq)
  · rcases hg.new gm e with h1 | h1
    · exact h.nf h1
    · have := h.m.lt
      omega
theorem FilM.below (h : FilM w3 F0 gf gm b m F u) (hb : Below u.heap.size u u') : FilM w3 F0 gf gm b m F u' :=
  ⟨(DB.thing gf b).keep h.fil (Apt.of_below hb), h.m.below hb h.m.lt, h.goes.later hb, h.nf⟩
theorem FilM.drewN (h : FilM w3 F0 gf gm b m F u) (n : Nat) : FilM w3 F0 gf gm b m F (u.drewN n) := h.below (below_drewN (Below.refl _ u) n)
theorem FilM.set_ (h : FilM w3 F0 gf gm b m F u) (i : Nat) (v : Value) (m' : Me) (hm : (meC m).setIfInBounds i v = meC m') : FilM w3 F0 gf gm b m' F (u.setCell ⟨gm, i, none⟩ v) := by
  have hg := grown_set u gm i v
  refine ⟨(DB.thing gf b).keep h.fil (Apt.of_grown hg fun q hq hF => ?_), by rw [← hm]; exact h.m.set_ i v, h.goes.own hg (.inr rfl), h.nf⟩
  have := Option.some.inj hq
  subst this
  exact h.nf hF
theorem FilM.set2 {id lv st en pg tr st' : Int} (h : FilM w3 F0 gf gm b ⟨id, lv, st, en, pg, tr⟩ F u) : FilM w3 F0 gf gm b ⟨id, lv, st', en, pg, tr⟩ F (u.setCell ⟨gm, 2, none⟩ (.int .i64 st')) := h.set_ 2 _ _ (by simp [meC])
theorem FilM.set3 {id lv st en pg tr en' : Int} (h : FilM w3 F0 gf gm b ⟨id, lv, st, en, pg, tr⟩ F u) : FilM w3 F0 gf gm b ⟨id, lv, st, en', pg, tr⟩ F (u.setCell ⟨gm, 3, none⟩ (.int .i64 en')) := h.set_ 3 _ _ (by simp [meC])
end

end Go.Proofs.YtfaefacefdkjdaaGreatDoor

namespace Go.Proofs.YtfaefacefdkjdaaGreatDoor
open Go.RowKit
set_option maxRecDepth 100000

def DMakeP (w w' : World) (id : Nat) (lv : Int) (l : List Tn) (s : Sz) (e : Ending) : Prop :=
  (¬ BkOk id lv l s ∧ e = .returned (.tuple #[.slice none 0 0, meV Me.zero, .int .i64 1])) ∨ (BkOk id lv l s ∧ ∃ x, e = .returned (.tuple #[x, meV (bkMe id lv l s), .int .i64 0]) ∧ OwnL 2 w' w.heap.size 117 x ((bkObs id lv l s).map obC))

end Go.Proofs.YtfaefacefdkjdaaGreatDoor
