/-
  CONTRACT of the document's Make: the walk of its first loop (a filter beside a meta). Conditions: at most 200 traces, 10000000 spans.
-/
import Derived.Test.YtnghpcfdgjkokaaGreatDoorBkF
namespace Go.Proofs.YtnghpcfdgjkokaaGreatDoor
open Go.RowKit
set_option maxRecDepth 100000

/-- a filter beside a meta's block, since the world w3 -/
structure FilM (w3 : World) (F0 : Nat → Prop) (gf gm : Nat) (b : Bl) (m : Me) (F : Nat → Prop) (u : World) : Prop where
  fil : DB u F gf b
  m : Blk u gm 30 (meC m)
  goes : Goes w3 (fun q => F0 q ∨ q = gm) u (fun q => F q ∨ q = gm)
  nf : ¬ F gm
section
variable {w3 u u' : World} {F0 F : Nat → Prop} {gf gm : Nat} {b b' : Bl} {m : Me}
theorem FilM.add (h : FilM w3 F0 gf gm b m F u) {F' : Nat → Prop} (hp : DB u' F' gf b') (hg : Goes u F u' F') : FilM w3 F0 gf gm b' m F' u' := by
  refine ⟨hp, (hg.apt.block gm h.m.lt h.nf).trans h.m, h.goes.trans ⟨hg.apt.mono fun q _ hq => .inl hq, fun q hq => ?_⟩, fun e => ?_⟩
  · rcases hq with hq | hq
    · exact (hg.new q hq).elim (fun h => .inl (.inl h)) .inr
    · exact .inl (.inr hq)
  · rcases hg.new gm e with h1 | h1
    · exact h.nf h1
    · have := h.m.lt
      omega
theorem FilM.below (h : FilM w3 F0 gf gm b m F u) (hb : Below u.heap.size u u') : FilM w3 F0 gf gm b m F u' :=
  ⟨(DB.thing gf b).keep h.fil (Apt.of_below hb), h.m.below hb h.m.lt, h.goes.later hb, h.nf⟩
theorem FilM.drewN (h : FilM w3 F0 gf gm b m F u) (n : Nat) : FilM w3 F0 gf gm b m F (u.drewN n) := h.below (below_drewN (Below.refl _ u) n)
theorem FilM.set_ (h : FilM w3 F0 gf gm b m F u) (i : Nat) (v : Value) (m' : Me) (hm : (meC m).setIfInBounds i v = meC m') : FilM w3 F0 gf gm b m' F (u.setCell ⟨gm, i, none⟩ v) := by
  have hg := grown_set u gm i v
  refine ⟨(DB.thing gf b).keep h.fil (Apt.of_grown hg fun q hq hF => ?_), by rw [← hm]; exact h.m.set_ i v, h.goes.own hg (.inr rfl), h.nf⟩
  have := Option.some.inj hq
  subst this
  exact h.nf hF
theorem FilM.set2 {id lv st en pg tr st' : Int} (h : FilM w3 F0 gf gm b ⟨id, lv, st, en, pg, tr⟩ F u) : FilM w3 F0 gf gm b ⟨id, lv, st', en, pg, tr⟩ F (u.setCell ⟨gm, 2, none⟩ (.int .i64 st')) := h.set_ 2 _ _ (by simp [meC])
theorem FilM.set3 {id lv st en pg tr en' : Int} (h : FilM w3 F0 gf gm b ⟨id, lv, st, en, pg, tr⟩ F u) : FilM w3 F0 gf gm b ⟨id, lv, st, en', pg, tr⟩ F (u.setCell ⟨gm, 3, none⟩ (.int .i64 en')) := h.set_ 3 _ _ (by simp [meC])
end

end Go.Proofs.YtnghpcfdgjkokaaGreatDoor
