/-
  tankardlaw08.WalPlays: what its walk needs: the document's log as a thing in memory ('D8'), calls of either side, the deed's cells. No condition but what each theorem says.
-/
import Derived.Test.YtdfjicjlmejonaaWlE
namespace Go.Proofs.Ytdfjicjlmejonaa
open Go.RowKit
set_option maxRecDepth 100000

theorem DL.apt {bad : Nat → Prop} {w w' : World} {base gl gt : Nat} {v : Value} {m : Tm} {rs : List (List UInt8)} (h : DL w base gl gt v m rs) (ha : Apt bad w w') (h1 : ¬ bad gl) (h2 : ¬ bad gt) (h3 : ∀ q, v.ownBlock = some q → ¬ bad q) : DL w' base gl gt v m rs :=
  ⟨(ha.block gl h.blk.lt h1).trans h.blk, h.row.apt ha h3, (ha.block gt (Blk.lt h.tape) h2).trans h.tape, h.ne, h.nl, h.nt, h.gel, h.get⟩
/-- the document's log, in its blocks -/
def D8 (base gl gt : Nat) (m : Tm) (rs : List (List UInt8)) (w : World) (G : Nat → Prop) : Prop := ∃ v, DL w base gl gt v m rs ∧ ∀ q, G q ↔ (q = gl ∨ q = gt ∨ v.ownBlock = some q)
theorem D8.thing (base gl gt : Nat) (m : Tm) (rs : List (List UInt8)) : Thing (D8 base gl gt m rs) where
  keep := by
    rintro w w' F ⟨v, h, hF⟩ ha
    exact ⟨v, h.apt ha (fun hn => hn ((hF gl).2 (.inl rfl))) (fun hn => hn ((hF gt).2 (.inr (.inl rfl)))) (fun q hq hn => hn ((hF q).2 (.inr (.inr hq)))), hF⟩
  lt := by
    rintro w F ⟨v, h, hF⟩ q hq
    rcases (hF q).1 hq with rfl | rfl | hq
    · exact h.blk.lt
    · exact Blk.lt h.tape
    · exact h.row.lt q hq
section
variable {X : World → Prop} {w0 w w' : World} {A A' B : World → (Nat → Prop) → Prop} {F G : Nat → Prop} {base gl gt : Nat} {m m' : Tm} {rs rs' : List (List UInt8)}
theorem W2.doc8 {v v' : Value} (h : W2 X w0 w A F (D8 base gl gt m rs) G) (hA : Thing A) (hG : ∀ q, G q ↔ (q = gl ∨ q = gt ∨ v.ownBlock = some q)) (hd : DL w' base gl gt v' m' rs') (ha : Apt (fun q => q = gl ∨ q = gt) w w') (hn : ∀ q, v'.ownBlock = some q → v.ownBlock = some q ∨ w.heap.size ≤ q) :
    ∃ G', W2 X w0 w' A F (D8 base gl gt m' rs') G' :=
  ⟨fun q => q = gl ∨ q = gt ∨ v'.ownBlock = some q, h.stepB hA ⟨v', hd, fun q => Iff.rfl⟩ (ha.mono fun q _ hq => (hG q).2 (hq.elim .inl fun h => .inr (.inl h))) fun q hq => by
    rcases hq with hq | hq | hq
    · exact .inl ((hG q).2 (.inl hq))
    · exact .inl ((hG q).2 (.inr (.inl hq)))
    · rcases hn q hq with h1 | h1
      · exact .inl ((hG q).2 (.inr (.inr h1)))
      · exact .inr h1⟩
/-- a call of the document's log -/
theorem W2.callB {f : FuncId} {args : Array Value} {r : Value} (h : W2 X w0 w A F (D8 base gl gt m rs) G) (hA : Thing A)
    (hc : ∀ v, DL w base gl gt v m rs → Calls Try.prog f args w fun e w' => e = .returned r ∧ ∃ v', DL w' base gl gt v' m' rs' ∧ Apt (fun q => q = gl ∨ q = gt) w w' ∧ ∀ q, v'.ownBlock = some q → v.ownBlock = some q ∨ w.heap.size ≤ q) :
    Calls Try.prog f args w fun e w' => e = .returned r ∧ ∃ G', W2 X w0 w' A F (D8 base gl gt m' rs') G' := by
  obtain ⟨v, hd, hG⟩ := h.b
  refine (hc v hd).mono ?_
  rintro e w' ⟨he, v', hd', ha, hn⟩
  exact ⟨he, h.doc8 hA hG hd' ha hn⟩
/-- a call of the program's -/
theorem W2.callA {f : FuncId} {args : Array Value} {r : Value} (h : W2 X w0 w A F B G) (hA : Thing A) (hB : Thing B)
    (hc : Calls Try.prog f args w fun e w' => e = .returned r ∧ ∃ F', A' w' F' ∧ Apt F w w' ∧ ∀ q, F' q → F q ∨ w.heap.size ≤ q) :
    Calls Try.prog f args w fun e w' => e = .returned r ∧ ∃ F', W2 X w0 w' A' F' B G := by
  refine hc.mono ?_
  rintro e w' ⟨he, F', h1, h2, h3⟩
  exact ⟨he, F', h.stepA (A' := A') hA hB h1 h2 h3⟩
/-- the document's tape alone turns -/
theorem W2.tape8 (h : W2 X w0 w A F (D8 base gl gt m rs) G) (hA : Thing A) (hd : DT w' gt m') (hg : w.grownBy w' (some gt)) : W2 X w0 w' A F (D8 base gl gt m' rs) G := by
  obtain ⟨v, hD, hG⟩ := h.b
  exact h.stepB hA ⟨v, hD.onTape hd hg, hG⟩ (Apt.of_grown hg fun q hq => by injection hq with hq; exact (hG q).2 (.inr (.inl hq.symm))) fun q hq => .inl hq
end
/-- the document's log, its row known -/
def D8v (base gl gt : Nat) (v : Value) (m : Tm) (rs : List (List UInt8)) (w : World) (G : Nat → Prop) : Prop := DL w base gl gt v m rs ∧ ∀ q, G q ↔ (q = gl ∨ q = gt ∨ v.ownBlock = some q)
theorem D8v.thing (base gl gt : Nat) (v : Value) (m : Tm) (rs : List (List UInt8)) : Thing (D8v base gl gt v m rs) where
  keep := by
    rintro w w' F ⟨h, hF⟩ ha
    exact ⟨h.apt ha (fun hn => hn ((hF gl).2 (.inl rfl))) (fun hn => hn ((hF gt).2 (.inr (.inl rfl)))) (fun q hq hn => hn ((hF q).2 (.inr (.inr hq)))), hF⟩
  lt h q hq := (D8.thing base gl gt m rs).lt ⟨v, h⟩ q hq
section
variable {X : World → Prop} {w0 w w' : World} {A : World → (Nat → Prop) → Prop} {F G : Nat → Prop} {base gl gt : Nat} {m : Tm} {rs : List (List UInt8)}
theorem W2.open8 (h : W2 X w0 w A F (D8 base gl gt m rs) G) : ∃ v, W2 X w0 w A F (D8v base gl gt v m rs) G := by
  obtain ⟨v, hv⟩ := h.b
  exact ⟨v, h.below, h.a, hv, h.fge, h.gge, h.ne, h.kx⟩
theorem W2.shut8 {v : Value} (h : W2 X w0 w A F (D8v base gl gt v m rs) G) : W2 X w0 w A F (D8 base gl gt m rs) G := ⟨h.below, h.a, ⟨v, h.b⟩, h.fge, h.gge, h.ne, h.kx⟩
end
theorem lopen_at (base gl gt : Nat) (v : Value) (m : Tm) (rs t : List (List UInt8)) (q : Nat) (w : World) (h : DL w base gl gt v m rs) (hm : m.fine) (hR : Recs m.b t 0 q) :
    Calls Try.prog 14 #[.pointer (some ⟨gl, 0, none⟩)] w fun e w' => e = .returned (.tuple #[]) ∧ ∃ v', DL w' base gl gt v' (tCut (tUp m) (q : Int)).1 t ∧ Apt (fun q => q = gl ∨ q = gt) w w' ∧ ∀ q, v'.ownBlock = some q → v.ownBlock = some q ∨ w.heap.size ≤ q := by
  refine (lopen_any base gl gt v m rs w h hm).mono ?_
  rintro e w' ⟨he, v', t', q', hR', hd, ha, hn⟩
  obtain ⟨rfl, rfl⟩ := hR.one hR'
  exact ⟨he, v', hd, ha, fun z hz => .inr (hn z hz)⟩
theorem LogK.read {PT : World → (Nat → Prop) → Nat → Tm → Prop} {LK : World → (Nat → Prop) → Nat → Nat → Tm → List (List UInt8) → Prop} (hT : TapeK PT) (hK : LogK PT LK) {w : World} {F : Nat → Prop} {g gt : Nat} {m : Tm} {rs : List (List UInt8)} (h : LK w F g gt m rs) (hW : Whole m rs) :
    Calls Try.prog 25 #[.pointer (some ⟨gt, 0, none⟩)] w fun e w' => ∃ x F', e = .returned (.tuple #[x, .nilIface]) ∧ Own w' w.heap.size 5 x m.b ∧ LK w' F' g gt m rs ∧ Apt F w w' ∧ (∀ q, F' q → F q ∨ w.heap.size ≤ q) ∧ ∀ q, x.ownBlock = some q → ¬ F' q := by
  obtain ⟨Ft, h1, h2, h3⟩ := hK.tape h
  have e0 : tRead m = (m.b, 0) := by rw [tRead, if_neg (by rw [hW.up]; simp)]
  have hR := hT.read h1 hW.fine
  rw [e0] at hR
  refine hR.mono ?_
  rintro e w' ⟨x, F', he, hx, h4, h5, h6, h7⟩
  obtain ⟨F'', h8, h9⟩ := h3 w' F' m h4 h5 h6
  refine ⟨x, F'', he, hx, h8, h5.mono fun q _ hq => h2 q hq, fun q hq => (h9 q hq).elim .inl fun h => (h6 q h).imp (h2 q) id, fun q hq hF => ?_⟩
  rcases h9 q hF with h | h
  · have := (hK.thing _ _ _ _).lt ‹LK w F g gt m rs› q h
    have := hx.ge q hq
    omega
  · exact h7 q hq h

/-- what a round holds: the deed's cells in block gx, its bytes -/
def Xd8 (gx : Nat) (d : De8) (dv : Value) (u : World) : Prop :=
  u.cell? ⟨gx, 0, none⟩ = some (.int .i64 d.what) ∧ u.cell? ⟨gx, 1, none⟩ = some (.int .i64 d.n) ∧ u.cell? ⟨gx, 2, none⟩ = some dv ∧ Bs u dv d.b
theorem Xd8.keep {gx : Nat} {d : De8} {dv : Value} {w : World} {bad : Nat → Prop} (h : Xd8 gx d dv w) (hgx : gx < w.heap.size) (hbx : ¬ bad gx) (hbd : d.b ≠ [] → ∀ q, dv.ownBlock = some q → ¬ bad q) : Keep bad (Xd8 gx d dv) w := fun u ha => by
  obtain ⟨h0, h1, h2, h3⟩ := h
  have hc : ∀ j, u.cell? ⟨gx, j, none⟩ = w.cell? ⟨gx, j, none⟩ := fun j => World.cell?_of_block (ha.block gx hgx hbx)
  exact ⟨(hc 0).trans h0, (hc 1).trans h1, (hc 2).trans h2, h3.apt ha hbd⟩
theorem W2.fin8 {X : World → Prop} {A B : World → (Nat → Prop) → Prop} {w0 w : World} {F G : Nat → Prop} (h : W2 X w0 w A F B G) : W2 (fun _ => True) w0 w A F B G := h.say fun _ _ => trivial
end Go.Proofs.Ytdfjicjlmejonaa
