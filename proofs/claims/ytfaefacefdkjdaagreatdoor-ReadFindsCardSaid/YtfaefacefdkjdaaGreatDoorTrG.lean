/-
  A SLICE OF TRACES THAT GROWS, its last one's spans too ('GInv'); CONTRACT of trace.Group. Conditions: at most 1000000 spans, Data of at most 1000000 bytes.
  CONTRACTS of the document's counts, Gather, Of. Conditions: at most 1000000 spans.
-/
import Derived.Test.YtfaefacefdkjdaaGreatDoorGrp
import Derived.Test.YtfaefacefdkjdaaGreatDoorMix
import Derived.Test.YtfaefacefdkjdaaGreatDoorKee
namespace Go.Proofs.YtfaefacefdkjdaaGreatDoor
open Go.RowKit
set_option maxRecDepth 100000


theorem trT : ElemT Tryz.prog 23 63 2 32 := ⟨Tryz.underlying23, by omega, by
  refine ⟨_, _, rfl, rfl, rfl, rfl, ?_⟩
  rfl⟩

def OwnO (w0 w : World) (base : Nat) (v : Value) (l : List Sn) : Prop := ∃ xs, OwnL 5 w base 106 v xs ∧ Two (SpC w0) l xs

section
variable {w0 w w' : World} {base : Nat} {v v' d : Value} {l m : List Sn} {row : Option Nat}
theorem OwnO.nil (w0 w : World) (base : Nat) : OwnO w0 w base (.slice none 0 0) [] := ⟨[], OwnL.nil _ _ _ _, Two.nil⟩
theorem OwnO.kept (h : OwnO w0 w base v l) (hg : w.grownBy w' row) (hne : v.ownBlock = none ∨ v.ownBlock ≠ row) : OwnO w0 w' base v l := by
  obtain ⟨xs, h1, h2⟩ := h
  exact ⟨xs, h1.kept hg hne, h2⟩
theorem OwnO.below (h : OwnO w0 w base v l) (hb : Below w.heap.size w w') : OwnO w0 w' base v l := by
  obtain ⟨xs, h1, h2⟩ := h
  exact ⟨xs, h1.below hb, h2⟩
theorem OwnO.ss (h : OwnO w0 w base v l) (hb : Below w0.heap.size w0 w) : Ss w v l := by
  obtain ⟨xs, h1, h2⟩ := h
  exact ⟨xs, h1.lv, h2.mono fun _ _ h => h.below hb⟩
theorem OwnO.lt (h : OwnO w0 w base v l) : ∀ g, v.ownBlock = some g → base ≤ g ∧ g < w.heap.size := fun g hg => by
  obtain ⟨xs, h1, _⟩ := h
  exact ⟨h1.ge g hg, h1.lt g hg⟩
theorem SpC.one {s : Sn} {x : List Value} (h : SpC w s x) : ∀ u ∈ x, u.oneCell' = true := by
  obtain ⟨ho, d, rfl, ⟨A, c, rfl, _⟩⟩ := h
  intro u hu
  simp only [spCells, List.mem_cons, List.not_mem_nil, or_false] at hu
  rcases hu with rfl | rfl | rfl | rfl | rfl <;> rfl
theorem Two.right_mem {α β : Type} {R : α → β → Prop} {l : List α} {m : List β} (h : Two R l m) {y : β} (hy : y ∈ m) : ∃ a, a ∈ l ∧ R a y := by
  obtain ⟨i, hi⟩ := List.mem_iff_getElem?.1 hy
  have hil : i < l.length := by have := (List.getElem?_eq_some_iff.1 hi).1; have := h.len; omega
  exact ⟨l[i], List.getElem_mem hil, h.at_ i l[i] y (List.getElem?_eq_getElem hil) hi⟩
end

def idOk (i : Int) : Prop := 0 ≤ i ∧ i ≤ 18446744073709551615

def TnO (w0 w : World) (base : Nat) (bad : Nat → Prop) (t : Tn) (x : List Value) : Prop := idOk t.id ∧ ∃ d, x = [.int .u64 t.id, d] ∧ OwnO w0 w base d t.sp ∧ ∀ q, d.ownBlock = some q → ¬ bad q

section
variable {w0 w w' : World} {base : Nat} {bad bad' : Nat → Prop} {t : Tn} {x : List Value} {row : Option Nat}
theorem TnO.tnc (h : TnO w0 w base bad t x) (hb : Below w0.heap.size w0 w) : TnC w t x := by
  obtain ⟨h1, d, h2, h3, _⟩ := h
  exact ⟨h1, d, h2, h3.ss hb⟩
theorem TnO.kept (h : TnO w0 w base bad t x) (hg : w.grownBy w' row) (hr : ∀ q, row = some q → bad q) (hb : ∀ q, bad' q → bad q ∨ w.heap.size ≤ q) : TnO w0 w' base bad' t x := by
  obtain ⟨h1, d, h2, h3, h4⟩ := h
  refine ⟨h1, d, h2, h3.kept hg ?_, fun q hq hbq => ?_⟩
  · cases hd : d.ownBlock with
    | none => exact .inl rfl
    | some q => exact .inr fun e => h4 q hd (hr q e.symm)
  · rcases hb q hbq with h | h
    · exact h4 q hq h
    · have := (h3.lt q hq).2
      omega
theorem TnO.one (h : TnO w0 w base bad t x) : ∀ u ∈ x, u.oneCell' = true := by
  obtain ⟨h1, d, rfl, ⟨xs, ho, _⟩, _⟩ := h
  obtain ⟨A, c, rfl, _⟩ := ho.lv.form
  intro u hu
  simp only [List.mem_cons, List.not_mem_nil, or_false] at hu
  rcases hu with rfl | rfl <;> rfl
end

def GInv (w0 w : World) (base hi : Nat) (ov : Value) (out : List Tn) : Prop :=
  (out = [] ∧ ov = .slice none 0 0) ∨
  ∃ o t xs dl, out = o ++ [t] ∧ OwnL 2 w base 63 ov (xs ++ [[.int .u64 t.id, dl]]) ∧ idOk t.id ∧ OwnO w0 w base dl t.sp ∧ (∀ q, dl.ownBlock = some q → ov.ownBlock ≠ some q ∧ q < hi) ∧
    Two (TnO w0 w base fun q => ov.ownBlock = some q ∨ dl.ownBlock = some q) o xs

section
variable {w0 w w' : World} {base hi : Nat} {ov : Value} {out : List Tn}
theorem GInv.below (h : GInv w0 w base hi ov out) (hb : Below w.heap.size w w') : GInv w0 w' base hi ov out := by
  rcases h with h | ⟨o, t, xs, dl, h1, h2, h3, h4, h5, h6⟩
  · exact .inl h
  · exact .inr ⟨o, t, xs, dl, h1, h2.below hb, h3, h4.below hb, h5, h6.mono fun _ _ h => h.kept (row := none) (grown_of_below hb none) (fun q h => by cases h) fun q h => .inl h⟩
theorem GInv.lt (h : GInv w0 w base hi ov out) : ∀ q, ov.ownBlock = some q → base ≤ q ∧ q < w.heap.size := by
  rcases h with ⟨_, rfl⟩ | ⟨o, t, xs, dl, h1, h2, _⟩
  · intro q hq; cases hq
  · exact fun q hq => ⟨h2.ge q hq, h2.lt q hq⟩
theorem GInv.ts (h : GInv w0 w base hi ov out) (hb : Below w0.heap.size w0 w) : Ts w ov out := by
  rcases h with ⟨rfl, rfl⟩ | ⟨o, t, xs, dl, h1, h2, h3, h4, h5, h6⟩
  · exact Ts.nil w
  · subst h1
    exact ⟨_, h2.lv, (h6.mono fun _ _ h => h.tnc hb).snoc ⟨h3, dl, rfl, h4.ss hb⟩⟩
theorem GInv.form (h : GInv w0 w base hi ov out) : ∃ A c, ov = .slice A out.length c ∧ out.length ≤ c ∧ c ≤ 9223372036854775807 := by
  rcases h with ⟨rfl, rfl⟩ | ⟨o, t, xs, dl, h1, h2, h3, h4, h5, h6⟩
  · exact ⟨none, 0, rfl, Nat.le_refl _, by omega⟩
  · subst h1
    obtain ⟨A, c, hv, hc1, hc2⟩ := h2.lv.form
    have e : (xs ++ [[.int .u64 t.id, dl]]).length = (o ++ [t]).length := by simp [h6.len]
    rw [e] at hv hc1
    exact ⟨A, c, hv, hc1, hc2⟩
theorem GInv.more {o : List Tn} {t : Tn} (h : GInv w0 w base hi ov (o ++ [t])) : ∃ g c dl, ov = .slice (some ⟨g, 0, none⟩) (o.length + 1) c ∧ o.length + 1 ≤ c ∧ c ≤ 9223372036854775807 ∧ g < w.heap.size ∧ base ≤ g ∧
    w.cell? ⟨g, o.length * 2, none⟩ = some (.int .u64 t.id) ∧ w.cell? ⟨g, o.length * 2 + 1, none⟩ = some dl ∧ OwnO w0 w base dl t.sp ∧ (∀ q, dl.ownBlock = some q → q ≠ g ∧ q < hi) ∧
    ∀ d' w' l', OwnO w0 w' base d' l' → w.grownBy w' dl.ownBlock → (d'.ownBlock = dl.ownBlock ∨ ∃ n, d'.ownBlock = some n ∧ w.heap.size ≤ n) →
      w'.cell? ⟨g, o.length * 2 + 1, none⟩ = some dl ∧ w'.frozen? ⟨g, o.length * 2 + 1, none⟩ = false ∧ GInv w0 (w'.setCell ⟨g, o.length * 2 + 1, none⟩ d') base (w'.setCell ⟨g, o.length * 2 + 1, none⟩ d').heap.size ov (o ++ [⟨t.id, l'⟩]) ∧ w'.grownBy (w'.setCell ⟨g, o.length * 2 + 1, none⟩ d') (some g) := by
  rcases h with ⟨h, _⟩ | ⟨o', t', xs, dl, h1, h2, h3, h4, h5, h6⟩
  · simp at h
  · obtain ⟨rfl, ht⟩ := List.append_inj' h1 rfl
    simp only [List.cons.injEq, and_true] at ht
    subst ht
    have hxl := h6.len
    have hlen : (xs ++ [[Value.int .u64 t.id, dl]]).length = o.length + 1 := by simp [hxl]
    have h2' := h2
    obtain ⟨ho, hk⟩ := h2
    rcases ho.2 with ⟨_, h0⟩ | ⟨g, c, cur, hv, hb, hg, hn, hm, hcs, htk⟩
    · omega
    rw [hlen] at hv hn
    subst hv
    have hlast : (xs ++ [[Value.int .u64 t.id, dl]])[o.length]? = some [.int .u64 t.id, dl] := by rw [hxl]; simp
    obtain ⟨g', off, hA, hg', hc⟩ := h2'.lv.cells (by omega) hlast
    injection hA with hA
    injection hA with e1 e2
    subst e1 e2
    refine ⟨g, c, dl, rfl, hn, by simp only [maxLen] at hm; exact hm, hg', hb, by simpa using hc 0 _ rfl, by simpa using hc 1 _ rfl, h4, fun q hq => ⟨fun e => (h5 q hq).1 (by rw [e]; rfl), (h5 q hq).2⟩, ?_⟩
    intro d' w' l' hd' hgr hb'
    have hdg : ∀ q, dl.ownBlock = some q → q ≠ g := fun q hq e => (h5 q hq).1 (by rw [e]; rfl)
    have hne : (Value.slice (some ⟨g, 0, none⟩) (o.length + 1) c).ownBlock = none ∨ (Value.slice (some ⟨g, 0, none⟩) (o.length + 1) c).ownBlock ≠ dl.ownBlock := by
      right
      intro e
      exact hdg g e.symm rfl
    have h7 := h2'.kept hgr hne
    obtain ⟨ho7, hk7⟩ := h7
    have ho8 := ho7
    rw [hlen] at ho8
    obtain ⟨s1, g1⟩ := ho8.stored (o.length * 2 + 1) d'
    rw [flat_set1 hk7 d' hlast (show 1 < 2 by omega)] at s1
    have hset : (xs ++ [[Value.int .u64 t.id, dl]]).set o.length ([Value.int .u64 t.id, dl].set 1 d') = xs ++ [[.int .u64 t.id, d']] := by
      rw [hxl, List.set_append_right _ _ (Nat.le_refl _)]
      simp
    rw [hset] at s1
    have hdb' : ∀ q, d'.ownBlock = some q → q ≠ g := by
      intro q hq
      rcases hb' with e | ⟨n, e, hn⟩
      · rw [e] at hq
        exact hdg q hq
      · rw [e] at hq
        injection hq with hq
        omega
    have hcell := (World.cell?_of_block (a := ⟨g, o.length * 2 + 1, none⟩) (hgr.block g hg' (fun e => hdg g e.symm rfl))).trans (show w.cell? ⟨g, o.length * 2 + 1, none⟩ = some dl by simpa using hc 1 _ rfl)
    have hfr := (World.frozen?_of_block (a := ⟨g, o.length * 2 + 1, none⟩) (hgr.block g hg' (fun e => hdg g e.symm rfl))).trans (show w.frozen? ⟨g, o.length * 2 + 1, none⟩ = false by simp [World.frozen?, hg])
    refine ⟨hcell, hfr, .inr ⟨o, ⟨t.id, l'⟩, xs, d', rfl, ⟨?_, ?_⟩, h3, ?_, fun q hq => ⟨fun e => ?_, ?_⟩, ?_⟩, g1⟩
    · have : (xs ++ [[Value.int .u64 t.id, d']]).length = o.length + 1 := by simp [hxl]
      rw [this]
      exact s1
    · intro y hy
      rcases List.mem_append.1 hy with hy | hy
      · exact hk y (List.mem_append_left _ hy)
      · simp at hy
        subst hy
        rfl
    · refine hd'.kept g1 ?_
      cases hd : d'.ownBlock with
      | none => exact .inl rfl
      | some q => exact .inr fun e => by injection e with e; exact hdb' q hd e
    · injection e with e
      exact hdb' q hq e.symm
    · have := (hd'.lt q hq).2
      simpa [World.setCell] using this
    · refine h6.mono fun t x ht => ?_
      refine TnO.kept (ht.kept (bad' := fun q => some q = some g ∨ d'.ownBlock = some q) hgr (fun q hq => .inr hq) fun q hq => ?_) g1 (fun q hq => .inl hq.symm) fun q hq => .inl (hq.imp (fun e => e.symm) id)
      rcases hq with hq | hq
      · exact .inl (.inl hq.symm)
      · rcases hb' with e | ⟨n, e, hn⟩
        · rw [e] at hq
          exact .inl (.inr hq)
        · rw [e] at hq
          injection hq with hq
          exact .inr (by omega)
end

end Go.Proofs.YtfaefacefdkjdaaGreatDoor

namespace Go.Proofs.YtfaefacefdkjdaaGreatDoor
open Go.RowKit
set_option maxRecDepth 100000


def badC (l : List Sn) (s : Sn) (i k : Nat) : Bool := match l[k]? with
  | some t => keyB t s && (lessB t s || (sameB t s && decide (k < i)))
  | none => false
def cntB (l : List Sn) (s : Sn) (i : Nat) : Bool := (List.range l.length).all fun k => !badC l s i k

theorem cntB_true {l : List Sn} {s : Sn} {i : Nat} : cntB l s i = true ↔ ∀ k, k < l.length → badC l s i k = false := by
  simp [cntB, List.all_eq_true]
end Go.Proofs.YtfaefacefdkjdaaGreatDoor
