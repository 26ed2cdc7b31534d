/-
  A REGION THAT DRAWS ITS ORDER, over any program, WALKED ONCE, as Mix; and TWO OPERATIONS OF WHICH EITHER MAY COME FIRST: 'wp_region_mix2'. The order names (i, 0): a read; (i, 1): a step; (i, j + 2): i and j, in whatever order. No condition but what each theorem says.
-/
import Derived.Test.YtdfjicjlmejonaaMix
namespace Go.Proofs.Ytdfjicjlmejonaa
open Go

section
variable {P : Program} {ops : Array Oper} {Q : Exit → Act → World → Prop} {md : Region.Mode} {S : World → Prop}

/-- how many operations an order names -/
def mixN : List (Nat × Nat) → Nat
  | [] => 0
  | (_, 0) :: r => mixN r + 1
  | (_, 1) :: r => mixN r + 1
  | (_, _ + 2) :: r => mixN r + 2

def mixB2 (md : Region.Mode) (ops : Array Oper) : List (Nat × Nat) → Array Bool → Bool
  | [], listed => (Region.ready md ops listed).isEmpty
  | (i, 0) :: r, listed => (Region.ready md ops listed).contains i && Region.free md ops listed i && mixB2 md ops r (listed.setIfInBounds i true)
  | (i, 1) :: r, listed => (Region.ready md ops listed == [i]) && mixB2 md ops r (listed.setIfInBounds i true)
  | (i, j + 2) :: r, listed => (Region.ready md ops listed == [i, j]) && (Region.ready md ops (listed.setIfInBounds i true) == [j]) && (Region.ready md ops (listed.setIfInBounds j true) == [i]) && (i != j) && mixB2 md ops r ((listed.setIfInBounds i true).setIfInBounds j true)

def wpMix2 (P : Program) (ops : Array Oper) (Q : Exit → Act → World → Prop) (S : World → Prop) : List (Nat × Nat) → Act → World → Prop
  | [], a, w => Q .normal a w
  | (i, 0) :: r, a, w => ∃ o v, ops[i]? = some o ∧ YieldsIf P ops S o v a ∧ wpMix2 P ops Q S r (a.put o.dst v) w
  | (i, 1) :: r, a, w => wpOp P ops Q i (fun a' w' => S w' ∧ wpMix2 P ops Q S r a' w') a w
  | (i, j + 2) :: r, a, w => wpOp P ops Q i (fun a' w' => S w' ∧ wpOp P ops Q j (fun a'' w'' => S w'' ∧ wpMix2 P ops Q S r a'' w'') a' w') a w ∧
      wpOp P ops Q j (fun a' w' => S w' ∧ wpOp P ops Q i (fun a'' w'' => S w'' ∧ wpMix2 P ops Q S r a'' w'') a' w') a w

theorem anyH_only {i : Nat} {fuel : Nat} {listed : Array Bool} {a : Act} {w : World} (hr : Region.ready md ops listed = [i])
    (h : wpOp P ops Q i (fun a' w' => S w' ∧ wpAnyH P md ops Q S fuel (listed.setIfInBounds i true) a' w') a w) : wpAnyH P md ops Q S (fuel + 1) listed a w :=
  wpAnyH_all hr (by simp) fun j hj => by
    obtain rfl : j = i := by simpa using hj
    exact h

theorem mix2_sound (hs : Region.noSelect ops = true) (hQ : ∀ c a d v w, Q (.panic c) (Act.put a d v) w → Q (.panic c) a w) :
    ∀ (r : List (Nat × Nat)) (listed : Array Bool) (a : Act) (w : World), mixB2 md ops r listed = true → S w → wpMix2 P ops Q S r a w → wpAnyH P md ops Q S (mixN r) listed a w
  | [], listed, a, w, hB, _, h => by
    have hr : Region.ready md ops listed = [] := by simpa [mixB2] using hB
    exact wpAnyH_done hr h 0
  | (i, 0) :: r, listed, a, w, hB, hS, h => by
    simp only [mixB2, Bool.and_eq_true] at hB
    obtain ⟨o, v, hi, hy, hr⟩ := h
    exact wpAnyH_take hi hs hB.1.2 hB.1.1 (fun c a w => hQ c a _ _ w) hy hS (mix2_sound hs hQ r _ _ _ hB.2 hS hr)
  | (i, 1) :: r, listed, a, w, hB, hS, h => by
    simp only [mixB2, Bool.and_eq_true, beq_iff_eq] at hB
    exact anyH_only hB.1 (wpOp_mono (fun a' w' ⟨hS', h'⟩ => ⟨hS', mix2_sound hs hQ r _ a' w' hB.2 hS' h'⟩) h)
  | (i, j + 2) :: r, listed, a, w, hB, hS, h => by
    simp only [mixB2, Bool.and_eq_true, beq_iff_eq, bne_iff_ne, ne_eq] at hB
    obtain ⟨⟨⟨⟨h1, h2⟩, h3⟩, h4⟩, h5⟩ := hB
    refine wpAnyH_all h1 (by simp) fun k hk => ?_
    rcases (by simpa using hk : k = i ∨ k = j) with rfl | rfl
    · exact wpOp_mono (fun a' w' ⟨hS', h'⟩ => ⟨hS', anyH_only h2 (wpOp_mono (fun a'' w'' ⟨hS'', h''⟩ => ⟨hS'', mix2_sound hs hQ r _ a'' w'' h5 hS'' h''⟩) h')⟩) h.1
    · refine wpOp_mono (fun a' w' ⟨hS', h'⟩ => ⟨hS', anyH_only h3 (wpOp_mono (fun a'' w'' ⟨hS'', h''⟩ => ⟨hS'', ?_⟩) h')⟩) h.2
      rw [Array.setIfInBounds_comm _ _ (Ne.symm h4)]
      exact mix2_sound hs hQ r _ a'' w'' h5 hS'' h''

/-- THE BEGINNING -/
theorem wp_region_mix2 {id : Nat} {l : List Oper} (order : List (Nat × Nat)) (S : World → Prop) {a : Act} {w : World} (hm : P.follows .mixedOrders = true) (hs : Region.noSelect l.toArray = true) (hB : mixB2 .any l.toArray order (Array.replicate l.length false) = true) (hlen : mixN order = l.length)
    (hS : S w.drew) (h : wpMix2 P l.toArray (NoPanic Q) S order a w.drew) : (Code.region id l.toArray true).wp P Q a w := by
  refine wp_region_noPanic (wp_region_held (S := S) hm ?_)
  have := mix2_sound (md := .any) (Q := NoPanic Q) hs (fun _ _ _ _ _ h => h) order (Array.replicate l.length false) a w.drew hB hS h
  rw [hlen] at this
  simpa using this

theorem mix2_read {i : Nat} {r : List (Nat × Nat)} {o : Oper} {v : Value} {a : Act} {w : World} (hi : ops[i]? = some o) (hw : Region.wanted o (yielded ops a.tmps) = true)
    (hy : ∀ w', S w' → (execOp a.eval o).run P w' = .ok (.value v) w') (h : wpMix2 P ops Q S r (a.put o.dst v) w) : wpMix2 P ops Q S ((i, 0) :: r) a w :=
  ⟨o, v, hi, .inl ⟨hw, hy⟩, h⟩
theorem mix2_step {i : Nat} {r : List (Nat × Nat)} {o : Oper} {a : Act} {w : World} (hi : ops[i]? = some o)
    (h : ∀ K : Act → World → Prop, Shut (∀ a w, S w → wpMix2 P ops Q S r a w → K a w) → if Region.wanted o (yielded ops a.tmps) = true then Oper.wp P o a w K Q else K (a.put o.dst undef) w) : wpMix2 P ops Q S ((i, 1) :: r) a w :=
  wpOp_step hi fun K hK => h K fun a w hS hW => hK a w ⟨hS, hW⟩
/-- one operation behind which another one is handed on -/
def wpThen (P : Program) (ops : Array Oper) (Q : Exit → Act → World → Prop) (S : World → Prop) (i : Nat) (r : List (Nat × Nat)) (a : Act) (w : World) : Prop := wpOp P ops Q i (fun a'' w'' => S w'' ∧ wpMix2 P ops Q S r a'' w'') a w
theorem then_step {i : Nat} {r : List (Nat × Nat)} {o : Oper} {a : Act} {w : World} (hi : ops[i]? = some o)
    (h : ∀ K : Act → World → Prop, Shut (∀ a w, S w → wpMix2 P ops Q S r a w → K a w) → if Region.wanted o (yielded ops a.tmps) = true then Oper.wp P o a w K Q else K (a.put o.dst undef) w) : wpThen P ops Q S i r a w :=
  wpOp_step hi fun K hK => h K fun a w hS hW => hK a w ⟨hS, hW⟩
theorem mix2_fork {i j : Nat} {r : List (Nat × Nat)} {oi oj : Oper} {a : Act} {w : World} (hi : ops[i]? = some oi) (hj : ops[j]? = some oj)
    (h1 : ∀ K : Act → World → Prop, Shut (∀ a w, S w → wpThen P ops Q S j r a w → K a w) → if Region.wanted oi (yielded ops a.tmps) = true then Oper.wp P oi a w K Q else K (a.put oi.dst undef) w)
    (h2 : ∀ K : Act → World → Prop, Shut (∀ a w, S w → wpThen P ops Q S i r a w → K a w) → if Region.wanted oj (yielded ops a.tmps) = true then Oper.wp P oj a w K Q else K (a.put oj.dst undef) w) : wpMix2 P ops Q S ((i, j + 2) :: r) a w :=
  ⟨wpOp_step hi fun K hK => h1 K fun a w hS hW => hK a w ⟨hS, hW⟩, wpOp_step hj fun K hK => h2 K fun a w hS hW => hK a w ⟨hS, hW⟩⟩
theorem mix2_done {a : Act} {w : World} (h : Q .normal a w) : wpMix2 P ops (NoPanic Q) S [] a w := h
end
end Go.Proofs.Ytdfjicjlmejonaa
