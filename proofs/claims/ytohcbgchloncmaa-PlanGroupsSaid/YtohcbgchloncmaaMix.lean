/-
  A REGION THAT DRAWS ITS ORDER, over any program, WALKED ONCE: 'wp_region_mix'. The prover names an order of the operations; each is either a READ (it yields one value in every world that meets S, and leaves that world), or a STEP (it is the only one that may come up; behind it S is shown anew). No condition but what each theorem says.
  A REGION THAT DRAWS ITS ORDER, over any program, WALKED ONCE, as Mix; and TWO OPERATIONS OF WHICH EITHER MAY COME FIRST: 'wp_region_mix2'. The order names (i, 0): a read; (i, 1): a step; (i, j + 2): i and j, in whatever order. No condition but what each theorem says.
  A REGION THAT DRAWS ITS ORDER, over any program, WALKED ONCE, as Mix; its STORE L may turn what its reads have read: 'wp_region_mix3'. What the reads need (S) is asked only as long as L has not come up: a read that L waits for, however far, is never behind it. The order names (i, 0): a read ahead of L; (i, 1): a step ahead of L; (i, 2): L, or a step behind it; (i, 3): what yields its value in every world, wherever it stands. No condition but what each theorem says.
  A REGION THAT DRAWS ITS ORDER, over any program, WALKED ONCE, as Mix; where two operations may come up at a time the order FORKS ('both i ri j rj': behind i comes ri, behind j comes rj): 'wp_region_mix4'. No condition but what each theorem says.
-/
import Derived.Deep.RegionHeld3
import Derived.Tactics2
namespace Go.Proofs.Ytohcbgchloncmaa
open Go

section
variable {P : Program} {ops : Array Oper} {Q : Exit → Act → World → Prop} {md : Region.Mode} {S : World → Prop}

def mixB (md : Region.Mode) (ops : Array Oper) : List (Nat × Bool) → Array Bool → Bool
  | [], listed => (Region.ready md ops listed).isEmpty
  | (i, false) :: r, listed => (Region.ready md ops listed).contains i && Region.free md ops listed i && mixB md ops r (listed.setIfInBounds i true)
  | (i, true) :: r, listed => (Region.ready md ops listed == [i]) && mixB md ops r (listed.setIfInBounds i true)

def wpMix (P : Program) (ops : Array Oper) (Q : Exit → Act → World → Prop) : List (Nat × Bool) → (World → Prop) → Act → World → Prop
  | [], _, a, w => Q .normal a w
  | (i, false) :: r, S, a, w => ∃ o v, ops[i]? = some o ∧ YieldsIf P ops S o v a ∧ wpMix P ops Q r S (a.put o.dst v) w
  | (i, true) :: r, S, a, w => wpOp P ops Q i (fun a' w' => ∃ T : World → Prop, (∀ u, T u → S u) ∧ T w' ∧ wpMix P ops Q r T a' w') a w

/-- what is held may be less than what was shown -/
theorem anyH_mono {T : World → Prop} (hT : ∀ u, T u → S u) : ∀ (fuel : Nat) (listed : Array Bool) (a : Act) (w : World), wpAnyH P md ops Q T fuel listed a w → wpAnyH P md ops Q S fuel listed a w
  | 0, _, _, _, h => h
  | fuel + 1, _, _, _, h => ⟨h.1, fun i hi => wpOp_mono (fun a' w' h' => ⟨hT _ h'.1, anyH_mono hT fuel _ a' w' h'.2⟩) (h.2 i hi)⟩

theorem mix_sound (hs : Region.noSelect ops = true) (hQ : ∀ c a d v w, Q (.panic c) (Act.put a d v) w → Q (.panic c) a w) :
    ∀ (r : List (Nat × Bool)) (S : World → Prop) (listed : Array Bool) (a : Act) (w : World), mixB md ops r listed = true → S w → wpMix P ops Q r S a w → wpAnyH P md ops Q S r.length listed a w
  | [], _, listed, a, w, hB, _, h => by
    have hr : Region.ready md ops listed = [] := by simpa [mixB] using hB
    exact wpAnyH_done hr h 0
  | (i, false) :: r, _, listed, a, w, hB, hS, h => by
    simp only [mixB, Bool.and_eq_true] at hB
    obtain ⟨o, v, hi, hy, hr⟩ := h
    exact wpAnyH_take hi hs hB.1.2 hB.1.1 (fun c a w => hQ c a _ _ w) hy hS (mix_sound hs hQ r _ _ _ _ hB.2 hS hr)
  | (i, true) :: r, _, listed, a, w, hB, hS, h => by
    simp only [mixB, Bool.and_eq_true, beq_iff_eq] at hB
    refine wpAnyH_all hB.1 (by simp) fun j hj => ?_
    obtain rfl : j = i := by simpa using hj
    exact wpOp_mono (fun a' w' ⟨T, hT, hTw, h'⟩ => ⟨hT _ hTw, anyH_mono hT _ _ _ _ (mix_sound hs hQ r T _ a' w' hB.2 hTw h')⟩) h

/-- THE BEGINNING: the order, S of the world behind the draw, and the walk. -/
theorem wp_region_mix {id : Nat} {l : List Oper} (order : List (Nat × Bool)) (S : World → Prop) {a : Act} {w : World} (hm : P.follows .mixedOrders = true) (hs : Region.noSelect l.toArray = true) (hB : mixB .any l.toArray order (Array.replicate l.length false) = true) (hlen : order.length = l.length)
    (hS : S w.drew) (h : wpMix P l.toArray (NoPanic Q) order S a w.drew) : (Code.region id l.toArray true).wp P Q a w := by
  refine wp_region_noPanic (wp_region_held (S := S) hm ?_)
  have := mix_sound (md := .any) (Q := NoPanic Q) hs (fun _ _ _ _ _ h => h) order S (Array.replicate l.length false) a w.drew hB hS h
  rw [hlen] at this
  simpa using this

theorem mix_read {i : Nat} {r : List (Nat × Bool)} {o : Oper} {v : Value} {a : Act} {w : World} (hi : ops[i]? = some o) (hw : Region.wanted o (yielded ops a.tmps) = true)
    (hy : ∀ w', S w' → (execOp a.eval o).run P w' = .ok (.value v) w') (h : wpMix P ops Q r S (a.put o.dst v) w) : wpMix P ops Q ((i, false) :: r) S a w :=
  ⟨o, v, hi, .inl ⟨hw, hy⟩, h⟩

theorem mix_skip {i : Nat} {r : List (Nat × Bool)} {o : Oper} {a : Act} {w : World} (hi : ops[i]? = some o) (hw : Region.wanted o (yielded ops a.tmps) = false)
    (h : wpMix P ops Q r S (a.put o.dst undef) w) : wpMix P ops Q ((i, false) :: r) S a w :=
  ⟨o, undef, hi, .inr ⟨hw, rfl⟩, h⟩

theorem mix_step {i : Nat} {r : List (Nat × Bool)} {o : Oper} {a : Act} {w : World} (hi : ops[i]? = some o)
    (h : ∀ K : Act → World → Prop, Shut (∀ a w, S w → wpMix P ops Q r S a w → K a w) → if Region.wanted o (yielded ops a.tmps) = true then Oper.wp P o a w K Q else K (a.put o.dst undef) w) : wpMix P ops Q ((i, true) :: r) S a w :=
  wpOp_step hi fun K hK => h K fun a w hS hW => hK a w ⟨S, fun _ h => h, hS, hW⟩

/-- a step behind which more is held -/
theorem mix_more {i : Nat} {r : List (Nat × Bool)} {o : Oper} {a : Act} {w : World} (hi : ops[i]? = some o)
    (h : ∀ K : Act → World → Prop, Shut (∀ (T : World → Prop) a w, (∀ u, T u → S u) → T w → wpMix P ops Q r T a w → K a w) → if Region.wanted o (yielded ops a.tmps) = true then Oper.wp P o a w K Q else K (a.put o.dst undef) w) : wpMix P ops Q ((i, true) :: r) S a w :=
  wpOp_step hi fun K hK => h K fun T a w hT hS hW => hK a w ⟨T, hT, hS, hW⟩

theorem mix_done {a : Act} {w : World} (h : Q .normal a w) : wpMix P ops (NoPanic Q) [] S a w := h

end

end Go.Proofs.Ytohcbgchloncmaa

namespace Go.Proofs.Ytohcbgchloncmaa
open Go

section
variable {P : Program} {ops : Array Oper} {Q : Exit → Act → World → Prop} {md : Region.Mode} {S : World → Prop}

/-- how many operations an order names -/
def mixN : List (Nat × Nat) → Nat
  | [] => 0
  | (_, 0) :: r => mixN r + 1
  | (_, 1) :: r => mixN r + 1
  | (_, _ + 2) :: r => mixN r + 2

def mixB2 (md : Region.Mode) (ops : Array Oper) : List (Nat × Nat) → Array Bool → Bool
  | [], listed => (Region.ready md ops listed).isEmpty
  | (i, 0) :: r, listed => (Region.ready md ops listed).contains i && Region.free md ops listed i && mixB2 md ops r (listed.setIfInBounds i true)
  | (i, 1) :: r, listed => (Region.ready md ops listed == [i]) && mixB2 md ops r (listed.setIfInBounds i true)
  | (i, j + 2) :: r, listed => (Region.ready md ops listed == [i, j]) && (Region.ready md ops (listed.setIfInBounds i true) == [j]) && (Region.ready md ops (listed.setIfInBounds j true) == [i]) && (i != j) && mixB2 md ops r ((listed.setIfInBounds i true).setIfInBounds j true)

def wpMix2 (P : Program) (ops : Array Oper) (Q : Exit → Act → World → Prop) (S : World → Prop) : List (Nat × Nat) → Act → World → Prop
  | [], a, w => Q .normal a w
  | (i, 0) :: r, a, w => ∃ o v, ops[i]? = some o ∧ YieldsIf P ops S o v a ∧ wpMix2 P ops Q S r (a.put o.dst v) w
  | (i, 1) :: r, a, w => wpOp P ops Q i (fun a' w' => S w' ∧ wpMix2 P ops Q S r a' w') a w
  | (i, j + 2) :: r, a, w => wpOp P ops Q i (fun a' w' => S w' ∧ wpOp P ops Q j (fun a'' w'' => S w'' ∧ wpMix2 P ops Q S r a'' w'') a' w') a w ∧
      wpOp P ops Q j (fun a' w' => S w' ∧ wpOp P ops Q i (fun a'' w'' => S w'' ∧ wpMix2 P ops Q S r a'' w'') a' w') a w

theorem anyH_only {i : Nat} {fuel : Nat} {listed : Array Bool} {a : Act} {w : World} (hr : Region.ready md ops listed = [i])
    (h : wpOp P ops Q i (fun a' w' => S w' ∧ wpAnyH P md ops Q S fuel (listed.setIfInBounds i true) a' w') a w) : wpAnyH P md ops Q S (fuel + 1) listed a w :=
  wpAnyH_all hr (by simp) fun j hj => by
    obtain rfl : j = i := by simpa using hj
    exact h

theorem mix2_sound (hs : Region.noSelect ops = true) (hQ : ∀ c a d v w, Q (.panic c) (Act.put a d v) w → Q (.panic c) a w) :
    ∀ (r : List (Nat × Nat)) (listed : Array Bool) (a : Act) (w : World), mixB2 md ops r listed = true → S w → wpMix2 P ops Q S r a w → wpAnyH P md ops Q S (mixN r) listed a w
  | [], listed, a, w, hB, _, h => by
    have hr : Region.ready md ops listed = [] := by simpa [mixB2] using hB
    exact wpAnyH_done hr h 0
  | (i, 0) :: r, listed, a, w, hB, hS, h => by
    simp only [mixB2, Bool.and_eq_true] at hB
    obtain ⟨o, v, hi, hy, hr⟩ := h
    exact wpAnyH_take hi hs hB.1.2 hB.1.1 (fun c a w => hQ c a _ _ w) hy hS (mix2_sound hs hQ r _ _ _ hB.2 hS hr)
  | (i, 1) :: r, listed, a, w, hB, hS, h => by
    simp only [mixB2, Bool.and_eq_true, beq_iff_eq] at hB
    exact anyH_only hB.1 (wpOp_mono (fun a' w' ⟨hS', h'⟩ => ⟨hS', mix2_sound hs hQ r _ a' w' hB.2 hS' h'⟩) h)
  | (i, j + 2) :: r, listed, a, w, hB, hS, h => by
    simp only [mixB2, Bool.and_eq_true, beq_iff_eq, bne_iff_ne, ne_eq] at hB
    obtain ⟨⟨⟨⟨h1, h2⟩, h3⟩, h4⟩, h5⟩ := hB
    refine wpAnyH_all h1 (by simp) fun k hk => ?_
    rcases (by simpa using hk : k = i ∨ k = j) with rfl | rfl
    · exact wpOp_mono (fun a' w' ⟨hS', h'⟩ => ⟨hS', anyH_only h2 (wpOp_mono (fun a'' w'' ⟨hS'', h''⟩ => ⟨hS'', mix2_sound hs hQ r _ a'' w'' h5 hS'' h''⟩) h')⟩) h.1
    · refine wpOp_mono (fun a' w' ⟨hS', h'⟩ => ⟨hS', anyH_only h3 (wpOp_mono (fun a'' w'' ⟨hS'', h''⟩ => ⟨hS'', ?_⟩) h')⟩) h.2
      rw [Array.setIfInBounds_comm _ _ (Ne.symm h4)]
      exact mix2_sound hs hQ r _ a'' w'' h5 hS'' h''

/-- THE BEGINNING -/
theorem wp_region_mix2 {id : Nat} {l : List Oper} (order : List (Nat × Nat)) (S : World → Prop) {a : Act} {w : World} (hm : P.follows .mixedOrders = true) (hs : Region.noSelect l.toArray = true) (hB : mixB2 .any l.toArray order (Array.replicate l.length false) = true) (hlen : mixN order = l.length)
    (hS : S w.drew) (h : wpMix2 P l.toArray (NoPanic Q) S order a w.drew) : (Code.region id l.toArray true).wp P Q a w := by
  refine wp_region_noPanic (wp_region_held (S := S) hm ?_)
  have := mix2_sound (md := .any) (Q := NoPanic Q) hs (fun _ _ _ _ _ h => h) order (Array.replicate l.length false) a w.drew hB hS h
  rw [hlen] at this
  simpa using this

theorem mix2_read {i : Nat} {r : List (Nat × Nat)} {o : Oper} {v : Value} {a : Act} {w : World} (hi : ops[i]? = some o) (hw : Region.wanted o (yielded ops a.tmps) = true)
    (hy : ∀ w', S w' → (execOp a.eval o).run P w' = .ok (.value v) w') (h : wpMix2 P ops Q S r (a.put o.dst v) w) : wpMix2 P ops Q S ((i, 0) :: r) a w :=
  ⟨o, v, hi, .inl ⟨hw, hy⟩, h⟩

theorem mix2_step {i : Nat} {r : List (Nat × Nat)} {o : Oper} {a : Act} {w : World} (hi : ops[i]? = some o)
    (h : ∀ K : Act → World → Prop, Shut (∀ a w, S w → wpMix2 P ops Q S r a w → K a w) → if Region.wanted o (yielded ops a.tmps) = true then Oper.wp P o a w K Q else K (a.put o.dst undef) w) : wpMix2 P ops Q S ((i, 1) :: r) a w :=
  wpOp_step hi fun K hK => h K fun a w hS hW => hK a w ⟨hS, hW⟩

/-- one operation behind which another one is handed on -/
def wpThen (P : Program) (ops : Array Oper) (Q : Exit → Act → World → Prop) (S : World → Prop) (i : Nat) (r : List (Nat × Nat)) (a : Act) (w : World) : Prop := wpOp P ops Q i (fun a'' w'' => S w'' ∧ wpMix2 P ops Q S r a'' w'') a w

theorem then_step {i : Nat} {r : List (Nat × Nat)} {o : Oper} {a : Act} {w : World} (hi : ops[i]? = some o)
    (h : ∀ K : Act → World → Prop, Shut (∀ a w, S w → wpMix2 P ops Q S r a w → K a w) → if Region.wanted o (yielded ops a.tmps) = true then Oper.wp P o a w K Q else K (a.put o.dst undef) w) : wpThen P ops Q S i r a w :=
  wpOp_step hi fun K hK => h K fun a w hS hW => hK a w ⟨hS, hW⟩

theorem mix2_fork {i j : Nat} {r : List (Nat × Nat)} {oi oj : Oper} {a : Act} {w : World} (hi : ops[i]? = some oi) (hj : ops[j]? = some oj)
    (h1 : ∀ K : Act → World → Prop, Shut (∀ a w, S w → wpThen P ops Q S j r a w → K a w) → if Region.wanted oi (yielded ops a.tmps) = true then Oper.wp P oi a w K Q else K (a.put oi.dst undef) w)
    (h2 : ∀ K : Act → World → Prop, Shut (∀ a w, S w → wpThen P ops Q S i r a w → K a w) → if Region.wanted oj (yielded ops a.tmps) = true then Oper.wp P oj a w K Q else K (a.put oj.dst undef) w) : wpMix2 P ops Q S ((i, j + 2) :: r) a w :=
  ⟨wpOp_step hi fun K hK => h1 K fun a w hS hW => hK a w ⟨hS, hW⟩, wpOp_step hj fun K hK => h2 K fun a w hS hW => hK a w ⟨hS, hW⟩⟩

theorem mix2_done {a : Act} {w : World} (h : Q .normal a w) : wpMix2 P ops (NoPanic Q) S [] a w := h

end

end Go.Proofs.Ytohcbgchloncmaa

namespace Go.Proofs.Ytohcbgchloncmaa
open Go

section
variable {P : Program} {ops : Array Oper} {Q : Exit → Act → World → Prop} {md : Region.Mode} {S : World → Prop} {L : Nat}

/-- what is listed waits for nothing that isn't -/
def closedO (md : Region.Mode) (ops : Array Oper) (listed : Array Bool) : Prop :=
  ∀ k ok, ops[k]? = some ok → listed.getD k false = true → ∀ e ∈ ok.after, Region.binds md e = true → listed.getD e.on false = true

theorem closedO.add {listed : Array Bool} (h : closedO md ops listed) {j : Nat} (hj : j ∈ Region.ready md ops listed) : closedO md ops (listed.setIfInBounds j true) := by
  intro k ok hk hl e he hb
  by_cases hjk : j = k
  · subst hjk
    obtain ⟨_, o, ho, hall⟩ := mem_ready.1 hj
    rw [hk] at ho
    injection ho with ho
    subst ho
    exact getD_set_true (hall e he hb)
  · rw [getD_set_ne false hjk] at hl
    exact getD_set_true (h k ok hk hl e he hb)

/-- does k wait for i, however far? -/
def reachB (md : Region.Mode) (ops : Array Oper) (i : Nat) : Nat → Nat → Bool
  | 0, _ => false
  | f + 1, k => match ops[k]? with
    | some o => o.after.any fun e => Region.binds md e && (e.on == i || reachB md ops i f e.on)
    | none => false

theorem reach_listed {listed : Array Bool} (hc : closedO md ops listed) {i : Nat} : ∀ (f k : Nat) (o : Oper), ops[k]? = some o → (∀ e ∈ o.after, Region.binds md e = true → listed.getD e.on false = true) → reachB md ops i f k = true → listed.getD i false = true
  | 0, _, _, _, _, h => by cases h
  | f + 1, k, o, hk, hall, h => by
    rw [reachB, hk] at h
    obtain ⟨e, he, hb⟩ := Array.any_eq_true'.1 h
    simp only [Bool.and_eq_true, Bool.or_eq_true, beq_iff_eq] at hb
    have h1 := hall e he hb.1
    rcases hb.2 with h2 | h2
    · rw [h2] at h1
      exact h1
    · cases ho : ops[e.on]? with
      | none =>
        cases f with
        | zero => cases h2
        | succ f => rw [reachB, ho] at h2; cases h2
      | some o' => exact reach_listed hc f e.on o' ho (hc e.on o' ho h1) h2

/-- whatever order is picked from here on, and S holds behind every operation as long as L has not come up -/
def wpAnyF (P : Program) (md : Region.Mode) (ops : Array Oper) (Q : Exit → Act → World → Prop) (S : World → Prop) (L : Nat) : Nat → Array Bool → Act → World → Prop
  | 0, listed, a, w => Region.ready md ops listed = [] ∧ Q .normal a w
  | fuel + 1, listed, a, w =>
    (Region.ready md ops listed = [] → Q .normal a w) ∧
    ∀ i ∈ Region.ready md ops listed, wpOp P ops Q i (fun a' w' => ((listed.setIfInBounds i true).getD L true = false → S w') ∧ wpAnyF P md ops Q S L fuel (listed.setIfInBounds i true) a' w') a w

theorem wpAny_of_F : ∀ (fuel : Nat) (listed : Array Bool) (a : Act) (w : World), wpAnyF P md ops Q S L fuel listed a w → wpAny P md ops Q fuel listed a w
  | 0, _, _, _, h => h
  | fuel + 1, _, _, _, h => ⟨h.1, fun i hi => wpOp_mono (fun a' w' h' => wpAny_of_F fuel _ a' w' h'.2) (h.2 i hi)⟩

theorem wpAnyF_first {i : Nat} {oi : Oper} {v : Value} (hi : ops[i]? = some oi) (hsel : ∀ (j : Nat) (o : Oper) cs b, ops[j]? = some o → o.op ≠ .select cs b)
    (hQ : ∀ c a w, Q (.panic c) (a.put oi.dst v) w → Q (.panic c) a w) {f : Nat} (hre : reachB md ops i f L = true) (hiL : i ≠ L) :
    ∀ (fuel : Nat) (listed : Array Bool) (a : Act) (w : World),
      (∀ j oj, ops[j]? = some oj → j ≠ i → listed.getD j true = false → (∀ e ∈ oj.after, Region.binds md e = true → e.on ≠ i) → oi.apart ops oj = true) →
      closedO md ops listed → listed.getD L true = false →
      i ∈ Region.ready md ops listed → YieldsIf P ops S oi v a → S w →
      wpAnyF P md ops Q S L fuel (listed.setIfInBounds i true) (a.put oi.dst v) w → wpAnyF P md ops Q S L (fuel + 1) listed a w := by
  intro fuel
  induction fuel with
  | zero =>
    intro listed a w _ _ _ hr hy hS H
    refine ⟨fun h => (by rw [h] at hr; cases hr), fun j hj => ?_⟩
    by_cases hji : j = i
    · subst hji; exact hy.wpOp hi hS ⟨fun _ => hS, H⟩
    · have := ready_mono hj hji
      rw [H.1] at this
      cases this
  | succ fuel ih =>
    intro listed a w hfree hcl hL hr hy hS H
    refine ⟨fun h => (by rw [h] at hr; cases hr), fun j hj => ?_⟩
    by_cases hji : j = i
    · subst hji; exact hy.wpOp hi hS ⟨fun _ => hS, H⟩
    · have h1 := H.2 j (ready_mono hj hji)
      obtain ⟨hjun, oj, hoj, hall⟩ := mem_ready.1 hj
      have hiun : listed.getD i false = false := by
        have h0 := (mem_ready.1 hr).1
        rcases Nat.lt_or_ge i listed.size with h' | h'
        · simp [h'] at h0 ⊢
          exact h0
        · simp [Array.getElem?_eq_none h']
      have hjL : j ≠ L := fun e => by
        subst e
        have := reach_listed hcl f j oj hoj hall hre
        rw [hiun] at this
        cases this
      have hnot : ∀ e ∈ oj.after, Region.binds md e = true → e.on ≠ i := fun e he hb heq => by
        have h1 := hall e he hb
        rw [heq, hiun] at h1
        cases h1
      have h2 := wpOp_putIf hoj (hfree j oj hoj hji hjun hnot) (fun cs b => hsel i oi cs b hi) (fun cs b => hsel j oj cs b hoj) hQ hy h1
      have hfree' : ∀ k ok, ops[k]? = some ok → k ≠ i → (listed.setIfInBounds j true).getD k true = false →
          (∀ e ∈ ok.after, Region.binds md e = true → e.on ≠ i) → oi.apart ops ok = true := fun k ok hk hki hun hno => by
        refine hfree k ok hk hki ?_ hno
        by_cases hjk : j = k
        · subst hjk; exact hjun
        · rw [getD_set_ne true hjk] at hun; exact hun
      have hL1 : (listed.setIfInBounds j true).getD L true = false := by rw [getD_set_ne true hjL]; exact hL
      have hL2 : ((listed.setIfInBounds i true).setIfInBounds j true).getD L true = false := by rw [getD_set_ne true hjL, getD_set_ne true hiL]; exact hL
      refine wpOp_mono (fun a' w' h3 => ⟨fun _ => h3.2.1 hL2, ih (listed.setIfInBounds j true) a' w' hfree' (hcl.add hj) hL1 (ready_mono hr (Ne.symm hji)) h3.1 (h3.2.1 hL2) ?_⟩) h2
      rw [Array.setIfInBounds_comm _ _ hji]
      exact h3.2.2

theorem wpAnyF_free {i : Nat} {oi : Oper} {v : Value} (hi : ops[i]? = some oi) (hsel : ∀ (j : Nat) (o : Oper) cs b, ops[j]? = some o → o.op ≠ .select cs b)
    (hQ : ∀ c a w, Q (.panic c) (a.put oi.dst v) w → Q (.panic c) a w) (hiL : i ≠ L) :
    ∀ (fuel : Nat) (listed : Array Bool) (a : Act) (w : World),
      (∀ j oj, ops[j]? = some oj → j ≠ i → listed.getD j true = false → (∀ e ∈ oj.after, Region.binds md e = true → e.on ≠ i) → oi.apart ops oj = true) →
      i ∈ Region.ready md ops listed → YieldsIf P ops (fun _ => True) oi v a → (listed.getD L true = false → S w) →
      wpAnyF P md ops Q S L fuel (listed.setIfInBounds i true) (a.put oi.dst v) w → wpAnyF P md ops Q S L (fuel + 1) listed a w := by
  intro fuel
  induction fuel with
  | zero =>
    intro listed a w _ hr hy hS H
    refine ⟨fun h => (by rw [h] at hr; cases hr), fun j hj => ?_⟩
    by_cases hji : j = i
    · subst hji; exact hy.wpOp hi trivial ⟨fun e => hS (by rw [getD_set_ne true hiL] at e; exact e), H⟩
    · have := ready_mono hj hji
      rw [H.1] at this
      cases this
  | succ fuel ih =>
    intro listed a w hfree hr hy hS H
    refine ⟨fun h => (by rw [h] at hr; cases hr), fun j hj => ?_⟩
    by_cases hji : j = i
    · subst hji; exact hy.wpOp hi trivial ⟨fun e => hS (by rw [getD_set_ne true hiL] at e; exact e), H⟩
    · have h1 := H.2 j (ready_mono hj hji)
      obtain ⟨hjun, oj, hoj, hall⟩ := mem_ready.1 hj
      have hiun : listed.getD i false = false := by
        have h0 := (mem_ready.1 hr).1
        rcases Nat.lt_or_ge i listed.size with h' | h'
        · simp [h'] at h0 ⊢
          exact h0
        · simp [Array.getElem?_eq_none h']
      have hnot : ∀ e ∈ oj.after, Region.binds md e = true → e.on ≠ i := fun e he hb heq => by
        have h1 := hall e he hb
        rw [heq, hiun] at h1
        cases h1
      have h2 := wpOp_putIf hoj (hfree j oj hoj hji hjun hnot) (fun cs b => hsel i oi cs b hi) (fun cs b => hsel j oj cs b hoj) hQ hy h1
      have hfree' : ∀ k ok, ops[k]? = some ok → k ≠ i → (listed.setIfInBounds j true).getD k true = false →
          (∀ e ∈ ok.after, Region.binds md e = true → e.on ≠ i) → oi.apart ops ok = true := fun k ok hk hki hun hno => by
        refine hfree k ok hk hki ?_ hno
        by_cases hjk : j = k
        · subst hjk; exact hjun
        · rw [getD_set_ne true hjk] at hun; exact hun
      have hcomm : (listed.setIfInBounds i true).setIfInBounds j true = (listed.setIfInBounds j true).setIfInBounds i true := Array.setIfInBounds_comm _ _ (Ne.symm hji)
      refine wpOp_mono (fun a' w' h3 => ?_) h2
      have hSj : (listed.setIfInBounds j true).getD L true = false → S w' := fun e => h3.2.1 (by rw [hcomm, getD_set_ne true hiL]; exact e)
      exact ⟨hSj, ih (listed.setIfInBounds j true) a' w' hfree' (ready_mono hr (Ne.symm hji)) h3.1 hSj (by rw [← hcomm]; exact h3.2.2)⟩

def mixB3 (md : Region.Mode) (ops : Array Oper) (L : Nat) : List (Nat × Nat) → Array Bool → Bool
  | [], listed => (Region.ready md ops listed).isEmpty
  | (i, 0) :: r, listed => (Region.ready md ops listed).contains i && (Region.free md ops listed i && (reachB md ops i ops.size L && (i != L && (!(listed.getD L true) && mixB3 md ops L r (listed.setIfInBounds i true)))))
  | (i, 1) :: r, listed => (Region.ready md ops listed == [i]) && mixB3 md ops L r (listed.setIfInBounds i true)
  | (i, 2) :: r, listed => (Region.ready md ops listed == [i]) && ((listed.setIfInBounds i true).getD L true && mixB3 md ops L r (listed.setIfInBounds i true))
  | (i, _ + 3) :: r, listed => (Region.ready md ops listed).contains i && (Region.free md ops listed i && (i != L && mixB3 md ops L r (listed.setIfInBounds i true)))

def wpMix3 (P : Program) (ops : Array Oper) (Q : Exit → Act → World → Prop) (S : World → Prop) : List (Nat × Nat) → Act → World → Prop
  | [], a, w => Q .normal a w
  | (i, 0) :: r, a, w => ∃ o v, ops[i]? = some o ∧ YieldsIf P ops S o v a ∧ wpMix3 P ops Q S r (a.put o.dst v) w
  | (i, 1) :: r, a, w => wpOp P ops Q i (fun a' w' => S w' ∧ wpMix3 P ops Q S r a' w') a w
  | (i, 2) :: r, a, w => wpOp P ops Q i (fun a' w' => wpMix3 P ops Q S r a' w') a w
  | (i, _ + 3) :: r, a, w => ∃ o v, ops[i]? = some o ∧ YieldsIf P ops (fun _ => True) o v a ∧ wpMix3 P ops Q S r (a.put o.dst v) w

theorem mix3_sound (hs : Region.noSelect ops = true) (hQ : ∀ c a d v w, Q (.panic c) (Act.put a d v) w → Q (.panic c) a w) :
    ∀ (r : List (Nat × Nat)) (listed : Array Bool) (a : Act) (w : World), mixB3 md ops L r listed = true → closedO md ops listed → (listed.getD L true = false → S w) → wpMix3 P ops Q S r a w → wpAnyF P md ops Q S L r.length listed a w
  | [], listed, a, w, hB, _, _, h => by
    have hr : Region.ready md ops listed = [] := by simpa [mixB3] using hB
    exact ⟨hr, h⟩
  | (i, 0) :: r, listed, a, w, hB, hc, hS, h => by
    simp only [mixB3, Bool.and_eq_true, Bool.not_eq_true', bne_iff_ne, ne_eq] at hB
    obtain ⟨h1, h2, h3, h4, h5, h6⟩ := hB
    obtain ⟨o, v, hi, hy, hr⟩ := h
    have hri : i ∈ Region.ready md ops listed := by simpa using h1
    exact wpAnyF_first hi (Region.noSelect_spec hs) (fun c a w => hQ c a _ _ w) h3 h4 r.length listed a w (Region.free_spec hi h2) hc h5 hri hy (hS h5) (mix3_sound hs hQ r _ _ _ h6 (hc.add hri) (fun _ => hS h5) hr)
  | (i, 1) :: r, listed, a, w, hB, hc, hS, h => by
    simp only [mixB3, Bool.and_eq_true, beq_iff_eq] at hB
    obtain ⟨h1, h6⟩ := hB
    refine ⟨fun h0 => (by rw [h1] at h0; cases h0), fun j hj => ?_⟩
    have hj' := hj
    rw [h1] at hj'
    obtain rfl : j = i := by simpa using hj'
    exact wpOp_mono (fun a' w' ⟨hS', h'⟩ => ⟨fun _ => hS', mix3_sound hs hQ r _ a' w' h6 (hc.add hj) (fun _ => hS') h'⟩) h
  | (i, 2) :: r, listed, a, w, hB, hc, hS, h => by
    simp only [mixB3, Bool.and_eq_true, beq_iff_eq] at hB
    obtain ⟨h1, h2, h6⟩ := hB
    refine ⟨fun h0 => (by rw [h1] at h0; cases h0), fun j hj => ?_⟩
    have hj' := hj
    rw [h1] at hj'
    obtain rfl : j = i := by simpa using hj'
    have hno : ∀ {p : Prop}, (listed.setIfInBounds j true).getD L true = false → p := fun e => by rw [h2] at e; cases e
    exact wpOp_mono (fun a' w' h' => ⟨fun e => hno e, mix3_sound hs hQ r _ a' w' h6 (hc.add hj) (fun e => hno e) h'⟩) h
  | (i, _ + 3) :: r, listed, a, w, hB, hc, hS, h => by
    simp only [mixB3, Bool.and_eq_true, bne_iff_ne, ne_eq] at hB
    obtain ⟨h1, h2, h4, h6⟩ := hB
    obtain ⟨o, v, hi, hy, hr⟩ := h
    have hri : i ∈ Region.ready md ops listed := by simpa using h1
    exact wpAnyF_free hi (Region.noSelect_spec hs) (fun c a w => hQ c a _ _ w) h4 r.length listed a w (Region.free_spec hi h2) hri hy hS (mix3_sound hs hQ r _ _ _ h6 (hc.add hri) (fun e => hS (by rw [getD_set_ne true h4] at e; exact e)) hr)

/-- THE BEGINNING -/
theorem wp_region_mix3 {id : Nat} {l : List Oper} (L : Nat) (order : List (Nat × Nat)) (S : World → Prop) {a : Act} {w : World} (hm : P.follows .mixedOrders = true) (hs : Region.noSelect l.toArray = true) (hB : mixB3 .any l.toArray L order (Array.replicate l.length false) = true) (hlen : order.length = l.length)
    (hS : S w.drew) (h : wpMix3 P l.toArray (NoPanic Q) S order a w.drew) : (Code.region id l.toArray true).wp P Q a w := by
  refine wp_region_noPanic (wp_region_any hm (wpAny_of_F (S := S) (L := L) _ _ _ _ ?_))
  have hc : closedO .any l.toArray (Array.replicate l.length false) := fun k ok _ hl => by
    rw [Array.getD_eq_getD_getElem?, Array.getElem?_replicate] at hl
    split at hl <;> cases hl
  have := mix3_sound (md := .any) (Q := NoPanic Q) (L := L) hs (fun _ _ _ _ _ h => h) order (Array.replicate l.length false) a w.drew hB hc (fun _ => hS) h
  rw [hlen] at this
  simpa using this

theorem mix3_read {i : Nat} {r : List (Nat × Nat)} {o : Oper} {v : Value} {a : Act} {w : World} (hi : ops[i]? = some o) (hw : Region.wanted o (yielded ops a.tmps) = true)
    (hy : ∀ w', S w' → (execOp a.eval o).run P w' = .ok (.value v) w') (h : wpMix3 P ops Q S r (a.put o.dst v) w) : wpMix3 P ops Q S ((i, 0) :: r) a w :=
  ⟨o, v, hi, .inl ⟨hw, hy⟩, h⟩

theorem mix3_step {i : Nat} {r : List (Nat × Nat)} {o : Oper} {a : Act} {w : World} (hi : ops[i]? = some o)
    (h : ∀ K : Act → World → Prop, Shut (∀ a w, S w → wpMix3 P ops Q S r a w → K a w) → if Region.wanted o (yielded ops a.tmps) = true then Oper.wp P o a w K Q else K (a.put o.dst undef) w) : wpMix3 P ops Q S ((i, 1) :: r) a w :=
  wpOp_step hi fun K hK => h K fun a w hS hW => hK a w ⟨hS, hW⟩

theorem mix3_store {i : Nat} {r : List (Nat × Nat)} {o : Oper} {a : Act} {w : World} (hi : ops[i]? = some o)
    (h : ∀ K : Act → World → Prop, Shut (∀ a w, wpMix3 P ops Q S r a w → K a w) → if Region.wanted o (yielded ops a.tmps) = true then Oper.wp P o a w K Q else K (a.put o.dst undef) w) : wpMix3 P ops Q S ((i, 2) :: r) a w :=
  wpOp_step hi fun K hK => h K fun a w hW => hK a w hW

theorem mix3_free {i : Nat} {r : List (Nat × Nat)} {o : Oper} {v : Value} {a : Act} {w : World} (hi : ops[i]? = some o) (hw : Region.wanted o (yielded ops a.tmps) = true)
    (hy : ∀ w', (execOp a.eval o).run P w' = .ok (.value v) w') (h : wpMix3 P ops Q S r (a.put o.dst v) w) : wpMix3 P ops Q S ((i, 3) :: r) a w :=
  ⟨o, v, hi, .inl ⟨hw, fun w' _ => hy w'⟩, h⟩

theorem mix3_done {a : Act} {w : World} (h : Q .normal a w) : wpMix3 P ops (NoPanic Q) S [] a w := h

end

end Go.Proofs.Ytohcbgchloncmaa

namespace Go.Proofs.Ytohcbgchloncmaa
open Go

inductive Ord4 where
  | done
  | read (i : Nat) (r : Ord4)
  | step (i : Nat) (r : Ord4)
  | both (i : Nat) (ri : Ord4) (j : Nat) (rj : Ord4)

def Ord4.size : Ord4 → Nat
  | .done => 0
  | .read _ r => r.size + 1
  | .step _ r => r.size + 1
  | .both _ ri _ _ => ri.size + 1

section
variable {P : Program} {ops : Array Oper} {Q : Exit → Act → World → Prop} {md : Region.Mode} {S : World → Prop}

def mixB4 (md : Region.Mode) (ops : Array Oper) : Ord4 → Array Bool → Bool
  | .done, listed => (Region.ready md ops listed).isEmpty
  | .read i r, listed => (Region.ready md ops listed).contains i && Region.free md ops listed i && mixB4 md ops r (listed.setIfInBounds i true)
  | .step i r, listed => (Region.ready md ops listed == [i]) && mixB4 md ops r (listed.setIfInBounds i true)
  | .both i ri j rj, listed => (Region.ready md ops listed == [i, j]) && (ri.size == rj.size) && mixB4 md ops ri (listed.setIfInBounds i true) && mixB4 md ops rj (listed.setIfInBounds j true)

def wpMix4 (P : Program) (ops : Array Oper) (Q : Exit → Act → World → Prop) : Ord4 → (World → Prop) → Act → World → Prop
  | .done, _, a, w => Q .normal a w
  | .read i r, S, a, w => ∃ o v, ops[i]? = some o ∧ YieldsIf P ops S o v a ∧ wpMix4 P ops Q r S (a.put o.dst v) w
  | .step i r, S, a, w => wpOp P ops Q i (fun a' w' => ∃ T : World → Prop, (∀ u, T u → S u) ∧ T w' ∧ wpMix4 P ops Q r T a' w') a w
  | .both i ri j rj, S, a, w => wpOp P ops Q i (fun a' w' => ∃ T : World → Prop, (∀ u, T u → S u) ∧ T w' ∧ wpMix4 P ops Q ri T a' w') a w ∧ wpOp P ops Q j (fun a' w' => ∃ T : World → Prop, (∀ u, T u → S u) ∧ T w' ∧ wpMix4 P ops Q rj T a' w') a w

theorem mix4_sound (hs : Region.noSelect ops = true) (hQ : ∀ c a d v w, Q (.panic c) (Act.put a d v) w → Q (.panic c) a w) :
    ∀ (r : Ord4) (S : World → Prop) (listed : Array Bool) (a : Act) (w : World), mixB4 md ops r listed = true → S w → wpMix4 P ops Q r S a w → wpAnyH P md ops Q S r.size listed a w
  | .done, _, listed, a, w, hB, _, h => by
    have hr : Region.ready md ops listed = [] := by simpa [mixB4] using hB
    exact wpAnyH_done hr h 0
  | .read i r, _, listed, a, w, hB, hS, h => by
    simp only [mixB4, Bool.and_eq_true] at hB
    obtain ⟨o, v, hi, hy, hr⟩ := h
    exact wpAnyH_take hi hs hB.1.2 hB.1.1 (fun c a w => hQ c a _ _ w) hy hS (mix4_sound hs hQ r _ _ _ _ hB.2 hS hr)
  | .step i r, _, listed, a, w, hB, hS, h => by
    simp only [mixB4, Bool.and_eq_true, beq_iff_eq] at hB
    refine wpAnyH_all hB.1 (by simp) fun j hj => ?_
    obtain rfl : j = i := by simpa using hj
    exact wpOp_mono (fun a' w' ⟨T, hT, hTw, h'⟩ => ⟨hT _ hTw, anyH_mono hT _ _ _ _ (mix4_sound hs hQ r T _ a' w' hB.2 hTw h')⟩) h
  | .both i ri j rj, _, listed, a, w, hB, hS, h => by
    simp only [mixB4, Bool.and_eq_true, beq_iff_eq] at hB
    refine wpAnyH_all hB.1.1.1 (by simp) fun k hk => ?_
    rcases (by simpa using hk : k = i ∨ k = j) with rfl | rfl
    · exact wpOp_mono (fun a' w' ⟨T, hT, hTw, h'⟩ => ⟨hT _ hTw, anyH_mono hT _ _ _ _ (mix4_sound hs hQ ri T _ a' w' hB.1.2 hTw h')⟩) h.1
    · refine wpOp_mono (fun a' w' ⟨T, hT, hTw, h'⟩ => ⟨hT _ hTw, anyH_mono hT _ _ _ _ ?_⟩) h.2
      have := mix4_sound hs hQ rj T _ a' w' hB.2 hTw h'
      rw [← hB.1.1.2] at this
      exact this

/-- THE BEGINNING: the order, S of the world behind the draw, and the walk. -/
theorem wp_region_mix4 {id : Nat} {l : List Oper} (order : Ord4) (S : World → Prop) {a : Act} {w : World} (hm : P.follows .mixedOrders = true) (hs : Region.noSelect l.toArray = true) (hB : mixB4 .any l.toArray order (Array.replicate l.length false) = true) (hlen : order.size = l.length)
    (hS : S w.drew) (h : wpMix4 P l.toArray (NoPanic Q) order S a w.drew) : (Code.region id l.toArray true).wp P Q a w := by
  refine wp_region_noPanic (wp_region_held (S := S) hm ?_)
  have := mix4_sound (md := .any) (Q := NoPanic Q) hs (fun _ _ _ _ _ h => h) order S (Array.replicate l.length false) a w.drew hB hS h
  rw [hlen] at this
  simpa using this

theorem mix4_read {i : Nat} {r : Ord4} {o : Oper} {v : Value} {a : Act} {w : World} (hi : ops[i]? = some o) (hw : Region.wanted o (yielded ops a.tmps) = true)
    (hy : ∀ w', S w' → (execOp a.eval o).run P w' = .ok (.value v) w') (h : wpMix4 P ops Q r S (a.put o.dst v) w) : wpMix4 P ops Q (.read i r) S a w :=
  ⟨o, v, hi, .inl ⟨hw, hy⟩, h⟩

theorem mix4_skip {i : Nat} {r : Ord4} {o : Oper} {a : Act} {w : World} (hi : ops[i]? = some o) (hw : Region.wanted o (yielded ops a.tmps) = false)
    (h : wpMix4 P ops Q r S (a.put o.dst undef) w) : wpMix4 P ops Q (.read i r) S a w :=
  ⟨o, undef, hi, .inr ⟨hw, rfl⟩, h⟩

theorem mix4_step {i : Nat} {r : Ord4} {o : Oper} {a : Act} {w : World} (hi : ops[i]? = some o)
    (h : ∀ K : Act → World → Prop, Shut (∀ a w, S w → wpMix4 P ops Q r S a w → K a w) → if Region.wanted o (yielded ops a.tmps) = true then Oper.wp P o a w K Q else K (a.put o.dst undef) w) : wpMix4 P ops Q (.step i r) S a w :=
  wpOp_step hi fun K hK => h K fun a w hS hW => hK a w ⟨S, fun _ h => h, hS, hW⟩

/-- two that may come up: one walk each -/
theorem mix4_both {i j : Nat} {ri rj : Ord4} {a : Act} {w : World} (h1 : wpMix4 P ops Q (.step i ri) S a w) (h2 : wpMix4 P ops Q (.step j rj) S a w) : wpMix4 P ops Q (.both i ri j rj) S a w := ⟨h1, h2⟩

theorem mix4_done {a : Act} {w : World} (h : Q .normal a w) : wpMix4 P ops (NoPanic Q) .done S a w := h

end

end Go.Proofs.Ytohcbgchloncmaa
