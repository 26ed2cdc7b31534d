/-
  A REGION THAT DRAWS ITS ORDER, over any program, WALKED ONCE: 'wp_region_mix'. The prover names an order of the operations; each is either a READ (it yields one value in every world that meets S, and leaves that world), or a STEP (it is the only one that may come up; behind it S is shown anew). No condition but what each theorem says.
  A REGION THAT DRAWS ITS ORDER, over any program, WALKED ONCE, as Mix; and TWO OPERATIONS OF WHICH EITHER MAY COME FIRST: 'wp_region_mix2'. The order names (i, 0): a read; (i, 1): a step; (i, j + 2): i and j, in whatever order. No condition but what each theorem says.
  A REGION THAT DRAWS ITS ORDER, over any program, WALKED ONCE, as Mix; its STORE L may turn what its reads have read: 'wp_region_mix3'. What the reads need (S) is asked only as long as L has not come up: a read that L waits for, however far, is never behind it. The order names (i, 0): a read ahead of L; (i, 1): a step ahead of L; (i, 2): L, or a step behind it; (i, 3): what yields its value in every world, wherever it stands. No condition but what each theorem says.
  A REGION THAT DRAWS ITS ORDER, over any program, WALKED ONCE, as Mix; where two operations may come up at a time the order FORKS ('both i ri j rj': behind i comes ri, behind j comes rj): 'wp_region_mix4'. No condition but what each theorem says.
-/
import Derived.Deep.RegionHeld3
import Derived.Tactics2
namespace Go.Proofs.YtmlemclehfdneaaGreatDoor
open Go

section
variable {P : Program} {ops : Array Oper} {Q : Exit → Act → World → Prop} {md : Region.Mode} {S : World → Prop}

def mixB (md : Region.Mode) (ops : Array Oper) : List (Nat × Bool) → Array Bool → Bool
  | [], listed => (Region.ready md ops listed).isEmpty
  | (i, false) :: r, listed => (Region.ready md ops listed).contains i && Region.free md ops listed i && mixB md ops r (listed.setIfInBounds i true)
  | (i, true) :: r, listed => (Region.ready md ops listed == [i]) && mixB md ops r (listed.setIfInBounds i true)

def wpMix (P : Program) (ops : Array Oper) (Q : Exit → Act → World → Prop) : List (Nat × Bool) → (World → Prop) → Act → World → Prop
  | [], _, a, w => Q .normal a w
  | (i, false) :: r, S, a, w => ∃ o v, ops[i]? = some o ∧ YieldsIf P ops S o v a ∧ wpMix P ops Q r S (a.put o.dst v) w
  | (i, true) :: r, S, a, w => wpOp P ops Q i (fun a' w' => ∃ T : World → Prop, (∀ u, T u → S u) ∧ T w' ∧ wpMix P ops Q r T a' w') a w

theorem anyH_mono {T : World → Prop} (hT : ∀ u, T u → S u) : ∀ (fuel : Nat) (listed : Array Bool) (a : Act) (w : World), wpAnyH P md ops Q T fuel listed a w → wpAnyH P md ops Q S fuel listed a w
  | 0, _, _, _, h => h
  | fuel + 1, _, _, _, h => ⟨h.1, fun i hi => wpOp_mono (fun a' w' h' => ⟨hT _ h'.1, anyH_mono hT fuel _ a' w' h'.2⟩) (h.2 i hi)⟩

theorem mix_sound (hs : Region.noSelect ops = true) (hQ : ∀ c a d v w, Q (.panic c) (Act.put a d v) w → Q (.panic c) a w) :
    ∀ (r : List (Nat × Bool)) (S : World → Prop) (listed : Array Bool) (a : Act) (w : World), mixB md ops r listed = true → S w → wpMix P ops Q r S a w → wpAnyH P md ops Q S r.length listed a w
  | [], _, listed, a, w, hB, _, h => by
    have hr : Region.ready md ops listed = [] := by simpa [mixB] using hB
    exact wpAnyH_done hr h 0
  | (i, false) :: r, _, listed, a, w, hB, hS, h => by
    simp only [mixB, Bool.and_eq_true] at hB
    obtain ⟨o, v, hi, hy, hr⟩ := h
    exact wpAnyH_take hi hs hB.1.2 hB.1.1 (fun c a w => hQ c a _ _ w) hy hS (mix_sound hs hQ r _ _ _ _ hB.2 hS hr)
  | (i, true) :: r, _, listed, a, w, hB, hS, h => by
    simp only [mixB, Bool.and_eq_true, beq_iff_eq] at hB
    refine wpAnyH_all hB.1 (by simp) fun j hj => ?_
    obtain rfl : j = i := by simpa using hj
    exact wpOp_mono (fun a' w' ⟨T, hT, hTw, h'⟩ => ⟨hT _ hTw, anyH_mono hT _ _ _ _ (mix_sound hs hQ r T _ a' w' hB.2 hTw h')⟩) h

theorem wp_region_mix {id : Nat} {l : List Oper} (order : List (Nat × Bool)) (S : World → Prop) {a : Act} {w : World} (hm : P.follows .mixedOrders = true) (hs : Region.noSelect l.toArray = true) (hB : mixB .any l.toArray order (Array.replicate l.length false) = true) (hlen : order.length = l.length)
    (hS : S w.drew) (h : wpMix P l.toArray (NoPanic Q) order S a w.drew) : (Code.region id l.toArray true).wp P Q a w := by
  refine wp_region_noPanic (wp_region_held (S := S) hm ?_)
  have := mix_sound (md := .any) (Q := NoPanic Q) hs (fun _ _ _ _ _ h => h) order S (Array.replicate l.length false) a w.drew hB hS h
  rw [hlen] at this
  simpa using this

theorem mix_read {i : Nat} {r : List (Nat × Bool)} {o : Oper} {v : Value} {a : Act} {w : World} (hi : ops[i]? = some o) (hw : Region.wanted o (yielded ops a.tmps) = true)
    (hy : ∀ w', S w' → (execOp a.eval o).run P w' = .ok (.value v) w') (h : wpMix P ops Q r S (a.put o.dst v) w) : wpMix P ops Q ((i, false) :: r) S a w :=
  ⟨o, v, hi, .inl ⟨hw, hy⟩, h⟩

theorem mix_skip {i : Nat} {r : List (Nat × Bool)} {o : Oper} {a : Act} {w : World} (hi : ops[i]? = some o) (hw : Region.wanted o (yielded ops a.tmps) = false)
    (h : wpMix P ops Q r S (a.put o.dst undef) w) : wpMix P ops Q ((i, false) :: r) S a w :=
  ⟨o, undef, hi, .inr ⟨hw, rfl⟩, h⟩

theorem mix_step {i : Nat} {r : List (Nat × Bool)} {o : Oper} {a : Act} {w : World} (hi : ops[i]? = some o)
    (h : ∀ K : Act → World → Prop, Shut (∀ a w, S w → wpMix P ops Q r S a w → K a w) → if Region.wanted o (yielded ops a.tmps) = true then Oper.wp P o a w K Q else K (a.put o.dst undef) w) : wpMix P ops Q ((i, true) :: r) S a w :=
  wpOp_step hi fun K hK => h K fun a w hS hW => hK a w ⟨S, fun _ h => h, hS, hW⟩

theorem mix_more {i : Nat} {r : List (Nat × Bool)} {o : Oper} {a : Act} {w : World} (hi : ops[i]? = some o)
    (h : ∀ K : Act → World → Prop, Shut (∀ (T : World → Prop) a w, (∀ u, T u → S u) → T w → wpMix P ops Q r T a w → K a w) → if Region.wanted o (yielded ops a.tmps) = true then Oper.wp P o a w K Q else K (a.put o.dst undef) w) : wpMix P ops Q ((i, true) :: r) S a w :=
  wpOp_step hi fun K hK => h K fun T a w hT hS hW => hK a w ⟨T, hT, hS, hW⟩

theorem mix_done {a : Act} {w : World} (h : Q .normal a w) : wpMix P ops (NoPanic Q) [] S a w := h

end

section
variable {P : Program} {ops : Array Oper} {Q : Exit → Act → World → Prop} {md : Region.Mode} {S : World → Prop}

end

section
variable {P : Program} {ops : Array Oper} {Q : Exit → Act → World → Prop} {md : Region.Mode} {S : World → Prop} {L : Nat}

def closedO (md : Region.Mode) (ops : Array Oper) (listed : Array Bool) : Prop :=
  ∀ k ok, ops[k]? = some ok → listed.getD k false = true → ∀ e ∈ ok.after, Region.binds md e = true → listed.getD e.on false = true

theorem closedO.add {listed : Array Bool} (h : closedO md ops listed) {j : Nat} (hj : j ∈ Region.ready md ops listed) : closedO md ops (listed.setIfInBounds j true) := by
  intro k ok hk hl e he hb
  by_cases hjk : j = k
  · subst hjk
    obtain ⟨_, o, ho, hall⟩ := mem_ready.1 hj
    rw [hk] at ho
    injection ho with ho
    subst ho
    exact getD_set_true (hall e he hb)
  · rw [getD_set_ne false hjk] at hl
    exact getD_set_true (h k ok hk hl e he hb)

end

inductive Ord4 where
  | done
  | read (i : Nat) (r : Ord4)
  | step (i : Nat) (r : Ord4)
  | both (i : Nat) (ri : Ord4) (j : Nat) (rj : Ord4)

def Ord4.size : Ord4 → Nat
  | .done => 0
  | .read _ r => r.size + 1
  | .step _ r => r.size + 1
  | .both _ ri _ _ => ri.size + 1

section
variable {P : Program} {ops : Array Oper} {Q : Exit → Act → World → Prop} {md : Region.Mode} {S : World → Prop}

def mixB4 (md : Region.Mode) (ops : Array Oper) : Ord4 → Array Bool → Bool
  | .done, listed => (Region.ready md ops listed).isEmpty
  | .read i r, listed => (Region.ready md ops listed).contains i && Region.free md ops listed i && mixB4 md ops r (listed.setIfInBounds i true)
  | .step i r, listed => (Region.ready md ops listed == [i]) && mixB4 md ops r (listed.setIfInBounds i true)
  | .both i ri j rj, listed => (Region.ready md ops listed == [i, j]) && (ri.size == rj.size) && mixB4 md ops ri (listed.setIfInBounds i true) && mixB4 md ops rj (listed.setIfInBounds j true)

def wpMix4 (P : Program) (ops : Array Oper) (Q : Exit → Act → World → Prop) : Ord4 → (World → Prop) → Act → World → Prop
  | .done, _, a, w => Q .normal a w
  | .read i r, S, a, w => ∃ o v, ops[i]? = some o ∧ YieldsIf P ops S o v a ∧ wpMix4 P ops Q r S (a.put o.dst v) w
  | .step i r, S, a, w => wpOp P ops Q i (fun a' w' => ∃ T : World → Prop, (∀ u, T u → S u) ∧ T w' ∧ wpMix4 P ops Q r T a' w') a w
  | .both i ri j rj, S, a, w => wpOp P ops Q i (fun a' w' => ∃ T : World → Prop, (∀ u, T u → S u) ∧ T w' ∧ wpMix4 P ops Q ri T a' w') a w ∧ wpOp P ops Q j (fun a' w' => ∃ T : World → Prop, (∀ u, T u → S u) ∧ T w' ∧ wpMix4 P ops Q rj T a' w') a w

theorem mix4_sound (hs : Region.noSelect ops = true) (hQ : ∀ c a d v w, Q (.panic c) (Act.put a d v) w → Q (.panic c) a w) :
    ∀ (r : Ord4) (S : World → Prop) (listed : Array Bool) (a : Act) (w : World), mixB4 md ops r listed = true → S w → wpMix4 P ops Q r S a w → wpAnyH P md ops Q S r.size listed a w
  | .done, _, listed, a, w, hB, _, h => by
    have hr : Region.ready md ops listed = [] := by simpa [mixB4] using hB
    exact wpAnyH_done hr h 0
  | .read i r, _, listed, a, w, hB, hS, h => by
    simp only [mixB4, Bool.and_eq_true] at hB
    obtain ⟨o, v, hi, hy, hr⟩ := h
    exact wpAnyH_take hi hs hB.1.2 hB.1.1 (fun c a w => hQ c a _ _ w) hy hS (mix4_sound hs hQ r _ _ _ _ hB.2 hS hr)
  | .step i r, _, listed, a, w, hB, hS, h => by
    simp only [mixB4, Bool.and_eq_true, beq_iff_eq] at hB
    refine wpAnyH_all hB.1 (by simp) fun j hj => ?_
    obtain rfl : j = i := by simpa using hj
    exact wpOp_mono (fun a' w' ⟨T, hT, hTw, h'⟩ => ⟨hT _ hTw, anyH_mono hT _ _ _ _ (mix4_sound hs hQ r T _ a' w' hB.2 hTw h')⟩) h
  | .both i ri j rj, _, listed, a, w, hB, hS, h => by
    simp only [mixB4, Bool.and_eq_true, beq_iff_eq] at hB
    refine wpAnyH_all hB.1.1.1 (by simp) fun k hk => ?_
    rcases (by simpa using hk : k = i ∨ k = j) with rfl | rfl
    · exact wpOp_mono (fun a' w' ⟨T, hT, hTw, h'⟩ => ⟨hT _ hTw, anyH_mono hT _ _ _ _ (mix4_sound hs hQ ri T _ a' w' hB.1.2 hTw h')⟩) h.1
    · refine wpOp_mono (fun a' w' ⟨T, hT, hTw, h'⟩ => ⟨hT _ hTw, anyH_mono hT _ _ _ _ ?_⟩) h.2
      have := mix4_sound hs hQ rj T _ a' w' hB.2 hTw h'
      rw [← hB.1.1.2] at this
      exact this

theorem mix4_read {i : Nat} {r : Ord4} {o : Oper} {v : Value} {a : Act} {w : World} (hi : ops[i]? = some o) (hw : Region.wanted o (yielded ops a.tmps) = true)
    (hy : ∀ w', S w' → (execOp a.eval o).run P w' = .ok (.value v) w') (h : wpMix4 P ops Q r S (a.put o.dst v) w) : wpMix4 P ops Q (.read i r) S a w :=
  ⟨o, v, hi, .inl ⟨hw, hy⟩, h⟩

theorem mix4_step {i : Nat} {r : Ord4} {o : Oper} {a : Act} {w : World} (hi : ops[i]? = some o)
    (h : ∀ K : Act → World → Prop, Shut (∀ a w, S w → wpMix4 P ops Q r S a w → K a w) → if Region.wanted o (yielded ops a.tmps) = true then Oper.wp P o a w K Q else K (a.put o.dst undef) w) : wpMix4 P ops Q (.step i r) S a w :=
  wpOp_step hi fun K hK => h K fun a w hS hW => hK a w ⟨S, fun _ h => h, hS, hW⟩

theorem mix4_both {i j : Nat} {ri rj : Ord4} {a : Act} {w : World} (h1 : wpMix4 P ops Q (.step i ri) S a w) (h2 : wpMix4 P ops Q (.step j rj) S a w) : wpMix4 P ops Q (.both i ri j rj) S a w := ⟨h1, h2⟩

theorem mix4_done {a : Act} {w : World} (h : Q .normal a w) : wpMix4 P ops (NoPanic Q) .done S a w := h

end

end Go.Proofs.YtmlemclehfdneaaGreatDoor
