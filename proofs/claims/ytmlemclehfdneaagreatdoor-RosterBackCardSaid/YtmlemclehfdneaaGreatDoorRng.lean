/-
  A RANGE OVER A FUNCTION, over any program, in the plain walk: what a walk owes at the statement 'for .. := range g', in a round, and at the return of a function that holds one. No condition but what each theorem says.
  A REGION THAT DRAWS ITS ORDER IN A ROUND of a range over a function, over any program: the plain walk of it (an order that may fork) serves inside the round's fence. No condition but what each theorem says.
-/
import Derived.RangeFuncRecord
import Derived.RangeFuncSeq
import Derived.Test.YtmlemclehfdneaaGreatDoorKee
import Derived.RangeFuncCalls
import Derived.OwnWalkIn
import Derived.OrdersIn
import Derived.Test.YtmlemclehfdneaaGreatDoorMix
namespace Go.Proofs.YtmlemclehfdneaaGreatDoor
open Go.RowKit
set_option maxRecDepth 100000

def lpRec (fn : FuncId) (a : Act) (ps : Array Tmp) (assign body : Code) (D : Nat) (st : LoopState) (pe : Option Code) : Loop := { state := st, pending := pe, fn, tmps := a.tmps, params := ps, assign, body, defers := D }

theorem wp_range {P : Program} {g : Operand} {ps : Array Tmp} {assign body : Code} {Q : Exit → Act → World → Prop} {a : Act} {w : World} {gf : Nat} {lb : Array Value}
    (hg : a.eval g = .func (.func gf) #[] lb) (eg : ∀ args w, (callFunc gf args).run P w = .ok (.enter gf args) w)
    (h : ∀ fn rec, rec = lpRec fn a ps assign body w.heap.size → Calls P gf (#[.func (.yield (w.heap.size + 1)) #[] #[]] ++ lb) ((w.alloc (.deferred (some []))).alloc (.loop (rec .ready none))) fun e w' => ∃ v jump, e = .returned v ∧ w'.heap[w.heap.size + 1]? = some (.loop (rec (if jump.isNone then .ready else .done) jump)) ∧
      (match jump with
       | none => Q .normal { a with defers := { target := .collected w.heap.size, args := #[] } :: a.defers } (w'.putObj (w.heap.size + 1) (.loop (rec .exhausted none)))
       | some c => c.wp P Q { a with defers := { target := .collected w.heap.size, args := #[] } :: a.defers } (w'.putObj (w.heap.size + 1) (.loop (rec .exhausted (some c)))))) :
    (Code.rangeFunc g ps assign body).wp P Q a w := by
  refine (wpIn_wide (n := 1)).1 (wpIn_rangeFunc ?_)
  intro fn _
  have h := h fn _ rfl
  obtain ⟨W1, hW1⟩ : ∃ W1, (w.alloc (.deferred (some []))).alloc (.loop (lpRec fn a ps assign body w.heap.size .ready none)) = W1 := ⟨_, rfl⟩
  rw [hW1] at h
  have he : (Instr.enterLoop fn a.tmps ps assign body Fence.wide.round).run P w = .ok (w.heap.size + 1, [{ target := .collected w.heap.size, args := #[] }]) W1 := by
    rw [← hW1]
    exact run_enterLoop_outer _ _ _ _ _
  refine ⟨w.heap.size + 1, [{ target := .collected w.heap.size, args := #[] }], W1, { target := .fn (.func gf) lb, args := #[.func (.yield (w.heap.size + 1)) #[] #[]] }, W1, gf, #[.func (.yield (w.heap.size + 1)) #[] #[]] ++ lb, W1, he, ?_, ?_, ?_, fun _ => Nat.le_refl _, ?_⟩
  · simp only [resolve, hg]
    simp [go_sem]
  · intro f' _
    trivial
  · simp [invoke, go_sem, eg]
  · refine (callsIn_wide.2 h).mono ?_
    rintro e w' ⟨v, jump, rfl, hl, hj⟩
    have hend := run_endLoop (P := P) hl (by cases jump <;> simp [lpRec])
    cases jump with
    | none => exact ⟨none, _, hend, hj⟩
    | some c => exact ⟨some c, _, hend, wpIn_wide.2 hj⟩

def roundEnd (l : Nat) (rec : LoopState → Option Code → Loop) (R : Ending → World → Prop) : Exit → Act → World → Prop
  | .normal, _, w => w.heap[l]? = some (.loop (rec .busy none)) ∧ R (.returned (.bool true)) (w.putObj l (.loop (rec .ready none)))
  | .ret, _, w => w.heap[l]? = some (.loop (rec .busy none)) ∧ R (.returned (.bool false)) (w.putObj l (.loop (rec .done (some .ret))))
  | .exit id, _, w => w.heap[l]? = some (.loop (rec .busy none)) ∧ R (.returned (.bool false)) (w.putObj l (.loop (rec .done (some (.exit id)))))
  | .goto t, _, w => w.heap[l]? = some (.loop (rec .busy none)) ∧ R (.returned (.bool false)) (w.putObj l (.loop (rec .done (some (.goto t)))))
  | .panic _, _, _ => False
  | .outgrown, _, _ => False

theorem yield_round {P : Program} {l : Nat} {W : World} {fn : FuncId} {a : Act} {ps : Array Tmp} {assign body : Code} {D : Nat} {args : Array Value} {R : Ending → World → Prop} {rec : LoopState → Option Code → Loop} (hrec : rec = lpRec fn a ps assign body D) (hl : W.heap[l]? = some (.loop (rec .ready none))) (hs : args.size = ps.size)
    (h : assign.wpIn (Fence.wide.inRound l) 1 P (Exit.then (fun a₁ w₁ => w₁.heap[l]? = some (.loop (rec .ready none)) ∧ body.wpIn (Fence.wide.inRound l) 1 P (roundEnd l rec R) a₁ (w₁.putObj l (.loop (rec .busy none)))) (fun _ _ _ => False)) { tmps := (ps.zip args).foldl (fun t (p, v) => t.setIfInBounds p v) a.tmps, defers := [] } W) :
    YieldAt Fence.wide 1 P l args W R := by
  subst hrec
  have hy := run_yield (P := P) (args := args) hl hs
  refine ⟨fn, _, assign, body, hy, roundIn_of_wpIn trivial (wpIn_mono h ?_)⟩
  rintro e a₁ w₁ he
  cases e with
  | normal =>
    obtain ⟨h1, h2⟩ := he
    refine ⟨_, run_beginRound h1 rfl, wpIn_mono h2 ?_⟩
    rintro e2 a2 w2 h3
    cases e2 with
    | normal => exact ⟨_, _, run_endRound (P := P) none h3.1, h3.2⟩
    | ret => exact ⟨_, _, run_endRound (P := P) (some .ret) h3.1, h3.2⟩
    | exit id => exact ⟨_, _, run_endRound (P := P) (some (.exit id)) h3.1, h3.2⟩
    | goto t => exact ⟨_, _, run_endRound (P := P) (some (.goto t)) h3.1, h3.2⟩
    | panic c => exact h3
    | outgrown => exact h3
  | ret => exact he
  | exit id => exact he
  | goto t => exact he
  | panic c => exact he
  | outgrown => exact he

theorem calls_marks {P : Program} {f : FuncId} {fn : Func} {c : Code} {args : Array Value} {w : World} {R : Ending → World → Prop} (hf : P.funcs[f]? = some fn) (hb : fn.body = some c)
    (h : c.wp P (bodyPostM Fence.wide 3 P fn R) { tmps := args ++ Array.replicate (fn.ntmps - args.size) undef, defers := [] } w) : Calls P f args w R :=
  callsIn_wide.1 (callsIn_of_wp_marks hf hb trivial (wpIn_wide.2 h))

theorem marks_ret1 {P : Program} {fn : Func} {R : Ending → World → Prop} {a : Act} {w : World} {v : Value} {D : Nat} (hr : (results fn a.tmps).run P (w.putObj D (.deferred none)) = .ok v (w.putObj D (.deferred none))) (hd : a.defers = [{ target := .collected D, args := #[] }]) (hD : w.heap[D]? = some (.deferred (some []))) (hR : R (.returned v) (w.putObj D (.deferred none))) : bodyPostM Fence.wide 3 P fn R .ret a w := by
  show LeavesInM Fence.wide 3 P fn a.tmps R a.defers .returning w
  rw [hd]
  exact ⟨by simp, .inl ⟨_, _, rfl, run_takeDeferred hD, v, hr, hR⟩⟩

section
variable {P : Program} {ops : Array Oper} {Q : Exit → Act → World → Prop} {md : Region.Mode} {l n : Nat}

theorem wpOpIn_of_plain {i : Nat} {K K' : Act → World → Prop} {a : Act} {w : World} (hK : ∀ a w, K a w → K' a w) (hQ : ¬ LetsOut Q) (hd : ∀ o, ops[i]? = some o → ∀ c, o.op ≠ .defer c) (h : wpOp P ops Q i K a w) :
    wpOpIn (Fence.wide.inRound l) n P ops Q i K' a w := by
  unfold wpOp at h
  unfold wpOpIn
  cases ho : ops[i]? with
  | none =>
    simp only [ho] at h ⊢
    exact hK _ _ h
  | some o =>
    simp only [ho] at h ⊢
    by_cases hw : Region.wanted o (yielded ops a.tmps) = true
    · simp only [hw, if_true] at h ⊢
      rcases h with h | ⟨_, h⟩
      · refine ⟨fun _ _ => trivial, ?_⟩
        rw [show (Fence.wide.inRound l).round = some l from rfl, Oper.semAt_some l _ _ (hd o ho)]
        unfold Oper.wp at h
        generalize (execOp a.eval o).run P w = r at h ⊢
        cases r with
        | ok x w' =>
          cases x
          case enter f args =>
            refine ⟨(fun h => (by cases h)), (CallsIn.inRound _ (callsIn_wide.2 h)).mono fun e w'' he => ?_⟩
            cases e with
            | returned v => exact hK _ _ he
            | panicked c => exact he
            | outgrown => exact he
          case row row args =>
            refine ⟨(fun h => (by cases h)), fun c cs _ => ?_⟩
            obtain ⟨v, w'', hr, hs⟩ := h c cs
            exact ⟨v, w'', hK _ _ hr, stepsIn_wide.2 hs⟩
          all_goals first | exact hK _ _ h | exact (h : False).elim
        | halt x w' =>
          cases x <;> first | exact h | exact (h : False).elim
      · exact absurd h hQ
    · simp only [hw] at h ⊢
      exact ⟨fun _ _ => trivial, hK _ _ h⟩

theorem wpAnyIn_of_plain (hQ : ¬ LetsOut Q) (hd : ∀ (i : Nat) o, ops[i]? = some o → ∀ c, o.op ≠ .defer c) : ∀ (fuel : Nat) (listed : Array Bool) (a : Act) (w : World), wpAny P md ops Q fuel listed a w → wpAnyIn (Fence.wide.inRound l) n P md ops Q fuel listed a w
  | 0, _, _, _, h => h
  | fuel + 1, _, _, _, h => ⟨h.1, fun i hi => wpOpIn_of_plain (fun a w => wpAnyIn_of_plain hQ hd fuel _ a w) hQ (hd i) (h.2 i hi)⟩

def noDefer (ls : List Oper) : Bool := ls.all fun o => match o.op with
  | .defer _ => false
  | _ => true

theorem wpIn_region_mix4 {id : Nat} {ls : List Oper} (order : Ord4) (S : World → Prop) {a : Act} {w : World} (hm : P.follows .mixedOrders = true) (hs : Region.noSelect ls.toArray = true) (hB : mixB4 .any ls.toArray order (Array.replicate ls.length false) = true) (hlen : order.size = ls.length)
    (hdf : noDefer ls = true) (hQ : ∀ a w, ¬ Q .outgrown a w) (hS : S w.drew) (h : wpMix4 P ls.toArray (NoPanic Q) order S a w.drew) : (Code.region id ls.toArray true).wpIn (Fence.wide.inRound l) n P Q a w := by
  have hd : ∀ (i : Nat) o, ls.toArray[i]? = some o → ∀ c, o.op ≠ .defer c := fun i o hi c e => by
    have hm : o ∈ ls := by
      rw [List.getElem?_toArray] at hi
      exact List.mem_of_getElem? hi
    have := List.all_eq_true.1 hdf o hm
    rw [e] at this
    cases this
  refine Code.wpIn_mono NoPanic.imp (wpIn_region_any hm (wpAnyIn_of_plain (Q := NoPanic Q) (fun ⟨a, w, h⟩ => hQ a w h) hd _ _ _ _ (wpAny_of_held (S := S) _ _ _ _ ?_)))
  have := mix4_sound (md := .any) (Q := NoPanic Q) hs (fun _ _ _ _ _ h => h) order S (Array.replicate ls.length false) a w.drew hB hS h
  rw [hlen] at this
  simpa using this

end

end Go.Proofs.YtmlemclehfdneaaGreatDoor
