/-
  A TRACE, and where its spans lie ('Te'); rows of such; WHAT IS ASKED OF THE HEAP OF ROWS of traces ('HeapKrT'). No condition but what each theorem says.
-/
import Derived.Test.YtpanpebllapbcaaKwE
import Derived.Test.YtpanpebllapbcaaTrF
namespace Go.Proofs.Ytpanpebllapbcaa
open Go.RowKit
set_option maxRecDepth 100000
/-- a trace, and where its spans lie -/
structure Te where
  t : Tn
  A : Option Addr
  n : Nat
  c : Nat
def teC (o : Te) : List Value := [.int .u64 o.t.id, .slice o.A o.n o.c]
def teR (a b : Te) : Bool := decide (a.t.id < b.t.id)
theorem teO : WeakO teR fun _ => True where
  irr a _ := by simp [teR]
  trans a b c _ _ _ h1 h2 := by simp only [teR, decide_eq_true_eq] at *; omega
  split a b c _ _ _ h1 := by simp only [teR, decide_eq_true_eq] at *; omega
theorem teT : ElemT Try.prog 25 37 2 32 := ⟨Try.underlying25, by omega, by
  refine ⟨_, _, rfl, rfl, rfl, rfl, ?_⟩
  rfl⟩
/-- a slice of traces, and where their spans lie -/
def TeV (w : World) (r : List Te) (d : Value) : Prop := Lv 2 w d (r.map teC)
/-- its spans lie there -/
def teOK (w : World) (e : Te) : Prop := (0 ≤ e.t.id ∧ e.t.id ≤ 18446744073709551615) ∧ Ss w (.slice e.A e.n e.c) e.t.sp
theorem teOK.below {w w' : World} {e : Te} (h : teOK w e) (hb : Below w.heap.size w w') : teOK w' e := ⟨h.1, h.2.below hb⟩
theorem Ts.of_te {w : World} {v : Value} {es : List Te} (h : Lv 2 w v (es.map teC)) (hE : ∀ e ∈ es, teOK w e) : Ts w v (es.map (·.t)) :=
  ⟨_, h, Two.ofMap _ _ es fun e he => ⟨(hE e he).1, _, rfl, (hE e he).2⟩⟩
theorem te_of_ts {w : World} {d : Value} {r : List Tn} (h : Ts w d r) : ∃ re : List Te, re.map (·.t) = r ∧ TeV w re d ∧ ∀ e ∈ re, teOK w e := by
  obtain ⟨xs, h1, h2⟩ := h
  obtain ⟨cs, rfl, rfl⟩ := Two.lift (γ := {e : Te // teOK w e}) (f := fun e => e.1.t) (g := fun e => teC e.1) (fun t x ⟨hid, d, hx, hd⟩ => by
    obtain ⟨A, c, rfl, _, _⟩ := hd.form
    exact ⟨⟨⟨t, A, t.sp.length, c⟩, hid, hd⟩, rfl, hx.symm⟩) h2
  refine ⟨cs.map (·.1), by rw [List.map_map]; rfl, by rw [TeV, List.map_map]; exact h1, fun e he => ?_⟩
  obtain ⟨c, _, rfl⟩ := List.mem_map.1 he
  exact c.2

abbrev KrT := Kr Te
/-- its cells -/
def krCT (o : KrT) : List Value := [.slice o.A o.n o.c, .int .i64 (o.pl : Int)]
/-- what is asked of the heap -/
abbrev HeapKrT := HeapK (krV : KrT → Value) (.agg #[.slice none 0 0, .int .i64 0]) 34 36 38 51 37
end Go.Proofs.Ytpanpebllapbcaa
