/-
  CONTRACT of the document's Group. Condition: at most 1000000 spans.
-/
import Derived.Test.YtcpbikogccdknaaTrI
namespace Go.Proofs.Ytcpbikogccdknaa
open Go.RowKit
set_option maxRecDepth 100000


/-- what the document has grouped behind l's first i -/
structure Gro (l : List Sn) (i : Nat) (r : List Tn) : Prop where
  up : r.Pairwise fun a b => a.id < b.id
  sp : ∀ t ∈ r, Gat (ofT l t.id) t.sp
  ids : ∀ x, (∃ t, t ∈ r ∧ t.id = x) ↔ ∃ j s, j < i ∧ l[j]? = some s ∧ s.tr = x

theorem Gro.zero (l : List Sn) : Gro l 0 [] := ⟨List.Pairwise.nil, fun t h => (by cases h), fun x => by simp⟩
theorem Gro.done {l : List Sn} {r : List Tn} (h : Gro l l.length r) : Grp l r := by
  refine ⟨h.up, h.sp, fun x => (h.ids x).trans ⟨fun ⟨j, s, _, h2, h3⟩ => ⟨s, List.mem_of_getElem? h2, h3⟩, fun ⟨s, hs, h3⟩ => ?_⟩⟩
  obtain ⟨j, hj⟩ := List.mem_iff_getElem?.1 hs
  exact ⟨j, s, (List.getElem?_eq_some_iff.1 hj).1, hj, h3⟩
theorem ids_succ {l : List Sn} {i : Nat} {s : Sn} (hs : l[i]? = some s) (x : Int) : (∃ j s, j < i + 1 ∧ l[j]? = some s ∧ s.tr = x) ↔ (∃ j s, j < i ∧ l[j]? = some s ∧ s.tr = x) ∨ s.tr = x := by
  constructor
  · rintro ⟨j, t, h1, h2, h3⟩
    rcases Nat.lt_or_eq_of_le (Nat.le_of_lt_succ h1) with h4 | h4
    · exact .inl ⟨j, t, h4, h2, h3⟩
    · subst h4
      rw [hs] at h2
      injection h2 with h2
      subst h2
      exact .inr h3
  · rintro (⟨j, t, h1, h2, h3⟩ | h)
    · exact ⟨j, t, by omega, h2, h3⟩
    · exact ⟨i, s, by omega, hs, h⟩
theorem Gro.skip {l : List Sn} {i : Nat} {r : List Tn} {s : Sn} (h : Gro l i r) (hs : l[i]? = some s) {t : Tn} (ht : t ∈ r) (he : t.id = s.tr) : Gro l (i + 1) r := by
  refine ⟨h.up, h.sp, fun x => ?_⟩
  rw [ids_succ hs, ← h.ids]
  constructor
  · exact fun h => .inl h
  · rintro (h | h)
    · exact h
    · exact ⟨t, ht, he.trans h⟩
theorem Gro.put {l : List Sn} {i m : Nat} {r : List Tn} {s : Sn} (h : Gro l i r) (hs : l[i]? = some s) {q : List Sn} (hq : Gat (ofT l s.tr) q) (h1 : ∀ x ∈ r.take m, x.id < s.tr) (h2 : ∀ x ∈ r.drop m, s.tr < x.id) : Gro l (i + 1) (r.take m ++ [⟨s.tr, q⟩] ++ r.drop m) := by
  have hup := h.up
  rw [← List.take_append_drop m r, List.pairwise_append] at hup
  have hm : ∀ t, t ∈ r.take m ++ [(⟨s.tr, q⟩ : Tn)] ++ r.drop m ↔ t ∈ r ∨ t = ⟨s.tr, q⟩ := by
    intro t
    have : t ∈ r ↔ t ∈ r.take m ∨ t ∈ r.drop m := by rw [← List.mem_append, List.take_append_drop]
    rw [this]
    simp only [List.mem_append, List.mem_singleton]
    constructor
    · rintro ((h | h) | h)
      · exact .inl (.inl h)
      · exact .inr h
      · exact .inl (.inr h)
    · rintro ((h | h) | h)
      · exact .inl (.inl h)
      · exact .inr h
      · exact .inl (.inr h)
  refine ⟨?_, fun t ht => ?_, fun x => ?_⟩
  · rw [List.pairwise_append, List.pairwise_append]
    refine ⟨⟨hup.1, by simp, fun a ha b hb => ?_⟩, hup.2.1, fun a ha b hb => ?_⟩
    · simp at hb
      subst hb
      exact h1 a ha
    · rcases List.mem_append.1 ha with ha | ha
      · exact hup.2.2 a ha b hb
      · simp at ha
        subst ha
        exact h2 b hb
  · rcases (hm t).1 ht with ht | rfl
    · exact h.sp t ht
    · exact hq
  · rw [ids_succ hs, ← h.ids]
    constructor
    · rintro ⟨t, ht, he⟩
      rcases (hm t).1 ht with ht | rfl
      · exact .inl ⟨t, ht, he⟩
      · exact .inr he
    · rintro (⟨t, ht, he⟩ | he)
      · exact ⟨t, (hm t).2 (.inl ht), he⟩
      · exact ⟨_, (hm _).2 (.inr rfl), he⟩
theorem Gro.len {l : List Sn} {i : Nat} {r : List Tn} (h : Gro l i r) : r.length ≤ l.length := by
  have hs : ∀ t ∈ r, ∃ s, s ∈ l ∧ s.tr = t.id := fun t ht => by
    obtain ⟨j, s, _, h2, h3⟩ := (h.ids t.id).1 ⟨t, ht, rfl⟩
    exact ⟨s, List.mem_of_getElem? h2, h3⟩
  have hup := h.up
  clear h
  -- r's Ids are among l's Traces, each once
  have key : ∀ (r : List Tn) (l : List Int), r.Pairwise (fun a b => a.id < b.id) → (∀ t ∈ r, t.id ∈ l) → r.length ≤ l.length := by
    intro r
    induction r with
    | nil => intro l _ _; simp
    | cons t r ih =>
      intro l hup hs
      rw [List.pairwise_cons] at hup
      obtain ⟨p, q, rfl⟩ := List.append_of_mem (hs t (List.mem_cons_self ..))
      have := ih (p ++ q) hup.2 fun u hu => by
        have h1 := hup.1 u hu
        rcases List.mem_append.1 (hs u (List.mem_cons_of_mem _ hu)) with h2 | h2
        · exact List.mem_append_left _ h2
        · rcases List.mem_cons.1 h2 with h3 | h3
          · omega
          · exact List.mem_append_right _ h3
      simp only [List.length_append, List.length_cons] at this ⊢
      omega
  have := key r (l.map (·.tr)) hup fun t ht => by
    obtain ⟨s, hs, he⟩ := hs t ht
    exact List.mem_map.2 ⟨s, hs, he⟩
  simpa using this

theorem trE : Try.prog.elem 22 = 49 := by kernel_rfl

/-- l[:m] and l[m:], traces -/
theorem ts_cut {w : World} {A : Option Addr} {n c : Nat} {l : List Tn} (h : Ts w (.slice A n c) l) (m : Nat) (hm : m ≤ l.length) :
    ∃ V U, (∀ u, (Instr.slice 22 (.slice A n c) none (some (.int .i64 (m : Int))) none).run Try.prog u = .ok V u) ∧ (∀ u, (Instr.slice 22 (.slice A n c) (some (.int .i64 (m : Int))) none none).run Try.prog u = .ok U u) ∧ Ts w V (l.take m) ∧ Ts w U (l.drop m) := by
  obtain ⟨A', c', hv, h1, h2⟩ := h.form
  injection hv with e1 e2 e3
  subst e1 e2 e3
  obtain ⟨xs, hx, ht⟩ := h
  exact ⟨_, _, run_slice_upto trT trE m hm h1, run_slice_from trT trE m hm h1, ⟨_, hx.upto m hm, ht.take m⟩, ⟨_, hx.from_ m hm, ht.drop m⟩⟩

/-- a slice of traces of the call's own, whose spans are older than block 'base' -/
def OwnT (w0 w : World) (base : Nat) (v : Value) (l : List Tn) : Prop := ∃ xs, OwnL 2 w base 49 v xs ∧ Two (TnC w0) l xs

section
variable {w0 w w' : World} {base : Nat} {v : Value} {l m : List Tn}
theorem OwnT.ts (h : OwnT w0 w base v l) (hb : Below w0.heap.size w0 w) : Ts w v l := by
  obtain ⟨xs, h1, h2⟩ := h
  exact ⟨xs, h1.lv, h2.mono fun _ _ h => h.below hb⟩
theorem OwnT.below (h : OwnT w0 w base v l) (hb : Below w.heap.size w w') : OwnT w0 w' base v l := by
  obtain ⟨xs, h1, h2⟩ := h
  exact ⟨xs, h1.below hb, h2⟩
theorem OwnT.later {w1 : World} (h : OwnT w0 w base v l) (hb : Below w0.heap.size w0 w1) : OwnT w1 w base v l := by
  obtain ⟨xs, h1, h2⟩ := h
  exact ⟨xs, h1, h2.mono fun _ _ h => h.below hb⟩
theorem OwnT.lt (h : OwnT w0 w base v l) : ∀ g, v.ownBlock = some g → base ≤ g ∧ g < w.heap.size := fun g hg => by
  obtain ⟨xs, h1, _⟩ := h
  exact ⟨h1.ge g hg, h1.lt g hg⟩
theorem TnC.one {t : Tn} {x : List Value} (h : TnC w t x) : ∀ u ∈ x, u.oneCell' = true := by
  obtain ⟨_, d, rfl, hd⟩ := h
  obtain ⟨A, c, rfl, _⟩ := hd.form
  intro u hu
  simp only [List.mem_cons, List.not_mem_nil, or_false] at hu
  rcases hu with rfl | rfl <;> rfl
variable (w)
theorem run_append_ownT (ty : TypeId) (h : OwnT w0 w base v l) {V : Value} {ys : List (List Value)} (hV : Lv 2 w V ys) (hys : Two (TnC w0) m ys) (hl : l.length + m.length ≤ 1000000000) (hbase : base ≤ w.heap.size) :
    ∃ v' w', (Builtin.append_ #[22, 22] ty #[v, V]).run Try.prog w = .ok v' w' ∧ OwnT w0 w' base v' (l ++ m) ∧ w.grownBy w' v.ownBlock := by
  obtain ⟨xs, h1, h2⟩ := h
  have e1 := h2.len
  have e2 := hys.len
  obtain ⟨v', w', hrun, ho, hg, hv⟩ := run_append_elems w trT ty base v xs h1 V ys hV (fun y hy => by
    obtain ⟨a, _, ha⟩ := hys.right_mem hy
    exact ha.one) (by simp only [maxLen]; omega) (by omega) hbase
  exact ⟨v', w', hrun, ⟨xs ++ ys, ho, h2.append hys⟩, hg⟩
theorem wpList_append_ownT {ops : Array Oper} {rest : List Oper} {o : Oper} {a : Act} {Q : Exit → Act → World → Prop} (hgd : o.guard = none) (sx x : Operand)
    (ho : o.op = .call { callee := .builtin .append, args := #[sx, x], argTypes := #[22, 22] })
    (hs : a.eval sx = v) (h : OwnT w0 w base v l) {V : Value} {ys : List (List Value)} (hx : a.eval x = V) (hV : Lv 2 w V ys) (hys : Two (TnC w0) m ys) (hl : l.length + m.length ≤ 1000000000) (hbase : base ≤ w.heap.size)
    (hK : ∀ v' w', OwnT w0 w' base v' (l ++ m) → w.grownBy w' v.ownBlock → wpList Try.prog ops Q rest (a.put o.dst v') w') : wpList Try.prog ops Q (o :: rest) a w := by
  refine wpList_plain hgd fun K hK' => ?_
  obtain ⟨v', w', hrun, h2, h3⟩ := run_append_ownT w o.type h hV hys hl hbase
  unfold Oper.wp execOp
  simp only [ho, resolve, invoke, builtin, Sem.run_bind, Sem.run_pure, Result.andThen_ok, List.map_toArray, List.map_cons, List.map_nil, hs, hx, hrun]
  exact hK' _ _ (hK v' w' h2 h3)
theorem step_append_ownT {ops : Array Oper} {o : Oper} {a : Act} {K : Act → World → Prop} {Q : Exit → Act → World → Prop} {E : Prop} (hgd : o.guard = none) (sx x : Operand)
    (ho : o.op = .call { callee := .builtin .append, args := #[sx, x], argTypes := #[22, 22] })
    (hs : a.eval sx = v) (h : OwnT w0 w base v l) {V : Value} {ys : List (List Value)} (hx : a.eval x = V) (hV : Lv 2 w V ys) (hys : Two (TnC w0) m ys) (hl : l.length + m.length ≤ 1000000000) (hbase : base ≤ w.heap.size)
    (hK : ∀ v' w', OwnT w0 w' base v' (l ++ m) → w.grownBy w' v.ownBlock → K (a.put o.dst v') w') :
    if Region.wanted o (yielded ops a.tmps) = true then Oper.wp Try.prog o a w K Q else E := by
  have hw : Region.wanted o (yielded ops a.tmps) = true := by simp [Region.wanted, hgd]
  rw [if_pos hw]
  obtain ⟨v', w', hrun, h2, h3⟩ := run_append_ownT w o.type h hV hys hl hbase
  unfold Oper.wp execOp
  simp only [ho, resolve, invoke, builtin, Sem.run_bind, Sem.run_pure, Result.andThen_ok, List.map_toArray, List.map_cons, List.map_nil, hs, hx, hrun]
  exact hK v' w' h2 h3
theorem OwnT.made : OwnT w (w.alloc (.cells #[] 49)) w.heap.size (.slice (some ⟨w.heap.size, 0, none⟩) 0 0) [] :=
  ⟨[], ⟨World.ownsRow_made w #[] 0 (Nat.le_refl _) (by simp [maxLen]) (by simp), fun x hx => by cases hx⟩, Two.nil⟩
end

/-- append, as a step of a region -/
theorem step_append_elems {P : Program} {t e : TypeId} {k bytes : Nat} (HT : ElemT P t e k bytes) {w : World} {ops : Array Oper} {o : Oper} {a : Act} {K : Act → World → Prop} {Q : Exit → Act → World → Prop} {E : Prop} (hgd : o.guard = none) (sx x : Operand)
    (ho : o.op = .call { callee := .builtin .append, args := #[sx, x], argTypes := #[t, t] })
    {base : Nat} {v : Value} {xs : List (List Value)} (hs : a.eval sx = v) (hown : OwnL k w base e v xs) {V : Value} {ys : List (List Value)} (hx : a.eval x = V) (hr : Lv k w V ys) (h1 : ∀ y ∈ ys, ∀ u ∈ y, u.oneCell' = true)
    (hsum : xs.length + ys.length ≤ maxLen) (hby : (xs.length + ys.length) * bytes ≤ 140737488355328) (hbase : base ≤ w.heap.size)
    (hK : ∀ v' w', OwnL k w' base e v' (xs ++ ys) → w.grownBy w' v.ownBlock → (v'.ownBlock = v.ownBlock ∨ v'.ownBlock = some w.heap.size) → K (a.put o.dst v') w') :
    if Region.wanted o (yielded ops a.tmps) = true then Oper.wp P o a w K Q else E := by
  have hw : Region.wanted o (yielded ops a.tmps) = true := by simp [Region.wanted, hgd]
  rw [if_pos hw]
  obtain ⟨v', w', hrun, h2, h3, h4⟩ := run_append_elems w HT o.type base v xs hown V ys hr h1 hsum hby hbase
  unfold Oper.wp execOp
  simp only [ho, resolve, invoke, builtin, Sem.run_bind, Sem.run_pure, Result.andThen_ok, List.map_toArray, List.map_cons, List.map_nil, hs, hx, hrun]
  exact hK v' w' h2 h3 h4
theorem OwnT.own {w : World} (h : OwnT w (w.alloc (.cells #[] 49)) w.heap.size (.slice (some ⟨w.heap.size, 0, none⟩) 0 0) []) : OwnL 2 (w.alloc (.cells #[] 49)) w.heap.size 49 (.slice (some ⟨w.heap.size, 0, none⟩) 0 0) [] := by
  obtain ⟨xs, h1, h2⟩ := h
  have : xs = [] := List.eq_nil_of_length_eq_zero (by have := h2.len; simpa using this.symm)
  subst this
  exact h1

end Go.Proofs.Ytcpbikogccdknaa
