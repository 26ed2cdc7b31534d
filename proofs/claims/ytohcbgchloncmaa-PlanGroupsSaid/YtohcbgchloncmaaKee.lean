/-
  WHAT IS READ APART FROM SOME BLOCKS ('Keep'), over any program; rows of the call's own whose elements are kept so ('OwnK'). No condition but what each theorem says.
  SLICES OF THE CALL's OWN, apart from bad blocks; a byte of one; over any program. No condition but what each theorem says.
  TWO THINGS SIDE BY SIDE in memory, each in its blocks, apart from each other and from whatever X speaks of; over any program. No condition but what each theorem says.
  WHAT A THING's BLOCKS BECOME ('Goes'): from the world w0 to w only the blocks F0, and what is new, have turned; and F is of those. Rows whose elements are kept ('OwnK'), over that. Over any program. No condition but what each theorem says.
-/
import Derived.Test.YtohcbgchloncmaaLs
namespace Go.Proofs.Ytohcbgchloncmaa
open Go.RowKit

/-- w' is w, but for what is new and for the blocks that are bad -/
structure Apt (bad : Nat → Prop) (w w' : World) : Prop where
  os : w'.os = w.os
  tape : w'.tape = w.tape
  output : w'.output = w.output
  size : w.heap.size ≤ w'.heap.size
  block : ∀ g, g < w.heap.size → ¬ bad g → w'.heap[g]? = w.heap[g]?

theorem Apt.refl (bad : Nat → Prop) (w : World) : Apt bad w w := ⟨rfl, rfl, rfl, Nat.le_refl _, fun _ _ _ => rfl⟩

theorem Apt.of_below {bad : Nat → Prop} {w w' : World} (h : Below w.heap.size w w') : Apt bad w w' := ⟨h.os, h.tape, h.output, h.size, fun g hg _ => h.block g hg⟩

theorem Apt.of_grown {bad : Nat → Prop} {w w' : World} {row : Option Nat} (h : w.grownBy w' row) (hr : ∀ q, row = some q → bad q) : Apt bad w w' :=
  ⟨h.os, h.tape, h.output, h.size, fun g hg hb => h.block g hg fun e => hb (hr g e.symm)⟩

theorem Apt.trans {bad : Nat → Prop} {a b c : World} (h : Apt bad a b) (k : Apt bad b c) : Apt bad a c :=
  ⟨k.os.trans h.os, k.tape.trans h.tape, k.output.trans h.output, Nat.le_trans h.size k.size, fun g hg hb => (k.block g (Nat.lt_of_lt_of_le hg h.size) hb).trans (h.block g hg hb)⟩

/-- φ holds of w, and of all worlds that are w but for the blocks that are bad -/
def Keep (bad : Nat → Prop) (φ : World → Prop) (w : World) : Prop := ∀ w', Apt bad w w' → φ w'

section
variable {bad bad' : Nat → Prop} {φ ψ : World → Prop} {w w' w0 : World}
theorem Keep.here (h : Keep bad φ w) : φ w := h w (Apt.refl _ _)

theorem Keep.go (h : Keep bad φ w) (ha : Apt bad w w') (hb : ∀ q, bad' q → bad q ∨ w.heap.size ≤ q) : Keep bad' φ w' := fun w'' h2 => by
  refine h w'' ⟨h2.os.trans ha.os, h2.tape.trans ha.tape, h2.output.trans ha.output, Nat.le_trans ha.size h2.size, fun g hg hn => ?_⟩
  refine (h2.block g (Nat.lt_of_lt_of_le hg ha.size) fun hb' => ?_).trans (ha.block g hg hn)
  rcases hb g hb' with h | h
  · exact hn h
  · omega

theorem Keep.less (h : Keep bad φ w) (hb : ∀ q, bad' q → bad q ∨ w.heap.size ≤ q) : Keep bad' φ w := h.go (Apt.refl _ _) hb

theorem Keep.below (h : Keep bad φ w) (hb : Below w.heap.size w w') : Keep bad φ w' := h.go (Apt.of_below hb) fun _ h => .inl h

theorem Keep.of_old (h : ∀ u, Below w0.heap.size w0 u → φ u) (hb : Below w0.heap.size w0 w) (hn : ∀ q, bad q → w0.heap.size ≤ q) : Keep bad φ w := fun w' ha =>
  h w' ⟨ha.os.trans hb.os, ha.tape.trans hb.tape, ha.output.trans hb.output, Nat.le_trans hb.size ha.size, fun g hg => (ha.block g (Nat.lt_of_lt_of_le hg hb.size) fun e => by have := hn g e; omega).trans (hb.block g hg)⟩

theorem Rd.apt {A : Option Addr} {xs : List Value} (h : Rd w A xs) (ha : Apt bad w w') (hb : xs ≠ [] → ∀ a, A = some a → ¬ bad a.block) : Rd w' A xs := by
  rcases xs with _ | ⟨x, xs⟩
  · exact Rd.zero _ _
  · refine h.keep fun p hp hA => ?_
    refine World.cell?_of_block (ha.block p.block hp fun e => ?_)
    obtain ⟨a, e1, _⟩ := h 0 x rfl
    exact hb (by simp) a e1 (by rw [← hA a e1]; exact e)

theorem Bs.apt {v : Value} {l : List UInt8} (h : Bs w v l) (ha : Apt bad w w') (hb : l ≠ [] → ∀ q, v.ownBlock = some q → ¬ bad q) : Bs w' v l := by
  obtain ⟨A, c, rfl, h1, h2, hr⟩ := h
  refine ⟨A, c, rfl, h1, h2, hr.apt ha fun hx a e => ?_⟩
  subst e
  exact hb (fun e => hx (by rw [e]; rfl)) _ rfl

theorem Lv.apt {k : Nat} {v : Value} {xs : List (List Value)} (h : Lv k w v xs) (ha : Apt bad w w') (hb : xs ≠ [] → ∀ q, v.ownBlock = some q → ¬ bad q) : Lv k w' v xs := by
  obtain ⟨A, c, rfl, h1, h2, h3, hr⟩ := h
  refine ⟨A, c, rfl, h1, h2, h3, hr.apt ha fun hx a e => ?_⟩
  subst e
  exact hb (fun e => hx (by rw [e]; rfl)) _ rfl

end

/-- a slice of the call's own, each of whose elements is E, apart from what is bad and from the slice's own block -/
def OwnK {α : Type} (k : Nat) (w : World) (base : Nat) (e : TypeId) (bad : Nat → Prop) (E : World → α → List Value → Prop) (v : Value) (l : List α) : Prop :=
  ∃ xs, OwnL k w base e v xs ∧ Two (fun a x => Keep (fun q => bad q ∨ v.ownBlock = some q) (fun u => E u a x) w) l xs

section
variable {α : Type} {k : Nat} {w w' : World} {base : Nat} {e : TypeId} {bad bad' : Nat → Prop} {E : World → α → List Value → Prop} {v : Value} {l : List α}
theorem OwnK.nil (k : Nat) (w : World) (base : Nat) (e : TypeId) (bad : Nat → Prop) (E : World → α → List Value → Prop) : OwnK k w base e bad E (.slice none 0 0) [] := ⟨[], OwnL.nil _ _ _ _, Two.nil⟩

theorem OwnK.lt (h : OwnK k w base e bad E v l) : ∀ g, v.ownBlock = some g → base ≤ g ∧ g < w.heap.size := fun g hg => by
  obtain ⟨xs, h1, _⟩ := h
  exact ⟨h1.ge g hg, h1.lt g hg⟩

theorem OwnK.kept {row : Option Nat} (h : OwnK k w base e bad E v l) (hg : w.grownBy w' row) (hne : v.ownBlock = none ∨ v.ownBlock ≠ row) (hr : ∀ q, row = some q → bad q) (hb : ∀ q, bad' q → bad q ∨ w.heap.size ≤ q) : OwnK k w' base e bad' E v l := by
  obtain ⟨xs, h1, h2⟩ := h
  refine ⟨xs, h1.kept hg hne, h2.mono fun _ _ hk => hk.go (Apt.of_grown hg fun q hq => .inl (hr q hq)) fun q hq => ?_⟩
  rcases hq with hq | hq
  · rcases hb q hq with h | h
    · exact .inl (.inl h)
    · exact .inr h
  · exact .inl (.inr hq)

theorem OwnK.less (h : OwnK k w base e bad E v l) (hb : ∀ q, bad' q → bad q ∨ w.heap.size ≤ q) : OwnK k w base e bad' E v l :=
  h.kept (row := none) (World.grownBy.refl _ _) (by cases v.ownBlock <;> simp) (fun q h => by cases h) hb

theorem OwnK.below (h : OwnK k w base e bad E v l) (hb : Below w.heap.size w w') : OwnK k w' base e bad E v l :=
  h.kept (row := none) (grown_of_below hb none) (by cases v.ownBlock <;> simp) (fun q h => by cases h) fun _ h => .inl h

theorem OwnK.lv (h : OwnK k w base e bad E v l) : ∃ xs, Lv k w v xs ∧ Two (E w) l xs := by
  obtain ⟨xs, h1, h2⟩ := h
  exact ⟨xs, h1.lv, h2.mono fun _ _ hk => hk.here⟩

theorem OwnK.form (h : OwnK k w base e bad E v l) : ∃ A c, v = .slice A l.length c ∧ l.length ≤ c ∧ c ≤ 9223372036854775807 := by
  obtain ⟨xs, h1, h2⟩ := h
  obtain ⟨A, c, hv, h3, h4⟩ := h1.lv.form
  rw [← h2.len] at hv h3
  exact ⟨A, c, hv, h3, h4⟩

/-- what it reads as lies apart from what is bad, if its own block isn't bad -/
theorem OwnK.keep (h : OwnK k w base e bad E v l) (hn : ∀ q, v.ownBlock = some q → ¬ bad q) : Keep bad (fun u => ∃ xs, Lv k u v xs ∧ Two (E u) l xs) w := fun w' ha => by
  obtain ⟨xs, h1, h2⟩ := h
  exact ⟨xs, h1.lv.apt ha fun _ => hn, h2.mono fun _ _ hk => hk _ ⟨ha.os, ha.tape, ha.output, ha.size, fun g hg hb => ha.block g hg fun e => hb (.inl e)⟩⟩

theorem run_append_K {P : Program} {t : TypeId} {bytes : Nat} (HT : ElemT P t e k bytes) (ty : TypeId) (h : OwnK k w base e bad E v l) {a : α} {y : List Value} {V : Value} (hV : Lv k w V [y]) (hy : Keep (fun q => bad q ∨ v.ownBlock = some q) (fun u => E u a y) w)
    (h1 : ∀ u ∈ y, u.oneCell' = true) (hl : l.length ≤ 1000000000) (hbytes : bytes ≤ 100) (hbase : base ≤ w.heap.size) :
    ∃ v' w', (Builtin.append_ #[t, t] ty #[v, V]).run P w = .ok v' w' ∧ OwnK k w' base e bad E v' (l ++ [a]) ∧ w.grownBy w' v.ownBlock ∧ (v'.ownBlock = v.ownBlock ∨ v'.ownBlock = some w.heap.size) := by
  obtain ⟨xs, o1, o2⟩ := h
  have e1 := o2.len
  have hm : (xs.length + 1) * bytes ≤ 1000000001 * 100 := Nat.mul_le_mul (by omega) hbytes
  obtain ⟨v', w', hrun, ho, hg, hv⟩ := run_append_elems w HT ty base v xs o1 V [y] hV (fun z hz => by
    simp at hz
    subst hz
    exact h1) (by simp only [maxLen, List.length_singleton]; omega) (by simp only [List.length_singleton]; omega) hbase
  refine ⟨v', w', hrun, ⟨xs ++ [y], ho, (o2.snoc hy).mono fun _ _ hk => hk.go (Apt.of_grown hg fun q hq => .inr hq) fun q hq => ?_⟩, hg, hv⟩
  rcases hq with hq | hq
  · exact .inl (.inl hq)
  · rcases hv with h | h
    · exact .inl (.inr (by rw [← h]; exact hq))
    · rw [h] at hq
      injection hq with hq
      exact .inr (by omega)

theorem wpList_append_K {P : Program} {t : TypeId} {bytes : Nat} (HT : ElemT P t e k bytes) {ops : Array Oper} {rest : List Oper} {o : Oper} {a : Act} {Q : Exit → Act → World → Prop} (hgd : o.guard = none) (sx x : Operand)
    (ho : o.op = .call { callee := .builtin .append, args := #[sx, x], argTypes := #[t, t] })
    (hs : a.eval sx = v) (h : OwnK k w base e bad E v l) {b : α} {y : List Value} {V : Value} (hx : a.eval x = V) (hV : Lv k w V [y]) (hy : Keep (fun q => bad q ∨ v.ownBlock = some q) (fun u => E u b y) w)
    (h1 : ∀ u ∈ y, u.oneCell' = true) (hl : l.length ≤ 1000000000) (hbytes : bytes ≤ 100) (hbase : base ≤ w.heap.size)
    (hK : ∀ v' w', OwnK k w' base e bad E v' (l ++ [b]) → w.grownBy w' v.ownBlock → (v'.ownBlock = v.ownBlock ∨ v'.ownBlock = some w.heap.size) → wpList P ops Q rest (a.put o.dst v') w') : wpList P ops Q (o :: rest) a w := by
  refine wpList_plain hgd fun K hK' => ?_
  obtain ⟨v', w', hrun, h2, h3, h4⟩ := run_append_K HT o.type h hV hy h1 hl hbytes hbase
  unfold Oper.wp execOp
  simp only [ho, resolve, invoke, builtin, Sem.run_bind, Sem.run_pure, Result.andThen_ok, List.map_toArray, List.map_cons, List.map_nil, hs, hx, hrun]
  exact hK' _ _ (hK v' w' h2 h3 h4)

end

theorem spot2 {w u : World} {g base : Nat} {t : TypeId} {a0 a1 : Value} (hC : Blk u g t #[a0, a1]) (hB : Below base w u) (hbu : base ≤ u.heap.size) (hg : base ≤ g) (x y : Value) :
    ((u.setCell ⟨g, 0, none⟩ x).setCell ⟨g, 1, none⟩ y).cell? ⟨g, 0, none⟩ = some x ∧ ((u.setCell ⟨g, 0, none⟩ x).setCell ⟨g, 1, none⟩ y).cell? ⟨g, 1, none⟩ = some y ∧ Below base w ((u.setCell ⟨g, 0, none⟩ x).setCell ⟨g, 1, none⟩ y) ∧
      u.grownBy ((u.setCell ⟨g, 0, none⟩ x).setCell ⟨g, 1, none⟩ y) (some g) := by
  have hC4 := (hC.set_ 0 x).set_ 1 y
  have hg1 := grown_set u g 0 x
  have hg2 := grown_set (u.setCell ⟨g, 0, none⟩ x) g 1 y
  have c0 := hC4.cell 0
  have c1 := hC4.cell 1
  simp at c0 c1
  exact ⟨c0, c1, hB.grown (grown_trans hg1 hg2) hbu (by intro k hk; injection hk; omega), grown_trans hg1 hg2⟩

section
variable {P : Program} {w : World} {t e : TypeId} {k bytes : Nat} {A : Option Addr} {n c : Nat} {xs : List (List Value)}
theorem Lv.upto (h : Lv k w (.slice A n c) xs) (m : Nat) (hm : m ≤ n) : Lv k w (.slice A m c) (xs.take m) := by
  obtain ⟨A', c', hv, h1, h2, h3, hr⟩ := h
  injection hv with e1 e2 e3
  subst e1 e3
  have hl : (xs.take m).length = m := by rw [List.length_take]; omega
  have hk' : ∀ x ∈ xs.take m, x.length = k := fun x hx => h3 x (List.mem_of_mem_take hx)
  refine ⟨A, c, by rw [hl], by omega, h2, hk', fun j u hu => hr j u ?_⟩
  have hx : xs.flatten = (xs.take m).flatten ++ (xs.drop m).flatten := by rw [← List.flatten_append, List.take_append_drop]
  rw [hx, List.getElem?_append_left (List.getElem?_eq_some_iff.1 hu).1]
  exact hu

theorem Lv.from_ (h : Lv k w (.slice A n c) xs) (m : Nat) (hm : m ≤ n) : Lv k w (.slice (if c = m then A else A.map (·.add (m * k))) (n - m) (c - m)) (xs.drop m) := by
  obtain ⟨A', c', hv, h1, h2, h3, hr⟩ := h
  injection hv with e1 e2 e3
  subst e1 e3
  have hl : (xs.drop m).length = n - m := by rw [List.length_drop]; omega
  have hk' : ∀ x ∈ xs.drop m, x.length = k := fun x hx => h3 x (List.mem_of_mem_drop hx)
  refine ⟨_, _, by rw [hl], by omega, by omega, hk', fun j u hu => ?_⟩
  have hj := (List.getElem?_eq_some_iff.1 hu).1
  have hx : xs.flatten = (xs.take m).flatten ++ (xs.drop m).flatten := by rw [← List.flatten_append, List.take_append_drop]
  have ht : (xs.take m).flatten.length = m * k := by
    rw [flat_length fun x hx => h3 x (List.mem_of_mem_take hx), List.length_take]
    congr 1
    omega
  have hu' : xs.flatten[m * k + j]? = some u := by
    rw [hx, List.getElem?_append_right (by omega), ht, Nat.add_sub_cancel_left]
    exact hu
  obtain ⟨ad, rfl, hc⟩ := hr _ _ hu'
  have hcm : ¬ c = m := by
    intro e
    rw [flat_length hk', hl] at hj
    have : n - m = 0 := by omega
    rw [this] at hj
    simp at hj
  exact ⟨ad.add (m * k), by rw [if_neg hcm]; rfl, by rw [add_add]; exact hc⟩

theorem run_slice_upto (HT : ElemT P t e k bytes) (he : P.elem t = e) (m : Nat) (hm : m ≤ n) (hc : n ≤ c) (u : World) : (Instr.slice t (.slice A n c) none (some (.int .i64 (m : Int))) none).run P u = .ok (.slice A m c) u := by
  obtain ⟨i, z, hi, hz, hs, hby, hzs⟩ := HT.info
  rw [run_slice_h (P := P) (w := u) (t := t) (a := A) (len := n) (cap := c) (ht := by rw [he]; exact HT.under) .i64 m (by omega) (by omega)]
  simp [sizeOf, typeInfo, he, hi, hs, sliced]
  intro _
  cases A <;> simp [Addr.add]

theorem run_slice_from (HT : ElemT P t e k bytes) (he : P.elem t = e) (m : Nat) (hm : m ≤ n) (_ : n ≤ c) (u : World) : (Instr.slice t (.slice A n c) (some (.int .i64 (m : Int))) none none).run P u = .ok (.slice (if c = m then A else A.map (·.add (m * k))) (n - m) (c - m)) u := by
  obtain ⟨i, z, hi, hz, hs, hby, hzs⟩ := HT.info
  rw [run_slice_l (P := P) (w := u) (t := t) (a := A) (len := n) (cap := c) (ht := by rw [he]; exact HT.under) .i64 m (by omega) (by omega)]
  simp [sizeOf, typeInfo, he, hi, hs, sliced]

end

/-- s[:m], s[m:], each a value by a name of its own -/
theorem Lv.cut_upto {P : Program} {w : World} {t e : TypeId} {k bytes : Nat} {A : Option Addr} {n c : Nat} {xs : List (List Value)} (HT : ElemT P t e k bytes) (he : P.elem t = e) (h : Lv k w (.slice A n c) xs) (m : Nat) (hm : m ≤ n) :
    ∃ V, (∀ u, (Instr.slice t (.slice A n c) none (some (.int .i64 (m : Int))) none).run P u = .ok V u) ∧ Lv k w V (xs.take m) := by
  obtain ⟨A', c', e', h1, _⟩ := h.form
  injection e' with e1 e2 e3
  subst e1 e3
  exact ⟨_, fun u => run_slice_upto HT he m hm (by omega) u, h.upto m hm⟩

theorem Lv.cut_from {P : Program} {w : World} {t e : TypeId} {k bytes : Nat} {A : Option Addr} {n c : Nat} {xs : List (List Value)} (HT : ElemT P t e k bytes) (he : P.elem t = e) (h : Lv k w (.slice A n c) xs) (m : Nat) (hm : m ≤ n) :
    ∃ V, (∀ u, (Instr.slice t (.slice A n c) (some (.int .i64 (m : Int))) none none).run P u = .ok V u) ∧ Lv k w V (xs.drop m) := by
  obtain ⟨A', c', e', h1, _⟩ := h.form
  injection e' with e1 e2 e3
  subst e1 e3
  exact ⟨_, fun u => run_slice_from HT he m hm (by omega) u, h.from_ m hm⟩

/-- append, as a step of a region -/
theorem step_append_elems {P : Program} {t e : TypeId} {k bytes : Nat} (HT : ElemT P t e k bytes) {w : World} {ops : Array Oper} {o : Oper} {a : Act} {K : Act → World → Prop} {Q : Exit → Act → World → Prop} {E : Prop} (hgd : o.guard = none) (sx x : Operand)
    (ho : o.op = .call { callee := .builtin .append, args := #[sx, x], argTypes := #[t, t] })
    {base : Nat} {v : Value} {xs : List (List Value)} (hs : a.eval sx = v) (hown : OwnL k w base e v xs) {V : Value} {ys : List (List Value)} (hx : a.eval x = V) (hr : Lv k w V ys) (h1 : ∀ y ∈ ys, ∀ u ∈ y, u.oneCell' = true)
    (hsum : xs.length + ys.length ≤ maxLen) (hby : (xs.length + ys.length) * bytes ≤ 140737488355328) (hbase : base ≤ w.heap.size)
    (hK : ∀ v' w', OwnL k w' base e v' (xs ++ ys) → w.grownBy w' v.ownBlock → (v'.ownBlock = v.ownBlock ∨ v'.ownBlock = some w.heap.size) → K (a.put o.dst v') w') :
    if Region.wanted o (yielded ops a.tmps) = true then Oper.wp P o a w K Q else E := by
  have hw : Region.wanted o (yielded ops a.tmps) = true := by simp [Region.wanted, hgd]
  rw [if_pos hw]
  obtain ⟨v', w', hrun, h2, h3, h4⟩ := run_append_elems w HT o.type base v xs hown V ys hr h1 hsum hby hbase
  unfold Oper.wp execOp
  simp only [ho, resolve, invoke, builtin, Sem.run_bind, Sem.run_pure, Result.andThen_ok, List.map_toArray, List.map_cons, List.map_nil, hs, hx, hrun]
  exact hK v' w' h2 h3 h4

theorem flat_set1 {k : Nat} : ∀ {xs : List (List Value)}, (∀ x ∈ xs, x.length = k) → ∀ {i j : Nat} {x : List Value} (u : Value), xs[i]? = some x → j < k → xs.flatten.set (i * k + j) u = (xs.set i (x.set j u)).flatten
  | [], _, i, j, x, u, h, _ => by simp at h
  | y :: ys, hk, 0, j, x, u, h, hj => by
    simp at h
    subst h
    have hy := hk y (List.mem_cons_self ..)
    rw [Nat.zero_mul, Nat.zero_add, List.flatten_cons, List.set_cons_zero, List.flatten_cons, List.set_append_left _ _ (by omega)]
  | y :: ys, hk, i + 1, j, x, u, h, hj => by
    have hy := hk y (List.mem_cons_self ..)
    have ih := flat_set1 (fun x hx => hk x (List.mem_cons_of_mem _ hx)) (xs := ys) (i := i) (j := j) (x := x) u (by simpa using h) hj
    rw [List.flatten_cons, List.set_cons_succ, List.flatten_cons, List.set_append_right _ _ (by rw [hy, Nat.succ_mul]; omega), ← ih]
    congr 2
    rw [hy, Nat.succ_mul]
    omega

theorem Two.setR {α β : Type} {R : α → β → Prop} {l : List α} {m : List β} (h : Two R l m) {i : Nat} {a : α} {b : β} (ha : l[i]? = some a) (hb : R a b) : Two R l (m.set i b) := by
  refine ⟨by simp [h.len], fun j x y h1 h2 => ?_⟩
  rw [List.getElem?_set] at h2
  split at h2
  · rename_i e
    subst e
    split at h2
    · rw [ha] at h1
      injection h1 with h1
      injection h2 with h2
      subst h1 h2
      exact hb
    · cases h2
  · exact h.at_ j x y h1 h2

theorem Two.set {α β : Type} {R : α → β → Prop} {l : List α} {m : List β} (h : Two R l m) (i : Nat) {a : α} {b : β} (hb : R a b) : Two R (l.set i a) (m.set i b) := by
  refine ⟨by simp [h.len], fun j x y h1 h2 => ?_⟩
  rw [List.getElem?_set] at h1 h2
  split at h2
  · rename_i e
    rw [if_pos e] at h1
    split at h1
    · split at h2
      · injection h1 with h1
        injection h2 with h2
        subst h1 h2
        exact hb
      · cases h2
    · cases h1
  · rename_i e
    rw [if_neg e] at h1
    exact h.at_ j x y h1 h2

/-- a row of the call's own, in a block that is known -/
theorem OwnL.at_ {k : Nat} {w : World} {base : Nat} {e : TypeId} {v : Value} {xs : List (List Value)} (h : OwnL k w base e v xs) : (v = .slice none 0 0 ∧ xs = []) ∨ ∃ g c, v = .slice (some ⟨g, 0, none⟩) xs.length c ∧ xs.length ≤ c ∧ c ≤ 9223372036854775807 ∧ base ≤ g ∧ g < w.heap.size ∧ ∀ j, w.frozen? ⟨g, j, none⟩ = false := by
  rcases h.1.2 with ⟨hv, h0⟩ | ⟨g, cap, cur, hv, hb, hg, hn, hm, _⟩
  · exact .inl ⟨hv, List.eq_nil_of_length_eq_zero h0⟩
  · simp only [maxLen] at hm
    exact .inr ⟨g, cap, hv, hn, hm, hb, (Array.getElem?_eq_some_iff.1 hg).1, fun j => by simp [World.frozen?, hg]⟩

/-- one cell of it is stored -/
theorem OwnL.put_ {k : Nat} {w : World} {base g n c : Nat} {e : TypeId} {xs : List (List Value)} (h : OwnL k w base e (.slice (some ⟨g, 0, none⟩) n c) xs) {i j : Nat} {x : List Value} (hx : xs[i]? = some x) (hj : j < k) (u : Value) :
    OwnL k (w.setCell ⟨g, i * k + j, none⟩ u) base e (.slice (some ⟨g, 0, none⟩) n c) (xs.set i (x.set j u)) ∧ w.grownBy (w.setCell ⟨g, i * k + j, none⟩ u) (some g) := by
  obtain ⟨h1, hk⟩ := h
  have hnx : n = xs.length := by
    rcases h1.2 with ⟨hv, _⟩ | ⟨g', cap, cur, hv, _⟩
    · cases hv
    · injection hv with e1 e2 e3
  subst hnx
  obtain ⟨h3, h4⟩ := h1.stored (i * k + j) u
  rw [flat_set1 hk u hx hj] at h3
  refine ⟨⟨by rw [List.length_set]; exact h3, fun y hy => ?_⟩, h4⟩
  rcases List.mem_or_eq_of_mem_set hy with hy | rfl
  · exact hk y hy
  · rw [List.length_set]
    exact hk x (List.mem_of_getElem? hx)

end Go.Proofs.Ytohcbgchloncmaa

namespace Go.Proofs.Ytohcbgchloncmaa
open Go.RowKit

theorem below_apt {B : Nat} {w w1 w2 : World} {F : Nat → Prop} (h : Below B w w1) (ha : Apt F w1 w2) (hF : ∀ q, F q → B ≤ q) (hB : B ≤ w1.heap.size) : Below B w w2 :=
  ⟨ha.os.trans h.os, ha.tape.trans h.tape, ha.output.trans h.output, Nat.le_trans h.size ha.size, fun g hg => (ha.block g (by omega) fun e => by have := hF g e; omega).trans (h.block g hg)⟩

theorem Apt.mono {bad bad' : Nat → Prop} {w w' : World} (h : Apt bad w w') (hb : ∀ q, q < w.heap.size → bad q → bad' q) : Apt bad' w w' := ⟨h.os, h.tape, h.output, h.size, fun g hg hn => h.block g hg fun e => hn (hb g hg e)⟩

theorem OwnL.apt {bad : Nat → Prop} {k : Nat} {w w' : World} {base : Nat} {e : TypeId} {v : Value} {xs : List (List Value)} (h : OwnL k w base e v xs) (ha : Apt bad w w') (hb : ∀ q, v.ownBlock = some q → ¬ bad q) : OwnL k w' base e v xs := by
  refine ⟨⟨h.1.1, ?_⟩, h.2⟩
  rcases h.1.2 with h0 | ⟨g, cap, cur, hv, hg, hr, hrest⟩
  · exact .inl h0
  · refine .inr ⟨g, cap, cur, hv, hg, ?_, hrest⟩
    have hlt := (Array.getElem?_eq_some_iff.1 hr).1
    exact (ha.block g hlt (hb g (by rw [hv]; rfl))).trans hr

theorem Own.apt {bad : Nat → Prop} {w w' : World} {base : Nat} {e : TypeId} {v : Value} {l : List UInt8} (h : Own w base e v l) (ha : Apt bad w w') (hb : ∀ q, v.ownBlock = some q → ¬ bad q) : Own w' base e v l := by
  refine ⟨h.1, ?_⟩
  rcases h.2 with h0 | ⟨g, cap, cur, hv, hg, hr, hrest⟩
  · exact .inl h0
  · refine .inr ⟨g, cap, cur, hv, hg, ?_, hrest⟩
    have hlt := (Array.getElem?_eq_some_iff.1 hr).1
    exact (ha.block g hlt (hb g (by rw [hv]; rfl))).trans hr

theorem Own.blk_lt {w : World} {base : Nat} {e : TypeId} {v : Value} {l : List UInt8} (h : Own w base e v l) : ∀ z, v.ownBlock = some z → z < w.heap.size := fun z hz => (World.ownsRow.lt h z hz).2

/-- a byte of a slice of the call's own -/
theorem Own.put_ {w : World} {base q n c : Nat} {e : TypeId} {l : List UInt8} (h : Own w base e (.slice (some ⟨q, 0, none⟩) n c) l) (j : Nat) (z : UInt8) :
    Own (w.setCell ⟨q, j, none⟩ (.int .u8 (z.toNat : Int))) base e (.slice (some ⟨q, 0, none⟩) n c) (l.set j z) ∧ w.grownBy (w.setCell ⟨q, j, none⟩ (.int .u8 (z.toNat : Int))) (some q) := by
  obtain ⟨A, c', e', _⟩ := h.form
  injection e' with e1 e2 e3
  subst e2
  have e4 : BV (l.set j z) = (BV l).set j (.int .u8 (z.toNat : Int)) := by simp [BV, List.map_set]
  obtain ⟨h1, h2⟩ := World.ownsRow.stored h j (.int .u8 (z.toNat : Int))
  refine ⟨?_, h2⟩
  unfold Own
  rw [List.length_set, e4]
  exact h1

/-- a byte, one more -/
theorem byte_next (yn : Nat) : ∃ z : UInt8, (z.toNat : Int) = ((yn : Int) + 1) % 256 := ⟨UInt8.ofNat ((yn + 1) % 256), by
  rw [UInt8.toNat_ofNat', Nat.mod_eq_of_lt (by omega)]
  omega⟩

/-- the cell of one byte of it -/
theorem Own.byte {w : World} {base n c : Nat} {e : TypeId} {A : Option Addr} {l : List UInt8} (h : Own w base e (.slice A n c) l) {j : Nat} (hj : j < n) :
    ∃ (q yn : Nat), A = some ⟨q, 0, none⟩ ∧ base ≤ q ∧ yn < 256 ∧ w.cell? ⟨q, j, none⟩ = some (.int .u8 (yn : Int)) ∧ w.frozen? ⟨q, j, none⟩ = false := by
  have h0 := h
  obtain ⟨A', c', e', _⟩ := h.form
  injection e' with e1 e2 e3
  subst e2
  rcases h.2 with ⟨e0, _⟩ | ⟨q, cap, cur, e0, hq, hb, _⟩
  · injection e0 with _ e4
    omega
  · injection e0 with ea
    subst ea
    obtain ⟨y, hy⟩ : ∃ y, l[j]? = some y := ⟨_, List.getElem?_eq_getElem hj⟩
    refine ⟨q, y.toNat, rfl, hq, y.toNat_lt, ?_, by simp [World.frozen?, hb]⟩
    have := h0.rd.cells j (.int .u8 (y.toNat : Int)) (by rw [BV_getElem?, hy]; rfl)
    rw [Addr.add_lit, Nat.zero_add] at this
    exact this

end Go.Proofs.Ytohcbgchloncmaa

namespace Go.Proofs.Ytohcbgchloncmaa
open Go.RowKit

/-- R w F: in the world w a thing stands in the blocks F, and stays while these do -/
structure Thing (R : World → (Nat → Prop) → Prop) : Prop where
  keep : ∀ {w w' : World} {F : Nat → Prop}, R w F → Apt (fun q => ¬ F q) w w' → R w' F
  lt : ∀ {w : World} {F : Nat → Prop}, R w F → ∀ q, F q → q < w.heap.size

/-- in the world w, a later one than w0: A stands in F, B in G, and X holds, whatever they do -/
structure W2 (X : World → Prop) (w0 w : World) (A : World → (Nat → Prop) → Prop) (F : Nat → Prop) (B : World → (Nat → Prop) → Prop) (G : Nat → Prop) : Prop where
  below : Below w0.heap.size w0 w
  a : A w F
  b : B w G
  fge : ∀ q, F q → w0.heap.size ≤ q
  gge : ∀ q, G q → w0.heap.size ≤ q
  ne : ∀ q, F q → ¬ G q
  kx : Keep (fun q => F q ∨ G q) X w

section
variable {X X' : World → Prop} {w0 w w' : World} {A A' B B' : World → (Nat → Prop) → Prop} {F F' G G' : Nat → Prop}
/-- what A does -/
theorem W2.stepA (h : W2 X w0 w A F B G) (hA : Thing A) (hB : Thing B) (hp : A' w' F') (ha : Apt F w w') (hn : ∀ q, F' q → F q ∨ w.heap.size ≤ q) : W2 X w0 w' A' F' B G := by
  have _ := hA
  refine ⟨below_apt h.below ha h.fge h.below.size, hp, hB.keep h.b (ha.mono fun q _ hF hG => h.ne q hF hG), fun q hq => ?_, h.gge, fun q hq hG => ?_, h.kx.go (ha.mono fun q _ hq => .inl hq) fun q hq => ?_⟩
  · rcases hn q hq with h1 | h1
    · exact h.fge q h1
    · exact Nat.le_trans h.below.size h1
  · rcases hn q hq with h1 | h1
    · exact h.ne q h1 hG
    · have := hB.lt h.b q hG
      omega
  · rcases hq with hq | hq
    · rcases hn q hq with h1 | h1
      · exact .inl (.inl h1)
      · exact .inr h1
    · exact .inl (.inr hq)

/-- what B does -/
theorem W2.stepB (h : W2 X w0 w A F B G) (hA : Thing A) (hp : B' w' G') (ha : Apt G w w') (hn : ∀ q, G' q → G q ∨ w.heap.size ≤ q) : W2 X w0 w' A F B' G' := by
  refine ⟨below_apt h.below ha h.gge h.below.size, hA.keep h.a (ha.mono fun q _ hG hF => h.ne q hF hG), hp, h.fge, fun q hq => ?_, fun q hq hG => ?_, h.kx.go (ha.mono fun q _ hq => .inr hq) fun q hq => ?_⟩
  · rcases hn q hq with h1 | h1
    · exact h.gge q h1
    · exact Nat.le_trans h.below.size h1
  · rcases hn q hG with h1 | h1
    · exact h.ne q hq h1
    · have := hA.lt h.a q hq
      omega
  · rcases hq with hq | hq
    · exact .inl (.inl hq)
    · rcases hn q hq with h1 | h1
      · exact .inl (.inr h1)
      · exact .inr h1

/-- what is done apart from both: new memory, or a block of its own -/
theorem W2.own {row : Option Nat} (h : W2 X w0 w A F B G) (hA : Thing A) (hB : Thing B) (hg : w.grownBy w' row) (hr : ∀ q, row = some q → w0.heap.size ≤ q ∧ ¬ (F q ∨ G q)) (hX : Keep (fun q => F q ∨ G q) X' w') : W2 X' w0 w' A F B G := by
  have ha : Apt (fun q => row = some q) w w' := Apt.of_grown hg fun q hq => hq
  exact ⟨below_apt h.below ha (fun q hq => (hr q hq).1) h.below.size, hA.keep h.a (ha.mono fun q _ hq hF => (hr q hq).2 (.inl hF)), hB.keep h.b (ha.mono fun q _ hq hG => (hr q hq).2 (.inr hG)), h.fge, h.gge, h.ne, hX⟩

theorem W2.later (h : W2 X w0 w A F B G) (hA : Thing A) (hB : Thing B) (hb : Below w.heap.size w w') : W2 X w0 w' A F B G :=
  h.own (row := none) hA hB (grown_of_below hb _) (fun q hq => by cases hq) (h.kx.below hb)

theorem W2.say (h : W2 X w0 w A F B G) (hX : Keep (fun q => F q ∨ G q) X' w) : W2 X' w0 w A F B G := ⟨h.below, h.a, h.b, h.fge, h.gge, h.ne, hX⟩

theorem W2.x (h : W2 X w0 w A F B G) : X w := h.kx.here

theorem W2.bad_lt (h : W2 X w0 w A F B G) (hA : Thing A) (hB : Thing B) : ∀ q, (F q ∨ G q) → q < w.heap.size := fun q hq => hq.elim (hA.lt h.a q) (hB.lt h.b q)

theorem W2.bad_ge (h : W2 X w0 w A F B G) : ∀ q, (F q ∨ G q) → w0.heap.size ≤ q := fun q hq => hq.elim (h.fge q) (h.gge q)

/-- what is apart stays apart -/
theorem apart_two {ov : Value} {n : Nat} (h : ∀ z, ov.ownBlock = some z → ¬ (F z ∨ G z)) (hlt : ∀ z, ov.ownBlock = some z → z < n) (hF : ∀ q, F' q → F q ∨ n ≤ q) (hG : ∀ q, G' q → G q ∨ n ≤ q) : ∀ z, ov.ownBlock = some z → ¬ (F' z ∨ G' z) := fun z hz hb => by
  have h1 := hlt z hz
  rcases hb with hb | hb
  · rcases hF z hb with h2 | h2
    · exact h z hz (.inl h2)
    · omega
  · rcases hG z hb with h2 | h2
    · exact h z hz (.inr h2)
    · omega

end

end Go.Proofs.Ytohcbgchloncmaa

namespace Go.Proofs.Ytohcbgchloncmaa
open Go.RowKit

structure Goes (w0 : World) (F0 : Nat → Prop) (w : World) (F : Nat → Prop) : Prop where
  apt : Apt F0 w0 w
  new : ∀ q, F q → F0 q ∨ w0.heap.size ≤ q

section
variable {w0 w1 w2 w w' : World} {F0 F1 F2 F F' : Nat → Prop}
theorem Goes.refl (w : World) (F : Nat → Prop) : Goes w F w F := ⟨Apt.refl _ _, fun _ => .inl⟩

theorem Goes.trans (h : Goes w0 F0 w1 F1) (k : Goes w1 F1 w2 F2) : Goes w0 F0 w2 F2 := by
  refine ⟨⟨k.apt.os.trans h.apt.os, k.apt.tape.trans h.apt.tape, k.apt.output.trans h.apt.output, Nat.le_trans h.apt.size k.apt.size, fun g hg hn => ?_⟩, fun q hq => ?_⟩
  · refine (k.apt.block g (Nat.lt_of_lt_of_le hg h.apt.size) fun e => ?_).trans (h.apt.block g hg hn)
    rcases h.new g e with h1 | h1
    · exact hn h1
    · omega
  · rcases k.new q hq with h1 | h1
    · exact h.new q h1
    · exact .inr (Nat.le_trans h.apt.size h1)

theorem Goes.later (h : Goes w0 F0 w1 F1) (hb : Below w1.heap.size w1 w2) : Goes w0 F0 w2 F1 := h.trans ⟨Apt.of_below hb, fun _ => .inl⟩

theorem Goes.of_below (hb : Below w.heap.size w w') : Goes w F w' F := (Goes.refl w F).later hb

/-- more blocks, of the old ones and the new -/
theorem Goes.more (h : Goes w0 F0 w1 F1) (hn : ∀ q, F2 q → F1 q ∨ F0 q ∨ w0.heap.size ≤ q) : Goes w0 F0 w1 F2 := ⟨h.apt, fun q hq => (hn q hq).elim (h.new q) id⟩

/-- a block of the thing's own turns -/
theorem Goes.own (h : Goes w0 F0 w1 F1) {g : Nat} (hg : w1.grownBy w2 (some g)) (hF : F1 g) : Goes w0 F0 w2 F1 := h.trans ⟨Apt.of_grown hg fun q hq => by injection hq with hq; subst hq; exact hF, fun _ => .inl⟩

end

section
variable {α : Type} {k : Nat} {w w' : World} {base base' : Nat} {e : TypeId} {bad bad' bad0 : Nat → Prop} {E : World → α → List Value → Prop} {v : Value} {l : List α}
theorem OwnL.lower {xs : List (List Value)} (h : OwnL k w base e v xs) (hb : base' ≤ base) : OwnL k w base' e v xs := by
  refine ⟨⟨h.1.1, ?_⟩, h.2⟩
  rcases h.1.2 with h0 | ⟨g, cap, cur, hv, hg, hrest⟩
  · exact .inl h0
  · exact .inr ⟨g, cap, cur, hv, Nat.le_trans hb hg, hrest⟩

theorem OwnK.lower (h : OwnK k w base e bad E v l) (hb : base' ≤ base) : OwnK k w base' e bad E v l := by
  obtain ⟨xs, h1, h2⟩ := h
  exact ⟨xs, h1.lower hb, h2⟩

/-- some of what is bad turns, and what is bad becomes less, or what is new -/
theorem OwnK.apt (h : OwnK k w base e bad E v l) (ha : Apt bad0 w w') (h0 : ∀ q, q < w.heap.size → bad0 q → bad q) (hv : ∀ q, v.ownBlock = some q → ¬ bad0 q) (hb : ∀ q, bad' q → bad q ∨ w.heap.size ≤ q) : OwnK k w' base e bad' E v l := by
  obtain ⟨xs, h1, h2⟩ := h
  refine ⟨xs, h1.apt ha hv, h2.mono fun _ _ hk => hk.go (ha.mono fun q hq hb0 => .inl (h0 q hq hb0)) fun q hq => ?_⟩
  rcases hq with hq | hq
  · rcases hb q hq with h | h
    · exact .inl (.inl h)
    · exact .inr h
  · exact .inl (.inr hq)

/-- append, as a step of a region that draws its order -/
theorem step_append_K {P : Program} {t : TypeId} {bytes : Nat} (HT : ElemT P t e k bytes) {ops : Array Oper} {o : Oper} {a : Act} {K : Act → World → Prop} {Q : Exit → Act → World → Prop} {D : Prop} (hgd : o.guard = none) (sx x : Operand)
    (ho : o.op = .call { callee := .builtin .append, args := #[sx, x], argTypes := #[t, t] })
    (hs : a.eval sx = v) (h : OwnK k w base e bad E v l) {b : α} {y : List Value} {V : Value} (hx : a.eval x = V) (hV : Lv k w V [y]) (hy : Keep (fun q => bad q ∨ v.ownBlock = some q) (fun u => E u b y) w)
    (h1 : ∀ u ∈ y, u.oneCell' = true) (hl : l.length ≤ 1000000000) (hbytes : bytes ≤ 100) (hbase : base ≤ w.heap.size)
    (hK : ∀ v' w', OwnK k w' base e bad E v' (l ++ [b]) → w.grownBy w' v.ownBlock → (v'.ownBlock = v.ownBlock ∨ v'.ownBlock = some w.heap.size) → K (a.put o.dst v') w') :
    if Region.wanted o (yielded ops a.tmps) = true then Oper.wp P o a w K Q else D := by
  have hw : Region.wanted o (yielded ops a.tmps) = true := by simp [Region.wanted, hgd]
  rw [if_pos hw]
  obtain ⟨v', w', hrun, h2, h3, h4⟩ := run_append_K HT o.type h hV hy h1 hl hbytes hbase
  unfold Oper.wp execOp
  simp only [ho, resolve, invoke, builtin, Sem.run_bind, Sem.run_pure, Result.andThen_ok, List.map_toArray, List.map_cons, List.map_nil, hs, hx, hrun]
  exact hK v' w' h2 h3 h4

end

/-- make([]T, n) -/
theorem run_make_elems {P : Program} {t e : TypeId} {bytes : Nat} (HT : ElemT P t e 1 bytes) (n : Nat) (hn : bytes * n ≤ 140737488355328) (hm : n ≤ 1000000000) : ∃ x, ∀ u : World, (Instr.makeSlice t (.int .i64 (n : Int)) (.int .i64 (n : Int))).run P u = .ok (.slice (some ⟨u.heap.size, 0, none⟩) n n) (u.alloc (.cells (madeCells #[x] n) e)) ∧
    OwnL 1 (u.alloc (.cells (madeCells #[x] n) e)) u.heap.size e (.slice (some ⟨u.heap.size, 0, none⟩) n n) (List.replicate n [x]) := by
  obtain ⟨i, z, hi, hz, hs, hby, hzs⟩ := HT.info
  obtain ⟨x, hx⟩ : ∃ x, z.cells = #[x] := by
    have : z.cells.toList.length = 1 := by simpa using hzs
    match h : z.cells.toList, this with
    | [x], _ => exact ⟨x, by rw [← h]⟩
  have hb' : (i.bytes : Int) * (n : Int) ≤ 281474976710656 := by
    rw [hby]
    have h : ((bytes * n : Nat) : Int) ≤ 281474976710656 := by omega
    rwa [Int.natCast_mul] at h
  refine ⟨x, fun u => ⟨?_, ?_, fun y hy => ?_⟩⟩
  · have h := run_make (P := P) u t e i z HT.under hi hz .i64 .i64 (n : Int) (n : Int) (by omega) (by omega) hb' (by omega)
    simp only [Int.toNat_natCast] at h
    rw [hx, hs, Nat.mul_one] at h
    exact h
  · have hsz : (madeCells #[x] n).size = n * 1 := by simp [madeCells]
    have h := World.ownsRow_lit (base := u.heap.size) (e := e) (size := 1) u (madeCells #[x] n) n (Nat.le_refl _) (by simp only [maxLen]; omega) hsz
    rw [toList_madeCells_one] at h
    rw [List.length_replicate]
    have e : (List.replicate n [x]).flatten = List.replicate n x := by simp
    rw [e]
    exact h
  · rw [List.mem_replicate] at hy
    rw [hy.2]
    rfl

end Go.Proofs.Ytohcbgchloncmaa
