/-
  WHAT IS READ APART FROM SOME BLOCKS ('Keep'), over any program; rows of the call's own whose elements are kept so ('OwnK'). No condition but what each theorem says.
-/
import Derived.Test.YtpcaecnkdcobmaaLs
namespace Go.Proofs.Ytpcaecnkdcobmaa
open Go.RowKit

/-- w' is w, but for what is new and for the blocks that are bad -/
structure Apt (bad : Nat → Prop) (w w' : World) : Prop where
  os : w'.os = w.os
  tape : w'.tape = w.tape
  output : w'.output = w.output
  size : w.heap.size ≤ w'.heap.size
  block : ∀ g, g < w.heap.size → ¬ bad g → w'.heap[g]? = w.heap[g]?
theorem Apt.refl (bad : Nat → Prop) (w : World) : Apt bad w w := ⟨rfl, rfl, rfl, Nat.le_refl _, fun _ _ _ => rfl⟩
theorem Apt.of_below {bad : Nat → Prop} {w w' : World} (h : Below w.heap.size w w') : Apt bad w w' := ⟨h.os, h.tape, h.output, h.size, fun g hg _ => h.block g hg⟩
theorem Apt.of_grown {bad : Nat → Prop} {w w' : World} {row : Option Nat} (h : w.grownBy w' row) (hr : ∀ q, row = some q → bad q) : Apt bad w w' :=
  ⟨h.os, h.tape, h.output, h.size, fun g hg hb => h.block g hg fun e => hb (hr g e.symm)⟩
theorem Apt.trans {bad : Nat → Prop} {a b c : World} (h : Apt bad a b) (k : Apt bad b c) : Apt bad a c :=
  ⟨k.os.trans h.os, k.tape.trans h.tape, k.output.trans h.output, Nat.le_trans h.size k.size, fun g hg hb => (k.block g (Nat.lt_of_lt_of_le hg h.size) hb).trans (h.block g hg hb)⟩
/-- φ holds of w, and of all worlds that are w but for the blocks that are bad -/
def Keep (bad : Nat → Prop) (φ : World → Prop) (w : World) : Prop := ∀ w', Apt bad w w' → φ w'
section
variable {bad bad' : Nat → Prop} {φ ψ : World → Prop} {w w' w0 : World}
theorem Keep.here (h : Keep bad φ w) : φ w := h w (Apt.refl _ _)
theorem Keep.go (h : Keep bad φ w) (ha : Apt bad w w') (hb : ∀ q, bad' q → bad q ∨ w.heap.size ≤ q) : Keep bad' φ w' := fun w'' h2 => by
  refine h w'' ⟨h2.os.trans ha.os, h2.tape.trans ha.tape, h2.output.trans ha.output, Nat.le_trans ha.size h2.size, fun g hg hn => ?_⟩
  refine (h2.block g (Nat.lt_of_lt_of_le hg ha.size) fun hb' => ?_).trans (ha.block g hg hn)
  rcases hb g hb' with h | h
  · exact hn h
  · omega
theorem Keep.less (h : Keep bad φ w) (hb : ∀ q, bad' q → bad q ∨ w.heap.size ≤ q) : Keep bad' φ w := h.go (Apt.refl _ _) hb
theorem Keep.below (h : Keep bad φ w) (hb : Below w.heap.size w w') : Keep bad φ w' := h.go (Apt.of_below hb) fun _ h => .inl h
theorem Keep.of_old (h : ∀ u, Below w0.heap.size w0 u → φ u) (hb : Below w0.heap.size w0 w) (hn : ∀ q, bad q → w0.heap.size ≤ q) : Keep bad φ w := fun w' ha =>
  h w' ⟨ha.os.trans hb.os, ha.tape.trans hb.tape, ha.output.trans hb.output, Nat.le_trans hb.size ha.size, fun g hg => (ha.block g (Nat.lt_of_lt_of_le hg hb.size) fun e => by have := hn g e; omega).trans (hb.block g hg)⟩
theorem Rd.apt {A : Option Addr} {xs : List Value} (h : Rd w A xs) (ha : Apt bad w w') (hb : xs ≠ [] → ∀ a, A = some a → ¬ bad a.block) : Rd w' A xs := by
  rcases xs with _ | ⟨x, xs⟩
  · exact Rd.zero _ _
  · refine h.keep fun p hp hA => ?_
    refine World.cell?_of_block (ha.block p.block hp fun e => ?_)
    obtain ⟨a, e1, _⟩ := h 0 x rfl
    exact hb (by simp) a e1 (by rw [← hA a e1]; exact e)
theorem Bs.apt {v : Value} {l : List UInt8} (h : Bs w v l) (ha : Apt bad w w') (hb : l ≠ [] → ∀ q, v.ownBlock = some q → ¬ bad q) : Bs w' v l := by
  obtain ⟨A, c, rfl, h1, h2, hr⟩ := h
  refine ⟨A, c, rfl, h1, h2, hr.apt ha fun hx a e => ?_⟩
  subst e
  exact hb (fun e => hx (by rw [e]; rfl)) _ rfl
theorem Lv.apt {k : Nat} {v : Value} {xs : List (List Value)} (h : Lv k w v xs) (ha : Apt bad w w') (hb : xs ≠ [] → ∀ q, v.ownBlock = some q → ¬ bad q) : Lv k w' v xs := by
  obtain ⟨A, c, rfl, h1, h2, h3, hr⟩ := h
  refine ⟨A, c, rfl, h1, h2, h3, hr.apt ha fun hx a e => ?_⟩
  subst e
  exact hb (fun e => hx (by rw [e]; rfl)) _ rfl
end

/-- a slice of the call's own, each of whose elements is E, apart from what is bad and from the slice's own block -/
def OwnK {α : Type} (k : Nat) (w : World) (base : Nat) (e : TypeId) (bad : Nat → Prop) (E : World → α → List Value → Prop) (v : Value) (l : List α) : Prop :=
  ∃ xs, OwnL k w base e v xs ∧ Two (fun a x => Keep (fun q => bad q ∨ v.ownBlock = some q) (fun u => E u a x) w) l xs
section
variable {α : Type} {k : Nat} {w w' : World} {base : Nat} {e : TypeId} {bad bad' : Nat → Prop} {E : World → α → List Value → Prop} {v : Value} {l : List α}
theorem OwnK.nil (k : Nat) (w : World) (base : Nat) (e : TypeId) (bad : Nat → Prop) (E : World → α → List Value → Prop) : OwnK k w base e bad E (.slice none 0 0) [] := ⟨[], OwnL.nil _ _ _ _, Two.nil⟩
theorem OwnK.lt (h : OwnK k w base e bad E v l) : ∀ g, v.ownBlock = some g → base ≤ g ∧ g < w.heap.size := fun g hg => by
  obtain ⟨xs, h1, _⟩ := h
  exact ⟨h1.ge g hg, h1.lt g hg⟩
theorem OwnK.kept {row : Option Nat} (h : OwnK k w base e bad E v l) (hg : w.grownBy w' row) (hne : v.ownBlock = none ∨ v.ownBlock ≠ row) (hr : ∀ q, row = some q → bad q) (hb : ∀ q, bad' q → bad q ∨ w.heap.size ≤ q) : OwnK k w' base e bad' E v l := by
  obtain ⟨xs, h1, h2⟩ := h
  refine ⟨xs, h1.kept hg hne, h2.mono fun _ _ hk => hk.go (Apt.of_grown hg fun q hq => .inl (hr q hq)) fun q hq => ?_⟩
  rcases hq with hq | hq
  · rcases hb q hq with h | h
    · exact .inl (.inl h)
    · exact .inr h
  · exact .inl (.inr hq)
theorem OwnK.less (h : OwnK k w base e bad E v l) (hb : ∀ q, bad' q → bad q ∨ w.heap.size ≤ q) : OwnK k w base e bad' E v l :=
  h.kept (row := none) (World.grownBy.refl _ _) (by cases v.ownBlock <;> simp) (fun q h => by cases h) hb
theorem OwnK.below (h : OwnK k w base e bad E v l) (hb : Below w.heap.size w w') : OwnK k w' base e bad E v l :=
  h.kept (row := none) (grown_of_below hb none) (by cases v.ownBlock <;> simp) (fun q h => by cases h) fun _ h => .inl h
theorem OwnK.lv (h : OwnK k w base e bad E v l) : ∃ xs, Lv k w v xs ∧ Two (E w) l xs := by
  obtain ⟨xs, h1, h2⟩ := h
  exact ⟨xs, h1.lv, h2.mono fun _ _ hk => hk.here⟩
theorem OwnK.form (h : OwnK k w base e bad E v l) : ∃ A c, v = .slice A l.length c ∧ l.length ≤ c ∧ c ≤ 9223372036854775807 := by
  obtain ⟨xs, h1, h2⟩ := h
  obtain ⟨A, c, hv, h3, h4⟩ := h1.lv.form
  rw [← h2.len] at hv h3
  exact ⟨A, c, hv, h3, h4⟩
/-- what it reads as lies apart from what is bad, if its own block isn't bad -/
theorem OwnK.keep (h : OwnK k w base e bad E v l) (hn : ∀ q, v.ownBlock = some q → ¬ bad q) : Keep bad (fun u => ∃ xs, Lv k u v xs ∧ Two (E u) l xs) w := fun w' ha => by
  obtain ⟨xs, h1, h2⟩ := h
  exact ⟨xs, h1.lv.apt ha fun _ => hn, h2.mono fun _ _ hk => hk _ ⟨ha.os, ha.tape, ha.output, ha.size, fun g hg hb => ha.block g hg fun e => hb (.inl e)⟩⟩
theorem run_append_K {P : Program} {t : TypeId} {bytes : Nat} (HT : ElemT P t e k bytes) (ty : TypeId) (h : OwnK k w base e bad E v l) {a : α} {y : List Value} {V : Value} (hV : Lv k w V [y]) (hy : Keep (fun q => bad q ∨ v.ownBlock = some q) (fun u => E u a y) w)
    (h1 : ∀ u ∈ y, u.oneCell' = true) (hl : l.length ≤ 1000000000) (hbytes : bytes ≤ 100) (hbase : base ≤ w.heap.size) :
    ∃ v' w', (Builtin.append_ #[t, t] ty #[v, V]).run P w = .ok v' w' ∧ OwnK k w' base e bad E v' (l ++ [a]) ∧ w.grownBy w' v.ownBlock ∧ (v'.ownBlock = v.ownBlock ∨ v'.ownBlock = some w.heap.size) := by
  obtain ⟨xs, o1, o2⟩ := h
  have e1 := o2.len
  have hm : (xs.length + 1) * bytes ≤ 1000000001 * 100 := Nat.mul_le_mul (by omega) hbytes
  obtain ⟨v', w', hrun, ho, hg, hv⟩ := run_append_elems w HT ty base v xs o1 V [y] hV (fun z hz => by
    simp at hz
    subst hz
    exact h1) (by simp only [maxLen, List.length_singleton]; omega) (by simp only [List.length_singleton]; omega) hbase
  refine ⟨v', w', hrun, ⟨xs ++ [y], ho, (o2.snoc hy).mono fun _ _ hk => hk.go (Apt.of_grown hg fun q hq => .inr hq) fun q hq => ?_⟩, hg, hv⟩
  rcases hq with hq | hq
  · exact .inl (.inl hq)
  · rcases hv with h | h
    · exact .inl (.inr (by rw [← h]; exact hq))
    · rw [h] at hq
      injection hq with hq
      exact .inr (by omega)
theorem wpList_append_K {P : Program} {t : TypeId} {bytes : Nat} (HT : ElemT P t e k bytes) {ops : Array Oper} {rest : List Oper} {o : Oper} {a : Act} {Q : Exit → Act → World → Prop} (hgd : o.guard = none) (sx x : Operand)
    (ho : o.op = .call { callee := .builtin .append, args := #[sx, x], argTypes := #[t, t] })
    (hs : a.eval sx = v) (h : OwnK k w base e bad E v l) {b : α} {y : List Value} {V : Value} (hx : a.eval x = V) (hV : Lv k w V [y]) (hy : Keep (fun q => bad q ∨ v.ownBlock = some q) (fun u => E u b y) w)
    (h1 : ∀ u ∈ y, u.oneCell' = true) (hl : l.length ≤ 1000000000) (hbytes : bytes ≤ 100) (hbase : base ≤ w.heap.size)
    (hK : ∀ v' w', OwnK k w' base e bad E v' (l ++ [b]) → w.grownBy w' v.ownBlock → (v'.ownBlock = v.ownBlock ∨ v'.ownBlock = some w.heap.size) → wpList P ops Q rest (a.put o.dst v') w') : wpList P ops Q (o :: rest) a w := by
  refine wpList_plain hgd fun K hK' => ?_
  obtain ⟨v', w', hrun, h2, h3, h4⟩ := run_append_K HT o.type h hV hy h1 hl hbytes hbase
  unfold Oper.wp execOp
  simp only [ho, resolve, invoke, builtin, Sem.run_bind, Sem.run_pure, Result.andThen_ok, List.map_toArray, List.map_cons, List.map_nil, hs, hx, hrun]
  exact hK' _ _ (hK v' w' h2 h3 h4)
end

theorem spot2 {w u : World} {g base : Nat} {t : TypeId} {a0 a1 : Value} (hC : Blk u g t #[a0, a1]) (hB : Below base w u) (hbu : base ≤ u.heap.size) (hg : base ≤ g) (x y : Value) :
    ((u.setCell ⟨g, 0, none⟩ x).setCell ⟨g, 1, none⟩ y).cell? ⟨g, 0, none⟩ = some x ∧ ((u.setCell ⟨g, 0, none⟩ x).setCell ⟨g, 1, none⟩ y).cell? ⟨g, 1, none⟩ = some y ∧ Below base w ((u.setCell ⟨g, 0, none⟩ x).setCell ⟨g, 1, none⟩ y) ∧
      u.grownBy ((u.setCell ⟨g, 0, none⟩ x).setCell ⟨g, 1, none⟩ y) (some g) := by
  have hC4 := (hC.set_ 0 x).set_ 1 y
  have hg1 := grown_set u g 0 x
  have hg2 := grown_set (u.setCell ⟨g, 0, none⟩ x) g 1 y
  have c0 := hC4.cell 0
  have c1 := hC4.cell 1
  simp at c0 c1
  exact ⟨c0, c1, hB.grown (grown_trans hg1 hg2) hbu (by intro k hk; injection hk; omega), grown_trans hg1 hg2⟩

section
variable {P : Program} {w : World} {t e : TypeId} {k bytes : Nat} {A : Option Addr} {n c : Nat} {xs : List (List Value)}
theorem Lv.upto (h : Lv k w (.slice A n c) xs) (m : Nat) (hm : m ≤ n) : Lv k w (.slice A m c) (xs.take m) := by
  obtain ⟨A', c', hv, h1, h2, h3, hr⟩ := h
  injection hv with e1 e2 e3
  subst e1 e3
  have hl : (xs.take m).length = m := by rw [List.length_take]; omega
  have hk' : ∀ x ∈ xs.take m, x.length = k := fun x hx => h3 x (List.mem_of_mem_take hx)
  refine ⟨A, c, by rw [hl], by omega, h2, hk', fun j u hu => hr j u ?_⟩
  have hx : xs.flatten = (xs.take m).flatten ++ (xs.drop m).flatten := by rw [← List.flatten_append, List.take_append_drop]
  rw [hx, List.getElem?_append_left (List.getElem?_eq_some_iff.1 hu).1]
  exact hu
theorem Lv.from_ (h : Lv k w (.slice A n c) xs) (m : Nat) (hm : m ≤ n) : Lv k w (.slice (if c = m then A else A.map (·.add (m * k))) (n - m) (c - m)) (xs.drop m) := by
  obtain ⟨A', c', hv, h1, h2, h3, hr⟩ := h
  injection hv with e1 e2 e3
  subst e1 e3
  have hl : (xs.drop m).length = n - m := by rw [List.length_drop]; omega
  have hk' : ∀ x ∈ xs.drop m, x.length = k := fun x hx => h3 x (List.mem_of_mem_drop hx)
  refine ⟨_, _, by rw [hl], by omega, by omega, hk', fun j u hu => ?_⟩
  have hj := (List.getElem?_eq_some_iff.1 hu).1
  have hx : xs.flatten = (xs.take m).flatten ++ (xs.drop m).flatten := by rw [← List.flatten_append, List.take_append_drop]
  have ht : (xs.take m).flatten.length = m * k := by
    rw [flat_length fun x hx => h3 x (List.mem_of_mem_take hx), List.length_take]
    congr 1
    omega
  have hu' : xs.flatten[m * k + j]? = some u := by
    rw [hx, List.getElem?_append_right (by omega), ht, Nat.add_sub_cancel_left]
    exact hu
  obtain ⟨ad, rfl, hc⟩ := hr _ _ hu'
  have hcm : ¬ c = m := by
    intro e
    rw [flat_length hk', hl] at hj
    have : n - m = 0 := by omega
    rw [this] at hj
    simp at hj
  exact ⟨ad.add (m * k), by rw [if_neg hcm]; rfl, by rw [add_add]; exact hc⟩
theorem run_slice_upto (HT : ElemT P t e k bytes) (he : P.elem t = e) (m : Nat) (hm : m ≤ n) (hc : n ≤ c) (u : World) : (Instr.slice t (.slice A n c) none (some (.int .i64 (m : Int))) none).run P u = .ok (.slice A m c) u := by
  obtain ⟨i, z, hi, hz, hs, hby, hzs⟩ := HT.info
  rw [run_slice_h (P := P) (w := u) (t := t) (a := A) (len := n) (cap := c) (ht := by rw [he]; exact HT.under) .i64 m (by omega) (by omega)]
  simp [sizeOf, typeInfo, he, hi, hs, sliced]
  intro _
  cases A <;> simp [Addr.add]
theorem run_slice_from (HT : ElemT P t e k bytes) (he : P.elem t = e) (m : Nat) (hm : m ≤ n) (_ : n ≤ c) (u : World) : (Instr.slice t (.slice A n c) (some (.int .i64 (m : Int))) none none).run P u = .ok (.slice (if c = m then A else A.map (·.add (m * k))) (n - m) (c - m)) u := by
  obtain ⟨i, z, hi, hz, hs, hby, hzs⟩ := HT.info
  rw [run_slice_l (P := P) (w := u) (t := t) (a := A) (len := n) (cap := c) (ht := by rw [he]; exact HT.under) .i64 m (by omega) (by omega)]
  simp [sizeOf, typeInfo, he, hi, hs, sliced]
end

/-- append, as a step of a region -/
theorem step_append_elems {P : Program} {t e : TypeId} {k bytes : Nat} (HT : ElemT P t e k bytes) {w : World} {ops : Array Oper} {o : Oper} {a : Act} {K : Act → World → Prop} {Q : Exit → Act → World → Prop} {E : Prop} (hgd : o.guard = none) (sx x : Operand)
    (ho : o.op = .call { callee := .builtin .append, args := #[sx, x], argTypes := #[t, t] })
    {base : Nat} {v : Value} {xs : List (List Value)} (hs : a.eval sx = v) (hown : OwnL k w base e v xs) {V : Value} {ys : List (List Value)} (hx : a.eval x = V) (hr : Lv k w V ys) (h1 : ∀ y ∈ ys, ∀ u ∈ y, u.oneCell' = true)
    (hsum : xs.length + ys.length ≤ maxLen) (hby : (xs.length + ys.length) * bytes ≤ 140737488355328) (hbase : base ≤ w.heap.size)
    (hK : ∀ v' w', OwnL k w' base e v' (xs ++ ys) → w.grownBy w' v.ownBlock → (v'.ownBlock = v.ownBlock ∨ v'.ownBlock = some w.heap.size) → K (a.put o.dst v') w') :
    if Region.wanted o (yielded ops a.tmps) = true then Oper.wp P o a w K Q else E := by
  have hw : Region.wanted o (yielded ops a.tmps) = true := by simp [Region.wanted, hgd]
  rw [if_pos hw]
  obtain ⟨v', w', hrun, h2, h3, h4⟩ := run_append_elems w HT o.type base v xs hown V ys hr h1 hsum hby hbase
  unfold Oper.wp execOp
  simp only [ho, resolve, invoke, builtin, Sem.run_bind, Sem.run_pure, Result.andThen_ok, List.map_toArray, List.map_cons, List.map_nil, hs, hx, hrun]
  exact hK v' w' h2 h3 h4

theorem flat_set1 {k : Nat} : ∀ {xs : List (List Value)}, (∀ x ∈ xs, x.length = k) → ∀ {i j : Nat} {x : List Value} (u : Value), xs[i]? = some x → j < k → xs.flatten.set (i * k + j) u = (xs.set i (x.set j u)).flatten
  | [], _, i, j, x, u, h, _ => by simp at h
  | y :: ys, hk, 0, j, x, u, h, hj => by
    simp at h
    subst h
    have hy := hk y (List.mem_cons_self ..)
    rw [Nat.zero_mul, Nat.zero_add, List.flatten_cons, List.set_cons_zero, List.flatten_cons, List.set_append_left _ _ (by omega)]
  | y :: ys, hk, i + 1, j, x, u, h, hj => by
    have hy := hk y (List.mem_cons_self ..)
    have ih := flat_set1 (fun x hx => hk x (List.mem_cons_of_mem _ hx)) (xs := ys) (i := i) (j := j) (x := x) u (by simpa using h) hj
    rw [List.flatten_cons, List.set_cons_succ, List.flatten_cons, List.set_append_right _ _ (by rw [hy, Nat.succ_mul]; omega), ← ih]
    congr 2
    rw [hy, Nat.succ_mul]
    omega
theorem Two.setR {α β : Type} {R : α → β → Prop} {l : List α} {m : List β} (h : Two R l m) {i : Nat} {a : α} {b : β} (ha : l[i]? = some a) (hb : R a b) : Two R l (m.set i b) := by
  refine ⟨by simp [h.len], fun j x y h1 h2 => ?_⟩
  rw [List.getElem?_set] at h2
  split at h2
  · rename_i e
    subst e
    split at h2
    · rw [ha] at h1
      injection h1 with h1
      injection h2 with h2
      subst h1 h2
      exact hb
    · cases h2
  · exact h.at_ j x y h1 h2
theorem Two.set {α β : Type} {R : α → β → Prop} {l : List α} {m : List β} (h : Two R l m) (i : Nat) {a : α} {b : β} (hb : R a b) : Two R (l.set i a) (m.set i b) := by
  refine ⟨by simp [h.len], fun j x y h1 h2 => ?_⟩
  rw [List.getElem?_set] at h1 h2
  split at h2
  · rename_i e
    rw [if_pos e] at h1
    split at h1
    · split at h2
      · injection h1 with h1
        injection h2 with h2
        subst h1 h2
        exact hb
      · cases h2
    · cases h1
  · rename_i e
    rw [if_neg e] at h1
    exact h.at_ j x y h1 h2

/-- a row of the call's own, in a block that is known -/
theorem OwnL.at_ {k : Nat} {w : World} {base : Nat} {e : TypeId} {v : Value} {xs : List (List Value)} (h : OwnL k w base e v xs) : (v = .slice none 0 0 ∧ xs = []) ∨ ∃ g c, v = .slice (some ⟨g, 0, none⟩) xs.length c ∧ xs.length ≤ c ∧ c ≤ 9223372036854775807 ∧ base ≤ g ∧ g < w.heap.size ∧ ∀ j, w.frozen? ⟨g, j, none⟩ = false := by
  rcases h.1.2 with ⟨hv, h0⟩ | ⟨g, cap, cur, hv, hb, hg, hn, hm, _⟩
  · exact .inl ⟨hv, List.eq_nil_of_length_eq_zero h0⟩
  · simp only [maxLen] at hm
    exact .inr ⟨g, cap, hv, hn, hm, hb, (Array.getElem?_eq_some_iff.1 hg).1, fun j => by simp [World.frozen?, hg]⟩
/-- one cell of it is stored -/
theorem OwnL.put_ {k : Nat} {w : World} {base g n c : Nat} {e : TypeId} {xs : List (List Value)} (h : OwnL k w base e (.slice (some ⟨g, 0, none⟩) n c) xs) {i j : Nat} {x : List Value} (hx : xs[i]? = some x) (hj : j < k) (u : Value) :
    OwnL k (w.setCell ⟨g, i * k + j, none⟩ u) base e (.slice (some ⟨g, 0, none⟩) n c) (xs.set i (x.set j u)) ∧ w.grownBy (w.setCell ⟨g, i * k + j, none⟩ u) (some g) := by
  obtain ⟨h1, hk⟩ := h
  have hnx : n = xs.length := by
    rcases h1.2 with ⟨hv, _⟩ | ⟨g', cap, cur, hv, _⟩
    · cases hv
    · injection hv with e1 e2 e3
  subst hnx
  obtain ⟨h3, h4⟩ := h1.stored (i * k + j) u
  rw [flat_set1 hk u hx hj] at h3
  refine ⟨⟨by rw [List.length_set]; exact h3, fun y hy => ?_⟩, h4⟩
  rcases List.mem_or_eq_of_mem_set hy with hy | rfl
  · exact hk y hy
  · rw [List.length_set]
    exact hk x (List.mem_of_getElem? hx)

end Go.Proofs.Ytpcaecnkdcobmaa
