/-
  WORDS FOR MEMORY, over any program: what a slice reads as ('Rd'), the bytes of a list ('BV'), and how a reading is kept where old memory stays. No condition but what each theorem says.
-/
import Derived.WalkKit
import Derived.ProofKit
import Derived.OpenShut
import Derived.Below
import Derived.Carry
import Derived.OwnWalk
import Derived.Laws.OwnMore
import Derived.Laws.BytesArg
import Derived.Maps.AppendAt
import Derived.Deep.AppendLies
import Derived.Deep.Draws
import Derived.ChangeSame
namespace Go.Proofs.Ytohcbgchloncmaa
open Go.RowKit

/-- the cells of bytes -/
def BV (l : List UInt8) : List Value := l.map fun b => Value.int .u8 (b.toNat : Int)

theorem BV_nil : BV [] = [] := rfl

theorem BV_length (l : List UInt8) : (BV l).length = l.length := by simp [BV]

theorem BV_append (l m : List UInt8) : BV (l ++ m) = BV l ++ BV m := by simp [BV]

theorem BV_getElem? (l : List UInt8) (j : Nat) : (BV l)[j]? = (l[j]?).map fun b => Value.int .u8 (b.toNat : Int) := by simp [BV]

theorem BV_one (l : List UInt8) : ∀ u ∈ BV l, u.oneCell' = true := by
  intro u hu
  obtain ⟨_, _, rfl⟩ := List.mem_map.1 hu
  rfl

/-- the cells xs stand from the address A on (nil, if there are none) -/
def Rd (w : World) (A : Option Addr) (xs : List Value) : Prop := ∀ j u, xs[j]? = some u → ∃ ad, A = some ad ∧ w.cell? (ad.add j) = some u

theorem add_block (a : Addr) (n : Nat) : (a.add n).block = a.block := by unfold Addr.add; split <;> rfl

theorem add_add (a : Addr) (i j : Nat) : (a.add i).add j = a.add (i + j) := by
  unfold Addr.add
  by_cases hi : i = 0 <;> by_cases hj : j = 0 <;> simp [hi, hj, Nat.add_assoc]

section
variable {w w' : World} {A : Option Addr} {xs : List Value}
theorem Rd.zero (w : World) (A : Option Addr) : Rd w A [] := fun j u h => by simp at h

theorem Rd.of_cells {ad : Addr} (h : ∀ j u, xs[j]? = some u → w.cell? (ad.add j) = some u) : Rd w (some ad) xs := fun j u hu => ⟨ad, rfl, h j u hu⟩

theorem Rd.cells {ad : Addr} (h : Rd w (some ad) xs) : ∀ j u, xs[j]? = some u → w.cell? (ad.add j) = some u := fun j u hu => by
  obtain ⟨ad', e, hc⟩ := h j u hu
  injection e with e
  subst e
  exact hc

theorem Rd.noneEq (h : Rd w none xs) : xs = [] := by
  rcases xs with _ | ⟨x, xs⟩
  · rfl
  · obtain ⟨ad, e, _⟩ := h 0 x rfl
    cases e

theorem Rd.keep (h : Rd w A xs) (hk : ∀ p : Addr, p.block < w.heap.size → (∀ a, A = some a → p.block = a.block) → w'.cell? p = w.cell? p) : Rd w' A xs := fun j u hu => by
  obtain ⟨ad, rfl, hc⟩ := h j u hu
  refine ⟨ad, rfl, (hk _ (World.block_lt_of_cell? w _ hc) ?_).trans hc⟩
  intro a e
  injection e with e
  subst e
  exact add_block _ _

theorem Rd.below (h : Rd w A xs) (hb : Below w.heap.size w w') : Rd w' A xs := h.keep fun _ hp _ => hb.cell hp

theorem Rd.drew (h : Rd w A xs) : Rd w.drew A xs := h

theorem Rd.drewN (h : Rd w A xs) (k : Nat) : Rd (w.drewN k) A xs := h

theorem Rd.alloc (h : Rd w A xs) (o : Obj) : Rd (w.alloc o) A xs := h.keep fun p hp _ => World.cell?_alloc_lt w o p hp

theorem Rd.grown {row : Option Nat} (h : Rd w A xs) (hg : w.grownBy w' row) (hr : ∀ a, A = some a → some a.block ≠ row) : Rd w' A xs := by
  cases A with
  | none => rw [h.noneEq]; exact Rd.zero _ _
  | some a => exact h.keep fun p hp ha => World.cell?_of_block (hg.block p.block hp (fun e => hr a rfl (by rw [← ha a rfl]; exact e)))

theorem Rd.of_own {base : Nat} {e : TypeId} {size n c : Nat} (h : w.ownsRow base e size (.slice A n c) n xs) : Rd w A xs := by
  cases A with
  | none =>
    have hx : xs = [] := by
      rcases h.2 with ⟨_, rfl⟩ | ⟨_, _, _, hv, _⟩
      · exact List.eq_nil_of_length_eq_zero (by simpa using h.1)
      · simp at hv
    subst hx
    exact Rd.zero _ _
  | some a =>
    rcases h.2 with ⟨hv, _⟩ | ⟨g, cap, cur, hv, _⟩
    · simp at hv
    · have ha : a = ⟨g, 0, none⟩ := by
        injection hv with h1
        injection h1
      subst ha
      exact Rd.of_cells (h.cells (g := g) rfl)

end

theorem Rd.lit (w : World) (cs : Array Value) (e : TypeId) : Rd (w.alloc (.cells cs e)) (some ⟨w.heap.size, 0, none⟩) cs.toList :=
  Rd.of_cells (World.news_of_block (heap_alloc_new w _))

theorem Rd.one (w : World) (u : Value) (e : TypeId) {b : UInt8} (h : u = .int .u8 (b.toNat : Int)) : Rd (w.alloc (.cells #[u] e)) (some ⟨w.heap.size, 0, none⟩) (BV [b]) := by
  subst h
  exact Rd.lit w #[_] e

/-- the value v is a slice that reads as these bytes -/
def Bs (w : World) (v : Value) (l : List UInt8) : Prop := ∃ A c, v = .slice A l.length c ∧ l.length ≤ c ∧ c ≤ 9223372036854775807 ∧ Rd w A (BV l)

section
variable {w w' : World} {v : Value} {l : List UInt8}
theorem Bs.below (h : Bs w v l) (hb : Below w.heap.size w w') : Bs w' v l := by
  obtain ⟨A, c, e, h1, h2, hr⟩ := h
  exact ⟨A, c, e, h1, h2, hr.below hb⟩

theorem Bs.drew (h : Bs w v l) : Bs w.drew v l := h

theorem Bs.drewN (h : Bs w v l) (k : Nat) : Bs (w.drewN k) v l := h

theorem Bs.alloc (h : Bs w v l) (o : Obj) : Bs (w.alloc o) v l := by
  obtain ⟨A, c, e, h1, h2, hr⟩ := h
  exact ⟨A, c, e, h1, h2, hr.alloc o⟩

theorem Bs.nil (w : World) : Bs w (.slice none 0 0) [] := ⟨_, _, rfl, Nat.le_refl _, by omega, Rd.zero _ _⟩

theorem Bs.block (h : Bs w v l) (hl : l ≠ []) : ∃ k, v.ownBlock = some k ∧ k < w.heap.size := by
  obtain ⟨A, c, rfl, h1, h2, hd⟩ := h
  rcases l with _ | ⟨b, l⟩
  · exact absurd rfl hl
  · obtain ⟨ad, rfl, hc⟩ := hd 0 _ rfl
    exact ⟨ad.block, rfl, by simpa [add_block] using World.block_lt_of_cell? w _ hc⟩

theorem Bs.grown {row : Option Nat} (h : Bs w v l) (hg : w.grownBy w' row) (hr : l ≠ [] → v.ownBlock ≠ row) : Bs w' v l := by
  by_cases hl : l = []
  · subst hl
    obtain ⟨A, c, rfl, h1, h2, hd⟩ := h
    exact ⟨A, c, rfl, h1, h2, Rd.zero _ _⟩
  · obtain ⟨A, c, rfl, h1, h2, hd⟩ := h
    refine ⟨A, c, rfl, h1, h2, hd.grown hg fun a ha => ?_⟩
    subst ha
    exact hr hl

end

/-- block g is just these cells, none frozen -/
def Blk (w : World) (g : Nat) (t : TypeId) (cs : Array Value) : Prop := w.heap[g]? = some (.cells cs t (0, 0))

section
variable {w w' : World} {g : Nat} {t : TypeId} {cs : Array Value}
theorem Blk.lt (h : Blk w g t cs) : g < w.heap.size := (Array.getElem?_eq_some_iff.1 h).1

theorem Blk.cell (h : Blk w g t cs) (i : Nat) : w.cell? ⟨g, i, none⟩ = cs[i]? := cell_of_row w g i cs t (0, 0) h

theorem Blk.frozen (h : Blk w g t cs) (i : Nat) : w.frozen? ⟨g, i, none⟩ = false := by
  unfold Blk at h
  simp [World.frozen?, h]

theorem Blk.new (w : World) (t : TypeId) (cs : Array Value) : Blk (w.alloc (.cells cs t)) w.heap.size t cs := heap_alloc_new w _

theorem Blk.drewN (h : Blk w g t cs) (n : Nat) : Blk (w.drewN n) g t cs := h

theorem Blk.alloc (h : Blk w g t cs) (o : Obj) : Blk (w.alloc o) g t cs := (Below.heap_alloc w o g h.lt).trans h

theorem Blk.set_ (h : Blk w g t cs) (i : Nat) (u : Value) : Blk (w.setCell ⟨g, i, none⟩ u) g t (cs.setIfInBounds i u) := by
  unfold Blk at h ⊢
  simp [World.setCell, Array.getElem?_modify, h]

theorem Blk.far (h : Blk w g t cs) {p : Addr} (hp : g ≠ p.block) (u : Value) : Blk (w.setCell p u) g t cs := (Below.heap_setCell w p u g hp).trans h

theorem Blk.below {B : Nat} (h : Blk w g t cs) (hb : Below B w w') (hg : g < B) : Blk w' g t cs := (hb.block g hg).trans h

theorem Blk.grown {row : Option Nat} (h : Blk w g t cs) (hb : w.grownBy w' row) (hg : some g ≠ row) : Blk w' g t cs := (hb.block g h.lt hg).trans h

end
theorem grown_set (w : World) (g i : Nat) (u : Value) : w.grownBy (w.setCell ⟨g, i, none⟩ u) (some g) :=
  ⟨rfl, rfl, rfl, by simp [World.setCell], fun k _ hne => Below.heap_setCell _ _ _ _ (by intro e; subst e; exact hne rfl)⟩

theorem grown_drewN {a w : World} {row : Option Nat} (h : a.grownBy w row) (n : Nat) : a.grownBy (w.drewN n) row := ⟨h.os, h.tape, h.output, h.size, h.block⟩

theorem grown_drew_left {a w : World} {row : Option Nat} (h : a.drew.grownBy w row) : a.grownBy w row := ⟨h.os, h.tape, h.output, h.size, h.block⟩

theorem grown_drewN_left {a w : World} {row : Option Nat} {n : Nat} (h : (a.drewN n).grownBy w row) : a.grownBy w row := ⟨h.os, h.tape, h.output, h.size, h.block⟩

theorem below_drewN {B : Nat} {a w : World} (h : Below B a w) (n : Nat) : Below B a (w.drewN n) := ⟨h.os, h.tape, h.output, h.size, h.block⟩

theorem below_drewN_left {B : Nat} {a w : World} {n : Nat} (h : Below B (a.drewN n) w) : Below B a w := ⟨h.os, h.tape, h.output, h.size, h.block⟩

theorem grown_of_below {a w : World} (h : Below a.heap.size a w) (row : Option Nat) : a.grownBy w row := ⟨h.os, h.tape, h.output, h.size, fun i hi _ => h.block i hi⟩

theorem grown_trans {a b c : World} {row : Option Nat} (h : a.grownBy b row) (k : b.grownBy c row) : a.grownBy c row :=
  ⟨k.os.trans h.os, k.tape.trans h.tape, k.output.trans h.output, Nat.le_trans h.size k.size, fun i hi hne => (k.block i (Nat.lt_of_lt_of_le hi h.size) hne).trans (h.block i hi hne)⟩

/-- t is []byte, e its element's type -/
structure ByteT (P : Program) (t e : TypeId) : Prop where
  under : P.underlying t = some (.slice e)
  elem : P.underlying e = some (.int .u8)
  info : ∃ i, P.info? e = some i ∧ i.zero = some (.int .u8 0) ∧ i.size = 1 ∧ i.bytes = 1

/-- v is a slice of the call's own, of these bytes -/
def Own (w : World) (base : Nat) (e : TypeId) (v : Value) (l : List UInt8) : Prop := w.ownsRow base e 1 v l.length (BV l)

section
variable {w w' : World} {base : Nat} {e : TypeId} {v : Value} {l : List UInt8}
theorem Own.form (h : Own w base e v l) : ∃ A c, v = .slice A l.length c ∧ l.length ≤ c ∧ c ≤ 9223372036854775807 ∧ Rd w A (BV l) ∧ ∀ a, A = some a → base ≤ a.block ∧ a.block < w.heap.size := by
  rcases h.2 with ⟨rfl, h0⟩ | ⟨g, cap, cur, rfl, hb, hg, hn, hm, _⟩
  · have hl : l = [] := List.eq_nil_of_length_eq_zero h0
    subst hl
    exact ⟨none, 0, rfl, Nat.le_refl _, by omega, Rd.zero _ _, fun a ha => by cases ha⟩
  · refine ⟨_, _, rfl, hn, by simp only [maxLen] at hm; omega, Rd.of_own h, fun a ha => ?_⟩
    injection ha with ha
    subst ha
    exact ⟨hb, (Array.getElem?_eq_some_iff.1 hg).1⟩

theorem Own.bs (h : Own w base e v l) : Bs w v l := by
  obtain ⟨A, c, hv, h1, h2, hr, _⟩ := h.form
  exact ⟨A, c, hv, h1, h2, hr⟩

theorem Own.rd {A : Option Addr} {n c : Nat} (h : Own w base e (.slice A n c) l) : Rd w A (BV l) := by
  obtain ⟨A', c', hv, _, _, hr, _⟩ := h.form
  injection hv with h1 h2 h3
  subst h1
  exact hr

theorem Own.kept {row : Option Nat} (h : Own w base e v l) (hg : w.grownBy w' row) (hne : v.ownBlock = none ∨ v.ownBlock ≠ row) : Own w' base e v l := World.ownsRow.kept h hg hne

theorem Own.alloc (h : Own w base e v l) (o : Obj) : Own (w.alloc o) base e v l := World.ownsRow.alloc h o

theorem Own.below (h : Own w base e v l) (hb : Below w.heap.size w w') : Own w' base e v l :=
  h.kept (row := none) ⟨hb.os, hb.tape, hb.output, hb.size, fun k hk _ => hb.block k hk⟩ (by cases v.ownBlock <;> simp)

theorem Own.lower {base' : Nat} (h : Own w base e v l) (hb : base' ≤ base) : Own w base' e v l := by
  refine ⟨h.1, ?_⟩
  rcases h.2 with h0 | ⟨g, cap, cur, hv, hg, hr⟩
  · exact .inl h0
  · exact .inr ⟨g, cap, cur, hv, by omega, hr⟩

theorem Own.ge (h : Own w base e v l) : ∀ k, v.ownBlock = some k → base ≤ k := fun k hk => (World.ownsRow.lt h k hk).1

theorem Own.ne_ (h : Own w base e v l) {g : Nat} (hg : g < base) : v.ownBlock ≠ some g := fun e => by have := h.ge g e; omega

theorem Own.nil (w : World) (base : Nat) (e : TypeId) : Own w base e (.slice none 0 0) [] := World.ownsRow_nil w base e 1

theorem Own.made (w : World) (base : Nat) (e : TypeId) (cur : Array Value) (cap : Nat) (hb : base ≤ w.heap.size) (hm : cap ≤ maxLen) (hs : cur.size = cap) :
    Own (w.alloc (.cells cur e)) base e (.slice (some ⟨w.heap.size, 0, none⟩) 0 cap) [] := World.ownsRow_made (size := 1) w cur cap hb hm (by omega)

end

theorem Own.zeros (w : World) (base : Nat) (e : TypeId) (n : Nat) (hb : base ≤ w.heap.size) (hn : n ≤ 140737488355328) :
    Own (w.alloc (.cells (madeCells #[.int .u8 0] n) e)) base e (.slice (some ⟨w.heap.size, 0, none⟩) n n) (List.replicate n 0) := by
  have hs : (madeCells #[Value.int .u8 0] n).size = n * 1 := by simp [madeCells]
  have h := World.ownsRow_lit (base := base) (e := e) (size := 1) w (madeCells #[.int .u8 0] n) n hb (by simp only [maxLen]; omega) hs
  rw [toList_madeCells_one] at h
  unfold Own
  rw [List.length_replicate]
  simpa [BV] using h

section
variable {P : Program} (w : World)

theorem run_append_bytes {t e : TypeId} (HT : ByteT P t e) (ty : TypeId) (base : Nat) (v : Value) (l : List UInt8) (hown : Own w base e v l) (A : Option Addr) (c : Nat) (k : List UInt8) (hr : Rd w A (BV k))
    (hsum : l.length + k.length ≤ 140737488355328) (hbase : base ≤ w.heap.size) :
    ∃ v' w', (Builtin.append_ #[t, t] ty #[v, .slice A k.length c]).run P w = .ok v' w' ∧ Own w' base e v' (l ++ k) ∧ w.grownBy w' v.ownBlock ∧ (v'.ownBlock = v.ownBlock ∨ v'.ownBlock = some w.heap.size) := by
  obtain ⟨i, hi, hz, h1, h2⟩ := HT.info
  cases A with
  | none =>
    have hk : k = [] := by
      have := hr.noneEq
      simpa [BV] using this
    subst hk
    refine ⟨v, w, ?_, by simpa using hown, World.grownBy.refl w _, .inl rfl⟩
    rcases hown.2 with ⟨rfl, _⟩ | ⟨g, cap, cur, rfl, _, _, hnc, _⟩
    · simp [Builtin.append_, run_underlying HT.under, sizeOf, typeInfo, hi, Builtin.lenOf, Builtin.firstCells]
    · simp [Builtin.append_, run_underlying HT.under, sizeOf, typeInfo, hi, Builtin.lenOf, Builtin.firstCells, hnc, storeCells]
  | some ad =>
    obtain ⟨v', w', hrun, h3, h4, _, h5⟩ := run_append_own_at (P := P) w base t ty e i (.int .u8 0) 1 1 HT.under hi hz h1 h2 rfl (by decide) v l.length (BV l) hown ad k.length c (BV k) (by simp [BV_length]) hr.cells (BV_one k)
      (by simp only [maxLen]; omega) (by omega) hbase
    refine ⟨v', w', hrun, ?_, h4, h5⟩
    unfold Own
    rw [List.length_append, BV_append]
    exact h3

theorem wpList_append_bytes {t e : TypeId} (HT : ByteT P t e) {ops : Array Oper} {rest : List Oper} {o : Oper} {a : Act} {Q : Exit → Act → World → Prop} (hgd : o.guard = none) (s x : Operand)
    (ho : o.op = .call { callee := .builtin .append, args := #[s, x], argTypes := #[t, t] })
    (base : Nat) (v : Value) (l : List UInt8) (hs : a.eval s = v) (hown : Own w base e v l) (A : Option Addr) (n c : Nat) (k : List UInt8) (hx : a.eval x = .slice A n c) (hn : n = k.length) (hr : Rd w A (BV k))
    (hsum : l.length + k.length ≤ 140737488355328) (hbase : base ≤ w.heap.size)
    (h : ∀ v' w', Own w' base e v' (l ++ k) → w.grownBy w' v.ownBlock → (v'.ownBlock = v.ownBlock ∨ v'.ownBlock = some w.heap.size) → wpList P ops Q rest (a.put o.dst v') w') : wpList P ops Q (o :: rest) a w := by
  subst hn
  refine wpList_plain hgd fun K hK => ?_
  obtain ⟨v', w', hrun, h2, h3, h4⟩ := run_append_bytes w HT o.type base v l hown A c k hr hsum hbase
  unfold Oper.wp execOp
  simp only [ho, resolve, invoke, builtin, Sem.run_bind, Sem.run_pure, Result.andThen_ok, List.map_toArray, List.map_cons, List.map_nil, hs, hx, hrun]
  exact hK _ _ (h v' w' h2 h3 h4)

theorem wp_append_v {t e : TypeId} (HT : ByteT P t e) {o : Oper} {a : Act} {K : Act → World → Prop} {Q : Exit → Act → World → Prop} (s x : Operand)
    (ho : o.op = .call { callee := .builtin .append, args := #[s, x], argTypes := #[t, t] })
    (base : Nat) (v : Value) (l : List UInt8) (hs : a.eval s = v) (hown : Own w base e v l) (V : Value) (k : List UInt8) (hx : a.eval x = V) (hr : Bs w V k)
    (hsum : l.length + k.length ≤ 140737488355328) (hbase : base ≤ w.heap.size)
    (h : ∀ v' w', Own w' base e v' (l ++ k) → w.grownBy w' v.ownBlock → (v'.ownBlock = v.ownBlock ∨ v'.ownBlock = some w.heap.size) → K (a.put o.dst v') w') : o.wp P a w K Q := by
  obtain ⟨A, c, rfl, _, _, hr⟩ := hr
  obtain ⟨v', w', hrun, h2, h3, h4⟩ := run_append_bytes w HT o.type base v l hown A c k hr hsum hbase
  unfold Oper.wp execOp
  simp only [ho, resolve, invoke, builtin, Sem.run_bind, Sem.run_pure, Result.andThen_ok, List.map_toArray, List.map_cons, List.map_nil, hs, hx, hrun]
  exact h v' w' h2 h3 h4

theorem wpList_append_v {t e : TypeId} (HT : ByteT P t e) {ops : Array Oper} {rest : List Oper} {o : Oper} {a : Act} {Q : Exit → Act → World → Prop} (hgd : o.guard = none) (s x : Operand)
    (ho : o.op = .call { callee := .builtin .append, args := #[s, x], argTypes := #[t, t] })
    (base : Nat) (v : Value) (l : List UInt8) (hs : a.eval s = v) (hown : Own w base e v l) (V : Value) (k : List UInt8) (hx : a.eval x = V) (hr : Bs w V k)
    (hsum : l.length + k.length ≤ 140737488355328) (hbase : base ≤ w.heap.size)
    (h : ∀ v' w', Own w' base e v' (l ++ k) → w.grownBy w' v.ownBlock → (v'.ownBlock = v.ownBlock ∨ v'.ownBlock = some w.heap.size) → wpList P ops Q rest (a.put o.dst v') w') : wpList P ops Q (o :: rest) a w :=
  wpList_plain hgd fun _ hK => wp_append_v w HT s x ho base v l hs hown V k hx hr hsum hbase fun v' w' h2 h3 h4 => hK _ _ (h v' w' h2 h3 h4)

theorem step_append_v {t e : TypeId} (HT : ByteT P t e) {ops : Array Oper} {o : Oper} {a : Act} {K : Act → World → Prop} {Q : Exit → Act → World → Prop} {E : Prop} (hgd : o.guard = none) (s x : Operand)
    (ho : o.op = .call { callee := .builtin .append, args := #[s, x], argTypes := #[t, t] })
    (base : Nat) (v : Value) (l : List UInt8) (hs : a.eval s = v) (hown : Own w base e v l) (V : Value) (k : List UInt8) (hx : a.eval x = V) (hr : Bs w V k)
    (hsum : l.length + k.length ≤ 140737488355328) (hbase : base ≤ w.heap.size)
    (h : ∀ v' w', Own w' base e v' (l ++ k) → w.grownBy w' v.ownBlock → (v'.ownBlock = v.ownBlock ∨ v'.ownBlock = some w.heap.size) → K (a.put o.dst v') w') :
    if Region.wanted o (yielded ops a.tmps) = true then Oper.wp P o a w K Q else E := by
  have hw : Region.wanted o (yielded ops a.tmps) = true := by simp [Region.wanted, hgd]
  rw [if_pos hw]
  exact wp_append_v w HT s x ho base v l hs hown V k hx hr hsum hbase h

/-- make([]byte, n, c) -/
theorem run_make_bytes {t e : TypeId} (HT : ByteT P t e) (kl kc : IntKind) (n c : Nat) (hnc : n ≤ c) (hc : c ≤ 140737488355328) (u : World) :
    (Instr.makeSlice t (.int kl (n : Int)) (.int kc (c : Int))).run P u = .ok (.slice (some ⟨u.heap.size, 0, none⟩) n c) (u.alloc (.cells (madeCells #[.int .u8 0] c) e)) := by
  obtain ⟨i, hi, hz, h1, h2⟩ := HT.info
  have h := run_make (P := P) u t e i (.int .u8 0) HT.under hi hz kl kc (n : Int) (c : Int) (by omega) (by omega) (by rw [h2]; omega) (by omega)
  simp only [Int.toNat_natCast] at h
  simpa [h1, Value.cells] using h

/-- string(b) -/
theorem run_string {t e d : TypeId} (HT : ByteT P t e) (hd : P.underlying d = some .string) (A : Option Addr) (c : Nat) (l : List UInt8) (hr : Rd w A (BV l)) :
    (convert t d (.slice A l.length c)).run P w = .ok (.string ⟨l.toArray⟩) w := by
  cases A with
  | none =>
    have hk : l = [] := by
      have := hr.noneEq
      simpa [BV] using this
    subst hk
    exact run_convert_bytes_nil w t e HT.under HT.elem _ c d hd
  | some ad =>
    have hm : BV l = (l.map fun b => (b.toNat : Int)).map (Value.int .u8) := by simp [BV]
    have hl : (loadCells ad l.length).run P w = .ok ((l.map fun b => (b.toNat : Int)).map (Value.int .u8)).toArray w := by
      have := run_loadCells_list (P := P) w ad (BV l) hr.cells
      rw [BV_length, hm] at this
      exact this
    rw [run_convert_bytes_string w t d e _ l.length c HT.under HT.elem hd, run_bytesToString w _ l.length c _ hl, foldl_push_bytes]
    have hmap : (l.map fun b => (b.toNat : Int)).map (fun n => UInt8.ofNat n.toNat) = l := by
      rw [List.map_map]
      have : ((fun n : Int => UInt8.ofNat n.toNat) ∘ fun b : UInt8 => (b.toNat : Int)) = id := by
        funext b
        simp
      rw [this, List.map_id]
    rw [hmap]
    simp [ByteArray.empty, ByteArray.emptyWithCapacity]
    rfl

theorem Bs.cut {w : World} {A : Option Addr} {c : Nat} {l : List UInt8} {p k : Nat} (hr : Rd w A (BV l)) (h1 : p + k ≤ l.length) (h2 : l.length ≤ c) (h3 : c ≤ 9223372036854775807) (A' : Option Addr) (hA : ∀ a, A = some a → 0 < k → A' = some (a.add p)) :
    Bs w (.slice A' k (c - p)) ((l.drop p).take k) := by
  have hl : ((l.drop p).take k).length = k := by simp; omega
  refine ⟨A', c - p, by rw [hl], by omega, by omega, ?_⟩
  intro j u hu
  have hj : j < k := by
    have := (List.getElem?_eq_some_iff.1 hu).1
    rw [BV_length, hl] at this
    exact this
  have hu' : (BV l)[p + j]? = some u := by
    rw [← hu, BV_getElem?, BV_getElem?, List.getElem?_take, if_pos hj, List.getElem?_drop]
  obtain ⟨ad, rfl, hc⟩ := hr (p + j) u hu'
  exact ⟨ad.add p, hA ad rfl (by omega), by rw [add_add]; exact hc⟩

/-- b[lo:hi], within b's length -/
theorem slice_bytes {t e : TypeId} (HT : ByteT P t e) (he : P.elem t = e) {A : Option Addr} {c : Nat} {l : List UInt8} (hr : Rd w A (BV l)) (h2 : l.length ≤ c) (h3 : c ≤ 9223372036854775807) (lo hi : Nat) (h0 : lo ≤ hi) (h1 : hi ≤ l.length) (x y : Int) (hx : x = (lo : Int)) (hy : y = (hi : Int)) :
    ∃ V, (∀ u : World, (Instr.slice t (.slice A l.length c) (some (.int .i64 x)) (some (.int .i64 y)) none).run P u = .ok V u) ∧ Bs w V ((l.drop lo).take (hi - lo)) ∧ V.ownBlock = (Value.slice A l.length c).ownBlock := by
  subst hx
  subst hy
  obtain ⟨i, hi', hz, hs, hb⟩ := HT.info
  refine ⟨.slice (if c = lo then A else A.map (·.add lo)) (hi - lo) (c - lo), fun u => ?_, ?_, ?_⟩
  · rw [run_slice_lh (P := P) (w := u) (t := t) (a := A) (len := l.length) (cap := c) (ht := by rw [he]; exact HT.under) .i64 .i64 lo hi (by omega) (by omega) (by omega)]
    simp [sizeOf, typeInfo, he, hi', hs, sliced]
  · refine Bs.cut hr (by omega) h2 h3 _ ?_
    intro a ha hk
    subst ha
    rw [if_neg (by omega)]
    rfl
  · split <;> cases A <;> simp [Value.ownBlock, add_block]

/-- b[lo:], within b's length -/
theorem slice_bytes_from {t e : TypeId} (HT : ByteT P t e) (he : P.elem t = e) {A : Option Addr} {c : Nat} {l : List UInt8} (hr : Rd w A (BV l)) (h2 : l.length ≤ c) (h3 : c ≤ 9223372036854775807) (lo : Nat) (h1 : lo ≤ l.length) (x : Int) (hx : x = (lo : Int)) :
    ∃ V, (∀ u : World, (Instr.slice t (.slice A l.length c) (some (.int .i64 x)) none none).run P u = .ok V u) ∧ Bs w V (l.drop lo) ∧ V.ownBlock = (Value.slice A l.length c).ownBlock := by
  subst hx
  obtain ⟨i, hi', hz, hs, hb⟩ := HT.info
  refine ⟨.slice (if c = lo then A else A.map (·.add lo)) (l.length - lo) (c - lo), fun u => ?_, ?_, ?_⟩
  · rw [run_slice_l (P := P) (w := u) (t := t) (a := A) (len := l.length) (cap := c) (ht := by rw [he]; exact HT.under) .i64 lo (by omega) (by omega)]
    simp [sizeOf, typeInfo, he, hi', hs, sliced]
  · have h := Bs.cut (k := l.length - lo) (p := lo) hr (by omega) h2 h3 (if c = lo then A else A.map (·.add lo)) ?_
    · rw [List.take_of_length_le (by simp)] at h
      exact h
    · intro a ha hk
      subst ha
      rw [if_neg (by omega)]
      rfl
  · split <;> cases A <;> simp [Value.ownBlock, add_block]

/-- copy(v, b), v a slice of the call's own -/
theorem run_copy_bytes {t e : TypeId} (HT : ByteT P t e) (ty : TypeId) (base : Nat) (v : Value) (l : List UInt8) (hown : Own w base e v l) (A : Option Addr) (c : Nat) (k : List UInt8) (hr : Rd w A (BV k)) :
    ∃ n w', (Builtin.copy_ #[t, t] ty #[v, .slice A k.length c]).run P w = .ok n w' ∧ Own w' base e v (k.take l.length ++ l.drop k.length) ∧ w.grownBy w' v.ownBlock := by
  obtain ⟨i, hi, hz, h1, h2⟩ := HT.info
  have hsz : (P.info? e).map (·.size) = some 1 := by rw [hi]; simp [h1]
  have hstay : Nat.min k.length l.length = 0 → k.take l.length ++ l.drop k.length = l := by
    intro hm
    rcases Nat.eq_zero_or_pos k.length with h | h
    · have : k = [] := List.eq_nil_of_length_eq_zero h
      subst this
      simp
    · have hl : l.length = 0 := by simp only [Nat.min_def] at hm; split at hm <;> omega
      have : l = [] := List.eq_nil_of_length_eq_zero hl
      subst this
      simp
  obtain ⟨A', c', hv, _⟩ := hown.form
  by_cases hm : Nat.min k.length l.length = 0
  · refine ⟨goInt 0, w, ?_, by rw [hstay hm]; exact hown, World.grownBy.refl w _⟩
    rw [hv]
    exact run_copy_none (P := P) w t t ty e A' A l.length c' k.length c HT.under hsz hm
  · rcases hown.2 with ⟨_, h0⟩ | ⟨g, cap, cur, rfl, hb, hg, hn, hcm, hcs, htake⟩
    · exact absurd (by rw [h0]; simp) hm
    · have hkp : 0 < k.length := by
        rcases Nat.eq_zero_or_pos k.length with h | h
        · exact absurd (by rw [h]; simp) hm
        · exact h
      cases A with
      | none =>
        have := hr.noneEq
        have : k = [] := by simpa [BV] using this
        subst this
        simp at hkp
      | some ad =>
        have hcl : (BV (k.take l.length)).length = Nat.min k.length l.length := by rw [BV_length, List.length_take]; exact Nat.min_comm _ _
        have hle : (BV (k.take l.length)).length ≤ l.length := by rw [BV_length, List.length_take]; omega
        have hrun := run_copy_row (P := P) w t t ty e g 0 l.length cap ad k.length c cur e (BV (k.take l.length)) HT.under hsz hg hcl
          (fun j u hu => hr.cells j u (by
            rw [BV_getElem?, List.getElem?_take] at hu
            split at hu
            · rw [BV_getElem?]; exact hu
            · simp at hu)) (by omega) (BV_one _)
        refine ⟨_, _, hrun, ?_, ⟨rfl, rfl, rfl, by simp [World.setRow], fun k' _ hk' => setRow_other w g k' _ (fun e => hk' (by simp [e, Value.ownBlock]))⟩⟩
        have hlen : (k.take l.length ++ l.drop k.length).length = l.length := by simp; omega
        unfold Own
        rw [hlen]
        refine ⟨by rw [BV_length, hlen]; omega, .inr ⟨g, cap, _, rfl, hb, setRow_heap w g cur _ e _ hg, hn, hcm, ?_, ?_⟩⟩
        · simp only [List.size_toArray, List.length_append, List.length_take, List.length_drop, Array.length_toList]
          omega
        · have hcur : (BV l) = cur.toList.take l.length := by rw [← htake, Nat.mul_one]
          rw [BV_append, Nat.mul_one]
          simp only [List.take_zero, List.nil_append, Nat.zero_add]
          rw [List.take_append, List.take_of_length_le hle]
          congr 1
          rw [← List.drop_take, ← hcur, BV_length]
          have hd : (BV l).drop (k.take l.length).length = BV (l.drop (k.take l.length).length) := by simp [BV]
          rw [hd]
          congr 1
          rw [List.length_take]
          rcases Nat.le_total l.length k.length with h | h
          · rw [Nat.min_eq_left h, List.drop_eq_nil_of_le (Nat.le_refl _), List.drop_eq_nil_of_le h]
          · rw [Nat.min_eq_right h]

theorem wpList_copy_bytes {t e : TypeId} (HT : ByteT P t e) {ops : Array Oper} {rest : List Oper} {o : Oper} {a : Act} {Q : Exit → Act → World → Prop} (hgd : o.guard = none) (s x : Operand)
    (ho : o.op = .call { callee := .builtin .copy, args := #[s, x], argTypes := #[t, t] })
    (base : Nat) (v : Value) (l : List UInt8) (hs : a.eval s = v) (hown : Own w base e v l) (V : Value) (k : List UInt8) (hx : a.eval x = V) (hr : Bs w V k)
    (h : ∀ n w', Own w' base e v (k.take l.length ++ l.drop k.length) → w.grownBy w' v.ownBlock → wpList P ops Q rest (a.put o.dst n) w') : wpList P ops Q (o :: rest) a w := by
  obtain ⟨A, c, rfl, _, _, hr⟩ := hr
  refine wpList_plain hgd fun K hK => ?_
  obtain ⟨n, w', hrun, h2, h3⟩ := run_copy_bytes w HT o.type base v l hown A c k hr
  unfold Oper.wp execOp
  simp only [ho, resolve, invoke, builtin, Sem.run_bind, Sem.run_pure, Result.andThen_ok, List.map_toArray, List.map_cons, List.map_nil, hs, hx, hrun]
  exact hK _ _ (h n w' h2 h3)

end

end Go.Proofs.Ytohcbgchloncmaa
