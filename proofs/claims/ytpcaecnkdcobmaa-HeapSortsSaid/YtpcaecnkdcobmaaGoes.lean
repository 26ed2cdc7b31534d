/-
  WHAT A THING's BLOCKS BECOME ('Goes'): from the world w0 to w only the blocks F0, and what is new, have turned; and F is of those. Rows whose elements are kept ('OwnK'), over that. Over any program. No condition but what each theorem says.
-/
import Derived.Test.YtpcaecnkdcobmaaKee2
namespace Go.Proofs.Ytpcaecnkdcobmaa
open Go.RowKit

structure Goes (w0 : World) (F0 : Nat → Prop) (w : World) (F : Nat → Prop) : Prop where
  apt : Apt F0 w0 w
  new : ∀ q, F q → F0 q ∨ w0.heap.size ≤ q
section
variable {w0 w1 w2 w w' : World} {F0 F1 F2 F F' : Nat → Prop}
theorem Goes.refl (w : World) (F : Nat → Prop) : Goes w F w F := ⟨Apt.refl _ _, fun _ => .inl⟩
theorem Goes.trans (h : Goes w0 F0 w1 F1) (k : Goes w1 F1 w2 F2) : Goes w0 F0 w2 F2 := by
  refine ⟨⟨k.apt.os.trans h.apt.os, k.apt.tape.trans h.apt.tape, k.apt.output.trans h.apt.output, Nat.le_trans h.apt.size k.apt.size, fun g hg hn => ?_⟩, fun q hq => ?_⟩
  · refine (k.apt.block g (Nat.lt_of_lt_of_le hg h.apt.size) fun e => ?_).trans (h.apt.block g hg hn)
    rcases h.new g e with h1 | h1
    · exact hn h1
    · omega
  · rcases k.new q hq with h1 | h1
    · exact h.new q h1
    · exact .inr (Nat.le_trans h.apt.size h1)
theorem Goes.later (h : Goes w0 F0 w1 F1) (hb : Below w1.heap.size w1 w2) : Goes w0 F0 w2 F1 := h.trans ⟨Apt.of_below hb, fun _ => .inl⟩
theorem Goes.of_below (hb : Below w.heap.size w w') : Goes w F w' F := (Goes.refl w F).later hb
/-- more blocks, of the old ones and the new -/
theorem Goes.more (h : Goes w0 F0 w1 F1) (hn : ∀ q, F2 q → F1 q ∨ F0 q ∨ w0.heap.size ≤ q) : Goes w0 F0 w1 F2 := ⟨h.apt, fun q hq => (hn q hq).elim (h.new q) id⟩
/-- a block of the thing's own turns -/
theorem Goes.own (h : Goes w0 F0 w1 F1) {g : Nat} (hg : w1.grownBy w2 (some g)) (hF : F1 g) : Goes w0 F0 w2 F1 := h.trans ⟨Apt.of_grown hg fun q hq => by injection hq with hq; subst hq; exact hF, fun _ => .inl⟩
end

section
variable {α : Type} {k : Nat} {w w' : World} {base base' : Nat} {e : TypeId} {bad bad' bad0 : Nat → Prop} {E : World → α → List Value → Prop} {v : Value} {l : List α}
theorem OwnL.lower {xs : List (List Value)} (h : OwnL k w base e v xs) (hb : base' ≤ base) : OwnL k w base' e v xs := by
  refine ⟨⟨h.1.1, ?_⟩, h.2⟩
  rcases h.1.2 with h0 | ⟨g, cap, cur, hv, hg, hrest⟩
  · exact .inl h0
  · exact .inr ⟨g, cap, cur, hv, Nat.le_trans hb hg, hrest⟩
theorem OwnK.lower (h : OwnK k w base e bad E v l) (hb : base' ≤ base) : OwnK k w base' e bad E v l := by
  obtain ⟨xs, h1, h2⟩ := h
  exact ⟨xs, h1.lower hb, h2⟩
/-- some of what is bad turns, and what is bad becomes less, or what is new -/
theorem OwnK.apt (h : OwnK k w base e bad E v l) (ha : Apt bad0 w w') (h0 : ∀ q, q < w.heap.size → bad0 q → bad q) (hv : ∀ q, v.ownBlock = some q → ¬ bad0 q) (hb : ∀ q, bad' q → bad q ∨ w.heap.size ≤ q) : OwnK k w' base e bad' E v l := by
  obtain ⟨xs, h1, h2⟩ := h
  refine ⟨xs, h1.apt ha hv, h2.mono fun _ _ hk => hk.go (ha.mono fun q hq hb0 => .inl (h0 q hq hb0)) fun q hq => ?_⟩
  rcases hq with hq | hq
  · rcases hb q hq with h | h
    · exact .inl (.inl h)
    · exact .inr h
  · exact .inl (.inr hq)
/-- append, as a step of a region that draws its order -/
theorem step_append_K {P : Program} {t : TypeId} {bytes : Nat} (HT : ElemT P t e k bytes) {ops : Array Oper} {o : Oper} {a : Act} {K : Act → World → Prop} {Q : Exit → Act → World → Prop} {D : Prop} (hgd : o.guard = none) (sx x : Operand)
    (ho : o.op = .call { callee := .builtin .append, args := #[sx, x], argTypes := #[t, t] })
    (hs : a.eval sx = v) (h : OwnK k w base e bad E v l) {b : α} {y : List Value} {V : Value} (hx : a.eval x = V) (hV : Lv k w V [y]) (hy : Keep (fun q => bad q ∨ v.ownBlock = some q) (fun u => E u b y) w)
    (h1 : ∀ u ∈ y, u.oneCell' = true) (hl : l.length ≤ 1000000000) (hbytes : bytes ≤ 100) (hbase : base ≤ w.heap.size)
    (hK : ∀ v' w', OwnK k w' base e bad E v' (l ++ [b]) → w.grownBy w' v.ownBlock → (v'.ownBlock = v.ownBlock ∨ v'.ownBlock = some w.heap.size) → K (a.put o.dst v') w') :
    if Region.wanted o (yielded ops a.tmps) = true then Oper.wp P o a w K Q else D := by
  have hw : Region.wanted o (yielded ops a.tmps) = true := by simp [Region.wanted, hgd]
  rw [if_pos hw]
  obtain ⟨v', w', hrun, h2, h3, h4⟩ := run_append_K HT o.type h hV hy h1 hl hbytes hbase
  unfold Oper.wp execOp
  simp only [ho, resolve, invoke, builtin, Sem.run_bind, Sem.run_pure, Result.andThen_ok, List.map_toArray, List.map_cons, List.map_nil, hs, hx, hrun]
  exact hK v' w' h2 h3 h4
end

/-- make([]T, n) -/
theorem run_make_elems {P : Program} {t e : TypeId} {bytes : Nat} (HT : ElemT P t e 1 bytes) (n : Nat) (hn : bytes * n ≤ 140737488355328) (hm : n ≤ 1000000000) : ∃ x, ∀ u : World, (Instr.makeSlice t (.int .i64 (n : Int)) (.int .i64 (n : Int))).run P u = .ok (.slice (some ⟨u.heap.size, 0, none⟩) n n) (u.alloc (.cells (madeCells #[x] n) e)) ∧
    OwnL 1 (u.alloc (.cells (madeCells #[x] n) e)) u.heap.size e (.slice (some ⟨u.heap.size, 0, none⟩) n n) (List.replicate n [x]) := by
  obtain ⟨i, z, hi, hz, hs, hby, hzs⟩ := HT.info
  obtain ⟨x, hx⟩ : ∃ x, z.cells = #[x] := by
    have : z.cells.toList.length = 1 := by simpa using hzs
    match h : z.cells.toList, this with
    | [x], _ => exact ⟨x, by rw [← h]⟩
  have hb' : (i.bytes : Int) * (n : Int) ≤ 281474976710656 := by
    rw [hby]
    have h : ((bytes * n : Nat) : Int) ≤ 281474976710656 := by omega
    rwa [Int.natCast_mul] at h
  refine ⟨x, fun u => ⟨?_, ?_, fun y hy => ?_⟩⟩
  · have h := run_make (P := P) u t e i z HT.under hi hz .i64 .i64 (n : Int) (n : Int) (by omega) (by omega) hb' (by omega)
    simp only [Int.toNat_natCast] at h
    rw [hx, hs, Nat.mul_one] at h
    exact h
  · have hsz : (madeCells #[x] n).size = n * 1 := by simp [madeCells]
    have h := World.ownsRow_lit (base := u.heap.size) (e := e) (size := 1) u (madeCells #[x] n) n (Nat.le_refl _) (by simp only [maxLen]; omega) hsz
    rw [toList_madeCells_one] at h
    rw [List.length_replicate]
    have e : (List.replicate n [x]).flatten = List.replicate n x := by simp
    rw [e]
    exact h
  · rw [List.mem_replicate] at hy
    rw [hy.2]
    rfl
end Go.Proofs.Ytpcaecnkdcobmaa
