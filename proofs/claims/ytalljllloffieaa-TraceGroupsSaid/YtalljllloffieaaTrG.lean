/-
  A SLICE OF TRACES THAT GROWS, its last one's spans too ('GInv'); CONTRACT of trace.Group. Conditions: at most 1000000 spans, Data of at most 1000000 bytes.
-/
import Derived.Test.YtalljllloffieaaGrp
import Derived.Test.YtalljllloffieaaMix2
namespace Go.Proofs.Ytalljllloffieaa
open Go.RowKit

theorem trT : ElemT Try.prog 31 45 2 32 := ⟨Try.underlying31, by omega, by
  refine ⟨_, _, rfl, rfl, rfl, rfl, ?_⟩
  rfl⟩

/-- a slice of the call's own, of spans whose Data is older -/
def OwnO (w0 w : World) (base : Nat) (v : Value) (l : List Sn) : Prop := ∃ xs, OwnL 5 w base 40 v xs ∧ Two (SpC w0) l xs

section
variable {w0 w w' : World} {base : Nat} {v v' d : Value} {l m : List Sn} {row : Option Nat}
theorem OwnO.nil (w0 w : World) (base : Nat) : OwnO w0 w base (.slice none 0 0) [] := ⟨[], OwnL.nil _ _ _ _, Two.nil⟩
theorem OwnO.kept (h : OwnO w0 w base v l) (hg : w.grownBy w' row) (hne : v.ownBlock = none ∨ v.ownBlock ≠ row) : OwnO w0 w' base v l := by
  obtain ⟨xs, h1, h2⟩ := h
  exact ⟨xs, h1.kept hg hne, h2⟩
theorem OwnO.below (h : OwnO w0 w base v l) (hb : Below w.heap.size w w') : OwnO w0 w' base v l := by
  obtain ⟨xs, h1, h2⟩ := h
  exact ⟨xs, h1.below hb, h2⟩
theorem OwnO.ss (h : OwnO w0 w base v l) (hb : Below w0.heap.size w0 w) : Ss w v l := by
  obtain ⟨xs, h1, h2⟩ := h
  exact ⟨xs, h1.lv, h2.mono fun _ _ h => h.below hb⟩
theorem OwnO.lt (h : OwnO w0 w base v l) : ∀ g, v.ownBlock = some g → base ≤ g ∧ g < w.heap.size := fun g hg => by
  obtain ⟨xs, h1, _⟩ := h
  exact ⟨h1.ge g hg, h1.lt g hg⟩
theorem SpC.one {s : Sn} {x : List Value} (h : SpC w s x) : ∀ u ∈ x, u.oneCell' = true := by
  obtain ⟨ho, d, rfl, ⟨A, c, rfl, _⟩⟩ := h
  intro u hu
  simp only [spCells, List.mem_cons, List.not_mem_nil, or_false] at hu
  rcases hu with rfl | rfl | rfl | rfl | rfl <;> rfl
theorem Two.right_mem {α β : Type} {R : α → β → Prop} {l : List α} {m : List β} (h : Two R l m) {y : β} (hy : y ∈ m) : ∃ a, a ∈ l ∧ R a y := by
  obtain ⟨i, hi⟩ := List.mem_iff_getElem?.1 hy
  have hil : i < l.length := by have := (List.getElem?_eq_some_iff.1 hi).1; have := h.len; omega
  exact ⟨l[i], List.getElem_mem hil, h.at_ i l[i] y (List.getElem?_eq_getElem hil) hi⟩
theorem run_append_ownO (w : World) (ty : TypeId) (h : OwnO w0 w base v l) {V : Value} {ys : List (List Value)} (hV : Lv 5 w V ys) (hys : Two (SpC w0) m ys) (hl : l.length + m.length ≤ 1000000000) (hbase : base ≤ w.heap.size) :
    ∃ v' w', (Builtin.append_ #[22, 22] ty #[v, V]).run Try.prog w = .ok v' w' ∧ OwnO w0 w' base v' (l ++ m) ∧ w.grownBy w' v.ownBlock ∧ (v'.ownBlock = v.ownBlock ∨ v'.ownBlock = some w.heap.size) := by
  obtain ⟨xs, h1, h2⟩ := h
  have e1 := h2.len
  have e2 := hys.len
  obtain ⟨v', w', hrun, ho, hg, hv⟩ := run_append_elems w spT ty base v xs h1 V ys hV (fun y hy => by
    obtain ⟨a, _, ha⟩ := hys.right_mem hy
    exact ha.one) (by simp only [maxLen]; omega) (by omega) hbase
  exact ⟨v', w', hrun, ⟨xs ++ ys, ho, h2.append hys⟩, hg, hv⟩
theorem step_append_ownO {w : World} {ops : Array Oper} {o : Oper} {a : Act} {K : Act → World → Prop} {Q : Exit → Act → World → Prop} {E : Prop} (hgd : o.guard = none) (sx x : Operand)
    (ho : o.op = .call { callee := .builtin .append, args := #[sx, x], argTypes := #[22, 22] })
    (hs : a.eval sx = v) (h : OwnO w0 w base v l) {V : Value} {ys : List (List Value)} (hx : a.eval x = V) (hV : Lv 5 w V ys) (hys : Two (SpC w0) m ys) (hl : l.length + m.length ≤ 1000000000) (hbase : base ≤ w.heap.size)
    (hK : ∀ v' w', OwnO w0 w' base v' (l ++ m) → w.grownBy w' v.ownBlock → (v'.ownBlock = v.ownBlock ∨ v'.ownBlock = some w.heap.size) → K (a.put o.dst v') w') :
    if Region.wanted o (yielded ops a.tmps) = true then Oper.wp Try.prog o a w K Q else E := by
  have hw : Region.wanted o (yielded ops a.tmps) = true := by simp [Region.wanted, hgd]
  rw [if_pos hw]
  obtain ⟨v', w', hrun, h2, h3, h4⟩ := run_append_ownO w o.type h hV hys hl hbase
  unfold Oper.wp execOp
  simp only [ho, resolve, invoke, builtin, Sem.run_bind, Sem.run_pure, Result.andThen_ok, List.map_toArray, List.map_cons, List.map_nil, hs, hx, hrun]
  exact hK v' w' h2 h3 h4
end

/-- a number of an Id's kind -/
def idOk (i : Int) : Prop := 0 ≤ i ∧ i ≤ 18446744073709551615

/-- a trace whose spans are the call's own, in a row that isn't bad -/
def TnO (w0 w : World) (base : Nat) (bad : Nat → Prop) (t : Tn) (x : List Value) : Prop := idOk t.id ∧ ∃ d, x = [.int .u64 t.id, d] ∧ OwnO w0 w base d t.sp ∧ ∀ q, d.ownBlock = some q → ¬ bad q

section
variable {w0 w w' : World} {base : Nat} {bad bad' : Nat → Prop} {t : Tn} {x : List Value} {row : Option Nat}
theorem TnO.tnc (h : TnO w0 w base bad t x) (hb : Below w0.heap.size w0 w) : TnC w t x := by
  obtain ⟨h1, d, h2, h3, _⟩ := h
  exact ⟨h1, d, h2, h3.ss hb⟩
theorem TnO.kept (h : TnO w0 w base bad t x) (hg : w.grownBy w' row) (hr : ∀ q, row = some q → bad q) (hb : ∀ q, bad' q → bad q ∨ w.heap.size ≤ q) : TnO w0 w' base bad' t x := by
  obtain ⟨h1, d, h2, h3, h4⟩ := h
  refine ⟨h1, d, h2, h3.kept hg ?_, fun q hq hbq => ?_⟩
  · cases hd : d.ownBlock with
    | none => exact .inl rfl
    | some q => exact .inr fun e => h4 q hd (hr q e.symm)
  · rcases hb q hbq with h | h
    · exact h4 q hq h
    · have := (h3.lt q hq).2
      omega
theorem TnO.one (h : TnO w0 w base bad t x) : ∀ u ∈ x, u.oneCell' = true := by
  obtain ⟨h1, d, rfl, ⟨xs, ho, _⟩, _⟩ := h
  obtain ⟨A, c, rfl, _⟩ := ho.lv.form
  intro u hu
  simp only [List.mem_cons, List.not_mem_nil, or_false] at hu
  rcases hu with rfl | rfl <;> rfl
end

/-- what Group has made so far -/
def GInv (w0 w : World) (base hi : Nat) (ov : Value) (out : List Tn) : Prop :=
  (out = [] ∧ ov = .slice none 0 0) ∨
  ∃ o t xs dl, out = o ++ [t] ∧ OwnL 2 w base 45 ov (xs ++ [[.int .u64 t.id, dl]]) ∧ idOk t.id ∧ OwnO w0 w base dl t.sp ∧ (∀ q, dl.ownBlock = some q → ov.ownBlock ≠ some q ∧ q < hi) ∧
    Two (TnO w0 w base fun q => ov.ownBlock = some q ∨ dl.ownBlock = some q) o xs

section
variable {w0 w w' : World} {base hi : Nat} {ov : Value} {out : List Tn}
theorem GInv.below (h : GInv w0 w base hi ov out) (hb : Below w.heap.size w w') : GInv w0 w' base hi ov out := by
  rcases h with h | ⟨o, t, xs, dl, h1, h2, h3, h4, h5, h6⟩
  · exact .inl h
  · exact .inr ⟨o, t, xs, dl, h1, h2.below hb, h3, h4.below hb, h5, h6.mono fun _ _ h => h.kept (row := none) (grown_of_below hb none) (fun q h => by cases h) fun q h => .inl h⟩
theorem GInv.tight (h : GInv w0 w base hi ov out) : GInv w0 w base w.heap.size ov out := by
  rcases h with h | ⟨o, t, xs, dl, h1, h2, h3, h4, h5, h6⟩
  · exact .inl h
  · exact .inr ⟨o, t, xs, dl, h1, h2, h3, h4, fun q hq => ⟨(h5 q hq).1, (h4.lt q hq).2⟩, h6⟩
theorem GInv.lt (h : GInv w0 w base hi ov out) : ∀ q, ov.ownBlock = some q → base ≤ q ∧ q < w.heap.size := by
  rcases h with ⟨_, rfl⟩ | ⟨o, t, xs, dl, h1, h2, _⟩
  · intro q hq; cases hq
  · exact fun q hq => ⟨h2.ge q hq, h2.lt q hq⟩
theorem GInv.ts (h : GInv w0 w base hi ov out) (hb : Below w0.heap.size w0 w) : Ts w ov out := by
  rcases h with ⟨rfl, rfl⟩ | ⟨o, t, xs, dl, h1, h2, h3, h4, h5, h6⟩
  · exact Ts.nil w
  · subst h1
    exact ⟨_, h2.lv, (h6.mono fun _ _ h => h.tnc hb).snoc ⟨h3, dl, rfl, h4.ss hb⟩⟩
theorem GInv.form (h : GInv w0 w base hi ov out) : ∃ A c, ov = .slice A out.length c ∧ out.length ≤ c ∧ c ≤ 9223372036854775807 := by
  rcases h with ⟨rfl, rfl⟩ | ⟨o, t, xs, dl, h1, h2, h3, h4, h5, h6⟩
  · exact ⟨none, 0, rfl, Nat.le_refl _, by omega⟩
  · subst h1
    obtain ⟨A, c, hv, hc1, hc2⟩ := h2.lv.form
    have e : (xs ++ [[.int .u64 t.id, dl]]).length = (o ++ [t]).length := by simp [h6.len]
    rw [e] at hv hc1
    exact ⟨A, c, hv, hc1, hc2⟩
/-- another trace, of no spans yet -/
theorem GInv.app (h : GInv w0 w base hi ov out) (hi' : Nat) : ∃ XS, OwnL 2 w base 45 ov XS ∧ XS.length = out.length ∧
    ∀ v' w' i, idOk i → OwnL 2 w' base 45 v' (XS ++ [[.int .u64 i, .slice none 0 0]]) → w.grownBy w' ov.ownBlock → (v'.ownBlock = ov.ownBlock ∨ v'.ownBlock = some w.heap.size) → GInv w0 w' base hi' v' (out ++ [⟨i, []⟩]) := by
  rcases h with ⟨rfl, rfl⟩ | ⟨o, t, xs, dl, h1, h2, h3, h4, h5, h6⟩
  · refine ⟨[], OwnL.nil _ _ _ _, rfl, fun v' w' i hi ho hg hv => ?_⟩
    exact .inr ⟨[], ⟨i, []⟩, [], .slice none 0 0, rfl, ho, hi, OwnO.nil _ _ _, (fun q hq => by cases hq), Two.nil⟩
  · refine ⟨_, h2, by subst h1; simp [h6.len], fun v' w' i hi ho hg hv => ?_⟩
    refine .inr ⟨out, ⟨i, []⟩, _, .slice none 0 0, rfl, ho, hi, OwnO.nil _ _ _, (fun q hq => by cases hq), ?_⟩
    subst h1
    have hb : ∀ q, (v'.ownBlock = some q ∨ (Value.slice none 0 0).ownBlock = some q) → (ov.ownBlock = some q ∨ dl.ownBlock = some q) ∨ w.heap.size ≤ q := by
      intro q hq
      rcases hq with hq | hq
      · rcases hv with e | e
        · exact .inl (.inl (by rw [← e]; exact hq))
        · rw [e] at hq
          injection hq with hq
          exact .inr (by omega)
      · cases hq
    refine (h6.mono fun _ _ h => h.kept hg (fun q hq => .inl hq) hb).snoc ⟨h3, dl, rfl, h4.kept hg ?_, fun q hq hbq => ?_⟩
    · cases hd : dl.ownBlock with
      | none => exact .inl rfl
      | some q => exact .inr fun e => (h5 q hd).1 e.symm
    · have hlt := (h4.lt q hq).2
      rcases hbq with hbq | hbq
      · rcases hv with e | e
        · rw [e] at hbq
          exact (h5 q hq).1 hbq
        · rw [e] at hbq
          injection hbq with hbq
          omega
      · cases hbq
/-- another span of the last trace -/
theorem GInv.more {o : List Tn} {t : Tn} (h : GInv w0 w base hi ov (o ++ [t])) : ∃ g c dl, ov = .slice (some ⟨g, 0, none⟩) (o.length + 1) c ∧ o.length + 1 ≤ c ∧ c ≤ 9223372036854775807 ∧ g < w.heap.size ∧ base ≤ g ∧
    w.cell? ⟨g, o.length * 2, none⟩ = some (.int .u64 t.id) ∧ w.cell? ⟨g, o.length * 2 + 1, none⟩ = some dl ∧ OwnO w0 w base dl t.sp ∧ (∀ q, dl.ownBlock = some q → q ≠ g ∧ q < hi) ∧
    ∀ d' w' l', OwnO w0 w' base d' l' → w.grownBy w' dl.ownBlock → (d'.ownBlock = dl.ownBlock ∨ ∃ n, d'.ownBlock = some n ∧ w.heap.size ≤ n) →
      w'.cell? ⟨g, o.length * 2 + 1, none⟩ = some dl ∧ w'.frozen? ⟨g, o.length * 2 + 1, none⟩ = false ∧ GInv w0 (w'.setCell ⟨g, o.length * 2 + 1, none⟩ d') base (w'.setCell ⟨g, o.length * 2 + 1, none⟩ d').heap.size ov (o ++ [⟨t.id, l'⟩]) ∧ w'.grownBy (w'.setCell ⟨g, o.length * 2 + 1, none⟩ d') (some g) := by
  rcases h with ⟨h, _⟩ | ⟨o', t', xs, dl, h1, h2, h3, h4, h5, h6⟩
  · simp at h
  · obtain ⟨rfl, ht⟩ := List.append_inj' h1 rfl
    simp only [List.cons.injEq, and_true] at ht
    subst ht
    have hxl := h6.len
    have hlen : (xs ++ [[Value.int .u64 t.id, dl]]).length = o.length + 1 := by simp [hxl]
    have h2' := h2
    obtain ⟨ho, hk⟩ := h2
    rcases ho.2 with ⟨_, h0⟩ | ⟨g, c, cur, hv, hb, hg, hn, hm, hcs, htk⟩
    · omega
    rw [hlen] at hv hn
    subst hv
    have hlast : (xs ++ [[Value.int .u64 t.id, dl]])[o.length]? = some [.int .u64 t.id, dl] := by rw [hxl]; simp
    obtain ⟨g', off, hA, hg', hc⟩ := h2'.lv.cells (by omega) hlast
    injection hA with hA
    injection hA with e1 e2
    subst e1 e2
    refine ⟨g, c, dl, rfl, hn, by simp only [maxLen] at hm; exact hm, hg', hb, by simpa using hc 0 _ rfl, by simpa using hc 1 _ rfl, h4, fun q hq => ⟨fun e => (h5 q hq).1 (by rw [e]; rfl), (h5 q hq).2⟩, ?_⟩
    intro d' w' l' hd' hgr hb'
    have hdg : ∀ q, dl.ownBlock = some q → q ≠ g := fun q hq e => (h5 q hq).1 (by rw [e]; rfl)
    have hne : (Value.slice (some ⟨g, 0, none⟩) (o.length + 1) c).ownBlock = none ∨ (Value.slice (some ⟨g, 0, none⟩) (o.length + 1) c).ownBlock ≠ dl.ownBlock := by
      right
      intro e
      exact hdg g e.symm rfl
    have h7 := h2'.kept hgr hne
    obtain ⟨ho7, hk7⟩ := h7
    have ho8 := ho7
    rw [hlen] at ho8
    obtain ⟨s1, g1⟩ := ho8.stored (o.length * 2 + 1) d'
    rw [flat_set1 hk7 d' hlast (show 1 < 2 by omega)] at s1
    have hset : (xs ++ [[Value.int .u64 t.id, dl]]).set o.length ([Value.int .u64 t.id, dl].set 1 d') = xs ++ [[.int .u64 t.id, d']] := by
      rw [hxl, List.set_append_right _ _ (Nat.le_refl _)]
      simp
    rw [hset] at s1
    have hdb' : ∀ q, d'.ownBlock = some q → q ≠ g := by
      intro q hq
      rcases hb' with e | ⟨n, e, hn⟩
      · rw [e] at hq
        exact hdg q hq
      · rw [e] at hq
        injection hq with hq
        omega
    have hcell := (World.cell?_of_block (a := ⟨g, o.length * 2 + 1, none⟩) (hgr.block g hg' (fun e => hdg g e.symm rfl))).trans (show w.cell? ⟨g, o.length * 2 + 1, none⟩ = some dl by simpa using hc 1 _ rfl)
    have hfr := (World.frozen?_of_block (a := ⟨g, o.length * 2 + 1, none⟩) (hgr.block g hg' (fun e => hdg g e.symm rfl))).trans (show w.frozen? ⟨g, o.length * 2 + 1, none⟩ = false by simp [World.frozen?, hg])
    refine ⟨hcell, hfr, .inr ⟨o, ⟨t.id, l'⟩, xs, d', rfl, ⟨?_, ?_⟩, h3, ?_, fun q hq => ⟨fun e => ?_, ?_⟩, ?_⟩, g1⟩
    · have : (xs ++ [[Value.int .u64 t.id, d']]).length = o.length + 1 := by simp [hxl]
      rw [this]
      exact s1
    · intro y hy
      rcases List.mem_append.1 hy with hy | hy
      · exact hk y (List.mem_append_left _ hy)
      · simp at hy
        subst hy
        rfl
    · refine hd'.kept g1 ?_
      cases hd : d'.ownBlock with
      | none => exact .inl rfl
      | some q => exact .inr fun e => by injection e with e; exact hdb' q hd e
    · injection e with e
      exact hdb' q hq e.symm
    · have := (hd'.lt q hq).2
      simpa [World.setCell] using this
    · refine h6.mono fun t x ht => ?_
      refine TnO.kept (ht.kept (bad' := fun q => some q = some g ∨ d'.ownBlock = some q) hgr (fun q hq => .inr hq) fun q hq => ?_) g1 (fun q hq => .inl hq.symm) fun q hq => .inl (hq.imp (fun e => e.symm) id)
      rcases hq with hq | hq
      · exact .inl (.inl hq.symm)
      · rcases hb' with e | ⟨n, e, hn⟩
        · rw [e] at hq
          exact .inl (.inr hq)
        · rw [e] at hq
          injection hq with hq
          exact .inr (by omega)
end

theorem below_trans' {w w' : World} (h : Below w.heap.size w w') (n : Nat) (o : Obj) : Below w.heap.size w ((w'.drewN n).alloc o) := (below_drewN h n).alloc h.size o
theorem Lv.litH {w : World} (x : List Value) (e : TypeId) {H : Nat} (hH : w.heap.size = H) : Lv x.length (w.alloc (.cells x.toArray e)) (.slice (some ⟨H, 0, none⟩) 1 1) [x] := by
  subst hH
  exact Lv.lit1 w x e

set_option maxRecDepth 100000 in
set_option maxHeartbeats 6400000 in
theorem group_any (v : Value) (l : List Sn) (w : World) (h : Ss w v l) (hl : l.length ≤ 900000) (hd : ∀ s ∈ l, s.data.length ≤ 1000000) :
    Calls Try.prog 17 #[v] w fun e w' => ∃ v' r, e = .returned v' ∧ Ts w' v' r ∧ Grp l r ∧ Below w.heap.size w w' := by
  go_enter Try.func17, Try.ntmps17
  go_wp2_with fail
  refine (least_any v l _ h (by omega)).mono ?_
  rintro e w1 ⟨v1, r1, rfl, ho1, hL, hb1⟩
  have hrl := hL.len
  go_wp2_with fail
  refine (apart_any v1 r1 _ _ ho1 (by omega) (fun s hs => hd s (hL.sub s hs))).mono ?_
  rintro e w2 ⟨rfl, ho2, hg2⟩
  have hb2 := hb1.grown hg2 hb1.size (fun k hk => (ho1.lt k hk).1)
  go_wp2_with fail
  refine (sort_any 32 cmpT three_cmpT enters_inTraces inTraces_only v1 r1 _ _ ho2 (by omega)).mono ?_
  rintro e w3 ⟨rfl, g, hp, hs, ho3, hg3⟩
  have hb3 := hb2.grown hg3 hb2.size (fun k hk => (ho2.lt k hk).1)
  have hS := ho3.ss
  have hgl : g.length ≤ 900000 := by have := hp.length_eq; omega
  have HP := Lib.hid hp
  have HS := Lib.hid hs
  have HL := Lib.hid hL
  clear ho1 ho2 ho3 hg2 hg3 hb1 hb2 hp hs hL h hd hrl
  obtain ⟨A, c, rfl, hc1, hc2⟩ := hS.form
  have HSS := Lib.hid hS
  clear hS
  go_wp2_with fail
  go_loopw [4, 6, 7, 15] (fun ov _ _ kv wr => ∃ (k : Nat) (out : List Tn), k ≤ g.length ∧ kv = .int .i64 (k : Int) ∧ GInv w3 wr w3.heap.size wr.heap.size ov out ∧ Below w3.heap.size w3 wr ∧ Hid (Par (g.take k) out) ∧ out.length ≤ k) (fun _ _ _ kv _ => g.length - (intOf kv).toNat)
  case atStart => exact ⟨0, [], Nat.zero_le _, rfl, .inl ⟨rfl, rfl⟩, Below.refl _ _, Lib.hid (by simpa using Par.nil), Nat.le_refl _⟩
  case round =>
    obtain ⟨k, out, hk, rfl, hI, hB, HPar, hok⟩ := hrel
    by_cases hlt : k < g.length
    · obtain ⟨s, hks⟩ : ∃ s, g[k]? = some s := ⟨_, List.getElem?_eq_getElem hlt⟩
      obtain ⟨gb, o, d, rfl, hg, c0, c1, c2, c3, c4, hdd, hsok⟩ := HSS.out.cells hks
      replace c0 := (hB.cell (p := ⟨gb, o + k * 5, none⟩) hg).trans c0
      replace c1 := (hB.cell (p := ⟨gb, o + k * 5 + 1, none⟩) hg).trans c1
      replace c2 := (hB.cell (p := ⟨gb, o + k * 5 + 2, none⟩) hg).trans c2
      replace c3 := (hB.cell (p := ⟨gb, o + k * 5 + 3, none⟩) hg).trans c3
      replace c4 := (hB.cell (p := ⟨gb, o + k * 5 + 4, none⟩) hg).trans c4
      have hgr := Nat.lt_of_lt_of_le hg hB.size
      have HT := Lib.hid (take_snoc_at hks)
      have HKS := Lib.hid hks
      have HOK := Lib.hid hsok
      have HDD := Lib.hid hdd
      have HMX : Hid (∀ x ∈ g.take k, x.tr ≤ s.tr) := Lib.hid (by
        intro x hx
        have hs := HS.out
        rw [← List.take_append_drop (k + 1) g, take_snoc_at hks, List.append_assoc, List.pairwise_append] at hs
        exact cmpT_le (hs.2.2 x hx s (by simp)))
      have HSL0 : Hid (∀ t ∈ out, t.sp.length ≤ 900000) := Lib.hid (by
        intro t ht
        rw [HPar.out.sp t ht]
        have := List.length_filter_le (fun s : Sn => decide (s.tr = t.id)) (g.take k)
        rw [List.length_take] at this
        simp only [ofT]
        omega)
      obtain ⟨Ad, cd, hdv, _⟩ := hdd
      subst hdv
      have HI := Lib.hid hI
      have HBk := Lib.hid (Blk.new wr 40 #[.int .u64 s.tr, .int .u64 s.id, .int .i64 s.st, .int .i64 s.en, .slice Ad s.data.length cd])
      clear hks hsok
      rcases List.eq_nil_or_concat out with h0 | ⟨ol, tl, h0⟩
      · subst h0
        obtain ⟨Ao, co, rfl, hco1, hco2⟩ := hI.form
        have HPn : Hid (Par (g.take (k + 1)) ([] ++ [⟨s.tr, [] ++ [s]⟩])) := Lib.hid (by rw [HT.out]; exact HPar.out.new (fun t ht => by cases ht))
        have hspl : ([] : List Sn).length ≤ 1000000 := by simp
        clear hI
        go_wp2_with fail
        go_quiet (fail)
        have hW : Below wr.heap.size wr (((wr.alloc (.cells #[.int .u64 s.tr, .int .u64 s.id, .int .i64 s.st, .int .i64 s.en, .slice Ad s.data.length cd] 40)).drewN nq).alloc (.cells #[.int .u64 s.tr, .slice none 0 0] 45)) := below_trans' ((Below.refl wr.heap.size wr).alloc (Nat.le_refl _) (.cells #[.int .u64 s.tr, .int .u64 s.id, .int .i64 s.st, .int .i64 s.en, .slice Ad s.data.length cd] 40)) nq (.cells #[.int .u64 s.tr, .slice none 0 0] 45)
        have hB2 := hB.trans (hW.mono hB.size)
        have hI2 := HI.out.below hW
        obtain ⟨XS, hX1, hX2, hX3⟩ := hI2.app wr.heap.size
        have HX1 := Lib.hid hX1
        have HX3 := Lib.hid hX3
        have HLV2 : Hid (Lv 2 (((wr.alloc (.cells #[.int .u64 s.tr, .int .u64 s.id, .int .i64 s.st, .int .i64 s.en, .slice Ad s.data.length cd] 40)).drewN nq).alloc (.cells #[.int .u64 s.tr, .slice none 0 0] 45)) (.slice (some ⟨wr.heap.size + 1, 0, none⟩) 1 1) [[.int .u64 s.tr, .slice none 0 0]]) := Lib.hid (Lv.litH [.int .u64 s.tr, .slice none 0 0] 45 (by simp [World.drewN]))
        have hBk2 := (HBk.out.drewN nq).alloc (.cells #[.int .u64 s.tr, .slice none 0 0] 45)
        have HBk2 := Lib.hid hBk2
        have hXS : XS.length ≤ 1000000 := by rw [hX2]; omega
        have HXS := Lib.hid hXS
        clear hI2 hX1 hX3 hX2 hW hBk2 hXS
        go_wp2_with (at_builtin; refine wpList_append_elems _ trT rfl _ _ rfl w3.heap.size _ XS rfl HX1.out _ [[.int .u64 s.tr, .slice none 0 0]] rfl HLV2.out (by intro y hy u hu; simp at hy; subst hy; simp at hu; rcases hu with rfl | rfl <;> rfl) (by have := HXS.out; simp only [maxLen, List.length_singleton]; omega) (by have := HXS.out; simp only [List.length_singleton]; omega) hB2.size ?_)
        intro v8 w8 ho8 hg8' hv8
        have HI8 := Lib.hid (HX3.out v8 w8 s.tr ⟨HOK.out.tr0, HOK.out.tr1⟩ ho8 hg8' (by simpa [World.drewN] using hv8))
        have hB8 : Below w3.heap.size w3 w8 := hB2.grown hg8' hB2.size (fun q hq => (HI.out.lt q hq).1)
        have HBk8 := Lib.hid (HBk2.out.grown hg8' (fun e => by have := (HI.out.lt _ e.symm).2; omega))
        have hov8 : ∀ q, v8.ownBlock = some q → wr.heap.size ≠ q := fun q hq e => by
          rcases hv8 with h | h
          · rw [h] at hq
            have := (HI.out.lt q hq).2
            omega
          · rw [h] at hq
            have hq := Option.some.inj hq
            omega
        clear ho8 hg8' hv8 hB2
        obtain ⟨g8, c8, dl, rfl, hc8, hc8', hg8, hg8b, x0, x1, hdl, hdlne, hnext⟩ := HI8.out.more
        have HNX := Lib.hid hnext
        have HSL : Hid ((⟨s.tr, []⟩ : Tn).sp.length ≤ 1000000) := Lib.hid hspl
        have HDB : Hid (dl.ownBlock ≠ some wr.heap.size) := Lib.hid (fun e => by have := (hdlne _ e).2; omega)
        have HLT8 : Hid (∀ q, (Value.slice (some ⟨g8, 0, none⟩) (([] : List Tn).length + 1) c8).ownBlock = some q → wr.heap.size ≠ q) := Lib.hid hov8
        have HDLT : Hid (∀ q, dl.ownBlock = some q → w3.heap.size ≤ q) := Lib.hid (fun q hq => (hdl.lt q hq).1)
        have hdl9 := hdl.below ((Below.refl w8.heap.size w8).drew.alloc (Nat.le_refl _) (.cells #[.int .u64 s.tr, .int .u64 s.id, .int .i64 s.st, .int .i64 s.en, .slice Ad s.data.length cd] 40))
        have HLV : Hid (Lv 5 (w8.drew.alloc (.cells #[.int .u64 s.tr, .int .u64 s.id, .int .i64 s.st, .int .i64 s.en, .slice Ad s.data.length cd] 40)) (.slice (some ⟨w8.heap.size, 0, none⟩) 1 1) [spCells s (.slice Ad s.data.length cd)]) := Lib.hid (Lv.lit1 (w := w8.drew) (spCells s (.slice Ad s.data.length cd)) 40)
        have HTW : Hid (Two (SpC w3) [s] [spCells s (.slice Ad s.data.length cd)]) := Lib.hid (Two.nil.snoc (l := []) (m := []) ⟨HOK.out, _, rfl, HDD.out⟩)
        have hw8 : IntKind.i64.wrap (([] : List Tn).length : Int) = (([] : List Tn).length : Int) := by simp [IntKind.wrap, IntKind.bits, IntKind.signed] <;> omega
        have hi0 : (0 : Int) ≤ (([] : List Tn).length : Int) := by omega
        have hi1 : (([] : List Tn).length : Int) < (([] : List Tn).length : Int) + 1 := by omega
        have k0 := HBk8.out.cell 0
        have k1 := HBk8.out.cell 1
        have k2 := HBk8.out.cell 2
        have k3 := HBk8.out.cell 3
        have k4 := HBk8.out.cell 4
        simp at k0 k1 k2 k3 k4
        have x2 : (w8.drew.alloc (.cells #[.int .u64 s.tr, .int .u64 s.id, .int .i64 s.st, .int .i64 s.en, .slice Ad s.data.length cd] 40)).cell? ⟨g8, ([] : List Tn).length * 2 + 1, none⟩ = some dl := Lib.cell?_alloc_some _ x1
        have hbk11 := HBk8.out.alloc (w := w8.drew) (.cells #[.int .u64 s.tr, .int .u64 s.id, .int .i64 s.st, .int .i64 s.en, .slice Ad s.data.length cd] 40)
        have k10 := hbk11.cell 0
        have k11 := hbk11.cell 1
        have k12 := hbk11.cell 2
        have k13 := hbk11.cell 3
        have k14 := hbk11.cell 4
        simp at k10 k11 k12 k13 k14
        clear hnext hdl hdlne hspl hov8 hbk11
        simp only [List.length_nil, Nat.zero_mul, Nat.zero_add] at x0 x1 x2
        go_wp2_with fail
        refine wp_region_mix2 [(0, 0), (1, 0), (2, 0), (3, 0), (5, 0), (4, 8), (7, 1), (8, 0), (9, 0), (10, 1)] (fun u => u.cell? ⟨wr.heap.size, 0, none⟩ = some (.int .u64 s.tr) ∧ u.cell? ⟨wr.heap.size, 1, none⟩ = some (.int .u64 s.id) ∧ u.cell? ⟨wr.heap.size, 2, none⟩ = some (.int .i64 s.st) ∧ u.cell? ⟨wr.heap.size, 3, none⟩ = some (.int .i64 s.en) ∧ u.cell? ⟨wr.heap.size, 4, none⟩ = some (.slice Ad s.data.length cd)) (by kernel_rfl) (by kernel_rfl) (by kernel_rfl) rfl ⟨k0, k1, k2, k3, k4⟩ ?_
        repeat
          (refine mix2_read (o := ⟨_, _, _, _, _, _⟩) (v := ?_) rfl (by rfl) (fun w' hS => ?_) ?_
           rotate_left
           obtain ⟨s0, s1, s2, s3, s4⟩ := hS
           go_simp
           with_reducible rfl
           try simp only [Act.put, List.setIfInBounds_toArray, List.set_cons_zero, List.set_cons_succ])
        refine mix2_fork (oi := ⟨_, _, _, _, _, _⟩) (oj := ⟨_, _, _, _, _, _⟩) rfl rfl (fun K hK => ?_) (fun K hK => ?_)
        · go_simp
          refine hK.out _ _ ⟨k0, k1, k2, k3, k4⟩ ?_
          clear hK K
          try simp only [Act.put, List.setIfInBounds_toArray, List.set_cons_zero, List.set_cons_succ]
          refine then_step (o := ⟨_, _, _, _, _, _⟩) rfl (fun K' hK' => ?_)
          go_simp
          refine hK'.out _ _ ⟨k10, k11, k12, k13, k14⟩ ?_
          clear hK' K'
          try simp only [Act.put, List.setIfInBounds_toArray, List.set_cons_zero, List.set_cons_succ]
          refine mix2_step (o := ⟨_, _, _, _, _, _⟩) rfl (fun K hK => ?_)
          refine step_append_ownO rfl _ _ rfl rfl hdl9 rfl HLV.out HTW.out (by have := HSL.out; simp only [List.length_singleton]; omega) (Nat.le_trans hB8.size (by simp)) ?_
          intro d' w9 hd9 hg9 hv9
          have hBk9 := (HBk8.out.alloc (w := w8.drew) (.cells #[.int .u64 s.tr, .int .u64 s.id, .int .i64 s.st, .int .i64 s.en, .slice Ad s.data.length cd] 40)).grown hg9 (fun e => HDB.out e.symm)
          have z0 := hBk9.cell 0
          have z1 := hBk9.cell 1
          have z2 := hBk9.cell 2
          have z3 := hBk9.cell 3
          have z4 := hBk9.cell 4
          simp at z0 z1 z2 z3 z4
          refine hK.out _ _ ⟨z0, z1, z2, z3, z4⟩ ?_
          clear hK K
          try simp only [Act.put, List.setIfInBounds_toArray, List.set_cons_zero, List.set_cons_succ]
          have hg89 := grown_trans (grown_of_below ((Below.refl w8.heap.size w8).drew.alloc (Nat.le_refl _) (.cells #[.int .u64 s.tr, .int .u64 s.id, .int .i64 s.st, .int .i64 s.en, .slice Ad s.data.length cd] 40)) dl.ownBlock) hg9
          obtain ⟨n1, n2, n3, n4⟩ := HNX.out d' w9 _ hd9 hg89 (hv9.imp id (fun e => ⟨_, e, by simp⟩))
          obtain ⟨xs9, hx9, _⟩ := hd9
          obtain ⟨A9, c9, hdv9, _⟩ := hx9.lv.form
          subst hdv9
          simp only [List.length_nil, Nat.zero_mul, Nat.zero_add] at n1 n2
          have N3 := Lib.hid n3
          have N4 := Lib.hid n4
          have hbk10 := hBk9.far (p := ⟨g8, ([] : List Tn).length * 2 + 1, none⟩) (by have := HLT8.out g8 rfl; simpa using this) (.slice A9 xs9.length c9)
          clear n3 n4 hx9 z0 z1 z2 z3 z4
          repeat
            (refine mix2_read (o := ⟨_, _, _, _, _, _⟩) (v := ?_) rfl (by rfl) (fun w' hS => ?_) ?_
             rotate_left
             clear hS
             go_simp
             with_reducible rfl
             try simp only [Act.put, List.setIfInBounds_toArray, List.set_cons_zero, List.set_cons_succ])
          refine mix2_step (o := ⟨_, _, _, _, _, _⟩) rfl (fun K hK => ?_)
          go_simp
          have y0 := hbk10.cell 0
          have y1 := hbk10.cell 1
          have y2 := hbk10.cell 2
          have y3 := hbk10.cell 3
          have y4 := hbk10.cell 4
          simp at y0 y1 y2 y3 y4
          refine hK.out _ _ ⟨y0, y1, y2, y3, y4⟩ ?_
          clear hK K y0 y1 y2 y3 y4 hbk10
          refine mix2_done ?_
          have hB10 : Below w3.heap.size w3 (w9.setCell ⟨g8, ([] : List Tn).length * 2 + 1, none⟩ (.slice A9 xs9.length c9)) :=
            (hB8.grown hg89 hB8.size (fun q hq => (HDLT.out q hq))).grown N4.out (Nat.le_trans hB8.size hg89.size) (fun q hq => by injection hq with hq; omega)
          clear n1 n2
          go_wp2_with fail
          exact ⟨⟨k + 1, ([] : List Tn) ++ [⟨(⟨s.tr, []⟩ : Tn).id, (⟨s.tr, []⟩ : Tn).sp ++ [s]⟩], by omega, by go_num, N3.out, hB10, HPn, by simp only [List.length_append, List.length_singleton]; omega⟩, by simp [intOf]; omega⟩
        · go_simp
          refine hK.out _ _ ⟨k10, k11, k12, k13, k14⟩ ?_
          clear hK K
          try simp only [Act.put, List.setIfInBounds_toArray, List.set_cons_zero, List.set_cons_succ]
          refine then_step (o := ⟨_, _, _, _, _, _⟩) rfl (fun K' hK' => ?_)
          go_simp
          refine hK'.out _ _ ⟨k10, k11, k12, k13, k14⟩ ?_
          clear hK' K'
          try simp only [Act.put, List.setIfInBounds_toArray, List.set_cons_zero, List.set_cons_succ]
          refine mix2_step (o := ⟨_, _, _, _, _, _⟩) rfl (fun K hK => ?_)
          refine step_append_ownO rfl _ _ rfl rfl hdl9 rfl HLV.out HTW.out (by have := HSL.out; simp only [List.length_singleton]; omega) (Nat.le_trans hB8.size (by simp)) ?_
          intro d' w9 hd9 hg9 hv9
          have hBk9 := (HBk8.out.alloc (w := w8.drew) (.cells #[.int .u64 s.tr, .int .u64 s.id, .int .i64 s.st, .int .i64 s.en, .slice Ad s.data.length cd] 40)).grown hg9 (fun e => HDB.out e.symm)
          have z0 := hBk9.cell 0
          have z1 := hBk9.cell 1
          have z2 := hBk9.cell 2
          have z3 := hBk9.cell 3
          have z4 := hBk9.cell 4
          simp at z0 z1 z2 z3 z4
          refine hK.out _ _ ⟨z0, z1, z2, z3, z4⟩ ?_
          clear hK K
          try simp only [Act.put, List.setIfInBounds_toArray, List.set_cons_zero, List.set_cons_succ]
          have hg89 := grown_trans (grown_of_below ((Below.refl w8.heap.size w8).drew.alloc (Nat.le_refl _) (.cells #[.int .u64 s.tr, .int .u64 s.id, .int .i64 s.st, .int .i64 s.en, .slice Ad s.data.length cd] 40)) dl.ownBlock) hg9
          obtain ⟨n1, n2, n3, n4⟩ := HNX.out d' w9 _ hd9 hg89 (hv9.imp id (fun e => ⟨_, e, by simp⟩))
          obtain ⟨xs9, hx9, _⟩ := hd9
          obtain ⟨A9, c9, hdv9, _⟩ := hx9.lv.form
          subst hdv9
          simp only [List.length_nil, Nat.zero_mul, Nat.zero_add] at n1 n2
          have N3 := Lib.hid n3
          have N4 := Lib.hid n4
          have hbk10 := hBk9.far (p := ⟨g8, ([] : List Tn).length * 2 + 1, none⟩) (by have := HLT8.out g8 rfl; simpa using this) (.slice A9 xs9.length c9)
          clear n3 n4 hx9 z0 z1 z2 z3 z4
          repeat
            (refine mix2_read (o := ⟨_, _, _, _, _, _⟩) (v := ?_) rfl (by rfl) (fun w' hS => ?_) ?_
             rotate_left
             clear hS
             go_simp
             with_reducible rfl
             try simp only [Act.put, List.setIfInBounds_toArray, List.set_cons_zero, List.set_cons_succ])
          refine mix2_step (o := ⟨_, _, _, _, _, _⟩) rfl (fun K hK => ?_)
          go_simp
          have y0 := hbk10.cell 0
          have y1 := hbk10.cell 1
          have y2 := hbk10.cell 2
          have y3 := hbk10.cell 3
          have y4 := hbk10.cell 4
          simp at y0 y1 y2 y3 y4
          refine hK.out _ _ ⟨y0, y1, y2, y3, y4⟩ ?_
          clear hK K y0 y1 y2 y3 y4 hbk10
          refine mix2_done ?_
          have hB10 : Below w3.heap.size w3 (w9.setCell ⟨g8, ([] : List Tn).length * 2 + 1, none⟩ (.slice A9 xs9.length c9)) :=
            (hB8.grown hg89 hB8.size (fun q hq => (HDLT.out q hq))).grown N4.out (Nat.le_trans hB8.size hg89.size) (fun q hq => by injection hq with hq; omega)
          clear n1 n2
          go_wp2_with fail
          exact ⟨⟨k + 1, ([] : List Tn) ++ [⟨(⟨s.tr, []⟩ : Tn).id, (⟨s.tr, []⟩ : Tn).sp ++ [s]⟩], by omega, by go_num, N3.out, hB10, HPn, by simp only [List.length_append, List.length_singleton]; omega⟩, by simp [intOf]; omega⟩
      · rw [List.concat_eq_append] at h0
        have hI' := hI
        rw [h0] at hI'
        have hlen : out.length = ol.length + 1 := by rw [h0]; simp
        have hmem : tl ∈ out := by rw [h0]; simp
        have H0 := Lib.hid h0
        obtain ⟨g7, c7, dl7, rfl, hc7, hc7', hg7, _, x7, _⟩ := hI'.more
        have hw7 : IntKind.i64.wrap (ol.length : Int) = (ol.length : Int) := by simp [IntKind.wrap, IntKind.bits, IntKind.signed]; omega
        have hi70 : (0 : Int) ≤ (ol.length : Int) := by omega
        have hi71 : (ol.length : Int) < (ol.length : Int) + 1 := by omega
        have x7' : (wr.alloc (.cells #[.int .u64 s.tr, .int .u64 s.id, .int .i64 s.st, .int .i64 s.en, .slice Ad s.data.length cd] 40)).cell? ⟨g7, ol.length * 2, none⟩ = some (.int .u64 tl.id) := Lib.cell?_alloc_some _ x7
        have hn7 : ¬ ((ol.length : Int) + 1 = 0) := by omega
        have hn7' : ((ol.length : Int) + 1 == 0) = false := by simpa using hn7
        by_cases hq : tl.id = s.tr
        · have kq : (tl.id == s.tr) = true := by simpa using hq
          have HPn : Hid (Par (g.take (k + 1)) (ol ++ [⟨tl.id, tl.sp ++ [s]⟩])) := Lib.hid (by rw [HT.out]; exact Par.more (by rw [← h0]; exact HPar.out) hq)
          have hspl : tl.sp.length ≤ 1000000 := by have := HSL0.out tl hmem; omega
          have HI' := Lib.hid hI'
          clear hq hI hI' x7 h0 hmem
          go_wp2_with fail
          go_quiet (fail)
          have hW8 : Below wr.heap.size wr ((wr.alloc (.cells #[.int .u64 s.tr, .int .u64 s.id, .int .i64 s.st, .int .i64 s.en, .slice Ad s.data.length cd] 40)).drewN nq) := below_drewN ((Below.refl wr.heap.size wr).alloc (Nat.le_refl _) (.cells #[.int .u64 s.tr, .int .u64 s.id, .int .i64 s.st, .int .i64 s.en, .slice Ad s.data.length cd] 40)) nq
          have hI8 := HI'.out.below hW8
          have hB8 := hB.trans (hW8.mono hB.size)
          have hBk8 := HBk.out.drewN nq
          have hov8 : ∀ q, (Value.slice (some ⟨g7, 0, none⟩) (ol.length + 1) c7).ownBlock = some q → wr.heap.size ≠ q := fun q hq e => by
            have hq : g7 = q := Option.some.inj hq
            omega
          clear x7' hn7 hn7' hw7 hi70 hi71
          revert hI8 hB8 hBk8 hW8
          generalize (wr.alloc (.cells #[.int .u64 s.tr, .int .u64 s.id, .int .i64 s.st, .int .i64 s.en, .slice Ad s.data.length cd] 40)).drewN nq = w8
          intro hW8 hI8 hB8 hBk8
          have HI8 := Lib.hid hI8
          have HBk8 := Lib.hid hBk8
          clear hI8 hBk8 hW8
          obtain ⟨g8, c8, dl, he8, hc8, hc8', hg8, hg8b, x0, x1, hdl, hdlne, hnext⟩ := HI8.out.more
          injection he8 with e1 _ e3
          injection e1 with e1
          injection e1 with e1
          subst e1 e3
          have HNX := Lib.hid hnext
          have HSL : Hid (tl.sp.length ≤ 1000000) := Lib.hid hspl
          have HDB : Hid (dl.ownBlock ≠ some wr.heap.size) := Lib.hid (fun e => by have := (hdlne _ e).2; omega)
          have HLT8 : Hid (∀ q, (Value.slice (some ⟨g7, 0, none⟩) (ol.length + 1) c7).ownBlock = some q → wr.heap.size ≠ q) := Lib.hid hov8
          have HDLT : Hid (∀ q, dl.ownBlock = some q → w3.heap.size ≤ q) := Lib.hid (fun q hq => (hdl.lt q hq).1)
          have hdl9 := hdl.below ((Below.refl w8.heap.size w8).drew.alloc (Nat.le_refl _) (.cells #[.int .u64 s.tr, .int .u64 s.id, .int .i64 s.st, .int .i64 s.en, .slice Ad s.data.length cd] 40))
          have HLV : Hid (Lv 5 (w8.drew.alloc (.cells #[.int .u64 s.tr, .int .u64 s.id, .int .i64 s.st, .int .i64 s.en, .slice Ad s.data.length cd] 40)) (.slice (some ⟨w8.heap.size, 0, none⟩) 1 1) [spCells s (.slice Ad s.data.length cd)]) := Lib.hid (Lv.lit1 (w := w8.drew) (spCells s (.slice Ad s.data.length cd)) 40)
          have HTW : Hid (Two (SpC w3) [s] [spCells s (.slice Ad s.data.length cd)]) := Lib.hid (Two.nil.snoc (l := []) (m := []) ⟨HOK.out, _, rfl, HDD.out⟩)
          have hw8 : IntKind.i64.wrap (ol.length : Int) = (ol.length : Int) := by simp [IntKind.wrap, IntKind.bits, IntKind.signed] <;> omega
          have hi0 : (0 : Int) ≤ (ol.length : Int) := by omega
          have hi1 : (ol.length : Int) < (ol.length : Int) + 1 := by omega
          have k0 := HBk8.out.cell 0
          have k1 := HBk8.out.cell 1
          have k2 := HBk8.out.cell 2
          have k3 := HBk8.out.cell 3
          have k4 := HBk8.out.cell 4
          simp at k0 k1 k2 k3 k4
          have x2 : (w8.drew.alloc (.cells #[.int .u64 s.tr, .int .u64 s.id, .int .i64 s.st, .int .i64 s.en, .slice Ad s.data.length cd] 40)).cell? ⟨g7, ol.length * 2 + 1, none⟩ = some dl := Lib.cell?_alloc_some _ x1
          have hbk11 := HBk8.out.alloc (w := w8.drew) (.cells #[.int .u64 s.tr, .int .u64 s.id, .int .i64 s.st, .int .i64 s.en, .slice Ad s.data.length cd] 40)
          have k10 := hbk11.cell 0
          have k11 := hbk11.cell 1
          have k12 := hbk11.cell 2
          have k13 := hbk11.cell 3
          have k14 := hbk11.cell 4
          simp at k10 k11 k12 k13 k14
          clear hnext hdl hdlne hspl hov8 hbk11
          go_wp2_with fail
          refine wp_region_mix2 [(0, 0), (1, 0), (2, 0), (3, 0), (5, 0), (4, 8), (7, 1), (8, 0), (9, 0), (10, 1)] (fun u => u.cell? ⟨wr.heap.size, 0, none⟩ = some (.int .u64 s.tr) ∧ u.cell? ⟨wr.heap.size, 1, none⟩ = some (.int .u64 s.id) ∧ u.cell? ⟨wr.heap.size, 2, none⟩ = some (.int .i64 s.st) ∧ u.cell? ⟨wr.heap.size, 3, none⟩ = some (.int .i64 s.en) ∧ u.cell? ⟨wr.heap.size, 4, none⟩ = some (.slice Ad s.data.length cd)) (by kernel_rfl) (by kernel_rfl) (by kernel_rfl) rfl ⟨k0, k1, k2, k3, k4⟩ ?_
          repeat
            (refine mix2_read (o := ⟨_, _, _, _, _, _⟩) (v := ?_) rfl (by rfl) (fun w' hS => ?_) ?_
             rotate_left
             obtain ⟨s0, s1, s2, s3, s4⟩ := hS
             go_simp
             with_reducible rfl
             try simp only [Act.put, List.setIfInBounds_toArray, List.set_cons_zero, List.set_cons_succ])
          refine mix2_fork (oi := ⟨_, _, _, _, _, _⟩) (oj := ⟨_, _, _, _, _, _⟩) rfl rfl (fun K hK => ?_) (fun K hK => ?_)
          · go_simp
            refine hK.out _ _ ⟨k0, k1, k2, k3, k4⟩ ?_
            clear hK K
            try simp only [Act.put, List.setIfInBounds_toArray, List.set_cons_zero, List.set_cons_succ]
            refine then_step (o := ⟨_, _, _, _, _, _⟩) rfl (fun K' hK' => ?_)
            go_simp
            refine hK'.out _ _ ⟨k10, k11, k12, k13, k14⟩ ?_
            clear hK' K'
            try simp only [Act.put, List.setIfInBounds_toArray, List.set_cons_zero, List.set_cons_succ]
            refine mix2_step (o := ⟨_, _, _, _, _, _⟩) rfl (fun K hK => ?_)
            refine step_append_ownO rfl _ _ rfl rfl hdl9 rfl HLV.out HTW.out (by have := HSL.out; simp only [List.length_singleton]; omega) (Nat.le_trans hB8.size (by simp)) ?_
            intro d' w9 hd9 hg9 hv9
            have hBk9 := (HBk8.out.alloc (w := w8.drew) (.cells #[.int .u64 s.tr, .int .u64 s.id, .int .i64 s.st, .int .i64 s.en, .slice Ad s.data.length cd] 40)).grown hg9 (fun e => HDB.out e.symm)
            have z0 := hBk9.cell 0
            have z1 := hBk9.cell 1
            have z2 := hBk9.cell 2
            have z3 := hBk9.cell 3
            have z4 := hBk9.cell 4
            simp at z0 z1 z2 z3 z4
            refine hK.out _ _ ⟨z0, z1, z2, z3, z4⟩ ?_
            clear hK K
            try simp only [Act.put, List.setIfInBounds_toArray, List.set_cons_zero, List.set_cons_succ]
            have hg89 := grown_trans (grown_of_below ((Below.refl w8.heap.size w8).drew.alloc (Nat.le_refl _) (.cells #[.int .u64 s.tr, .int .u64 s.id, .int .i64 s.st, .int .i64 s.en, .slice Ad s.data.length cd] 40)) dl.ownBlock) hg9
            obtain ⟨n1, n2, n3, n4⟩ := HNX.out d' w9 _ hd9 hg89 (hv9.imp id (fun e => ⟨_, e, by simp⟩))
            obtain ⟨xs9, hx9, _⟩ := hd9
            obtain ⟨A9, c9, hdv9, _⟩ := hx9.lv.form
            subst hdv9
            have N3 := Lib.hid n3
            have N4 := Lib.hid n4
            have hbk10 := hBk9.far (p := ⟨g7, ol.length * 2 + 1, none⟩) (by have := HLT8.out g7 rfl; simpa using this) (.slice A9 xs9.length c9)
            clear n3 n4 hx9 z0 z1 z2 z3 z4
            repeat
              (refine mix2_read (o := ⟨_, _, _, _, _, _⟩) (v := ?_) rfl (by rfl) (fun w' hS => ?_) ?_
               rotate_left
               clear hS
               go_simp
               with_reducible rfl
               try simp only [Act.put, List.setIfInBounds_toArray, List.set_cons_zero, List.set_cons_succ])
            refine mix2_step (o := ⟨_, _, _, _, _, _⟩) rfl (fun K hK => ?_)
            go_simp
            have y0 := hbk10.cell 0
            have y1 := hbk10.cell 1
            have y2 := hbk10.cell 2
            have y3 := hbk10.cell 3
            have y4 := hbk10.cell 4
            simp at y0 y1 y2 y3 y4
            refine hK.out _ _ ⟨y0, y1, y2, y3, y4⟩ ?_
            clear hK K y0 y1 y2 y3 y4 hbk10
            refine mix2_done ?_
            have hB10 : Below w3.heap.size w3 (w9.setCell ⟨g7, ol.length * 2 + 1, none⟩ (.slice A9 xs9.length c9)) :=
              (hB8.grown hg89 hB8.size (fun q hq => (HDLT.out q hq))).grown N4.out (Nat.le_trans hB8.size hg89.size) (fun q hq => by injection hq with hq; omega)
            clear n1 n2
            go_wp2_with fail
            exact ⟨⟨k + 1, ol ++ [⟨tl.id, tl.sp ++ [s]⟩], by omega, by go_num, N3.out, hB10, HPn, by simp only [List.length_append, List.length_singleton]; omega⟩, by simp [intOf]; omega⟩
          · go_simp
            refine hK.out _ _ ⟨k10, k11, k12, k13, k14⟩ ?_
            clear hK K
            try simp only [Act.put, List.setIfInBounds_toArray, List.set_cons_zero, List.set_cons_succ]
            refine then_step (o := ⟨_, _, _, _, _, _⟩) rfl (fun K' hK' => ?_)
            go_simp
            refine hK'.out _ _ ⟨k10, k11, k12, k13, k14⟩ ?_
            clear hK' K'
            try simp only [Act.put, List.setIfInBounds_toArray, List.set_cons_zero, List.set_cons_succ]
            refine mix2_step (o := ⟨_, _, _, _, _, _⟩) rfl (fun K hK => ?_)
            refine step_append_ownO rfl _ _ rfl rfl hdl9 rfl HLV.out HTW.out (by have := HSL.out; simp only [List.length_singleton]; omega) (Nat.le_trans hB8.size (by simp)) ?_
            intro d' w9 hd9 hg9 hv9
            have hBk9 := (HBk8.out.alloc (w := w8.drew) (.cells #[.int .u64 s.tr, .int .u64 s.id, .int .i64 s.st, .int .i64 s.en, .slice Ad s.data.length cd] 40)).grown hg9 (fun e => HDB.out e.symm)
            have z0 := hBk9.cell 0
            have z1 := hBk9.cell 1
            have z2 := hBk9.cell 2
            have z3 := hBk9.cell 3
            have z4 := hBk9.cell 4
            simp at z0 z1 z2 z3 z4
            refine hK.out _ _ ⟨z0, z1, z2, z3, z4⟩ ?_
            clear hK K
            try simp only [Act.put, List.setIfInBounds_toArray, List.set_cons_zero, List.set_cons_succ]
            have hg89 := grown_trans (grown_of_below ((Below.refl w8.heap.size w8).drew.alloc (Nat.le_refl _) (.cells #[.int .u64 s.tr, .int .u64 s.id, .int .i64 s.st, .int .i64 s.en, .slice Ad s.data.length cd] 40)) dl.ownBlock) hg9
            obtain ⟨n1, n2, n3, n4⟩ := HNX.out d' w9 _ hd9 hg89 (hv9.imp id (fun e => ⟨_, e, by simp⟩))
            obtain ⟨xs9, hx9, _⟩ := hd9
            obtain ⟨A9, c9, hdv9, _⟩ := hx9.lv.form
            subst hdv9
            have N3 := Lib.hid n3
            have N4 := Lib.hid n4
            have hbk10 := hBk9.far (p := ⟨g7, ol.length * 2 + 1, none⟩) (by have := HLT8.out g7 rfl; simpa using this) (.slice A9 xs9.length c9)
            clear n3 n4 hx9 z0 z1 z2 z3 z4
            repeat
              (refine mix2_read (o := ⟨_, _, _, _, _, _⟩) (v := ?_) rfl (by rfl) (fun w' hS => ?_) ?_
               rotate_left
               clear hS
               go_simp
               with_reducible rfl
               try simp only [Act.put, List.setIfInBounds_toArray, List.set_cons_zero, List.set_cons_succ])
            refine mix2_step (o := ⟨_, _, _, _, _, _⟩) rfl (fun K hK => ?_)
            go_simp
            have y0 := hbk10.cell 0
            have y1 := hbk10.cell 1
            have y2 := hbk10.cell 2
            have y3 := hbk10.cell 3
            have y4 := hbk10.cell 4
            simp at y0 y1 y2 y3 y4
            refine hK.out _ _ ⟨y0, y1, y2, y3, y4⟩ ?_
            clear hK K y0 y1 y2 y3 y4 hbk10
            refine mix2_done ?_
            have hB10 : Below w3.heap.size w3 (w9.setCell ⟨g7, ol.length * 2 + 1, none⟩ (.slice A9 xs9.length c9)) :=
              (hB8.grown hg89 hB8.size (fun q hq => (HDLT.out q hq))).grown N4.out (Nat.le_trans hB8.size hg89.size) (fun q hq => by injection hq with hq; omega)
            clear n1 n2
            go_wp2_with fail
            exact ⟨⟨k + 1, ol ++ [⟨tl.id, tl.sp ++ [s]⟩], by omega, by go_num, N3.out, hB10, HPn, by simp only [List.length_append, List.length_singleton]; omega⟩, by simp [intOf]; omega⟩
        · have kq : (tl.id == s.tr) = false := by simpa using hq
          have HPn : Hid (Par (g.take (k + 1)) (out ++ [⟨s.tr, [] ++ [s]⟩])) := Lib.hid (by
            rw [HT.out]
            refine HPar.out.new (HPar.out.fresh HMX.out fun t ht => ?_)
            rw [h0] at ht
            simp at ht
            subst ht
            exact hq)
          have hspl : ([] : List Sn).length ≤ 1000000 := by simp
          clear hq hI hI' x7 h0 hmem
          go_wp2_with fail
          go_quiet (fail)
          clear x7' hn7 hn7' hw7 hi70 hi71 hlen
          have hW : Below wr.heap.size wr (((wr.alloc (.cells #[.int .u64 s.tr, .int .u64 s.id, .int .i64 s.st, .int .i64 s.en, .slice Ad s.data.length cd] 40)).drewN nq).alloc (.cells #[.int .u64 s.tr, .slice none 0 0] 45)) := below_trans' ((Below.refl wr.heap.size wr).alloc (Nat.le_refl _) (.cells #[.int .u64 s.tr, .int .u64 s.id, .int .i64 s.st, .int .i64 s.en, .slice Ad s.data.length cd] 40)) nq (.cells #[.int .u64 s.tr, .slice none 0 0] 45)
          have hB2 := hB.trans (hW.mono hB.size)
          have hI2 := HI.out.below hW
          obtain ⟨XS, hX1, hX2, hX3⟩ := hI2.app wr.heap.size
          have HX1 := Lib.hid hX1
          have HX3 := Lib.hid hX3
          have HLV2 : Hid (Lv 2 (((wr.alloc (.cells #[.int .u64 s.tr, .int .u64 s.id, .int .i64 s.st, .int .i64 s.en, .slice Ad s.data.length cd] 40)).drewN nq).alloc (.cells #[.int .u64 s.tr, .slice none 0 0] 45)) (.slice (some ⟨wr.heap.size + 1, 0, none⟩) 1 1) [[.int .u64 s.tr, .slice none 0 0]]) := Lib.hid (Lv.litH [.int .u64 s.tr, .slice none 0 0] 45 (by simp [World.drewN]))
          have hBk2 := (HBk.out.drewN nq).alloc (.cells #[.int .u64 s.tr, .slice none 0 0] 45)
          have HBk2 := Lib.hid hBk2
          have hXS : XS.length ≤ 1000000 := by rw [hX2]; omega
          have HXS := Lib.hid hXS
          clear hI2 hX1 hX3 hX2 hW hBk2 hXS
          go_wp2_with (at_builtin; refine wpList_append_elems _ trT rfl _ _ rfl w3.heap.size _ XS rfl HX1.out _ [[.int .u64 s.tr, .slice none 0 0]] rfl HLV2.out (by intro y hy u hu; simp at hy; subst hy; simp at hu; rcases hu with rfl | rfl <;> rfl) (by have := HXS.out; simp only [maxLen, List.length_singleton]; omega) (by have := HXS.out; simp only [List.length_singleton]; omega) hB2.size ?_)
          intro v8 w8 ho8 hg8' hv8
          have HI8 := Lib.hid (HX3.out v8 w8 s.tr ⟨HOK.out.tr0, HOK.out.tr1⟩ ho8 hg8' (by simpa [World.drewN] using hv8))
          have hB8 : Below w3.heap.size w3 w8 := hB2.grown hg8' hB2.size (fun q hq => (HI.out.lt q hq).1)
          have HBk8 := Lib.hid (HBk2.out.grown hg8' (fun e => by have := (HI.out.lt _ e.symm).2; omega))
          have hov8 : ∀ q, v8.ownBlock = some q → wr.heap.size ≠ q := fun q hq e => by
            rcases hv8 with h | h
            · rw [h] at hq
              have := (HI.out.lt q hq).2
              omega
            · rw [h] at hq
              have hq := Option.some.inj hq
              omega
          clear ho8 hg8' hv8 hB2
          obtain ⟨g8, c8, dl, rfl, hc8, hc8', hg8, hg8b, x0, x1, hdl, hdlne, hnext⟩ := HI8.out.more
          have HNX := Lib.hid hnext
          have HSL : Hid ((⟨s.tr, []⟩ : Tn).sp.length ≤ 1000000) := Lib.hid hspl
          have HDB : Hid (dl.ownBlock ≠ some wr.heap.size) := Lib.hid (fun e => by have := (hdlne _ e).2; omega)
          have HLT8 : Hid (∀ q, (Value.slice (some ⟨g8, 0, none⟩) (out.length + 1) c8).ownBlock = some q → wr.heap.size ≠ q) := Lib.hid hov8
          have HDLT : Hid (∀ q, dl.ownBlock = some q → w3.heap.size ≤ q) := Lib.hid (fun q hq => (hdl.lt q hq).1)
          have hdl9 := hdl.below ((Below.refl w8.heap.size w8).drew.alloc (Nat.le_refl _) (.cells #[.int .u64 s.tr, .int .u64 s.id, .int .i64 s.st, .int .i64 s.en, .slice Ad s.data.length cd] 40))
          have HLV : Hid (Lv 5 (w8.drew.alloc (.cells #[.int .u64 s.tr, .int .u64 s.id, .int .i64 s.st, .int .i64 s.en, .slice Ad s.data.length cd] 40)) (.slice (some ⟨w8.heap.size, 0, none⟩) 1 1) [spCells s (.slice Ad s.data.length cd)]) := Lib.hid (Lv.lit1 (w := w8.drew) (spCells s (.slice Ad s.data.length cd)) 40)
          have HTW : Hid (Two (SpC w3) [s] [spCells s (.slice Ad s.data.length cd)]) := Lib.hid (Two.nil.snoc (l := []) (m := []) ⟨HOK.out, _, rfl, HDD.out⟩)
          have hw8 : IntKind.i64.wrap (out.length : Int) = (out.length : Int) := by simp [IntKind.wrap, IntKind.bits, IntKind.signed] <;> omega
          have hi0 : (0 : Int) ≤ (out.length : Int) := by omega
          have hi1 : (out.length : Int) < (out.length : Int) + 1 := by omega
          have k0 := HBk8.out.cell 0
          have k1 := HBk8.out.cell 1
          have k2 := HBk8.out.cell 2
          have k3 := HBk8.out.cell 3
          have k4 := HBk8.out.cell 4
          simp at k0 k1 k2 k3 k4
          have x2 : (w8.drew.alloc (.cells #[.int .u64 s.tr, .int .u64 s.id, .int .i64 s.st, .int .i64 s.en, .slice Ad s.data.length cd] 40)).cell? ⟨g8, out.length * 2 + 1, none⟩ = some dl := Lib.cell?_alloc_some _ x1
          have hbk11 := HBk8.out.alloc (w := w8.drew) (.cells #[.int .u64 s.tr, .int .u64 s.id, .int .i64 s.st, .int .i64 s.en, .slice Ad s.data.length cd] 40)
          have k10 := hbk11.cell 0
          have k11 := hbk11.cell 1
          have k12 := hbk11.cell 2
          have k13 := hbk11.cell 3
          have k14 := hbk11.cell 4
          simp at k10 k11 k12 k13 k14
          clear hnext hdl hdlne hspl hov8 hbk11
          go_wp2_with fail
          refine wp_region_mix2 [(0, 0), (1, 0), (2, 0), (3, 0), (5, 0), (4, 8), (7, 1), (8, 0), (9, 0), (10, 1)] (fun u => u.cell? ⟨wr.heap.size, 0, none⟩ = some (.int .u64 s.tr) ∧ u.cell? ⟨wr.heap.size, 1, none⟩ = some (.int .u64 s.id) ∧ u.cell? ⟨wr.heap.size, 2, none⟩ = some (.int .i64 s.st) ∧ u.cell? ⟨wr.heap.size, 3, none⟩ = some (.int .i64 s.en) ∧ u.cell? ⟨wr.heap.size, 4, none⟩ = some (.slice Ad s.data.length cd)) (by kernel_rfl) (by kernel_rfl) (by kernel_rfl) rfl ⟨k0, k1, k2, k3, k4⟩ ?_
          repeat
            (refine mix2_read (o := ⟨_, _, _, _, _, _⟩) (v := ?_) rfl (by rfl) (fun w' hS => ?_) ?_
             rotate_left
             obtain ⟨s0, s1, s2, s3, s4⟩ := hS
             go_simp
             with_reducible rfl
             try simp only [Act.put, List.setIfInBounds_toArray, List.set_cons_zero, List.set_cons_succ])
          refine mix2_fork (oi := ⟨_, _, _, _, _, _⟩) (oj := ⟨_, _, _, _, _, _⟩) rfl rfl (fun K hK => ?_) (fun K hK => ?_)
          · go_simp
            refine hK.out _ _ ⟨k0, k1, k2, k3, k4⟩ ?_
            clear hK K
            try simp only [Act.put, List.setIfInBounds_toArray, List.set_cons_zero, List.set_cons_succ]
            refine then_step (o := ⟨_, _, _, _, _, _⟩) rfl (fun K' hK' => ?_)
            go_simp
            refine hK'.out _ _ ⟨k10, k11, k12, k13, k14⟩ ?_
            clear hK' K'
            try simp only [Act.put, List.setIfInBounds_toArray, List.set_cons_zero, List.set_cons_succ]
            refine mix2_step (o := ⟨_, _, _, _, _, _⟩) rfl (fun K hK => ?_)
            refine step_append_ownO rfl _ _ rfl rfl hdl9 rfl HLV.out HTW.out (by have := HSL.out; simp only [List.length_singleton]; omega) (Nat.le_trans hB8.size (by simp)) ?_
            intro d' w9 hd9 hg9 hv9
            have hBk9 := (HBk8.out.alloc (w := w8.drew) (.cells #[.int .u64 s.tr, .int .u64 s.id, .int .i64 s.st, .int .i64 s.en, .slice Ad s.data.length cd] 40)).grown hg9 (fun e => HDB.out e.symm)
            have z0 := hBk9.cell 0
            have z1 := hBk9.cell 1
            have z2 := hBk9.cell 2
            have z3 := hBk9.cell 3
            have z4 := hBk9.cell 4
            simp at z0 z1 z2 z3 z4
            refine hK.out _ _ ⟨z0, z1, z2, z3, z4⟩ ?_
            clear hK K
            try simp only [Act.put, List.setIfInBounds_toArray, List.set_cons_zero, List.set_cons_succ]
            have hg89 := grown_trans (grown_of_below ((Below.refl w8.heap.size w8).drew.alloc (Nat.le_refl _) (.cells #[.int .u64 s.tr, .int .u64 s.id, .int .i64 s.st, .int .i64 s.en, .slice Ad s.data.length cd] 40)) dl.ownBlock) hg9
            obtain ⟨n1, n2, n3, n4⟩ := HNX.out d' w9 _ hd9 hg89 (hv9.imp id (fun e => ⟨_, e, by simp⟩))
            obtain ⟨xs9, hx9, _⟩ := hd9
            obtain ⟨A9, c9, hdv9, _⟩ := hx9.lv.form
            subst hdv9
            have N3 := Lib.hid n3
            have N4 := Lib.hid n4
            have hbk10 := hBk9.far (p := ⟨g8, out.length * 2 + 1, none⟩) (by have := HLT8.out g8 rfl; simpa using this) (.slice A9 xs9.length c9)
            clear n3 n4 hx9 z0 z1 z2 z3 z4
            repeat
              (refine mix2_read (o := ⟨_, _, _, _, _, _⟩) (v := ?_) rfl (by rfl) (fun w' hS => ?_) ?_
               rotate_left
               clear hS
               go_simp
               with_reducible rfl
               try simp only [Act.put, List.setIfInBounds_toArray, List.set_cons_zero, List.set_cons_succ])
            refine mix2_step (o := ⟨_, _, _, _, _, _⟩) rfl (fun K hK => ?_)
            go_simp
            have y0 := hbk10.cell 0
            have y1 := hbk10.cell 1
            have y2 := hbk10.cell 2
            have y3 := hbk10.cell 3
            have y4 := hbk10.cell 4
            simp at y0 y1 y2 y3 y4
            refine hK.out _ _ ⟨y0, y1, y2, y3, y4⟩ ?_
            clear hK K y0 y1 y2 y3 y4 hbk10
            refine mix2_done ?_
            have hB10 : Below w3.heap.size w3 (w9.setCell ⟨g8, out.length * 2 + 1, none⟩ (.slice A9 xs9.length c9)) :=
              (hB8.grown hg89 hB8.size (fun q hq => (HDLT.out q hq))).grown N4.out (Nat.le_trans hB8.size hg89.size) (fun q hq => by injection hq with hq; omega)
            clear n1 n2
            go_wp2_with fail
            exact ⟨⟨k + 1, out ++ [⟨(⟨s.tr, []⟩ : Tn).id, (⟨s.tr, []⟩ : Tn).sp ++ [s]⟩], by omega, by go_num, N3.out, hB10, HPn, by simp only [List.length_append, List.length_singleton]; omega⟩, by simp [intOf]; omega⟩
          · go_simp
            refine hK.out _ _ ⟨k10, k11, k12, k13, k14⟩ ?_
            clear hK K
            try simp only [Act.put, List.setIfInBounds_toArray, List.set_cons_zero, List.set_cons_succ]
            refine then_step (o := ⟨_, _, _, _, _, _⟩) rfl (fun K' hK' => ?_)
            go_simp
            refine hK'.out _ _ ⟨k10, k11, k12, k13, k14⟩ ?_
            clear hK' K'
            try simp only [Act.put, List.setIfInBounds_toArray, List.set_cons_zero, List.set_cons_succ]
            refine mix2_step (o := ⟨_, _, _, _, _, _⟩) rfl (fun K hK => ?_)
            refine step_append_ownO rfl _ _ rfl rfl hdl9 rfl HLV.out HTW.out (by have := HSL.out; simp only [List.length_singleton]; omega) (Nat.le_trans hB8.size (by simp)) ?_
            intro d' w9 hd9 hg9 hv9
            have hBk9 := (HBk8.out.alloc (w := w8.drew) (.cells #[.int .u64 s.tr, .int .u64 s.id, .int .i64 s.st, .int .i64 s.en, .slice Ad s.data.length cd] 40)).grown hg9 (fun e => HDB.out e.symm)
            have z0 := hBk9.cell 0
            have z1 := hBk9.cell 1
            have z2 := hBk9.cell 2
            have z3 := hBk9.cell 3
            have z4 := hBk9.cell 4
            simp at z0 z1 z2 z3 z4
            refine hK.out _ _ ⟨z0, z1, z2, z3, z4⟩ ?_
            clear hK K
            try simp only [Act.put, List.setIfInBounds_toArray, List.set_cons_zero, List.set_cons_succ]
            have hg89 := grown_trans (grown_of_below ((Below.refl w8.heap.size w8).drew.alloc (Nat.le_refl _) (.cells #[.int .u64 s.tr, .int .u64 s.id, .int .i64 s.st, .int .i64 s.en, .slice Ad s.data.length cd] 40)) dl.ownBlock) hg9
            obtain ⟨n1, n2, n3, n4⟩ := HNX.out d' w9 _ hd9 hg89 (hv9.imp id (fun e => ⟨_, e, by simp⟩))
            obtain ⟨xs9, hx9, _⟩ := hd9
            obtain ⟨A9, c9, hdv9, _⟩ := hx9.lv.form
            subst hdv9
            have N3 := Lib.hid n3
            have N4 := Lib.hid n4
            have hbk10 := hBk9.far (p := ⟨g8, out.length * 2 + 1, none⟩) (by have := HLT8.out g8 rfl; simpa using this) (.slice A9 xs9.length c9)
            clear n3 n4 hx9 z0 z1 z2 z3 z4
            repeat
              (refine mix2_read (o := ⟨_, _, _, _, _, _⟩) (v := ?_) rfl (by rfl) (fun w' hS => ?_) ?_
               rotate_left
               clear hS
               go_simp
               with_reducible rfl
               try simp only [Act.put, List.setIfInBounds_toArray, List.set_cons_zero, List.set_cons_succ])
            refine mix2_step (o := ⟨_, _, _, _, _, _⟩) rfl (fun K hK => ?_)
            go_simp
            have y0 := hbk10.cell 0
            have y1 := hbk10.cell 1
            have y2 := hbk10.cell 2
            have y3 := hbk10.cell 3
            have y4 := hbk10.cell 4
            simp at y0 y1 y2 y3 y4
            refine hK.out _ _ ⟨y0, y1, y2, y3, y4⟩ ?_
            clear hK K y0 y1 y2 y3 y4 hbk10
            refine mix2_done ?_
            have hB10 : Below w3.heap.size w3 (w9.setCell ⟨g8, out.length * 2 + 1, none⟩ (.slice A9 xs9.length c9)) :=
              (hB8.grown hg89 hB8.size (fun q hq => (HDLT.out q hq))).grown N4.out (Nat.le_trans hB8.size hg89.size) (fun q hq => by injection hq with hq; omega)
            clear n1 n2
            go_wp2_with fail
            exact ⟨⟨k + 1, out ++ [⟨(⟨s.tr, []⟩ : Tn).id, (⟨s.tr, []⟩ : Tn).sp ++ [s]⟩], by omega, by go_num, N3.out, hB10, HPn, by simp only [List.length_append, List.length_singleton]; omega⟩, by simp [intOf]; omega⟩
    · have hkk : k = g.length := by omega
      subst hkk
      rw [List.take_length] at HPar
      have hts := hI.ts hB
      have HTS := Lib.hid hts
      obtain ⟨Ao, co, rfl, _⟩ := hI.form
      clear hI hts
      go_wp2_with fail
      go_ret
      obtain ⟨d, hp1, hs1, hd1⟩ := HL.out
      refine ⟨_, out, rfl, HTS.out, Grp.made hp1 hs1 (by rw [← hd1]; exact HP.out) HS.out HPar.out, hb3.trans (hB.mono hb3.size)⟩

end Go.Proofs.Ytalljllloffieaa
