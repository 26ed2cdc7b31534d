/-
  ROSTERS read: what holds between two chunks, over any program's sequence. Conditions: what each theorem says.
  CONTRACTS of the program's parseBare, at metas and at markers. Conditions: what each says.
  CONTRACT of the program's parse. Conditions: what it says.
-/
import Derived.Test.YtmlemclehfdneaaGreatDoorRng
import Derived.Test.YtmlemclehfdneaaGreatDoorChk
import Derived.Test.YtmlemclehfdneaaGreatDoorRoD
import Derived.Test.YtmlemclehfdneaaGreatDoorRoU
import Derived.RangeFuncOwn
namespace Go.Proofs.YtmlemclehfdneaaGreatDoor
open Go.RowKit
set_option maxRecDepth 100000

theorem wpListIn_append_elems {F : Fence} {n : Nat} {P : Program} {w : World} {t e : TypeId} {k bytes : Nat} (HT : ElemT P t e k bytes) {ops : Array Oper} {rest : List Oper} {o : Oper} {a : Act} {Q : Exit → Act → World → Prop} (hgd : o.guard = none) (s x : Operand)
    (ho : o.op = .call { callee := .builtin .append, args := #[s, x], argTypes := #[t, t] })
    {base : Nat} {v : Value} {xs : List (List Value)} (hs : a.eval s = v) (hown : OwnL k w base e v xs) {V : Value} {ys : List (List Value)} (hx : a.eval x = V) (hr : Lv k w V ys) (h1 : ∀ y ∈ ys, ∀ u ∈ y, u.oneCell' = true)
    (hsum : xs.length + ys.length ≤ maxLen) (hby : (xs.length + ys.length) * bytes ≤ 140737488355328) (hbase : base ≤ w.heap.size)
    (h : ∀ v' w', OwnL k w' base e v' (xs ++ ys) → w.grownBy w' v.ownBlock → (v'.ownBlock = v.ownBlock ∨ v'.ownBlock = some w.heap.size) → wpListIn F n P ops Q rest (a.put o.dst v') w') : wpListIn F n P ops Q (o :: rest) a w := by
  refine wpListIn_plain hgd fun K hK => ?_
  obtain ⟨v', w', hrun, h2, h3, h4⟩ := run_append_elems w HT o.type base v xs hown V ys hr h1 hsum hby hbase
  unfold Oper.wpIn
  refine ⟨?_, ?_⟩
  · simp [Oper.about, ho, resolve, Target.leads, Sem.run_pure]
  · rw [Oper.semAt_plain F _ _ (by rw [ho]; intro c hc'; cases hc')]
    simp only [execOp, ho, resolve, invoke, builtin, Sem.run_bind, Sem.run_pure, Result.andThen_ok, List.map_toArray, List.map_cons, List.map_nil, hs, hx, hrun]
    exact hK _ _ (h v' w' h2 h3 h4)

theorem Bs.putLoop {W : World} {d : Value} {s : List UInt8} {r : Nat} {o o' : Obj} (h : Bs W d s) (hl : W.heap[r]? = some o) (ho : o.isCells = false) : Bs (W.putObj r o') d s := by
  obtain ⟨A, c, rfl, h1, h2, hr⟩ := h
  refine ⟨A, c, rfl, h1, h2, fun j x hx => ?_⟩
  obtain ⟨ad, hA, hc⟩ := hr j x hx
  refine ⟨ad, hA, cell_kept hc (grownBy_putObj' W r o') fun q hq => ?_⟩
  rw [← Option.some.inj hq]
  exact ⟨o, hl, ho⟩

structure PbJ (w : World) (D : Nat) (G R E : TypeId) (gv : Value) (k : Nat) (cv : Value) (size : Int) (av : Value) (xs : List (List Value)) (lp : Loop) (W : World) : Prop where
  bel : Below w.heap.size w W
  get : Blk W w.heap.size G #[gv]
  res : Blk W (w.heap.size + 1) R #[.slice none 0 0]
  ok : Blk W (w.heap.size + 2) 4 #[.bool false]
  box : Blk W (w.heap.size + 3) R #[av]
  own : OwnL k W (D + 2) E av xs
  c1 : Blk W (w.heap.size + 4) 54 #[cv]
  c2 : Blk W (w.heap.size + 5) 3 #[.int .i64 size]
  lp : W.heap[D + 1]? = some (.loop lp)
  df : W.heap[D]? = some (.deferred (some []))
  dz : w.heap.size + 5 < D

section
variable {w W W' : World} {D k : Nat} {G R E : TypeId} {gv cv av : Value} {size : Int} {xs : List (List Value)} {lp lp' : Loop}
theorem PbJ.lt (h : PbJ w D G R E gv k cv size av xs lp W) : D + 1 < W.heap.size := (Array.getElem?_eq_some_iff.1 h.lp).1

theorem PbJ.later (h : PbJ w D G R E gv k cv size av xs lp W) (hb : Below W.heap.size W W') : PbJ w D G R E gv k cv size av xs lp W' := by
  have hl := h.lt
  exact ⟨h.bel.trans (hb.mono h.bel.size), h.get.below hb h.get.lt, h.res.below hb h.res.lt, h.ok.below hb h.ok.lt, h.box.below hb h.box.lt, h.own.below hb, h.c1.below hb h.c1.lt, h.c2.below hb h.c2.lt, (hb.block _ hl).trans h.lp, (hb.block _ (by omega)).trans h.df, h.dz⟩

theorem PbJ.put (h : PbJ w D G R E gv k cv size av xs lp W) (lp' : Loop) : PbJ w D G R E gv k cv size av xs lp' (W.putObj (D + 1) (.loop lp')) := by
  have hl := h.lt
  have hz := h.dz
  have hg := grownBy_putObj' W (D + 1) (.loop lp')
  have ho : ∀ q, q ≠ D + 1 → (W.putObj (D + 1) (.loop lp')).heap[q]? = W.heap[q]? := fun q hq => World.putObj_heap_other hq
  exact ⟨h.bel.grown hg h.bel.size fun q hq => by have := Option.some.inj hq; omega, (ho _ (by omega)).trans h.get, (ho _ (by omega)).trans h.res, (ho _ (by omega)).trans h.ok, (ho _ (by omega)).trans h.box, h.own.kept hg (.inr (h.own.ne_ (by omega))), (ho _ (by omega)).trans h.c1, (ho _ (by omega)).trans h.c2, World.putObj_heap_same hl, (ho _ (by omega)).trans h.df, hz⟩

theorem PbJ.push (h : PbJ w D G R E gv k cv size av xs lp W) {v' : Value} {ys : List (List Value)} (hO : OwnL k W' (D + 2) E v' ys) (hg : W.grownBy W' av.ownBlock) : PbJ w D G R E gv k cv size v' ys lp (W'.setCell ⟨w.heap.size + 3, 0, none⟩ v') := by
  have hl := h.lt
  have hz := h.dz
  have hgs := grown_set W' (w.heap.size + 3) 0 v'
  have hn : ∀ q, q < D + 2 → some q ≠ av.ownBlock := fun q hq e => h.own.ne_ hq e.symm
  have h1 : ∀ q, q < D + 2 → W'.heap[q]? = W.heap[q]? := fun q hq => hg.block q (by omega) (hn q hq)
  have h2 : ∀ q, q < D + 2 → q ≠ w.heap.size + 3 → (W'.setCell ⟨w.heap.size + 3, 0, none⟩ v').heap[q]? = W.heap[q]? := fun q hq hne => (hgs.block q (by have := hg.size; omega) fun e => hne (Option.some.inj e)).trans (h1 q hq)
  have hB : Below w.heap.size w W' := h.bel.grown hg h.bel.size fun q hq => by have := h.own.ge q hq; omega
  refine ⟨hB.grown hgs hB.size fun q hq => by have := Option.some.inj hq; omega, (h2 _ (by omega) (by omega)).trans h.get, (h2 _ (by omega) (by omega)).trans h.res, (h2 _ (by omega) (by omega)).trans h.ok, ?_, hO.kept hgs (.inr (hO.ne_ (by omega))), (h2 _ (by omega) (by omega)).trans h.c1, (h2 _ (by omega) (by omega)).trans h.c2, (h2 _ (by omega) (by omega)).trans h.lp, (h2 _ (by omega) (by omega)).trans h.df, hz⟩
  have hb : Blk W' (w.heap.size + 3) R #[av] := (h1 _ (by omega)).trans h.box
  have := hb.set_ 0 v'
  simpa using this

theorem PbJ.bad (h : PbJ w D G R E gv k cv size av xs lp W) : PbJ w D G R E gv k cv size av xs lp ((W.setCell ⟨w.heap.size + 1, 0, none⟩ (.slice none 0 0)).setCell ⟨w.heap.size + 2, 0, none⟩ (.bool false)) := by
  have hl := h.lt
  have hz := h.dz
  have hg1 := grown_set W (w.heap.size + 1) 0 (.slice none 0 0)
  have hg2 := grown_set (W.setCell ⟨w.heap.size + 1, 0, none⟩ (.slice none 0 0)) (w.heap.size + 2) 0 (.bool false)
  have hb : ∀ q, q < D + 2 → q ≠ w.heap.size + 1 → q ≠ w.heap.size + 2 → ((W.setCell ⟨w.heap.size + 1, 0, none⟩ (.slice none 0 0)).setCell ⟨w.heap.size + 2, 0, none⟩ (.bool false)).heap[q]? = W.heap[q]? := fun q hq h1 h2 => (hg2.block q (by have := hg1.size; omega) fun e => h2 (Option.some.inj e)).trans (hg1.block q (by omega) fun e => h1 (Option.some.inj e))
  have hB := h.bel.grown hg1 h.bel.size fun q hq => by have := Option.some.inj hq; omega
  refine ⟨hB.grown hg2 hB.size fun q hq => by have := Option.some.inj hq; omega, (hb _ (by omega) (by omega) (by omega)).trans h.get, ?_, ?_, (hb _ (by omega) (by omega) (by omega)).trans h.box, (h.own.kept hg1 (.inr (h.own.ne_ (by omega)))).kept hg2 (.inr (h.own.ne_ (by omega))), (hb _ (by omega) (by omega) (by omega)).trans h.c1, (hb _ (by omega) (by omega) (by omega)).trans h.c2, (hb _ (by omega) (by omega) (by omega)).trans h.lp, (hb _ (by omega) (by omega) (by omega)).trans h.df, hz⟩
  · have h1 : Blk (W.setCell ⟨w.heap.size + 1, 0, none⟩ (.slice none 0 0)) (w.heap.size + 1) R #[.slice none 0 0] := by
      have := h.res.set_ 0 (.slice none 0 0)
      simpa using this
    exact (hg2.block (w.heap.size + 1) (by have := hg1.size; omega) fun e => by have := Option.some.inj e; omega).trans h1
  · have h1 : Blk (W.setCell ⟨w.heap.size + 1, 0, none⟩ (.slice none 0 0)) (w.heap.size + 2) 4 #[.bool false] := (hg1.block (w.heap.size + 2) (by omega) fun e => by have := Option.some.inj e; omega).trans h.ok
    have h2 := h1.set_ 0 (.bool false)
    simpa using h2

theorem PbJ.done (h : PbJ w D G R E gv k cv size av xs lp W) (v : Value) (o : Bool) :
    ((W.setCell ⟨w.heap.size + 1, 0, none⟩ v).setCell ⟨w.heap.size + 2, 0, none⟩ (.bool o)).heap[D]? = some (.deferred (some [])) ∧
    Below w.heap.size w (((W.setCell ⟨w.heap.size + 1, 0, none⟩ v).setCell ⟨w.heap.size + 2, 0, none⟩ (.bool o)).putObj D (.deferred none)) ∧
    (((W.setCell ⟨w.heap.size + 1, 0, none⟩ v).setCell ⟨w.heap.size + 2, 0, none⟩ (.bool o)).putObj D (.deferred none)).cell? ⟨w.heap.size + 1, 0, none⟩ = some v ∧
    (((W.setCell ⟨w.heap.size + 1, 0, none⟩ v).setCell ⟨w.heap.size + 2, 0, none⟩ (.bool o)).putObj D (.deferred none)).cell? ⟨w.heap.size + 2, 0, none⟩ = some (.bool o) ∧
    OwnL k (((W.setCell ⟨w.heap.size + 1, 0, none⟩ v).setCell ⟨w.heap.size + 2, 0, none⟩ (.bool o)).putObj D (.deferred none)) (D + 2) E av xs := by
  have hl := h.lt
  have hz := h.dz
  have hg1 := grown_set W (w.heap.size + 1) 0 v
  have hg2 := grown_set (W.setCell ⟨w.heap.size + 1, 0, none⟩ v) (w.heap.size + 2) 0 (.bool o)
  have hg3 := grownBy_putObj' ((W.setCell ⟨w.heap.size + 1, 0, none⟩ v).setCell ⟨w.heap.size + 2, 0, none⟩ (.bool o)) D (.deferred none)
  have b1 : Blk (W.setCell ⟨w.heap.size + 1, 0, none⟩ v) (w.heap.size + 1) R #[v] := by
    have := h.res.set_ 0 v
    simpa using this
  have b2 : Blk ((W.setCell ⟨w.heap.size + 1, 0, none⟩ v).setCell ⟨w.heap.size + 2, 0, none⟩ (.bool o)) (w.heap.size + 1) R #[v] := (hg2.block _ (by have := hg1.size; omega) fun e => by have := Option.some.inj e; omega).trans b1
  have c1 : Blk (W.setCell ⟨w.heap.size + 1, 0, none⟩ v) (w.heap.size + 2) 4 #[.bool false] := (hg1.block _ (by omega) fun e => by have := Option.some.inj e; omega).trans h.ok
  have c2 : Blk ((W.setCell ⟨w.heap.size + 1, 0, none⟩ v).setCell ⟨w.heap.size + 2, 0, none⟩ (.bool o)) (w.heap.size + 2) 4 #[.bool o] := by
    have := c1.set_ 0 (.bool o)
    simpa using this
  have b3 : Blk (((W.setCell ⟨w.heap.size + 1, 0, none⟩ v).setCell ⟨w.heap.size + 2, 0, none⟩ (.bool o)).putObj D (.deferred none)) (w.heap.size + 1) R #[v] := (World.putObj_heap_other (by omega)).trans b2
  have c3 : Blk (((W.setCell ⟨w.heap.size + 1, 0, none⟩ v).setCell ⟨w.heap.size + 2, 0, none⟩ (.bool o)).putObj D (.deferred none)) (w.heap.size + 2) 4 #[.bool o] := (World.putObj_heap_other (by omega)).trans c2
  have hB1 := h.bel.grown hg1 h.bel.size fun q hq => by have := Option.some.inj hq; omega
  have hB2 := hB1.grown hg2 hB1.size fun q hq => by have := Option.some.inj hq; omega
  have hB3 := hB2.grown hg3 hB2.size fun q hq => by have := Option.some.inj hq; omega
  have hd : ((W.setCell ⟨w.heap.size + 1, 0, none⟩ v).setCell ⟨w.heap.size + 2, 0, none⟩ (.bool o)).heap[D]? = some (.deferred (some [])) := (hg2.block D (by have := hg1.size; omega) fun e => by have := Option.some.inj e; omega).trans ((hg1.block D (by omega) fun e => by have := Option.some.inj e; omega).trans h.df)
  exact ⟨hd, hB3, by simpa using b3.cell 0, by simpa using c3.cell 0, ((h.own.kept hg1 (.inr (h.own.ne_ (by omega)))).kept hg2 (.inr (h.own.ne_ (by omega)))).kept hg3 (.inr (h.own.ne_ (by omega)))⟩

theorem PbJ.doneBad (h : PbJ w D G R E gv k cv size av xs lp W) :
    W.heap[D]? = some (.deferred (some [])) ∧ Below w.heap.size w (W.putObj D (.deferred none)) ∧ (W.putObj D (.deferred none)).cell? ⟨w.heap.size + 1, 0, none⟩ = some (.slice none 0 0) ∧ (W.putObj D (.deferred none)).cell? ⟨w.heap.size + 2, 0, none⟩ = some (.bool false) := by
  have hl := h.lt
  have hz := h.dz
  have hg3 := grownBy_putObj' W D (.deferred none)
  have b3 : Blk (W.putObj D (.deferred none)) (w.heap.size + 1) R #[.slice none 0 0] := (World.putObj_heap_other (by omega)).trans h.res
  have c3 : Blk (W.putObj D (.deferred none)) (w.heap.size + 2) 4 #[.bool false] := (World.putObj_heap_other (by omega)).trans h.ok
  exact ⟨h.df, h.bel.grown hg3 h.bel.size fun q hq => by have := Option.some.inj hq; omega, by simpa using b3.cell 0, by simpa using c3.cell 0⟩

end

def meCl (m : Me) : List Value := [.int .u64 m.id, .int .i64 m.lv, .int .i64 m.st, .int .i64 m.en, .int .i64 m.pg, .int .i64 m.tr]

def mkCl (m : Mk) : List Value := [.int .u64 m.id, .int .i64 m.at_, .int .u64 m.by_]

theorem Mes.of_own {w : World} {B : Nat} {e : TypeId} {v : Value} {l : List Me} (h : OwnL 6 w B e v (l.map meCl)) (ho : ∀ m ∈ l, m.ok) : Mes w v l :=
  ⟨_, h.lv, by simp, fun i a b h1 h2 => by
    rw [List.getElem?_map, h1] at h2
    exact ⟨ho a (List.mem_of_getElem? h1), (Option.some.inj h2).symm⟩⟩

theorem Mks.of_own {w : World} {B : Nat} {e : TypeId} {v : Value} {l : List Mk} (h : OwnL 3 w B e v (l.map mkCl)) (ho : ∀ m ∈ l, m.ok) : Mks w v l :=
  ⟨_, h.lv, by simp, fun i a b h1 h2 => by
    rw [List.getElem?_map, h1] at h2
    exact ⟨ho a (List.mem_of_getElem? h1), (Option.some.inj h2).symm⟩⟩

theorem meX_chunk (s : List UInt8) : meX (sealedOf s) = meOf s := by
  rw [meX, if_neg (by rw [sealedOf_length]; omega), if_pos (tail_sealed _), body_sealed]

theorem mkX_chunk (s : List UInt8) : mkX (sealedOf s) = mkOf s := by
  rw [mkX, if_neg (by rw [sealedOf_length]; omega), if_pos (tail_sealed _), body_sealed]

set_option maxHeartbeats 12800000 in
theorem rpb_M {w : World} {A : Option Addr} {L c n : Nat} {b : List UInt8} (hv : Bs w (.slice A L c) b) (hb : b.length = n * 31) (hn : n ≤ 65535) :
    Calls Tryz.prog 94 #[.slice A L c, .int .i64 31, (.func (.func 72) #[] #[])] w fun e w' => Below w.heap.size w w' ∧
      ((∃ a, e = .returned (.tuple #[a, .bool true]) ∧ OwnL 6 w' w.heap.size 84 a ((mesAt b 0 n).map meCl) ∧ ∀ m ∈ mesAt b 0 n, meP m) ∨ (e = .returned (.tuple #[.slice none 0 0, .bool false]) ∧ ¬ ∀ m ∈ mesAt b 0 n, meP m)) := by
  have HV := Lib.hid hv
  obtain ⟨wi, hwi⟩ : ∃ wi, wi = (((w.alloc (.cells #[(.func (.func 72) #[] #[])] 130)).alloc (.cells #[.slice none 0 0] 38)).alloc (.cells #[.bool false] 4)).alloc (.cells #[.slice none 0 0] 38) := ⟨_, rfl⟩
  have HB0 : Hid (Below w.heap.size w wi) := Lib.hid (by
    rw [hwi]
    exact ((((Below.refl _ _).alloc (Nat.le_refl _) _).alloc (by simp) _).alloc (by simp; omega) _).alloc (by simp; omega) _)
  have HG0 : Hid (Blk wi w.heap.size 130 #[(.func (.func 72) #[] #[])]) := Lib.hid (by
    rw [hwi]
    exact (((Blk.new w _ _).alloc _).alloc _).alloc _)
  have HR0 : Hid (Blk wi (w.heap.size + 1) 38 #[.slice none 0 0]) := Lib.hid (by
    rw [hwi]
    have := ((Blk.new (w.alloc (.cells #[(.func (.func 72) #[] #[])] 130)) 38 #[.slice none 0 0]).alloc (.cells #[.bool false] 4)).alloc (.cells #[.slice none 0 0] 38)
    simpa using this)
  have HO0 : Hid (Blk wi (w.heap.size + 2) 4 #[.bool false]) := Lib.hid (by
    rw [hwi]
    have := (Blk.new ((w.alloc (.cells #[(.func (.func 72) #[] #[])] 130)).alloc (.cells #[.slice none 0 0] 38)) 4 #[.bool false]).alloc (.cells #[.slice none 0 0] 38)
    simpa using this)
  have HX0 : Hid (Blk wi (w.heap.size + 3) 38 #[.slice none 0 0]) := Lib.hid (by
    rw [hwi]
    have := Blk.new (((w.alloc (.cells #[(.func (.func 72) #[] #[])] 130)).alloc (.cells #[.slice none 0 0] 38)).alloc (.cells #[.bool false] 4)) 38 #[.slice none 0 0]
    simpa using this)
  have HZ0 : Hid (wi.heap.size = w.heap.size + 4) := Lib.hid (by
    rw [hwi]
    simp)
  have HLN := Lib.hid hb
  clear hv
  refine calls_marks Tryz.func94 rfl ?_
  simp only [Tryz.ntmps94, List.size_toArray, List.length_cons, List.length_nil, Nat.reduceAdd, Nat.reduceSub, Array.replicate_succ, Array.replicate_zero, List.push_toArray, List.append_toArray, List.nil_append, List.cons_append]
  go_wp2_with fail
  rw [← hwi]
  clear hwi
  refine (chunk_any A L c 31 (by omega) (by omega) wi).mono ?_
  rintro e w2 ⟨rfl, hc1, hc2, hb2⟩
  rw [HZ0.out] at hc1 hc2 ⊢
  have HB2 := Lib.hid (HB0.out.trans (hb2.mono HB0.out.size))
  have HG2 := Lib.hid (HG0.out.below hb2 HG0.out.lt)
  have HR2 := Lib.hid (HR0.out.below hb2 HR0.out.lt)
  have HO2 := Lib.hid (HO0.out.below hb2 HO0.out.lt)
  have HX2 := Lib.hid (HX0.out.below hb2 HX0.out.lt)
  have HC1 := Lib.hid hc1
  have HC2 := Lib.hid hc2
  clear hc1 hc2 hb2 HB0 HG0 HR0 HO0 HX0
  go_wp2_with fail
  refine wp_range (gf := 133) (lb := #[.pointer (some ⟨w.heap.size + 4, 0, none⟩), .pointer (some ⟨w.heap.size + 4 + 1, 0, none⟩)]) rfl (fun _ _ => rfl) fun fn rec hrec => ?_
  have HREC := Lib.hid hrec
  clear hrec
  have hb3 : Below w2.heap.size w2 ((w2.alloc (.deferred (some []))).alloc (.loop (rec .ready none))) := ((Below.refl _ _).alloc (Nat.le_refl _) _).alloc (by simp) _
  have hlp : ((w2.alloc (.deferred (some []))).alloc (.loop (rec .ready none))).heap[w2.heap.size + 1]? = some (.loop (rec .ready none)) := by
    have := World.alloc_heap_new (w2.alloc (.deferred (some []))) (.loop (rec .ready none))
    rwa [World.size_alloc] at this
  have hdf : ((w2.alloc (.deferred (some []))).alloc (.loop (rec .ready none))).heap[w2.heap.size]? = some (.deferred (some [])) := (Below.heap_alloc _ _ _ (by simp)).trans (World.alloc_heap_new w2 _)
  have hdz : w.heap.size + 5 < w2.heap.size := HC2.out.lt
  have hJ0 : PbJ w w2.heap.size 130 38 84 (.func (.func 72) #[] #[]) 6 (.slice A L c) 31 (.slice none 0 0) ((mesAt b 0 0).map meCl) (rec .ready none) ((w2.alloc (.deferred (some []))).alloc (.loop (rec .ready none))) :=
    ⟨HB2.out.trans (hb3.mono HB2.out.size), HG2.out.below hb3 HG2.out.lt, HR2.out.below hb3 HR2.out.lt, HO2.out.below hb3 HO2.out.lt, HX2.out.below hb3 HX2.out.lt, OwnL.nil _ _ _ _, HC1.out.below hb3 HC1.out.lt, HC2.out.below hb3 HC2.out.lt, hlp, hdf, hdz⟩
  have HLB : Hid (∀ W, Below w.heap.size w W → Bs W (.slice A L c) b) := Lib.hid fun W hW => HV.out.below hW
  have h31 : ((31 : Nat) : Int) = (31 : Int) := rfl
  refine (chunk_seq (b := w.heap.size + 4) (n := n) (k := 31) (v := .slice A L c) (x := b) HLN.out (by omega) (by rw [HLN.out]; omega) (w2.heap.size + 1)
    (fun i W => (∃ av, PbJ w w2.heap.size 130 38 84 (.func (.func 72) #[] #[]) 6 (.slice A L c) 31 av ((mesAt b 0 i).map meCl) (rec .ready none) W) ∧ ∀ m ∈ mesAt b 0 i, meP m)
    (fun W => (∃ av xs, PbJ w w2.heap.size 130 38 84 (.func (.func 72) #[] #[]) 6 (.slice A L c) 31 av xs (rec .done (some .ret)) W) ∧ ¬ ∀ m ∈ mesAt b 0 n, meP m)
    (fun i W h => by
      obtain ⟨⟨av, h⟩, _⟩ := h
      exact ⟨h.c1, h.c2, HLB.out _ h.bel⟩)
    (fun i W m h => by
      obtain ⟨⟨av, h⟩, h2⟩ := h
      exact ⟨⟨av, h.later (below_drewN (Below.refl _ _) _)⟩, h2⟩) ?_ ⟨⟨_, hJ0⟩, fun m h => by cases h⟩).mono ?_
  · rintro i d W hi ⟨⟨av, hJ⟩, hall⟩ hd
    clear hJ0 hdf hlp hb3
    have HJ := Lib.hid hJ
    have HALL := Lib.hid hall
    obtain ⟨s, hs⟩ : ∃ s, s = (b.drop (31 * i)).take 31 := ⟨_, rfl⟩
    rw [← hs] at hd
    have HSL : Hid (s.length = 31) := Lib.hid (by
      rw [hs, List.length_take, List.length_drop, HLN.out]
      have : 31 * i + 31 ≤ n * 31 := by omega
      omega)
    have HSE := Lib.hid hs
    have HMEM : Hid (meAt s ∈ mesAt b 0 n) := Lib.hid (by
      rw [hs, mesAt]
      exact List.mem_map.2 ⟨i, List.mem_range.2 hi, by rw [Nat.zero_add]⟩)
    have HSb0 := hd.putLoop (o' := .loop (rec .busy none)) hJ.lp rfl
    obtain ⟨mc, hmc⟩ : ∃ z, z = (meOf s).1 := ⟨_, rfl⟩
    obtain ⟨mm, hmm⟩ : ∃ z, z = (meOf s).2 := ⟨_, rfl⟩
    have HOF : Hid (meOf s = (mc, mm)) := Lib.hid (by rw [hmc, hmm])
    have HGOOD : Hid (mc = 0 → meAt s = mm ∧ meP mm) := Lib.hid fun h => by
      have e := HOF.out
      rw [h] at e
      unfold meOf at e
      split at e
      · rename_i hc
        have e2 := (Prod.mk.inj e).2
        exact ⟨e2, e2 ▸ of_decide_eq_true hc.2⟩
      · cases (Prod.mk.inj e).1
    have HBAD : Hid (mc ≠ 0 → ¬ ∀ m ∈ mesAt b 0 n, meP m) := Lib.hid fun h hA => h (by
      have e := HOF.out
      rw [meOf, if_pos ⟨HSL.out, decide_eq_true (hA _ HMEM.out)⟩] at e
      exact (Prod.mk.inj e).1.symm)
    obtain ⟨x0, x1, x2, x3, x4, x5⟩ := mm
    clear hs hmc hmm hall
    refine yield_round HREC.out hJ.lp rfl ?_
    clear hJ hd
    have hsem := @Oper.semAt_some
    gi_wp2_with fail
    refine ⟨HJ.out.lp, ?_⟩
    have HJb := Lib.hid (HJ.out.put (rec .busy none))
    have HSb := Lib.hid HSb0
    clear HSb0
    revert HJb HSb
    generalize W.putObj (w2.heap.size + 1) (.loop (rec .busy none)) = Wb
    intro HJb HSb
    clear HJ
    gi_wp2_with fail
    have HS : Hid (∀ u, Below Wb.heap.size Wb u → u.cell? ⟨w.heap.size, 0, none⟩ = some (.func (.func 72) #[] #[])) := Lib.hid fun u hu => (HJb.out.get.below hu HJb.out.get.lt).cell 0
    refine wpIn_region_mix4 (.read 0 (.read 1 (.both 2 (.both 3 (.read 4 (.read 5 (.read 6 (.step 7 (.step 8 (.read 9 .done)))))) 7 (.step 3 (.read 4 (.read 5 (.read 6 (.step 8 (.read 9 .done))))))) 7 (.step 2 (.step 3 (.read 4 (.read 5 (.read 6 (.step 8 (.read 9 .done))))))))))  (fun u => Below Wb.heap.size Wb u) (by kernel_rfl) (by kernel_rfl) (by decide +kernel) rfl (by kernel_rfl) (fun _ _ h => h) (Below.refl _ _).drew ?_
    repeat
      (refine mix4_read (o := ⟨_, _, _, _, _, _⟩) (v := ?_) rfl (by rfl) (fun w' hU => ?_) ?_
       rotate_left
       have hU0 := HS.out _ hU
       go_simp
       with_reducible rfl
       try simp only [Act.put, List.setIfInBounds_toArray, List.set_cons_zero, List.set_cons_succ])
    refine mix4_both ?_ ?_
    · refine mix4_step (o := ⟨_, _, _, _, _, _⟩) rfl (fun K hK => ?_)
      go_simp
      refine (seal_any _ _ _ (by rw [HSL.out]; omega) (HSb.out.drew)).mono ?_
      rintro e W1 ⟨y, rfl, hy, hb⟩
      have HBW1 : Hid (Below Wb.heap.size Wb W1) := Lib.hid ((Below.refl _ _).drew.trans hb)
      have HY := Lib.hid hy.bs
      refine hK.out _ _ HBW1.out ?_
      clear hK K hy hb
      try simp only [Act.put, List.setIfInBounds_toArray, List.set_cons_zero, List.set_cons_succ]
      refine mix4_both ?_ ?_
      · refine mix4_step (o := ⟨_, _, _, _, _, _⟩) rfl (fun K hK => ?_)
        go_simp
        refine (mget_any _ (HY.out) (by rw [sealedOf_length, HSL.out]; omega)).mono ?_
        rintro e W3 ⟨rfl, hb⟩
        rw [meX_chunk, HOF.out]
        simp only [meV]
        have HBW3 : Hid (Below Wb.heap.size Wb W3) := Lib.hid (HBW1.out.trans (hb.mono HBW1.out.size))
        refine hK.out _ _ HBW3.out ?_
        clear hK K hb
        try simp only [Act.put, List.setIfInBounds_toArray, List.set_cons_zero, List.set_cons_succ]
        repeat
          (refine mix4_read (o := ⟨_, _, _, _, _, _⟩) (v := ?_) rfl (by rfl) (fun w' hU => ?_) ?_
           rotate_left
           have hU0 := HS.out _ hU
           go_simp
           with_reducible rfl
           try simp only [Act.put, List.setIfInBounds_toArray, List.set_cons_zero, List.set_cons_succ])
        refine mix4_step (o := ⟨_, _, _, _, _, _⟩) rfl (fun K hK => ?_)
        go_simp
        obtain ⟨W4, hW4⟩ : ∃ z, z = W3.alloc (.cells #[.int .u64 0, .int .i64 0, .int .i64 0, .int .i64 0, .int .i64 0, .int .i64 0] 84) := ⟨_, rfl⟩
        obtain ⟨q, hq⟩ : ∃ z, z = W3.heap.size := ⟨_, rfl⟩
        have HQW4 : Hid (Blk W4 q 84 #[.int .u64 0, .int .i64 0, .int .i64 0, .int .i64 0, .int .i64 0, .int .i64 0]) := Lib.hid (by rw [hW4, hq]; exact Blk.new _ _ _)
        have HQG : Hid (Wb.heap.size ≤ q) := Lib.hid (by rw [hq]; exact HBW3.out.size)
        have HBW4 : Hid (Below Wb.heap.size Wb W4) := Lib.hid (by rw [hW4]; exact HBW3.out.alloc HBW3.out.size _)
        try rw [← hW4]
        try rw [← hq]
        refine hK.out _ _ HBW4.out ?_
        clear hK K hW4 hq
        try simp only [Act.put, List.setIfInBounds_toArray, List.set_cons_zero, List.set_cons_succ]
        refine mix4_step (o := ⟨_, _, _, _, _, _⟩) rfl (fun K hK => ?_)
        have hfz := fun i => HQW4.out.frozen i
        have z0 := HQW4.out.cell 0
        have z1 := HQW4.out.cell 1
        have z2 := HQW4.out.cell 2
        have z3 := HQW4.out.cell 3
        have z4 := HQW4.out.cell 4
        have z5 := HQW4.out.cell 5
        simp at z0 z1 z2 z3 z4 z5
        go_simp
        have hm5 := setall6 q HQW4.out (.int .u64 x0) (.int .i64 x1) (.int .i64 x2) (.int .i64 x3) (.int .i64 x4) (.int .i64 x5)
        have hg5 := gset6 W4 q (.int .u64 x0) (.int .i64 x1) (.int .i64 x2) (.int .i64 x3) (.int .i64 x4) (.int .i64 x5)
        have HB5 : Hid (Below Wb.heap.size Wb ((((((W4.setCell ⟨q, 0, none⟩ (.int .u64 x0)).setCell ⟨q, 1, none⟩ (.int .i64 x1)).setCell ⟨q, 2, none⟩ (.int .i64 x2)).setCell ⟨q, 3, none⟩ (.int .i64 x3)).setCell ⟨q, 4, none⟩ (.int .i64 x4)).setCell ⟨q, 5, none⟩ (.int .i64 x5))) := Lib.hid (HBW4.out.grown hg5 HBW4.out.size fun r hr => by have := Option.some.inj hr; have := HQG.out; omega)
        have HQ5 := Lib.hid hm5
        refine hK.out _ _ HB5.out ?_
        clear hK K hm5 hg5 hfz z0 z1 z2 z3 z4 z5
        try simp only [Act.put, List.setIfInBounds_toArray, List.set_cons_zero, List.set_cons_succ]
        repeat
          (refine mix4_read (o := ⟨_, _, _, _, _, _⟩) (v := ?_) rfl (by rfl) (fun w' hU => ?_) ?_
           rotate_left
           have hU0 := HS.out _ hU
           go_simp
           with_reducible rfl
           try simp only [Act.put, List.setIfInBounds_toArray, List.set_cons_zero, List.set_cons_succ])
        refine mix4_done ?_
        have HJ5 := Lib.hid (HJb.out.later HB5.out)
        revert HJ5 HQ5
        generalize ((((((W4.setCell ⟨q, 0, none⟩ (.int .u64 x0)).setCell ⟨q, 1, none⟩ (.int .i64 x1)).setCell ⟨q, 2, none⟩ (.int .i64 x2)).setCell ⟨q, 3, none⟩ (.int .i64 x3)).setCell ⟨q, 4, none⟩ (.int .i64 x4)).setCell ⟨q, 5, none⟩ (.int .i64 x5)) = W5
        intro HQ5 HJ5
        clear HB5 HQW4 HBW4 HY
        by_cases hmc : mc = 0
        rotate_left
        · have hce := errV_code hmc
          rw [hce]
          have f1 := HJ5.out.res.frozen 0
          have f2 := HJ5.out.ok.frozen 0
          have r1 := HJ5.out.res.cell 0
          have r2 := HJ5.out.ok.cell 0
          simp at r1 r2
          have HJ6 := Lib.hid HJ5.out.bad
          have HNO := Lib.hid (HBAD.out hmc)
          clear hce
          gi_wp2_with fail
          exact ⟨HJ6.out.lp, .inr ⟨rfl, ⟨_, _, HJ6.out.put _⟩, HNO.out⟩⟩
        subst hmc
        obtain ⟨hme, hmp⟩ := HGOOD.out rfl
        have HME := Lib.hid hme
        have HMP := Lib.hid hmp
        simp only [errV_zero]
        have l0 := HJ5.out.box.cell 0
        have f0 := HJ5.out.box.frozen 0
        simp at l0
        have q0 := HQ5.out.cell 0
        have q1 := HQ5.out.cell 1
        have q2 := HQ5.out.cell 2
        have q3 := HQ5.out.cell 3
        have q4 := HQ5.out.cell 4
        have q5 := HQ5.out.cell 5
        simp at q0 q1 q2 q3 q4 q5
        have H6 : Hid (Below W5.heap.size W5 (W5.alloc (.cells #[.int .u64 x0, .int .i64 x1, .int .i64 x2, .int .i64 x3, .int .i64 x4, .int .i64 x5] 84))) := Lib.hid ((Below.refl _ _).alloc (Nat.le_refl _) _)
        have HJ6 := Lib.hid (HJ5.out.later H6.out)
        have HLV : Hid (Lv 6 (W5.alloc (.cells #[.int .u64 x0, .int .i64 x1, .int .i64 x2, .int .i64 x3, .int .i64 x4, .int .i64 x5] 84)) (.slice (some ⟨W5.heap.size, 0, none⟩) 1 1) [[.int .u64 x0, .int .i64 x1, .int .i64 x2, .int .i64 x3, .int .i64 x4, .int .i64 x5]]) := Lib.hid (Lv.lit1 (w := W5) [.int .u64 x0, .int .i64 x1, .int .i64 x2, .int .i64 x3, .int .i64 x4, .int .i64 x5] 84)
        clear hme hmp
        gi_wp2_with (gi_at_builtin; refine wpListIn_append_elems metaT rfl _ _ rfl rfl HJ6.out.own rfl HLV.out (by intro y hy; rw [List.mem_singleton] at hy; subst hy; simp [Value.oneCell']) (by simp only [maxLen, List.length_map, List.length_singleton, mesAt_len]; omega) (by simp only [List.length_map, List.length_singleton, mesAt_len]; omega) HJ6.out.lt ?_)
        intro v7 w7 ho7 hg7 hv7
        obtain ⟨A7, c7, hv7f, _, _⟩ := ho7.lv.form
        generalize (List.map meCl (mesAt b 0 i) ++ [([.int .u64 x0, .int .i64 x1, .int .i64 x2, .int .i64 x3, .int .i64 x4, .int .i64 x5] : List Value)]).length = L7 at hv7f
        subst hv7f
        have HJ7 := Lib.hid (HJ6.out.push ho7 hg7)
        have b7 : Blk w7 (w.heap.size + 3) 38 #[av] := (hg7.block _ (by have := HJ6.out.lt; have := HJ6.out.dz; omega) fun e => HJ6.out.own.ne_ (show w.heap.size + 3 < w2.heap.size + 2 by have := HJ6.out.dz; omega) e.symm).trans HJ6.out.box
        have f7 := b7.frozen 0
        have l7 := b7.cell 0
        simp at l7
        clear ho7 hg7 hv7 b7
        gi_wp2_with fail
        refine ⟨HJ7.out.lp, .inl ⟨rfl, ⟨.slice A7 L7 c7, ?_⟩, ?_⟩⟩
        · have := HJ7.out.put (rec .ready none)
          rw [mesAt_succ, Nat.zero_add, ← HSE.out, HME.out, List.map_append]
          exact this
        · rw [mesAt_succ, Nat.zero_add, ← HSE.out, HME.out]
          intro m hm
          rcases List.mem_append.1 hm with h | h
          · exact HALL.out m h
          · rw [List.mem_singleton] at h
            rw [h]
            exact HMP.out
      · refine mix4_step (o := ⟨_, _, _, _, _, _⟩) rfl (fun K hK => ?_)
        go_simp
        obtain ⟨W3, hW3⟩ : ∃ z, z = W1.alloc (.cells #[.int .u64 0, .int .i64 0, .int .i64 0, .int .i64 0, .int .i64 0, .int .i64 0] 84) := ⟨_, rfl⟩
        obtain ⟨q, hq⟩ : ∃ z, z = W1.heap.size := ⟨_, rfl⟩
        have HQW3 : Hid (Blk W3 q 84 #[.int .u64 0, .int .i64 0, .int .i64 0, .int .i64 0, .int .i64 0, .int .i64 0]) := Lib.hid (by rw [hW3, hq]; exact Blk.new _ _ _)
        have HQG : Hid (Wb.heap.size ≤ q) := Lib.hid (by rw [hq]; exact HBW1.out.size)
        have HBW3 : Hid (Below Wb.heap.size Wb W3) := Lib.hid (by rw [hW3]; exact HBW1.out.alloc HBW1.out.size _)
        have HY3 : Hid (Bs W3 y (sealedOf s)) := Lib.hid (HY.out.below (by rw [hW3]; exact (Below.refl _ _).alloc (Nat.le_refl _) _))
        try rw [← hW3]
        try rw [← hq]
        refine hK.out _ _ HBW3.out ?_
        clear hK K hW3 hq
        try simp only [Act.put, List.setIfInBounds_toArray, List.set_cons_zero, List.set_cons_succ]
        refine mix4_step (o := ⟨_, _, _, _, _, _⟩) rfl (fun K hK => ?_)
        go_simp
        refine (mget_any _ (HY3.out) (by rw [sealedOf_length, HSL.out]; omega)).mono ?_
        rintro e W4 ⟨rfl, hb⟩
        rw [meX_chunk, HOF.out]
        simp only [meV]
        have HBW4 : Hid (Below Wb.heap.size Wb W4) := Lib.hid (HBW3.out.trans (hb.mono HBW3.out.size))
        refine hK.out _ _ HBW4.out ?_
        have HQW4 := Lib.hid (HQW3.out.below hb HQW3.out.lt)
        clear hK K hb
        try simp only [Act.put, List.setIfInBounds_toArray, List.set_cons_zero, List.set_cons_succ]
        repeat
          (refine mix4_read (o := ⟨_, _, _, _, _, _⟩) (v := ?_) rfl (by rfl) (fun w' hU => ?_) ?_
           rotate_left
           have hU0 := HS.out _ hU
           go_simp
           with_reducible rfl
           try simp only [Act.put, List.setIfInBounds_toArray, List.set_cons_zero, List.set_cons_succ])
        refine mix4_step (o := ⟨_, _, _, _, _, _⟩) rfl (fun K hK => ?_)
        have hfz := fun i => HQW4.out.frozen i
        have z0 := HQW4.out.cell 0
        have z1 := HQW4.out.cell 1
        have z2 := HQW4.out.cell 2
        have z3 := HQW4.out.cell 3
        have z4 := HQW4.out.cell 4
        have z5 := HQW4.out.cell 5
        simp at z0 z1 z2 z3 z4 z5
        go_simp
        have hm5 := setall6 q HQW4.out (.int .u64 x0) (.int .i64 x1) (.int .i64 x2) (.int .i64 x3) (.int .i64 x4) (.int .i64 x5)
        have hg5 := gset6 W4 q (.int .u64 x0) (.int .i64 x1) (.int .i64 x2) (.int .i64 x3) (.int .i64 x4) (.int .i64 x5)
        have HB5 : Hid (Below Wb.heap.size Wb ((((((W4.setCell ⟨q, 0, none⟩ (.int .u64 x0)).setCell ⟨q, 1, none⟩ (.int .i64 x1)).setCell ⟨q, 2, none⟩ (.int .i64 x2)).setCell ⟨q, 3, none⟩ (.int .i64 x3)).setCell ⟨q, 4, none⟩ (.int .i64 x4)).setCell ⟨q, 5, none⟩ (.int .i64 x5))) := Lib.hid (HBW4.out.grown hg5 HBW4.out.size fun r hr => by have := Option.some.inj hr; have := HQG.out; omega)
        have HQ5 := Lib.hid hm5
        refine hK.out _ _ HB5.out ?_
        clear hK K hm5 hg5 hfz z0 z1 z2 z3 z4 z5
        try simp only [Act.put, List.setIfInBounds_toArray, List.set_cons_zero, List.set_cons_succ]
        repeat
          (refine mix4_read (o := ⟨_, _, _, _, _, _⟩) (v := ?_) rfl (by rfl) (fun w' hU => ?_) ?_
           rotate_left
           have hU0 := HS.out _ hU
           go_simp
           with_reducible rfl
           try simp only [Act.put, List.setIfInBounds_toArray, List.set_cons_zero, List.set_cons_succ])
        refine mix4_done ?_
        have HJ5 := Lib.hid (HJb.out.later HB5.out)
        revert HJ5 HQ5
        generalize ((((((W4.setCell ⟨q, 0, none⟩ (.int .u64 x0)).setCell ⟨q, 1, none⟩ (.int .i64 x1)).setCell ⟨q, 2, none⟩ (.int .i64 x2)).setCell ⟨q, 3, none⟩ (.int .i64 x3)).setCell ⟨q, 4, none⟩ (.int .i64 x4)).setCell ⟨q, 5, none⟩ (.int .i64 x5)) = W5
        intro HQ5 HJ5
        clear HB5 HQW4 HBW4 HY HY3 HQW3 HBW3
        by_cases hmc : mc = 0
        rotate_left
        · have hce := errV_code hmc
          rw [hce]
          have f1 := HJ5.out.res.frozen 0
          have f2 := HJ5.out.ok.frozen 0
          have r1 := HJ5.out.res.cell 0
          have r2 := HJ5.out.ok.cell 0
          simp at r1 r2
          have HJ6 := Lib.hid HJ5.out.bad
          have HNO := Lib.hid (HBAD.out hmc)
          clear hce
          gi_wp2_with fail
          exact ⟨HJ6.out.lp, .inr ⟨rfl, ⟨_, _, HJ6.out.put _⟩, HNO.out⟩⟩
        subst hmc
        obtain ⟨hme, hmp⟩ := HGOOD.out rfl
        have HME := Lib.hid hme
        have HMP := Lib.hid hmp
        simp only [errV_zero]
        have l0 := HJ5.out.box.cell 0
        have f0 := HJ5.out.box.frozen 0
        simp at l0
        have q0 := HQ5.out.cell 0
        have q1 := HQ5.out.cell 1
        have q2 := HQ5.out.cell 2
        have q3 := HQ5.out.cell 3
        have q4 := HQ5.out.cell 4
        have q5 := HQ5.out.cell 5
        simp at q0 q1 q2 q3 q4 q5
        have H6 : Hid (Below W5.heap.size W5 (W5.alloc (.cells #[.int .u64 x0, .int .i64 x1, .int .i64 x2, .int .i64 x3, .int .i64 x4, .int .i64 x5] 84))) := Lib.hid ((Below.refl _ _).alloc (Nat.le_refl _) _)
        have HJ6 := Lib.hid (HJ5.out.later H6.out)
        have HLV : Hid (Lv 6 (W5.alloc (.cells #[.int .u64 x0, .int .i64 x1, .int .i64 x2, .int .i64 x3, .int .i64 x4, .int .i64 x5] 84)) (.slice (some ⟨W5.heap.size, 0, none⟩) 1 1) [[.int .u64 x0, .int .i64 x1, .int .i64 x2, .int .i64 x3, .int .i64 x4, .int .i64 x5]]) := Lib.hid (Lv.lit1 (w := W5) [.int .u64 x0, .int .i64 x1, .int .i64 x2, .int .i64 x3, .int .i64 x4, .int .i64 x5] 84)
        clear hme hmp
        gi_wp2_with (gi_at_builtin; refine wpListIn_append_elems metaT rfl _ _ rfl rfl HJ6.out.own rfl HLV.out (by intro y hy; rw [List.mem_singleton] at hy; subst hy; simp [Value.oneCell']) (by simp only [maxLen, List.length_map, List.length_singleton, mesAt_len]; omega) (by simp only [List.length_map, List.length_singleton, mesAt_len]; omega) HJ6.out.lt ?_)
        intro v7 w7 ho7 hg7 hv7
        obtain ⟨A7, c7, hv7f, _, _⟩ := ho7.lv.form
        generalize (List.map meCl (mesAt b 0 i) ++ [([.int .u64 x0, .int .i64 x1, .int .i64 x2, .int .i64 x3, .int .i64 x4, .int .i64 x5] : List Value)]).length = L7 at hv7f
        subst hv7f
        have HJ7 := Lib.hid (HJ6.out.push ho7 hg7)
        have b7 : Blk w7 (w.heap.size + 3) 38 #[av] := (hg7.block _ (by have := HJ6.out.lt; have := HJ6.out.dz; omega) fun e => HJ6.out.own.ne_ (show w.heap.size + 3 < w2.heap.size + 2 by have := HJ6.out.dz; omega) e.symm).trans HJ6.out.box
        have f7 := b7.frozen 0
        have l7 := b7.cell 0
        simp at l7
        clear ho7 hg7 hv7 b7
        gi_wp2_with fail
        refine ⟨HJ7.out.lp, .inl ⟨rfl, ⟨.slice A7 L7 c7, ?_⟩, ?_⟩⟩
        · have := HJ7.out.put (rec .ready none)
          rw [mesAt_succ, Nat.zero_add, ← HSE.out, HME.out, List.map_append]
          exact this
        · rw [mesAt_succ, Nat.zero_add, ← HSE.out, HME.out]
          intro m hm
          rcases List.mem_append.1 hm with h | h
          · exact HALL.out m h
          · rw [List.mem_singleton] at h
            rw [h]
            exact HMP.out
    · refine mix4_step (o := ⟨_, _, _, _, _, _⟩) rfl (fun K hK => ?_)
      go_simp
      obtain ⟨W1, hW1⟩ : ∃ z, z = (Wb.alloc (.cells #[.int .u64 0, .int .i64 0, .int .i64 0, .int .i64 0, .int .i64 0, .int .i64 0] 84)).drew := ⟨_, rfl⟩
      obtain ⟨q, hq⟩ : ∃ z, z = Wb.heap.size := ⟨_, rfl⟩
      have HQW1 : Hid (Blk W1 q 84 #[.int .u64 0, .int .i64 0, .int .i64 0, .int .i64 0, .int .i64 0, .int .i64 0]) := Lib.hid (by rw [hW1, hq]; exact (Blk.new _ _ _).drewN 1)
      have HQG : Hid (Wb.heap.size ≤ q) := Lib.hid (by rw [hq]; exact Nat.le_refl _)
      have HBW1 : Hid (Below Wb.heap.size Wb W1) := Lib.hid (by rw [hW1]; exact ((Below.refl _ _).alloc (Nat.le_refl _) _).drew)
      try rw [← hW1]
      try rw [← hq]
      refine hK.out _ _ HBW1.out ?_
      clear hK K hW1 hq
      try simp only [Act.put, List.setIfInBounds_toArray, List.set_cons_zero, List.set_cons_succ]
      refine mix4_step (o := ⟨_, _, _, _, _, _⟩) rfl (fun K hK => ?_)
      go_simp
      refine (seal_any _ _ _ (by rw [HSL.out]; omega) (HSb.out.below HBW1.out)).mono ?_
      rintro e W3 ⟨y, rfl, hy, hb⟩
      have HBW3 : Hid (Below Wb.heap.size Wb W3) := Lib.hid (HBW1.out.trans (hb.mono HBW1.out.size))
      have HY := Lib.hid hy.bs
      refine hK.out _ _ HBW3.out ?_
      have HQW3 := Lib.hid (HQW1.out.below hb HQW1.out.lt)
      clear hK K hy hb
      try simp only [Act.put, List.setIfInBounds_toArray, List.set_cons_zero, List.set_cons_succ]
      refine mix4_step (o := ⟨_, _, _, _, _, _⟩) rfl (fun K hK => ?_)
      go_simp
      refine (mget_any _ (HY.out) (by rw [sealedOf_length, HSL.out]; omega)).mono ?_
      rintro e W4 ⟨rfl, hb⟩
      rw [meX_chunk, HOF.out]
      simp only [meV]
      have HBW4 : Hid (Below Wb.heap.size Wb W4) := Lib.hid (HBW3.out.trans (hb.mono HBW3.out.size))
      refine hK.out _ _ HBW4.out ?_
      have HQW4 := Lib.hid (HQW3.out.below hb HQW3.out.lt)
      clear hK K hb
      try simp only [Act.put, List.setIfInBounds_toArray, List.set_cons_zero, List.set_cons_succ]
      repeat
        (refine mix4_read (o := ⟨_, _, _, _, _, _⟩) (v := ?_) rfl (by rfl) (fun w' hU => ?_) ?_
         rotate_left
         have hU0 := HS.out _ hU
         go_simp
         with_reducible rfl
         try simp only [Act.put, List.setIfInBounds_toArray, List.set_cons_zero, List.set_cons_succ])
      refine mix4_step (o := ⟨_, _, _, _, _, _⟩) rfl (fun K hK => ?_)
      have hfz := fun i => HQW4.out.frozen i
      have z0 := HQW4.out.cell 0
      have z1 := HQW4.out.cell 1
      have z2 := HQW4.out.cell 2
      have z3 := HQW4.out.cell 3
      have z4 := HQW4.out.cell 4
      have z5 := HQW4.out.cell 5
      simp at z0 z1 z2 z3 z4 z5
      go_simp
      have hm5 := setall6 q HQW4.out (.int .u64 x0) (.int .i64 x1) (.int .i64 x2) (.int .i64 x3) (.int .i64 x4) (.int .i64 x5)
      have hg5 := gset6 W4 q (.int .u64 x0) (.int .i64 x1) (.int .i64 x2) (.int .i64 x3) (.int .i64 x4) (.int .i64 x5)
      have HB5 : Hid (Below Wb.heap.size Wb ((((((W4.setCell ⟨q, 0, none⟩ (.int .u64 x0)).setCell ⟨q, 1, none⟩ (.int .i64 x1)).setCell ⟨q, 2, none⟩ (.int .i64 x2)).setCell ⟨q, 3, none⟩ (.int .i64 x3)).setCell ⟨q, 4, none⟩ (.int .i64 x4)).setCell ⟨q, 5, none⟩ (.int .i64 x5))) := Lib.hid (HBW4.out.grown hg5 HBW4.out.size fun r hr => by have := Option.some.inj hr; have := HQG.out; omega)
      have HQ5 := Lib.hid hm5
      refine hK.out _ _ HB5.out ?_
      clear hK K hm5 hg5 hfz z0 z1 z2 z3 z4 z5
      try simp only [Act.put, List.setIfInBounds_toArray, List.set_cons_zero, List.set_cons_succ]
      repeat
        (refine mix4_read (o := ⟨_, _, _, _, _, _⟩) (v := ?_) rfl (by rfl) (fun w' hU => ?_) ?_
         rotate_left
         have hU0 := HS.out _ hU
         go_simp
         with_reducible rfl
         try simp only [Act.put, List.setIfInBounds_toArray, List.set_cons_zero, List.set_cons_succ])
      refine mix4_done ?_
      have HJ5 := Lib.hid (HJb.out.later HB5.out)
      revert HJ5 HQ5
      generalize ((((((W4.setCell ⟨q, 0, none⟩ (.int .u64 x0)).setCell ⟨q, 1, none⟩ (.int .i64 x1)).setCell ⟨q, 2, none⟩ (.int .i64 x2)).setCell ⟨q, 3, none⟩ (.int .i64 x3)).setCell ⟨q, 4, none⟩ (.int .i64 x4)).setCell ⟨q, 5, none⟩ (.int .i64 x5)) = W5
      intro HQ5 HJ5
      clear HB5 HQW4 HBW4 HY HQW3 HBW3 HQW1 HBW1
      by_cases hmc : mc = 0
      rotate_left
      · have hce := errV_code hmc
        rw [hce]
        have f1 := HJ5.out.res.frozen 0
        have f2 := HJ5.out.ok.frozen 0
        have r1 := HJ5.out.res.cell 0
        have r2 := HJ5.out.ok.cell 0
        simp at r1 r2
        have HJ6 := Lib.hid HJ5.out.bad
        have HNO := Lib.hid (HBAD.out hmc)
        clear hce
        gi_wp2_with fail
        exact ⟨HJ6.out.lp, .inr ⟨rfl, ⟨_, _, HJ6.out.put _⟩, HNO.out⟩⟩
      subst hmc
      obtain ⟨hme, hmp⟩ := HGOOD.out rfl
      have HME := Lib.hid hme
      have HMP := Lib.hid hmp
      simp only [errV_zero]
      have l0 := HJ5.out.box.cell 0
      have f0 := HJ5.out.box.frozen 0
      simp at l0
      have q0 := HQ5.out.cell 0
      have q1 := HQ5.out.cell 1
      have q2 := HQ5.out.cell 2
      have q3 := HQ5.out.cell 3
      have q4 := HQ5.out.cell 4
      have q5 := HQ5.out.cell 5
      simp at q0 q1 q2 q3 q4 q5
      have H6 : Hid (Below W5.heap.size W5 (W5.alloc (.cells #[.int .u64 x0, .int .i64 x1, .int .i64 x2, .int .i64 x3, .int .i64 x4, .int .i64 x5] 84))) := Lib.hid ((Below.refl _ _).alloc (Nat.le_refl _) _)
      have HJ6 := Lib.hid (HJ5.out.later H6.out)
      have HLV : Hid (Lv 6 (W5.alloc (.cells #[.int .u64 x0, .int .i64 x1, .int .i64 x2, .int .i64 x3, .int .i64 x4, .int .i64 x5] 84)) (.slice (some ⟨W5.heap.size, 0, none⟩) 1 1) [[.int .u64 x0, .int .i64 x1, .int .i64 x2, .int .i64 x3, .int .i64 x4, .int .i64 x5]]) := Lib.hid (Lv.lit1 (w := W5) [.int .u64 x0, .int .i64 x1, .int .i64 x2, .int .i64 x3, .int .i64 x4, .int .i64 x5] 84)
      clear hme hmp
      gi_wp2_with (gi_at_builtin; refine wpListIn_append_elems metaT rfl _ _ rfl rfl HJ6.out.own rfl HLV.out (by intro y hy; rw [List.mem_singleton] at hy; subst hy; simp [Value.oneCell']) (by simp only [maxLen, List.length_map, List.length_singleton, mesAt_len]; omega) (by simp only [List.length_map, List.length_singleton, mesAt_len]; omega) HJ6.out.lt ?_)
      intro v7 w7 ho7 hg7 hv7
      obtain ⟨A7, c7, hv7f, _, _⟩ := ho7.lv.form
      generalize (List.map meCl (mesAt b 0 i) ++ [([.int .u64 x0, .int .i64 x1, .int .i64 x2, .int .i64 x3, .int .i64 x4, .int .i64 x5] : List Value)]).length = L7 at hv7f
      subst hv7f
      have HJ7 := Lib.hid (HJ6.out.push ho7 hg7)
      have b7 : Blk w7 (w.heap.size + 3) 38 #[av] := (hg7.block _ (by have := HJ6.out.lt; have := HJ6.out.dz; omega) fun e => HJ6.out.own.ne_ (show w.heap.size + 3 < w2.heap.size + 2 by have := HJ6.out.dz; omega) e.symm).trans HJ6.out.box
      have f7 := b7.frozen 0
      have l7 := b7.cell 0
      simp at l7
      clear ho7 hg7 hv7 b7
      gi_wp2_with fail
      refine ⟨HJ7.out.lp, .inl ⟨rfl, ⟨.slice A7 L7 c7, ?_⟩, ?_⟩⟩
      · have := HJ7.out.put (rec .ready none)
        rw [mesAt_succ, Nat.zero_add, ← HSE.out, HME.out, List.map_append]
        exact this
      · rw [mesAt_succ, Nat.zero_add, ← HSE.out, HME.out]
        intro m hm
        rcases List.mem_append.1 hm with h | h
        · exact HALL.out m h
        · rw [List.mem_singleton] at h
          rw [h]
          exact HMP.out
  · rintro e W' ⟨⟨v', rfl⟩, ⟨⟨av, hJ⟩, hall⟩ | ⟨⟨av, xs, hJ⟩, hno⟩⟩
    · refine ⟨v', none, rfl, hJ.lp, ?_⟩
      have HJ := Lib.hid (hJ.put (rec .exhausted none))
      have HALL := Lib.hid hall
      clear hJ hall hJ0 hdf hlp hb3
      revert HJ
      generalize W'.putObj (w2.heap.size + 1) (.loop (rec .exhausted none)) = We
      intro HJ
      obtain ⟨Aa, ca, hav, _, _⟩ := HJ.out.own.lv.form
      generalize (List.map meCl (mesAt b 0 n)).length = La at hav
      subst hav
      have l0 := HJ.out.box.cell 0
      have f1 := HJ.out.res.frozen 0
      have f2 := HJ.out.ok.frozen 0
      have r1 := HJ.out.res.cell 0
      have r2 := HJ.out.ok.cell 0
      simp at l0 r1 r2
      dsimp only [Exit.inBlock, Exit.then]
      go_wp2_with fail
      obtain ⟨d1, d2, d3, d4, d5⟩ := HJ.out.done (.slice Aa La ca) true
      exact marks_ret1 (v := .tuple #[.slice Aa La ca, .bool true]) (by simp [results, go_sem, d3, d4]; try rfl) rfl d1 ⟨d2, .inl ⟨_, rfl, d5.lower (by have := HJ.out.dz; omega), HALL.out⟩⟩
    · refine ⟨v', some .ret, rfl, hJ.lp, ?_⟩
      dsimp only
      have HJ := Lib.hid (hJ.put (rec .exhausted (some .ret)))
      have HNO := Lib.hid hno
      clear hJ hno hJ0 hdf hlp hb3
      revert HJ
      generalize W'.putObj (w2.heap.size + 1) (.loop (rec .exhausted (some .ret))) = We
      intro HJ
      go_wp2_with fail
      obtain ⟨d1, d2, d3, d4⟩ := HJ.out.doneBad
      exact marks_ret1 (v := .tuple #[.slice none 0 0, .bool false]) (by simp [results, go_sem, d3, d4]; try rfl) rfl d1 ⟨d2, .inr ⟨rfl, HNO.out⟩⟩

set_option maxHeartbeats 12800000 in
theorem rpb_K {w : World} {A : Option Addr} {L c n : Nat} {b : List UInt8} (hv : Bs w (.slice A L c) b) (hb : b.length = n * 24) (hn : n ≤ 65535) :
    Calls Tryz.prog 95 #[.slice A L c, .int .i64 24, (.func (.func 74) #[] #[])] w fun e w' => Below w.heap.size w w' ∧
      ((∃ a, e = .returned (.tuple #[a, .bool true]) ∧ OwnL 3 w' w.heap.size 88 a ((mksAt b 0 n).map mkCl) ∧ ∀ m ∈ mksAt b 0 n, mkP m) ∨ (e = .returned (.tuple #[.slice none 0 0, .bool false]) ∧ ¬ ∀ m ∈ mksAt b 0 n, mkP m)) := by
  have HV := Lib.hid hv
  obtain ⟨wi, hwi⟩ : ∃ wi, wi = (((w.alloc (.cells #[(.func (.func 74) #[] #[])] 132)).alloc (.cells #[.slice none 0 0] 39)).alloc (.cells #[.bool false] 4)).alloc (.cells #[.slice none 0 0] 39) := ⟨_, rfl⟩
  have HB0 : Hid (Below w.heap.size w wi) := Lib.hid (by
    rw [hwi]
    exact ((((Below.refl _ _).alloc (Nat.le_refl _) _).alloc (by simp) _).alloc (by simp; omega) _).alloc (by simp; omega) _)
  have HG0 : Hid (Blk wi w.heap.size 132 #[(.func (.func 74) #[] #[])]) := Lib.hid (by
    rw [hwi]
    exact (((Blk.new w _ _).alloc _).alloc _).alloc _)
  have HR0 : Hid (Blk wi (w.heap.size + 1) 39 #[.slice none 0 0]) := Lib.hid (by
    rw [hwi]
    have := ((Blk.new (w.alloc (.cells #[(.func (.func 74) #[] #[])] 132)) 39 #[.slice none 0 0]).alloc (.cells #[.bool false] 4)).alloc (.cells #[.slice none 0 0] 39)
    simpa using this)
  have HO0 : Hid (Blk wi (w.heap.size + 2) 4 #[.bool false]) := Lib.hid (by
    rw [hwi]
    have := (Blk.new ((w.alloc (.cells #[(.func (.func 74) #[] #[])] 132)).alloc (.cells #[.slice none 0 0] 39)) 4 #[.bool false]).alloc (.cells #[.slice none 0 0] 39)
    simpa using this)
  have HX0 : Hid (Blk wi (w.heap.size + 3) 39 #[.slice none 0 0]) := Lib.hid (by
    rw [hwi]
    have := Blk.new (((w.alloc (.cells #[(.func (.func 74) #[] #[])] 132)).alloc (.cells #[.slice none 0 0] 39)).alloc (.cells #[.bool false] 4)) 39 #[.slice none 0 0]
    simpa using this)
  have HZ0 : Hid (wi.heap.size = w.heap.size + 4) := Lib.hid (by
    rw [hwi]
    simp)
  have HLN := Lib.hid hb
  clear hv
  refine calls_marks Tryz.func95 rfl ?_
  simp only [Tryz.ntmps95, List.size_toArray, List.length_cons, List.length_nil, Nat.reduceAdd, Nat.reduceSub, Array.replicate_succ, Array.replicate_zero, List.push_toArray, List.append_toArray, List.nil_append, List.cons_append]
  go_wp2_with fail
  rw [← hwi]
  clear hwi
  refine (chunk_any A L c 24 (by omega) (by omega) wi).mono ?_
  rintro e w2 ⟨rfl, hc1, hc2, hb2⟩
  rw [HZ0.out] at hc1 hc2 ⊢
  have HB2 := Lib.hid (HB0.out.trans (hb2.mono HB0.out.size))
  have HG2 := Lib.hid (HG0.out.below hb2 HG0.out.lt)
  have HR2 := Lib.hid (HR0.out.below hb2 HR0.out.lt)
  have HO2 := Lib.hid (HO0.out.below hb2 HO0.out.lt)
  have HX2 := Lib.hid (HX0.out.below hb2 HX0.out.lt)
  have HC1 := Lib.hid hc1
  have HC2 := Lib.hid hc2
  clear hc1 hc2 hb2 HB0 HG0 HR0 HO0 HX0
  go_wp2_with fail
  refine wp_range (gf := 133) (lb := #[.pointer (some ⟨w.heap.size + 4, 0, none⟩), .pointer (some ⟨w.heap.size + 4 + 1, 0, none⟩)]) rfl (fun _ _ => rfl) fun fn rec hrec => ?_
  have HREC := Lib.hid hrec
  clear hrec
  have hb3 : Below w2.heap.size w2 ((w2.alloc (.deferred (some []))).alloc (.loop (rec .ready none))) := ((Below.refl _ _).alloc (Nat.le_refl _) _).alloc (by simp) _
  have hlp : ((w2.alloc (.deferred (some []))).alloc (.loop (rec .ready none))).heap[w2.heap.size + 1]? = some (.loop (rec .ready none)) := by
    have := World.alloc_heap_new (w2.alloc (.deferred (some []))) (.loop (rec .ready none))
    rwa [World.size_alloc] at this
  have hdf : ((w2.alloc (.deferred (some []))).alloc (.loop (rec .ready none))).heap[w2.heap.size]? = some (.deferred (some [])) := (Below.heap_alloc _ _ _ (by simp)).trans (World.alloc_heap_new w2 _)
  have hdz : w.heap.size + 5 < w2.heap.size := HC2.out.lt
  have hJ0 : PbJ w w2.heap.size 132 39 88 (.func (.func 74) #[] #[]) 3 (.slice A L c) 24 (.slice none 0 0) ((mksAt b 0 0).map mkCl) (rec .ready none) ((w2.alloc (.deferred (some []))).alloc (.loop (rec .ready none))) :=
    ⟨HB2.out.trans (hb3.mono HB2.out.size), HG2.out.below hb3 HG2.out.lt, HR2.out.below hb3 HR2.out.lt, HO2.out.below hb3 HO2.out.lt, HX2.out.below hb3 HX2.out.lt, OwnL.nil _ _ _ _, HC1.out.below hb3 HC1.out.lt, HC2.out.below hb3 HC2.out.lt, hlp, hdf, hdz⟩
  have HLB : Hid (∀ W, Below w.heap.size w W → Bs W (.slice A L c) b) := Lib.hid fun W hW => HV.out.below hW
  have h31 : ((24 : Nat) : Int) = (24 : Int) := rfl
  refine (chunk_seq (b := w.heap.size + 4) (n := n) (k := 24) (v := .slice A L c) (x := b) HLN.out (by omega) (by rw [HLN.out]; omega) (w2.heap.size + 1)
    (fun i W => (∃ av, PbJ w w2.heap.size 132 39 88 (.func (.func 74) #[] #[]) 3 (.slice A L c) 24 av ((mksAt b 0 i).map mkCl) (rec .ready none) W) ∧ ∀ m ∈ mksAt b 0 i, mkP m)
    (fun W => (∃ av xs, PbJ w w2.heap.size 132 39 88 (.func (.func 74) #[] #[]) 3 (.slice A L c) 24 av xs (rec .done (some .ret)) W) ∧ ¬ ∀ m ∈ mksAt b 0 n, mkP m)
    (fun i W h => by
      obtain ⟨⟨av, h⟩, _⟩ := h
      exact ⟨h.c1, h.c2, HLB.out _ h.bel⟩)
    (fun i W m h => by
      obtain ⟨⟨av, h⟩, h2⟩ := h
      exact ⟨⟨av, h.later (below_drewN (Below.refl _ _) _)⟩, h2⟩) ?_ ⟨⟨_, hJ0⟩, fun m h => by cases h⟩).mono ?_
  · rintro i d W hi ⟨⟨av, hJ⟩, hall⟩ hd
    clear hJ0 hdf hlp hb3
    have HJ := Lib.hid hJ
    have HALL := Lib.hid hall
    obtain ⟨s, hs⟩ : ∃ s, s = (b.drop (24 * i)).take 24 := ⟨_, rfl⟩
    rw [← hs] at hd
    have HSL : Hid (s.length = 24) := Lib.hid (by
      rw [hs, List.length_take, List.length_drop, HLN.out]
      have : 24 * i + 24 ≤ n * 24 := by omega
      omega)
    have HSE := Lib.hid hs
    have HMEM : Hid (mkAt s ∈ mksAt b 0 n) := Lib.hid (by
      rw [hs, mksAt]
      exact List.mem_map.2 ⟨i, List.mem_range.2 hi, by rw [Nat.zero_add]⟩)
    have HSb0 := hd.putLoop (o' := .loop (rec .busy none)) hJ.lp rfl
    obtain ⟨mc, hmc⟩ : ∃ z, z = (mkOf s).1 := ⟨_, rfl⟩
    obtain ⟨mm, hmm⟩ : ∃ z, z = (mkOf s).2 := ⟨_, rfl⟩
    have HOF : Hid (mkOf s = (mc, mm)) := Lib.hid (by rw [hmc, hmm])
    have HGOOD : Hid (mc = 0 → mkAt s = mm ∧ mkP mm) := Lib.hid fun h => by
      have e := HOF.out
      rw [h] at e
      unfold mkOf at e
      split at e
      · rename_i hc
        have e2 := (Prod.mk.inj e).2
        exact ⟨e2, e2 ▸ of_decide_eq_true hc.2⟩
      · cases (Prod.mk.inj e).1
    have HBAD : Hid (mc ≠ 0 → ¬ ∀ m ∈ mksAt b 0 n, mkP m) := Lib.hid fun h hA => h (by
      have e := HOF.out
      rw [mkOf, if_pos ⟨HSL.out, decide_eq_true (hA _ HMEM.out)⟩] at e
      exact (Prod.mk.inj e).1.symm)
    obtain ⟨x0, x1, x2⟩ := mm
    clear hs hmc hmm hall
    refine yield_round HREC.out hJ.lp rfl ?_
    clear hJ hd
    have hsem := @Oper.semAt_some
    gi_wp2_with fail
    refine ⟨HJ.out.lp, ?_⟩
    have HJb := Lib.hid (HJ.out.put (rec .busy none))
    have HSb := Lib.hid HSb0
    clear HSb0
    revert HJb HSb
    generalize W.putObj (w2.heap.size + 1) (.loop (rec .busy none)) = Wb
    intro HJb HSb
    clear HJ
    gi_wp2_with fail
    have HS : Hid (∀ u, Below Wb.heap.size Wb u → u.cell? ⟨w.heap.size, 0, none⟩ = some (.func (.func 74) #[] #[])) := Lib.hid fun u hu => (HJb.out.get.below hu HJb.out.get.lt).cell 0
    refine wpIn_region_mix4 (.read 0 (.read 1 (.both 2 (.both 3 (.read 4 (.read 5 (.read 6 (.step 7 (.step 8 (.read 9 .done)))))) 7 (.step 3 (.read 4 (.read 5 (.read 6 (.step 8 (.read 9 .done))))))) 7 (.step 2 (.step 3 (.read 4 (.read 5 (.read 6 (.step 8 (.read 9 .done))))))))))  (fun u => Below Wb.heap.size Wb u) (by kernel_rfl) (by kernel_rfl) (by decide +kernel) rfl (by kernel_rfl) (fun _ _ h => h) (Below.refl _ _).drew ?_
    repeat
      (refine mix4_read (o := ⟨_, _, _, _, _, _⟩) (v := ?_) rfl (by rfl) (fun w' hU => ?_) ?_
       rotate_left
       have hU0 := HS.out _ hU
       go_simp
       with_reducible rfl
       try simp only [Act.put, List.setIfInBounds_toArray, List.set_cons_zero, List.set_cons_succ])
    refine mix4_both ?_ ?_
    · refine mix4_step (o := ⟨_, _, _, _, _, _⟩) rfl (fun K hK => ?_)
      go_simp
      refine (seal_any _ _ _ (by rw [HSL.out]; omega) (HSb.out.drew)).mono ?_
      rintro e W1 ⟨y, rfl, hy, hb⟩
      have HBW1 : Hid (Below Wb.heap.size Wb W1) := Lib.hid ((Below.refl _ _).drew.trans hb)
      have HY := Lib.hid hy.bs
      refine hK.out _ _ HBW1.out ?_
      clear hK K hy hb
      try simp only [Act.put, List.setIfInBounds_toArray, List.set_cons_zero, List.set_cons_succ]
      refine mix4_both ?_ ?_
      · refine mix4_step (o := ⟨_, _, _, _, _, _⟩) rfl (fun K hK => ?_)
        go_simp
        refine (mmarked_any _ (HY.out) (by rw [sealedOf_length, HSL.out]; omega)).mono ?_
        rintro e W3 ⟨rfl, hb⟩
        rw [mkX_chunk, HOF.out]
        simp only [mkV]
        have HBW3 : Hid (Below Wb.heap.size Wb W3) := Lib.hid (HBW1.out.trans (hb.mono HBW1.out.size))
        refine hK.out _ _ HBW3.out ?_
        clear hK K hb
        try simp only [Act.put, List.setIfInBounds_toArray, List.set_cons_zero, List.set_cons_succ]
        repeat
          (refine mix4_read (o := ⟨_, _, _, _, _, _⟩) (v := ?_) rfl (by rfl) (fun w' hU => ?_) ?_
           rotate_left
           have hU0 := HS.out _ hU
           go_simp
           with_reducible rfl
           try simp only [Act.put, List.setIfInBounds_toArray, List.set_cons_zero, List.set_cons_succ])
        refine mix4_step (o := ⟨_, _, _, _, _, _⟩) rfl (fun K hK => ?_)
        go_simp
        obtain ⟨W4, hW4⟩ : ∃ z, z = W3.alloc (.cells #[.int .u64 0, .int .i64 0, .int .u64 0] 88) := ⟨_, rfl⟩
        obtain ⟨q, hq⟩ : ∃ z, z = W3.heap.size := ⟨_, rfl⟩
        have HQW4 : Hid (Blk W4 q 88 #[.int .u64 0, .int .i64 0, .int .u64 0]) := Lib.hid (by rw [hW4, hq]; exact Blk.new _ _ _)
        have HQG : Hid (Wb.heap.size ≤ q) := Lib.hid (by rw [hq]; exact HBW3.out.size)
        have HBW4 : Hid (Below Wb.heap.size Wb W4) := Lib.hid (by rw [hW4]; exact HBW3.out.alloc HBW3.out.size _)
        try rw [← hW4]
        try rw [← hq]
        refine hK.out _ _ HBW4.out ?_
        clear hK K hW4 hq
        try simp only [Act.put, List.setIfInBounds_toArray, List.set_cons_zero, List.set_cons_succ]
        refine mix4_step (o := ⟨_, _, _, _, _, _⟩) rfl (fun K hK => ?_)
        have hfz := fun i => HQW4.out.frozen i
        have z0 := HQW4.out.cell 0
        have z1 := HQW4.out.cell 1
        have z2 := HQW4.out.cell 2
        simp at z0 z1 z2
        go_simp
        have hm5 := setall3 q HQW4.out (.int .u64 x0) (.int .i64 x1) (.int .u64 x2)
        have hg5 := gset3 W4 q (.int .u64 x0) (.int .i64 x1) (.int .u64 x2)
        have HB5 : Hid (Below Wb.heap.size Wb (((W4.setCell ⟨q, 0, none⟩ (.int .u64 x0)).setCell ⟨q, 1, none⟩ (.int .i64 x1)).setCell ⟨q, 2, none⟩ (.int .u64 x2))) := Lib.hid (HBW4.out.grown hg5 HBW4.out.size fun r hr => by have := Option.some.inj hr; have := HQG.out; omega)
        have HQ5 := Lib.hid hm5
        refine hK.out _ _ HB5.out ?_
        clear hK K hm5 hg5 hfz z0 z1 z2
        try simp only [Act.put, List.setIfInBounds_toArray, List.set_cons_zero, List.set_cons_succ]
        repeat
          (refine mix4_read (o := ⟨_, _, _, _, _, _⟩) (v := ?_) rfl (by rfl) (fun w' hU => ?_) ?_
           rotate_left
           have hU0 := HS.out _ hU
           go_simp
           with_reducible rfl
           try simp only [Act.put, List.setIfInBounds_toArray, List.set_cons_zero, List.set_cons_succ])
        refine mix4_done ?_
        have HJ5 := Lib.hid (HJb.out.later HB5.out)
        revert HJ5 HQ5
        generalize (((W4.setCell ⟨q, 0, none⟩ (.int .u64 x0)).setCell ⟨q, 1, none⟩ (.int .i64 x1)).setCell ⟨q, 2, none⟩ (.int .u64 x2)) = W5
        intro HQ5 HJ5
        clear HB5 HQW4 HBW4 HY
        by_cases hmc : mc = 0
        rotate_left
        · have hce := errV_code hmc
          rw [hce]
          have f1 := HJ5.out.res.frozen 0
          have f2 := HJ5.out.ok.frozen 0
          have r1 := HJ5.out.res.cell 0
          have r2 := HJ5.out.ok.cell 0
          simp at r1 r2
          have HJ6 := Lib.hid HJ5.out.bad
          have HNO := Lib.hid (HBAD.out hmc)
          clear hce
          gi_wp2_with fail
          exact ⟨HJ6.out.lp, .inr ⟨rfl, ⟨_, _, HJ6.out.put _⟩, HNO.out⟩⟩
        subst hmc
        obtain ⟨hme, hmp⟩ := HGOOD.out rfl
        have HME := Lib.hid hme
        have HMP := Lib.hid hmp
        simp only [errV_zero]
        have l0 := HJ5.out.box.cell 0
        have f0 := HJ5.out.box.frozen 0
        simp at l0
        have q0 := HQ5.out.cell 0
        have q1 := HQ5.out.cell 1
        have q2 := HQ5.out.cell 2
        simp at q0 q1 q2
        have H6 : Hid (Below W5.heap.size W5 (W5.alloc (.cells #[.int .u64 x0, .int .i64 x1, .int .u64 x2] 88))) := Lib.hid ((Below.refl _ _).alloc (Nat.le_refl _) _)
        have HJ6 := Lib.hid (HJ5.out.later H6.out)
        have HLV : Hid (Lv 3 (W5.alloc (.cells #[.int .u64 x0, .int .i64 x1, .int .u64 x2] 88)) (.slice (some ⟨W5.heap.size, 0, none⟩) 1 1) [[.int .u64 x0, .int .i64 x1, .int .u64 x2]]) := Lib.hid (Lv.lit1 (w := W5) [.int .u64 x0, .int .i64 x1, .int .u64 x2] 88)
        clear hme hmp
        gi_wp2_with (gi_at_builtin; refine wpListIn_append_elems markT rfl _ _ rfl rfl HJ6.out.own rfl HLV.out (by intro y hy; rw [List.mem_singleton] at hy; subst hy; simp [Value.oneCell']) (by simp only [maxLen, List.length_map, List.length_singleton, mksAt_len]; omega) (by simp only [List.length_map, List.length_singleton, mksAt_len]; omega) HJ6.out.lt ?_)
        intro v7 w7 ho7 hg7 hv7
        obtain ⟨A7, c7, hv7f, _, _⟩ := ho7.lv.form
        generalize (List.map mkCl (mksAt b 0 i) ++ [([.int .u64 x0, .int .i64 x1, .int .u64 x2] : List Value)]).length = L7 at hv7f
        subst hv7f
        have HJ7 := Lib.hid (HJ6.out.push ho7 hg7)
        have b7 : Blk w7 (w.heap.size + 3) 39 #[av] := (hg7.block _ (by have := HJ6.out.lt; have := HJ6.out.dz; omega) fun e => HJ6.out.own.ne_ (show w.heap.size + 3 < w2.heap.size + 2 by have := HJ6.out.dz; omega) e.symm).trans HJ6.out.box
        have f7 := b7.frozen 0
        have l7 := b7.cell 0
        simp at l7
        clear ho7 hg7 hv7 b7
        gi_wp2_with fail
        refine ⟨HJ7.out.lp, .inl ⟨rfl, ⟨.slice A7 L7 c7, ?_⟩, ?_⟩⟩
        · have := HJ7.out.put (rec .ready none)
          rw [mksAt_succ, Nat.zero_add, ← HSE.out, HME.out, List.map_append]
          exact this
        · rw [mksAt_succ, Nat.zero_add, ← HSE.out, HME.out]
          intro m hm
          rcases List.mem_append.1 hm with h | h
          · exact HALL.out m h
          · rw [List.mem_singleton] at h
            rw [h]
            exact HMP.out
      · refine mix4_step (o := ⟨_, _, _, _, _, _⟩) rfl (fun K hK => ?_)
        go_simp
        obtain ⟨W3, hW3⟩ : ∃ z, z = W1.alloc (.cells #[.int .u64 0, .int .i64 0, .int .u64 0] 88) := ⟨_, rfl⟩
        obtain ⟨q, hq⟩ : ∃ z, z = W1.heap.size := ⟨_, rfl⟩
        have HQW3 : Hid (Blk W3 q 88 #[.int .u64 0, .int .i64 0, .int .u64 0]) := Lib.hid (by rw [hW3, hq]; exact Blk.new _ _ _)
        have HQG : Hid (Wb.heap.size ≤ q) := Lib.hid (by rw [hq]; exact HBW1.out.size)
        have HBW3 : Hid (Below Wb.heap.size Wb W3) := Lib.hid (by rw [hW3]; exact HBW1.out.alloc HBW1.out.size _)
        have HY3 : Hid (Bs W3 y (sealedOf s)) := Lib.hid (HY.out.below (by rw [hW3]; exact (Below.refl _ _).alloc (Nat.le_refl _) _))
        try rw [← hW3]
        try rw [← hq]
        refine hK.out _ _ HBW3.out ?_
        clear hK K hW3 hq
        try simp only [Act.put, List.setIfInBounds_toArray, List.set_cons_zero, List.set_cons_succ]
        refine mix4_step (o := ⟨_, _, _, _, _, _⟩) rfl (fun K hK => ?_)
        go_simp
        refine (mmarked_any _ (HY3.out) (by rw [sealedOf_length, HSL.out]; omega)).mono ?_
        rintro e W4 ⟨rfl, hb⟩
        rw [mkX_chunk, HOF.out]
        simp only [mkV]
        have HBW4 : Hid (Below Wb.heap.size Wb W4) := Lib.hid (HBW3.out.trans (hb.mono HBW3.out.size))
        refine hK.out _ _ HBW4.out ?_
        have HQW4 := Lib.hid (HQW3.out.below hb HQW3.out.lt)
        clear hK K hb
        try simp only [Act.put, List.setIfInBounds_toArray, List.set_cons_zero, List.set_cons_succ]
        repeat
          (refine mix4_read (o := ⟨_, _, _, _, _, _⟩) (v := ?_) rfl (by rfl) (fun w' hU => ?_) ?_
           rotate_left
           have hU0 := HS.out _ hU
           go_simp
           with_reducible rfl
           try simp only [Act.put, List.setIfInBounds_toArray, List.set_cons_zero, List.set_cons_succ])
        refine mix4_step (o := ⟨_, _, _, _, _, _⟩) rfl (fun K hK => ?_)
        have hfz := fun i => HQW4.out.frozen i
        have z0 := HQW4.out.cell 0
        have z1 := HQW4.out.cell 1
        have z2 := HQW4.out.cell 2
        simp at z0 z1 z2
        go_simp
        have hm5 := setall3 q HQW4.out (.int .u64 x0) (.int .i64 x1) (.int .u64 x2)
        have hg5 := gset3 W4 q (.int .u64 x0) (.int .i64 x1) (.int .u64 x2)
        have HB5 : Hid (Below Wb.heap.size Wb (((W4.setCell ⟨q, 0, none⟩ (.int .u64 x0)).setCell ⟨q, 1, none⟩ (.int .i64 x1)).setCell ⟨q, 2, none⟩ (.int .u64 x2))) := Lib.hid (HBW4.out.grown hg5 HBW4.out.size fun r hr => by have := Option.some.inj hr; have := HQG.out; omega)
        have HQ5 := Lib.hid hm5
        refine hK.out _ _ HB5.out ?_
        clear hK K hm5 hg5 hfz z0 z1 z2
        try simp only [Act.put, List.setIfInBounds_toArray, List.set_cons_zero, List.set_cons_succ]
        repeat
          (refine mix4_read (o := ⟨_, _, _, _, _, _⟩) (v := ?_) rfl (by rfl) (fun w' hU => ?_) ?_
           rotate_left
           have hU0 := HS.out _ hU
           go_simp
           with_reducible rfl
           try simp only [Act.put, List.setIfInBounds_toArray, List.set_cons_zero, List.set_cons_succ])
        refine mix4_done ?_
        have HJ5 := Lib.hid (HJb.out.later HB5.out)
        revert HJ5 HQ5
        generalize (((W4.setCell ⟨q, 0, none⟩ (.int .u64 x0)).setCell ⟨q, 1, none⟩ (.int .i64 x1)).setCell ⟨q, 2, none⟩ (.int .u64 x2)) = W5
        intro HQ5 HJ5
        clear HB5 HQW4 HBW4 HY HY3 HQW3 HBW3
        by_cases hmc : mc = 0
        rotate_left
        · have hce := errV_code hmc
          rw [hce]
          have f1 := HJ5.out.res.frozen 0
          have f2 := HJ5.out.ok.frozen 0
          have r1 := HJ5.out.res.cell 0
          have r2 := HJ5.out.ok.cell 0
          simp at r1 r2
          have HJ6 := Lib.hid HJ5.out.bad
          have HNO := Lib.hid (HBAD.out hmc)
          clear hce
          gi_wp2_with fail
          exact ⟨HJ6.out.lp, .inr ⟨rfl, ⟨_, _, HJ6.out.put _⟩, HNO.out⟩⟩
        subst hmc
        obtain ⟨hme, hmp⟩ := HGOOD.out rfl
        have HME := Lib.hid hme
        have HMP := Lib.hid hmp
        simp only [errV_zero]
        have l0 := HJ5.out.box.cell 0
        have f0 := HJ5.out.box.frozen 0
        simp at l0
        have q0 := HQ5.out.cell 0
        have q1 := HQ5.out.cell 1
        have q2 := HQ5.out.cell 2
        simp at q0 q1 q2
        have H6 : Hid (Below W5.heap.size W5 (W5.alloc (.cells #[.int .u64 x0, .int .i64 x1, .int .u64 x2] 88))) := Lib.hid ((Below.refl _ _).alloc (Nat.le_refl _) _)
        have HJ6 := Lib.hid (HJ5.out.later H6.out)
        have HLV : Hid (Lv 3 (W5.alloc (.cells #[.int .u64 x0, .int .i64 x1, .int .u64 x2] 88)) (.slice (some ⟨W5.heap.size, 0, none⟩) 1 1) [[.int .u64 x0, .int .i64 x1, .int .u64 x2]]) := Lib.hid (Lv.lit1 (w := W5) [.int .u64 x0, .int .i64 x1, .int .u64 x2] 88)
        clear hme hmp
        gi_wp2_with (gi_at_builtin; refine wpListIn_append_elems markT rfl _ _ rfl rfl HJ6.out.own rfl HLV.out (by intro y hy; rw [List.mem_singleton] at hy; subst hy; simp [Value.oneCell']) (by simp only [maxLen, List.length_map, List.length_singleton, mksAt_len]; omega) (by simp only [List.length_map, List.length_singleton, mksAt_len]; omega) HJ6.out.lt ?_)
        intro v7 w7 ho7 hg7 hv7
        obtain ⟨A7, c7, hv7f, _, _⟩ := ho7.lv.form
        generalize (List.map mkCl (mksAt b 0 i) ++ [([.int .u64 x0, .int .i64 x1, .int .u64 x2] : List Value)]).length = L7 at hv7f
        subst hv7f
        have HJ7 := Lib.hid (HJ6.out.push ho7 hg7)
        have b7 : Blk w7 (w.heap.size + 3) 39 #[av] := (hg7.block _ (by have := HJ6.out.lt; have := HJ6.out.dz; omega) fun e => HJ6.out.own.ne_ (show w.heap.size + 3 < w2.heap.size + 2 by have := HJ6.out.dz; omega) e.symm).trans HJ6.out.box
        have f7 := b7.frozen 0
        have l7 := b7.cell 0
        simp at l7
        clear ho7 hg7 hv7 b7
        gi_wp2_with fail
        refine ⟨HJ7.out.lp, .inl ⟨rfl, ⟨.slice A7 L7 c7, ?_⟩, ?_⟩⟩
        · have := HJ7.out.put (rec .ready none)
          rw [mksAt_succ, Nat.zero_add, ← HSE.out, HME.out, List.map_append]
          exact this
        · rw [mksAt_succ, Nat.zero_add, ← HSE.out, HME.out]
          intro m hm
          rcases List.mem_append.1 hm with h | h
          · exact HALL.out m h
          · rw [List.mem_singleton] at h
            rw [h]
            exact HMP.out
    · refine mix4_step (o := ⟨_, _, _, _, _, _⟩) rfl (fun K hK => ?_)
      go_simp
      obtain ⟨W1, hW1⟩ : ∃ z, z = (Wb.alloc (.cells #[.int .u64 0, .int .i64 0, .int .u64 0] 88)).drew := ⟨_, rfl⟩
      obtain ⟨q, hq⟩ : ∃ z, z = Wb.heap.size := ⟨_, rfl⟩
      have HQW1 : Hid (Blk W1 q 88 #[.int .u64 0, .int .i64 0, .int .u64 0]) := Lib.hid (by rw [hW1, hq]; exact (Blk.new _ _ _).drewN 1)
      have HQG : Hid (Wb.heap.size ≤ q) := Lib.hid (by rw [hq]; exact Nat.le_refl _)
      have HBW1 : Hid (Below Wb.heap.size Wb W1) := Lib.hid (by rw [hW1]; exact ((Below.refl _ _).alloc (Nat.le_refl _) _).drew)
      try rw [← hW1]
      try rw [← hq]
      refine hK.out _ _ HBW1.out ?_
      clear hK K hW1 hq
      try simp only [Act.put, List.setIfInBounds_toArray, List.set_cons_zero, List.set_cons_succ]
      refine mix4_step (o := ⟨_, _, _, _, _, _⟩) rfl (fun K hK => ?_)
      go_simp
      refine (seal_any _ _ _ (by rw [HSL.out]; omega) (HSb.out.below HBW1.out)).mono ?_
      rintro e W3 ⟨y, rfl, hy, hb⟩
      have HBW3 : Hid (Below Wb.heap.size Wb W3) := Lib.hid (HBW1.out.trans (hb.mono HBW1.out.size))
      have HY := Lib.hid hy.bs
      refine hK.out _ _ HBW3.out ?_
      have HQW3 := Lib.hid (HQW1.out.below hb HQW1.out.lt)
      clear hK K hy hb
      try simp only [Act.put, List.setIfInBounds_toArray, List.set_cons_zero, List.set_cons_succ]
      refine mix4_step (o := ⟨_, _, _, _, _, _⟩) rfl (fun K hK => ?_)
      go_simp
      refine (mmarked_any _ (HY.out) (by rw [sealedOf_length, HSL.out]; omega)).mono ?_
      rintro e W4 ⟨rfl, hb⟩
      rw [mkX_chunk, HOF.out]
      simp only [mkV]
      have HBW4 : Hid (Below Wb.heap.size Wb W4) := Lib.hid (HBW3.out.trans (hb.mono HBW3.out.size))
      refine hK.out _ _ HBW4.out ?_
      have HQW4 := Lib.hid (HQW3.out.below hb HQW3.out.lt)
      clear hK K hb
      try simp only [Act.put, List.setIfInBounds_toArray, List.set_cons_zero, List.set_cons_succ]
      repeat
        (refine mix4_read (o := ⟨_, _, _, _, _, _⟩) (v := ?_) rfl (by rfl) (fun w' hU => ?_) ?_
         rotate_left
         have hU0 := HS.out _ hU
         go_simp
         with_reducible rfl
         try simp only [Act.put, List.setIfInBounds_toArray, List.set_cons_zero, List.set_cons_succ])
      refine mix4_step (o := ⟨_, _, _, _, _, _⟩) rfl (fun K hK => ?_)
      have hfz := fun i => HQW4.out.frozen i
      have z0 := HQW4.out.cell 0
      have z1 := HQW4.out.cell 1
      have z2 := HQW4.out.cell 2
      simp at z0 z1 z2
      go_simp
      have hm5 := setall3 q HQW4.out (.int .u64 x0) (.int .i64 x1) (.int .u64 x2)
      have hg5 := gset3 W4 q (.int .u64 x0) (.int .i64 x1) (.int .u64 x2)
      have HB5 : Hid (Below Wb.heap.size Wb (((W4.setCell ⟨q, 0, none⟩ (.int .u64 x0)).setCell ⟨q, 1, none⟩ (.int .i64 x1)).setCell ⟨q, 2, none⟩ (.int .u64 x2))) := Lib.hid (HBW4.out.grown hg5 HBW4.out.size fun r hr => by have := Option.some.inj hr; have := HQG.out; omega)
      have HQ5 := Lib.hid hm5
      refine hK.out _ _ HB5.out ?_
      clear hK K hm5 hg5 hfz z0 z1 z2
      try simp only [Act.put, List.setIfInBounds_toArray, List.set_cons_zero, List.set_cons_succ]
      repeat
        (refine mix4_read (o := ⟨_, _, _, _, _, _⟩) (v := ?_) rfl (by rfl) (fun w' hU => ?_) ?_
         rotate_left
         have hU0 := HS.out _ hU
         go_simp
         with_reducible rfl
         try simp only [Act.put, List.setIfInBounds_toArray, List.set_cons_zero, List.set_cons_succ])
      refine mix4_done ?_
      have HJ5 := Lib.hid (HJb.out.later HB5.out)
      revert HJ5 HQ5
      generalize (((W4.setCell ⟨q, 0, none⟩ (.int .u64 x0)).setCell ⟨q, 1, none⟩ (.int .i64 x1)).setCell ⟨q, 2, none⟩ (.int .u64 x2)) = W5
      intro HQ5 HJ5
      clear HB5 HQW4 HBW4 HY HQW3 HBW3 HQW1 HBW1
      by_cases hmc : mc = 0
      rotate_left
      · have hce := errV_code hmc
        rw [hce]
        have f1 := HJ5.out.res.frozen 0
        have f2 := HJ5.out.ok.frozen 0
        have r1 := HJ5.out.res.cell 0
        have r2 := HJ5.out.ok.cell 0
        simp at r1 r2
        have HJ6 := Lib.hid HJ5.out.bad
        have HNO := Lib.hid (HBAD.out hmc)
        clear hce
        gi_wp2_with fail
        exact ⟨HJ6.out.lp, .inr ⟨rfl, ⟨_, _, HJ6.out.put _⟩, HNO.out⟩⟩
      subst hmc
      obtain ⟨hme, hmp⟩ := HGOOD.out rfl
      have HME := Lib.hid hme
      have HMP := Lib.hid hmp
      simp only [errV_zero]
      have l0 := HJ5.out.box.cell 0
      have f0 := HJ5.out.box.frozen 0
      simp at l0
      have q0 := HQ5.out.cell 0
      have q1 := HQ5.out.cell 1
      have q2 := HQ5.out.cell 2
      simp at q0 q1 q2
      have H6 : Hid (Below W5.heap.size W5 (W5.alloc (.cells #[.int .u64 x0, .int .i64 x1, .int .u64 x2] 88))) := Lib.hid ((Below.refl _ _).alloc (Nat.le_refl _) _)
      have HJ6 := Lib.hid (HJ5.out.later H6.out)
      have HLV : Hid (Lv 3 (W5.alloc (.cells #[.int .u64 x0, .int .i64 x1, .int .u64 x2] 88)) (.slice (some ⟨W5.heap.size, 0, none⟩) 1 1) [[.int .u64 x0, .int .i64 x1, .int .u64 x2]]) := Lib.hid (Lv.lit1 (w := W5) [.int .u64 x0, .int .i64 x1, .int .u64 x2] 88)
      clear hme hmp
      gi_wp2_with (gi_at_builtin; refine wpListIn_append_elems markT rfl _ _ rfl rfl HJ6.out.own rfl HLV.out (by intro y hy; rw [List.mem_singleton] at hy; subst hy; simp [Value.oneCell']) (by simp only [maxLen, List.length_map, List.length_singleton, mksAt_len]; omega) (by simp only [List.length_map, List.length_singleton, mksAt_len]; omega) HJ6.out.lt ?_)
      intro v7 w7 ho7 hg7 hv7
      obtain ⟨A7, c7, hv7f, _, _⟩ := ho7.lv.form
      generalize (List.map mkCl (mksAt b 0 i) ++ [([.int .u64 x0, .int .i64 x1, .int .u64 x2] : List Value)]).length = L7 at hv7f
      subst hv7f
      have HJ7 := Lib.hid (HJ6.out.push ho7 hg7)
      have b7 : Blk w7 (w.heap.size + 3) 39 #[av] := (hg7.block _ (by have := HJ6.out.lt; have := HJ6.out.dz; omega) fun e => HJ6.out.own.ne_ (show w.heap.size + 3 < w2.heap.size + 2 by have := HJ6.out.dz; omega) e.symm).trans HJ6.out.box
      have f7 := b7.frozen 0
      have l7 := b7.cell 0
      simp at l7
      clear ho7 hg7 hv7 b7
      gi_wp2_with fail
      refine ⟨HJ7.out.lp, .inl ⟨rfl, ⟨.slice A7 L7 c7, ?_⟩, ?_⟩⟩
      · have := HJ7.out.put (rec .ready none)
        rw [mksAt_succ, Nat.zero_add, ← HSE.out, HME.out, List.map_append]
        exact this
      · rw [mksAt_succ, Nat.zero_add, ← HSE.out, HME.out]
        intro m hm
        rcases List.mem_append.1 hm with h | h
        · exact HALL.out m h
        · rw [List.mem_singleton] at h
          rw [h]
          exact HMP.out
  · rintro e W' ⟨⟨v', rfl⟩, ⟨⟨av, hJ⟩, hall⟩ | ⟨⟨av, xs, hJ⟩, hno⟩⟩
    · refine ⟨v', none, rfl, hJ.lp, ?_⟩
      have HJ := Lib.hid (hJ.put (rec .exhausted none))
      have HALL := Lib.hid hall
      clear hJ hall hJ0 hdf hlp hb3
      revert HJ
      generalize W'.putObj (w2.heap.size + 1) (.loop (rec .exhausted none)) = We
      intro HJ
      obtain ⟨Aa, ca, hav, _, _⟩ := HJ.out.own.lv.form
      generalize (List.map mkCl (mksAt b 0 n)).length = La at hav
      subst hav
      have l0 := HJ.out.box.cell 0
      have f1 := HJ.out.res.frozen 0
      have f2 := HJ.out.ok.frozen 0
      have r1 := HJ.out.res.cell 0
      have r2 := HJ.out.ok.cell 0
      simp at l0 r1 r2
      dsimp only [Exit.inBlock, Exit.then]
      go_wp2_with fail
      obtain ⟨d1, d2, d3, d4, d5⟩ := HJ.out.done (.slice Aa La ca) true
      exact marks_ret1 (v := .tuple #[.slice Aa La ca, .bool true]) (by simp [results, go_sem, d3, d4]; try rfl) rfl d1 ⟨d2, .inl ⟨_, rfl, d5.lower (by have := HJ.out.dz; omega), HALL.out⟩⟩
    · refine ⟨v', some .ret, rfl, hJ.lp, ?_⟩
      dsimp only
      have HJ := Lib.hid (hJ.put (rec .exhausted (some .ret)))
      have HNO := Lib.hid hno
      clear hJ hno hJ0 hdf hlp hb3
      revert HJ
      generalize W'.putObj (w2.heap.size + 1) (.loop (rec .exhausted (some .ret))) = We
      intro HJ
      go_wp2_with fail
      obtain ⟨d1, d2, d3, d4⟩ := HJ.out.doneBad
      exact marks_ret1 (v := .tuple #[.slice none 0 0, .bool false]) (by simp [results, go_sem, d3, d4]; try rfl) rfl d1 ⟨d2, .inr ⟨rfl, HNO.out⟩⟩

theorem mesAt_cut (b : List UInt8) (p n : Nat) : mesAt ((b.drop p).take (n * 31)) 0 n = mesAt b p n := by
  unfold mesAt
  refine List.map_congr_left fun i hi => ?_
  have hi := List.mem_range.1 hi
  rw [Nat.zero_add, List.drop_take, List.take_take, List.drop_drop, Nat.min_eq_left (by omega)]

theorem mksAt_cut (b : List UInt8) (p n : Nat) : mksAt ((b.drop p).take (n * 24)) 0 n = mksAt b p n := by
  unfold mksAt
  refine List.map_congr_left fun i hi => ?_
  have hi := List.mem_range.1 hi
  rw [Nat.zero_add, List.drop_take, List.take_take, List.drop_drop, Nat.min_eq_left (by omega)]

theorem rpb_M' {w : World} {A : Option Addr} {L c n : Nat} {b : List UInt8} (hv : Bs w (.slice A L c) b) (hb : b.length = n * 31) (hn : n ≤ 65535) :
    Calls Tryz.prog 94 #[.slice A L c, .int .i64 31, .func (.func 72) #[] #[]] w fun e w' => ∃ A' L' c' ok, e = .returned (.tuple #[.slice A' L' c', .bool ok]) ∧ Below w.heap.size w w' ∧
      (ok = true → OwnL 6 w' w.heap.size 84 (.slice A' L' c') ((mesAt b 0 n).map meCl) ∧ ∀ m ∈ mesAt b 0 n, meP m) ∧ (ok = false → ¬ ∀ m ∈ mesAt b 0 n, meP m) := by
  refine (rpb_M hv hb hn).mono ?_
  rintro e w' ⟨hb, ⟨a, rfl, h1, h2⟩ | ⟨rfl, h1⟩⟩
  · obtain ⟨A', c', rfl, _, _⟩ := h1.lv.form
    exact ⟨_, _, _, true, rfl, hb, fun _ => ⟨h1, h2⟩, fun h => by cases h⟩
  · exact ⟨_, _, _, false, rfl, hb, (fun h => by cases h), fun _ => h1⟩

theorem rpb_K' {w : World} {A : Option Addr} {L c n : Nat} {b : List UInt8} (hv : Bs w (.slice A L c) b) (hb : b.length = n * 24) (hn : n ≤ 65535) :
    Calls Tryz.prog 95 #[.slice A L c, .int .i64 24, .func (.func 74) #[] #[]] w fun e w' => ∃ A' L' c' ok, e = .returned (.tuple #[.slice A' L' c', .bool ok]) ∧ Below w.heap.size w w' ∧
      (ok = true → OwnL 3 w' w.heap.size 88 (.slice A' L' c') ((mksAt b 0 n).map mkCl) ∧ ∀ m ∈ mksAt b 0 n, mkP m) ∧ (ok = false → ¬ ∀ m ∈ mksAt b 0 n, mkP m) := by
  refine (rpb_K hv hb hn).mono ?_
  rintro e w' ⟨hb, ⟨a, rfl, h1, h2⟩ | ⟨rfl, h1⟩⟩
  · obtain ⟨A', c', rfl, _, _⟩ := h1.lv.form
    exact ⟨_, _, _, true, rfl, hb, fun _ => ⟨h1, h2⟩, fun h => by cases h⟩
  · exact ⟨_, _, _, false, rfl, hb, (fun h => by cases h), fun _ => h1⟩

def ParseOk (b : List UInt8) (B : Nat) (w' : World) (e : Ending) : Prop := ∃ (a k : Value) (n m : Nat), e = .returned (.tuple #[roV a k, .bool true]) ∧ num (b.take 2) = n ∧ num ((b.drop 2).take 2) = m ∧ 4 ≤ b.length ∧ b.length = 4 + 31 * n + 24 * m ∧
  OwnL 6 w' B 84 a ((mesAt b 4 n).map meCl) ∧ OwnL 3 w' B 88 k ((mksAt b (4 + 31 * n) m).map mkCl) ∧ (∀ x ∈ mesAt b 4 n, meP x) ∧ ∀ x ∈ mksAt b (4 + 31 * n) m, mkP x

def ParseNo (b : List UInt8) (e : Ending) : Prop := ∃ A L c B M d, e = .returned (.tuple #[roV (.slice A L c) (.slice B M d), .bool false]) ∧ rosOf b = (2, [], [])

set_option maxHeartbeats 12800000 in
theorem rparse_any {w : World} {A : Option Addr} {L c : Nat} {b : List UInt8} (hv : Bs w (.slice A L c) b) (hl : b.length ≤ 100000000) :
    Calls Tryz.prog 52 #[.slice A L c] w fun e w' => Below w.heap.size w w' ∧ (ParseOk b w.heap.size w' e ∨ ParseNo b e) := by
  have hb0 : Below w.heap.size w (w.alloc (.cells #[.slice none 0 0, .slice none 0 0] 41)) := (Below.refl _ _).alloc (Nat.le_refl _) _
  have HR0 : Hid (Blk (w.alloc (.cells #[.slice none 0 0, .slice none 0 0] 41)) w.heap.size 41 #[.slice none 0 0, .slice none 0 0]) := Lib.hid (Blk.new _ _ _)
  have HB0 := Lib.hid hb0
  have hread := read_any _ b _ (hv.below hb0)
  obtain ⟨A', c', hv', hc1, hc2, _⟩ := id hv
  injection hv' with e1 e2 e3
  subst e1 e3
  have HL : Hid (L = b.length) := Lib.hid e2
  have hL8 : L ≤ 100000000 := by omega
  have HBX := Lib.hid fun (u : World) (hu : Below w.heap.size w u) => hv.below hu
  clear hb0 e2
  go_enter Tryz.func52, Tryz.ntmps52
  go_wp2_with fail
  revert HR0 HB0 hread
  generalize w.alloc (.cells #[.slice none 0 0, .slice none 0 0] 41) = w0
  intro HR0 HB0 hread
  refine hread.mono ?_
  rintro e w1 ⟨rfl, hW1, hb1⟩
  have HB1 := Lib.hid (HB0.out.trans (hb1.mono HB0.out.size))
  have HR1 := Lib.hid (HR0.out.below hb1 HR0.out.lt)
  have HG : Hid (w.heap.size < w0.heap.size) := Lib.hid HR0.out.lt
  have HW1 := Lib.hid hW1
  have hC := word_all _ _ b 0 false 2 _ hW1
  clear hread hb1 hW1 HR0 HB0
  revert HR1 HB1 HG HW1 hC
  generalize w0.heap.size = g0
  intro HB1 HR1 HG HW1 hC
  obtain ⟨n, hn⟩ : ∃ n, n = wOut b 0 false 2 := ⟨_, rfl⟩
  have hn16 : n < 65536 := by rw [hn]; exact wOut2_lt b
  rw [← hn] at hC
  have hwn : IntKind.i64.wrap (n : Int) = (n : Int) := IntWalk.i64_in _ (by omega)
  go_wp2_with fail
  refine hC.mono ?_
  rintro e w2 ⟨rfl, hW2, hg2⟩
  have HW2 := Lib.hid hW2
  have HR2 := Lib.hid (HR1.out.grown hg2 (fun h => by injection h with h; have := HG.out; omega))
  have HB2 := Lib.hid (HB1.out.grown hg2 HB1.out.size (by intro z hz; injection hz with hz; have := HG.out; omega))
  have hC2 := word_all _ _ b _ _ 2 _ hW2
  clear hC hW2 hg2 HR1 HB1 HW1
  by_cases h4 : b.length < 4
  · have HX : Hid (rosOf b = (2, [], [])) := Lib.hid (rosOf_no fun h => by omega)
    have hno : wordOk b (wNext b 0 false 2) (!wordOk b 0 false 2) 2 = false := by
      unfold wNext
      cases hk : wordOk b 0 false 2 with
      | false => simp [wordOk]
      | true =>
        simp only [if_true, wordOk, Bool.not_true, Bool.not_false, Bool.true_and, isW]
        have : ¬ ((2 : Int) ≤ (b.length : Int) - ((0 + Int.toNat 2 : Nat) : Int)) := by
          have : (0 + Int.toNat 2 : Nat) = 2 := rfl
          omega
        rw [decide_eq_false this, Bool.and_false]
    rw [hno] at hC2
    generalize wOut b (wNext b 0 false 2) (!wordOk b 0 false 2) 2 = n2 at hC2
    generalize wNext b (wNext b 0 false 2) (!wordOk b 0 false 2) 2 = p2 at hC2
    clear hno hn
    go_wp2_with fail
    refine hC2.mono ?_
    rintro e w3 ⟨rfl, hW3, hg3⟩
    have HR3 := Lib.hid (HR2.out.grown hg3 (fun h => by injection h with h; have := HG.out; omega))
    have HB3 := Lib.hid (HB2.out.grown hg3 HB2.out.size (by intro z hz; injection hz with hz; have := HG.out; omega))
    have hbad := bad_any _ _ b _ _ _ hW3
    have hp0 : (0 : Int) ≤ (p2 : Int) := by omega
    simp only [Bool.not_false, if_true] at hbad
    clear hC2 hW3 hg3 HR2 HB2 HW2
    go_wp2_with fail
    refine hbad.mono ?_
    rintro e w4 ⟨rfl, rfl⟩
    have r0 := HR3.out.cell 0
    have r1 := HR3.out.cell 1
    have f0 := HR3.out.frozen 0
    have f1 := HR3.out.frozen 1
    simp at r0 r1
    clear hbad
    go_wp2_with fail
    have hm2 := (HR3.out.set_ 0 (.slice none 0 0)).set_ 1 (.slice none 0 0)
    have hg2 := grown_trans (grown_set w3 w.heap.size 0 (.slice none 0 0)) (grown_set _ w.heap.size 1 (.slice none 0 0))
    refine bodyPost_ret (v := .tuple #[roV (.slice none 0 0) (.slice none 0 0), .bool false]) (by have c := hm2.cell; simp [results, Tryz.results52, go_sem, c]; try rfl) rfl ?_
    exact ⟨HB3.out.grown hg2 HB3.out.size (by intro z hz; injection hz; omega), .inr ⟨_, _, _, _, _, _, rfl, HX.out⟩⟩
  have hok1 : wordOk b 0 false 2 = true := by simp [wordOk, isW]; omega
  have hnx : wNext b 0 false 2 = 2 := by rw [wNext, if_pos hok1]; rfl
  rw [hok1, hnx] at hC2
  have hok2 : wordOk b 2 (!true) 2 = true := by simp [wordOk, isW]; omega
  have hnx2 : wNext b 2 (!true) 2 = 4 := by rw [wNext, if_pos hok2]; rfl
  rw [hok2, hnx2] at hC2
  obtain ⟨m, hm⟩ : ∃ m, m = wOut b 2 (!true) 2 := ⟨_, rfl⟩
  rw [← hm] at hC2
  have hn2 : num (b.take 2) = n := by rw [hn, wOut, if_pos hok1]; rfl
  have hm2 : num ((b.drop 2).take 2) = m := by rw [hm, wOut, if_pos hok2]; rfl
  have hm16 : m < 65536 := by rw [← hm2]; exact num_take_le _ 2
  have hwm : IntKind.i64.wrap (m : Int) = (m : Int) := IntWalk.i64_in _ (by omega)
  have HN := Lib.hid hn2
  have HM := Lib.hid hm2
  clear hok1 hnx hok2 hnx2 hm hn hn2 hm2 HW2
  go_wp2_with fail
  refine hC2.mono ?_
  rintro e w3 ⟨rfl, hW3, hg3⟩
  have HR3 := Lib.hid (HR2.out.grown hg3 (fun h => by injection h with h; have := HG.out; omega))
  have HB3 := Lib.hid (HB2.out.grown hg3 HB2.out.size (by intro z hz; injection hz with hz; have := HG.out; omega))
  have hbad := bad_any _ _ b _ _ _ hW3
  have HW3 := Lib.hid hW3
  simp only [Bool.not_true, Bool.false_eq_true, if_false] at hbad
  clear hC2 hg3 HR2 HB2 hW3
  go_wp2_with fail
  refine hbad.mono ?_
  rintro e w4 ⟨rfl, rfl⟩
  have hleft := left_any _ _ b _ _ _ HW3.out
  rw [← HL.out] at hleft
  have hw1 : IntKind.i64.wrap ((n : Int) * 31) = (n : Int) * 31 := IntWalk.i64_in _ (by omega)
  have hw2 : IntKind.i64.wrap ((m : Int) * 24) = (m : Int) * 24 := IntWalk.i64_in _ (by omega)
  have hw3 : IntKind.i64.wrap ((n : Int) * 31 + (m : Int) * 24) = (n : Int) * 31 + (m : Int) * 24 := IntWalk.i64_in _ (by omega)
  clear hbad
  go_wp2_with fail
  refine hleft.mono ?_
  rintro e w4 ⟨rfl, nq1, rfl⟩
  have HR4 := Lib.hid (HR3.out.drewN nq1)
  have HB4 := Lib.hid (below_drewN HB3.out nq1)
  clear hleft HR3 HB3 HW3
  by_cases hlen : L = 4 + 31 * n + 24 * m
  rotate_left
  · have hne : ((L : Int) - ((4 : Nat) : Int) != (n : Int) * 31 + (m : Int) * 24) = true := by
      rw [bne_iff_ne]
      omega
    have HX : Hid (rosOf b = (2, [], [])) := Lib.hid (rosOf_no fun h => hlen (by
      have := h.2.1
      rw [HN.out, HM.out, ← HL.out] at this
      exact this))
    have r0 := HR4.out.cell 0
    have r1 := HR4.out.cell 1
    have f0 := HR4.out.frozen 0
    have f1 := HR4.out.frozen 1
    simp at r0 r1
    clear hlen
    go_wp2_with fail
    have hm2 := (HR4.out.set_ 0 (.slice none 0 0)).set_ 1 (.slice none 0 0)
    have hg2 := grown_trans (grown_set (w3.drewN nq1) w.heap.size 0 (.slice none 0 0)) (grown_set _ w.heap.size 1 (.slice none 0 0))
    refine bodyPost_ret (v := .tuple #[roV (.slice none 0 0) (.slice none 0 0), .bool false]) (by have c := hm2.cell; simp [results, Tryz.results52, go_sem, c]; try rfl) rfl ?_
    exact ⟨HB4.out.grown hg2 HB4.out.size (by intro z hz; injection hz; omega), .inr ⟨_, _, _, _, _, _, rfl, HX.out⟩⟩
  have hne : ((L : Int) - ((4 : Nat) : Int) != (n : Int) * 31 + (m : Int) * 24) = false := by
    rw [bne_eq_false_iff_eq]
    omega
  obtain ⟨A0, c0, e0, h1', h2', hr'⟩ := HBX.out _ HB4.out
  injection e0 with e1 e2 e3
  subst e1 e3
  rw [← e2] at h1'
  obtain ⟨V1, hs1, hV1, _⟩ := slice_bytes_from (P := Tryz.prog) (w3.drewN nq1) byteT elemB hr' (by omega) h2' 4 (by omega) 4 rfl
  rw [← e2] at hs1
  obtain ⟨A1, c1, rfl, q1, q2, hr1⟩ := hV1
  obtain ⟨L1, hL1⟩ : ∃ z, z = (b.drop 4).length := ⟨_, rfl⟩
  have hL1' : L1 = 31 * n + 24 * m := by rw [hL1, List.length_drop]; omega
  obtain ⟨V2, hs2, hV2, _⟩ := slice_bytes_to (P := Tryz.prog) (w3.drewN nq1) byteT elemB hr1 q1 q2 (n * 31) (by omega) ((n : Int) * 31) (by omega)
  obtain ⟨V3, hs3, hV3, _⟩ := slice_bytes_from (P := Tryz.prog) (w3.drewN nq1) byteT elemB hr1 q1 q2 (n * 31) (by omega) ((n : Int) * 31) (by omega)
  have hl2 : ((b.drop 4).take (n * 31)).length = n * 31 := by rw [List.length_take]; omega
  have hl3 : ((b.drop 4).drop (n * 31)).length = m * 24 := by rw [List.length_drop]; omega
  rw [← hL1] at hs1 hs2 hs3
  have HV2 := Lib.hid hV2
  have HV3 := Lib.hid hV3
  obtain ⟨A2, c2, rfl, _, _, _⟩ := hV2
  obtain ⟨A3, c3, rfl, _, _, _⟩ := hV3
  rw [hl2] at hs2 HV2
  rw [hl3] at hs3 HV3
  obtain ⟨L2, hL2⟩ : ∃ z, z = n * 31 := ⟨_, rfl⟩
  obtain ⟨L3, hL3⟩ : ∃ z, z = m * 24 := ⟨_, rfl⟩
  rw [← hL2] at hs2
  rw [← hL3] at hs3
  have HL2 := Lib.hid hL2
  have HL3 := Lib.hid hL3
  have HLL2 := Lib.hid hl2
  have HLL3 := Lib.hid hl3
  have HLN := Lib.hid hlen
  have hd1 : (n : Int) * 31 ≤ (L1 : Int) := by omega
  have hd0 : (0 : Int) ≤ (n : Int) * 31 := by omega
  have h4L : (4 : Int) ≤ (L : Int) := by omega
  rw [← hL2] at HV2
  rw [← hL3] at HV3
  clear hl2 hl3 hL2 hL3 hL1 hL1' hr' hr1 q1 q2 h1' hlen hc1 e2
  go_wp2_with fail
  go_quiet (fail)
  obtain ⟨w4, hw4⟩ : ∃ z, z = (w3.drewN nq1).drewN nq := ⟨_, rfl⟩
  have HR5 : Hid (Blk w4 w.heap.size 41 #[.slice none 0 0, .slice none 0 0]) := Lib.hid (by rw [hw4]; exact HR4.out.drewN nq)
  have HB5 : Hid (Below w.heap.size w w4) := Lib.hid (by rw [hw4]; exact below_drewN HB4.out nq)
  have hV2 : Bs w4 (.slice A2 L2 c2) ((b.drop 4).take (n * 31)) := by rw [hw4]; have := HV2.out.drewN nq; rw [HL2.out] at this ⊢; exact this
  have hV3 : Bs w4 (.slice A3 L3 c3) ((b.drop 4).drop (n * 31)) := by rw [hw4]; exact HV3.out.drewN nq
  have HV3' := Lib.hid hV3
  have hp1 := rpb_M' hV2 HLL2.out (by omega)
  have HG5 : Hid (w.heap.size < w4.heap.size) := Lib.hid HR5.out.lt
  rw [← hw4]
  clear hw4 hV2 hV3 HV2 HV3 HR4 HB4 hs1 hs2 hs3
  go_wp2_with fail
  refine hp1.mono ?_
  rintro e w5 ⟨Ax, Lx, cx, ok1, rfl, hb5, hy1, hn1⟩
  have HY1 := Lib.hid hy1
  have HN1 := Lib.hid hn1
  have HR6 := Lib.hid (HR5.out.below hb5 HR5.out.lt)
  have HB6 := Lib.hid (HB5.out.trans (hb5.mono HB5.out.size))
  have HZ : Hid (w.heap.size < w4.heap.size ∧ w4.heap.size ≤ w5.heap.size) := Lib.hid ⟨HG5.out, hb5.size⟩
  have hp2 := rpb_K' (HV3'.out.below hb5) HLL3.out (by omega)
  clear hp1 hy1 hn1 hb5 HR5 HB5 HV3'
  go_wp2_with fail
  refine hp2.mono ?_
  rintro e w6 ⟨Ay, Ly, cy, ok2, rfl, hb6, hy2, hn2⟩
  have HY2 := Lib.hid hy2
  have HN2 := Lib.hid hn2
  have HR7 := Lib.hid (HR6.out.below hb6 HR6.out.lt)
  have HB7 := Lib.hid (HB6.out.trans (hb6.mono HB6.out.size))
  have HY3 : Hid (ok1 = true → OwnL 6 w6 w4.heap.size 84 (.slice Ax Lx cx) ((mesAt ((b.drop 4).take (n * 31)) 0 n).map meCl) ∧ ∀ m ∈ mesAt ((b.drop 4).take (n * 31)) 0 n, meP m) := Lib.hid fun h => ⟨(HY1.out h).1.below hb6, (HY1.out h).2⟩
  have r0 := HR7.out.cell 0
  have r1 := HR7.out.cell 1
  have f0 := HR7.out.frozen 0
  have f1 := HR7.out.frozen 1
  simp at r0 r1
  clear hp2 hy2 hn2 hb6 HR6 HB6 HY1
  have E1 : Hid (mesAt ((b.drop 4).take (n * 31)) 0 n = mesAt b 4 n) := Lib.hid (mesAt_cut b 4 n)
  have E2 : Hid (mksAt ((b.drop 4).drop (n * 31)) 0 m = mksAt b (4 + 31 * n) m) := Lib.hid (by
    have h1 := mksAt_cut b (4 + 31 * n) m
    have h2 : (b.drop (4 + 31 * n)).take (m * 24) = (b.drop 4).drop (n * 31) := by
      rw [List.drop_drop, Nat.mul_comm n 31]
      refine List.take_of_length_le ?_
      rw [List.length_drop]
      have h3 := HLN.out
      have h4 := HL.out
      omega
    rw [h2] at h1
    exact h1)
  have HNO1 : Hid (ok1 = false → rosOf b = (2, [], [])) := Lib.hid fun h => rosOf_no fun hh => HN1.out h (by
    have h1 := hh.2.2.may
    rw [HN.out] at h1
    rw [E1.out]
    exact h1)
  have HNO2 : Hid (ok2 = false → rosOf b = (2, [], [])) := Lib.hid fun h => rosOf_no fun hh => HN2.out h (by
    have h1 := hh.2.2.fair
    rw [HN.out, HM.out] at h1
    rw [E2.out]
    exact h1)
  have hm2 := (HR7.out.set_ 0 (.slice Ax Lx cx)).set_ 1 (.slice Ay Ly cy)
  have hg2 := grown_trans (grown_set w6 w.heap.size 0 (.slice Ax Lx cx)) (grown_set _ w.heap.size 1 (.slice Ay Ly cy))
  have HM2 := Lib.hid hm2
  have HG2 := Lib.hid hg2
  clear hm2 hg2
  cases ok1 with
  | false =>
    go_wp2_with fail
    refine bodyPost_ret (v := .tuple #[roV (.slice Ax Lx cx) (.slice Ay Ly cy), .bool false]) (by have c := HM2.out.cell; simp [results, Tryz.results52, go_sem, c]; try rfl) rfl ?_
    exact ⟨HB7.out.grown HG2.out HB7.out.size (by intro z hz; injection hz; omega), .inr ⟨_, _, _, _, _, _, rfl, HNO1.out (by first | rfl | trivial)⟩⟩
  | true =>
    go_wp2_with fail
    refine bodyPost_ret (v := .tuple #[roV (.slice Ax Lx cx) (.slice Ay Ly cy), .bool ok2]) (by have c := HM2.out.cell; simp [results, Tryz.results52, go_sem, c]; try rfl) rfl ?_
    refine ⟨HB7.out.grown HG2.out HB7.out.size (by intro z hz; injection hz; omega), ?_⟩
    cases ok2 with
    | false => exact .inr ⟨_, _, _, _, _, _, rfl, HNO2.out (by first | rfl | trivial)⟩
    | true =>
      have h1 := HY3.out (by first | rfl | trivial)
      have h2 := HY2.out (by first | rfl | trivial)
      rw [E1.out] at h1
      rw [E2.out] at h2
      have h3 := HLN.out
      have h4 := HL.out
      have HZ5 := HZ.out
      have h5 := h1.1.kept HG2.out (.inr (h1.1.ne_ (by omega)))
      have h6 := h2.1.kept HG2.out (.inr (h2.1.ne_ (by omega)))
      exact .inl ⟨_, _, n, m, rfl, HN.out, HM.out, by omega, by omega, h5.lower (by omega), h6.lower (by omega), h1.2, h2.2⟩

end Go.Proofs.YtmlemclehfdneaaGreatDoor
