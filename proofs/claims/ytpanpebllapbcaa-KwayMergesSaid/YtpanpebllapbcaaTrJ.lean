/-
  CONTRACT of the document's Group. Condition: at most 1000000 spans.
-/
import Derived.Test.YtpanpebllapbcaaTrI
namespace Go.Proofs.Ytpanpebllapbcaa
open Go.RowKit
set_option maxRecDepth 100000


/-- what the document has grouped behind l's first i -/
structure Gro (l : List Sn) (i : Nat) (r : List Tn) : Prop where
  up : r.Pairwise fun a b => a.id < b.id
  sp : ∀ t ∈ r, Gat (ofT l t.id) t.sp
  ids : ∀ x, (∃ t, t ∈ r ∧ t.id = x) ↔ ∃ j s, j < i ∧ l[j]? = some s ∧ s.tr = x

theorem Gro.zero (l : List Sn) : Gro l 0 [] := ⟨List.Pairwise.nil, fun t h => (by cases h), fun x => by simp⟩
theorem Gro.done {l : List Sn} {r : List Tn} (h : Gro l l.length r) : Grp l r := by
  refine ⟨h.up, h.sp, fun x => (h.ids x).trans ⟨fun ⟨j, s, _, h2, h3⟩ => ⟨s, List.mem_of_getElem? h2, h3⟩, fun ⟨s, hs, h3⟩ => ?_⟩⟩
  obtain ⟨j, hj⟩ := List.mem_iff_getElem?.1 hs
  exact ⟨j, s, (List.getElem?_eq_some_iff.1 hj).1, hj, h3⟩
theorem ids_succ {l : List Sn} {i : Nat} {s : Sn} (hs : l[i]? = some s) (x : Int) : (∃ j s, j < i + 1 ∧ l[j]? = some s ∧ s.tr = x) ↔ (∃ j s, j < i ∧ l[j]? = some s ∧ s.tr = x) ∨ s.tr = x := by
  constructor
  · rintro ⟨j, t, h1, h2, h3⟩
    rcases Nat.lt_or_eq_of_le (Nat.le_of_lt_succ h1) with h4 | h4
    · exact .inl ⟨j, t, h4, h2, h3⟩
    · subst h4
      rw [hs] at h2
      injection h2 with h2
      subst h2
      exact .inr h3
  · rintro (⟨j, t, h1, h2, h3⟩ | h)
    · exact ⟨j, t, by omega, h2, h3⟩
    · exact ⟨i, s, by omega, hs, h⟩
theorem Gro.skip {l : List Sn} {i : Nat} {r : List Tn} {s : Sn} (h : Gro l i r) (hs : l[i]? = some s) {t : Tn} (ht : t ∈ r) (he : t.id = s.tr) : Gro l (i + 1) r := by
  refine ⟨h.up, h.sp, fun x => ?_⟩
  rw [ids_succ hs, ← h.ids]
  constructor
  · exact fun h => .inl h
  · rintro (h | h)
    · exact h
    · exact ⟨t, ht, he.trans h⟩
theorem Gro.put {l : List Sn} {i m : Nat} {r : List Tn} {s : Sn} (h : Gro l i r) (hs : l[i]? = some s) {q : List Sn} (hq : Gat (ofT l s.tr) q) (h1 : ∀ x ∈ r.take m, x.id < s.tr) (h2 : ∀ x ∈ r.drop m, s.tr < x.id) : Gro l (i + 1) (r.take m ++ [⟨s.tr, q⟩] ++ r.drop m) := by
  have hup := h.up
  rw [← List.take_append_drop m r, List.pairwise_append] at hup
  have hm : ∀ t, t ∈ r.take m ++ [(⟨s.tr, q⟩ : Tn)] ++ r.drop m ↔ t ∈ r ∨ t = ⟨s.tr, q⟩ := by
    intro t
    have : t ∈ r ↔ t ∈ r.take m ∨ t ∈ r.drop m := by rw [← List.mem_append, List.take_append_drop]
    rw [this]
    simp only [List.mem_append, List.mem_singleton]
    constructor
    · rintro ((h | h) | h)
      · exact .inl (.inl h)
      · exact .inr h
      · exact .inl (.inr h)
    · rintro ((h | h) | h)
      · exact .inl (.inl h)
      · exact .inr h
      · exact .inl (.inr h)
  refine ⟨?_, fun t ht => ?_, fun x => ?_⟩
  · rw [List.pairwise_append, List.pairwise_append]
    refine ⟨⟨hup.1, by simp, fun a ha b hb => ?_⟩, hup.2.1, fun a ha b hb => ?_⟩
    · simp at hb
      subst hb
      exact h1 a ha
    · rcases List.mem_append.1 ha with ha | ha
      · exact hup.2.2 a ha b hb
      · simp at ha
        subst ha
        exact h2 b hb
  · rcases (hm t).1 ht with ht | rfl
    · exact h.sp t ht
    · exact hq
  · rw [ids_succ hs, ← h.ids]
    constructor
    · rintro ⟨t, ht, he⟩
      rcases (hm t).1 ht with ht | rfl
      · exact .inl ⟨t, ht, he⟩
      · exact .inr he
    · rintro (⟨t, ht, he⟩ | he)
      · exact ⟨t, (hm t).2 (.inl ht), he⟩
      · exact ⟨_, (hm _).2 (.inr rfl), he⟩
theorem Gro.len {l : List Sn} {i : Nat} {r : List Tn} (h : Gro l i r) : r.length ≤ l.length := by
  have hs : ∀ t ∈ r, ∃ s, s ∈ l ∧ s.tr = t.id := fun t ht => by
    obtain ⟨j, s, _, h2, h3⟩ := (h.ids t.id).1 ⟨t, ht, rfl⟩
    exact ⟨s, List.mem_of_getElem? h2, h3⟩
  have hup := h.up
  clear h
  -- r's Ids are among l's Traces, each once
  have key : ∀ (r : List Tn) (l : List Int), r.Pairwise (fun a b => a.id < b.id) → (∀ t ∈ r, t.id ∈ l) → r.length ≤ l.length := by
    intro r
    induction r with
    | nil => intro l _ _; simp
    | cons t r ih =>
      intro l hup hs
      rw [List.pairwise_cons] at hup
      obtain ⟨p, q, rfl⟩ := List.append_of_mem (hs t (List.mem_cons_self ..))
      have := ih (p ++ q) hup.2 fun u hu => by
        have h1 := hup.1 u hu
        rcases List.mem_append.1 (hs u (List.mem_cons_of_mem _ hu)) with h2 | h2
        · exact List.mem_append_left _ h2
        · rcases List.mem_cons.1 h2 with h3 | h3
          · omega
          · exact List.mem_append_right _ h3
      simp only [List.length_append, List.length_cons] at this ⊢
      omega
  have := key r (l.map (·.tr)) hup fun t ht => by
    obtain ⟨s, hs, he⟩ := hs t ht
    exact List.mem_map.2 ⟨s, hs, he⟩
  simpa using this

theorem trE : Try.prog.elem 25 = 37 := by kernel_rfl

/-- l[:m] and l[m:], traces -/
theorem ts_cut {w : World} {A : Option Addr} {n c : Nat} {l : List Tn} (h : Ts w (.slice A n c) l) (m : Nat) (hm : m ≤ l.length) :
    ∃ V U, (∀ u, (Instr.slice 25 (.slice A n c) none (some (.int .i64 (m : Int))) none).run Try.prog u = .ok V u) ∧ (∀ u, (Instr.slice 25 (.slice A n c) (some (.int .i64 (m : Int))) none none).run Try.prog u = .ok U u) ∧ Ts w V (l.take m) ∧ Ts w U (l.drop m) := by
  obtain ⟨A', c', hv, h1, h2⟩ := h.form
  injection hv with e1 e2 e3
  subst e1 e2 e3
  obtain ⟨xs, hx, ht⟩ := h
  exact ⟨_, _, run_slice_upto trT trE m hm h1, run_slice_from trT trE m hm h1, ⟨_, hx.upto m hm, ht.take m⟩, ⟨_, hx.from_ m hm, ht.drop m⟩⟩

/-- a slice of traces of the call's own, whose spans are older than block 'base' -/
def OwnT (w0 w : World) (base : Nat) (v : Value) (l : List Tn) : Prop := ∃ xs, OwnL 2 w base 37 v xs ∧ Two (TnC w0) l xs

section
variable {w0 w w' : World} {base : Nat} {v : Value} {l m : List Tn}
theorem OwnT.ts (h : OwnT w0 w base v l) (hb : Below w0.heap.size w0 w) : Ts w v l := by
  obtain ⟨xs, h1, h2⟩ := h
  exact ⟨xs, h1.lv, h2.mono fun _ _ h => h.below hb⟩
theorem OwnT.below (h : OwnT w0 w base v l) (hb : Below w.heap.size w w') : OwnT w0 w' base v l := by
  obtain ⟨xs, h1, h2⟩ := h
  exact ⟨xs, h1.below hb, h2⟩
theorem OwnT.later {w1 : World} (h : OwnT w0 w base v l) (hb : Below w0.heap.size w0 w1) : OwnT w1 w base v l := by
  obtain ⟨xs, h1, h2⟩ := h
  exact ⟨xs, h1, h2.mono fun _ _ h => h.below hb⟩
theorem OwnT.lt (h : OwnT w0 w base v l) : ∀ g, v.ownBlock = some g → base ≤ g ∧ g < w.heap.size := fun g hg => by
  obtain ⟨xs, h1, _⟩ := h
  exact ⟨h1.ge g hg, h1.lt g hg⟩
theorem TnC.one {t : Tn} {x : List Value} (h : TnC w t x) : ∀ u ∈ x, u.oneCell' = true := by
  obtain ⟨_, d, rfl, hd⟩ := h
  obtain ⟨A, c, rfl, _⟩ := hd.form
  intro u hu
  simp only [List.mem_cons, List.not_mem_nil, or_false] at hu
  rcases hu with rfl | rfl <;> rfl
variable (w)
theorem run_append_ownT (ty : TypeId) (h : OwnT w0 w base v l) {V : Value} {ys : List (List Value)} (hV : Lv 2 w V ys) (hys : Two (TnC w0) m ys) (hl : l.length + m.length ≤ 1000000000) (hbase : base ≤ w.heap.size) :
    ∃ v' w', (Builtin.append_ #[25, 25] ty #[v, V]).run Try.prog w = .ok v' w' ∧ OwnT w0 w' base v' (l ++ m) ∧ w.grownBy w' v.ownBlock := by
  obtain ⟨xs, h1, h2⟩ := h
  have e1 := h2.len
  have e2 := hys.len
  obtain ⟨v', w', hrun, ho, hg, hv⟩ := run_append_elems w trT ty base v xs h1 V ys hV (fun y hy => by
    obtain ⟨a, _, ha⟩ := hys.right_mem hy
    exact ha.one) (by simp only [maxLen]; omega) (by omega) hbase
  exact ⟨v', w', hrun, ⟨xs ++ ys, ho, h2.append hys⟩, hg⟩
theorem wpList_append_ownT {ops : Array Oper} {rest : List Oper} {o : Oper} {a : Act} {Q : Exit → Act → World → Prop} (hgd : o.guard = none) (sx x : Operand)
    (ho : o.op = .call { callee := .builtin .append, args := #[sx, x], argTypes := #[25, 25] })
    (hs : a.eval sx = v) (h : OwnT w0 w base v l) {V : Value} {ys : List (List Value)} (hx : a.eval x = V) (hV : Lv 2 w V ys) (hys : Two (TnC w0) m ys) (hl : l.length + m.length ≤ 1000000000) (hbase : base ≤ w.heap.size)
    (hK : ∀ v' w', OwnT w0 w' base v' (l ++ m) → w.grownBy w' v.ownBlock → wpList Try.prog ops Q rest (a.put o.dst v') w') : wpList Try.prog ops Q (o :: rest) a w := by
  refine wpList_plain hgd fun K hK' => ?_
  obtain ⟨v', w', hrun, h2, h3⟩ := run_append_ownT w o.type h hV hys hl hbase
  unfold Oper.wp execOp
  simp only [ho, resolve, invoke, builtin, Sem.run_bind, Sem.run_pure, Result.andThen_ok, List.map_toArray, List.map_cons, List.map_nil, hs, hx, hrun]
  exact hK' _ _ (hK v' w' h2 h3)
theorem step_append_ownT {ops : Array Oper} {o : Oper} {a : Act} {K : Act → World → Prop} {Q : Exit → Act → World → Prop} {E : Prop} (hgd : o.guard = none) (sx x : Operand)
    (ho : o.op = .call { callee := .builtin .append, args := #[sx, x], argTypes := #[25, 25] })
    (hs : a.eval sx = v) (h : OwnT w0 w base v l) {V : Value} {ys : List (List Value)} (hx : a.eval x = V) (hV : Lv 2 w V ys) (hys : Two (TnC w0) m ys) (hl : l.length + m.length ≤ 1000000000) (hbase : base ≤ w.heap.size)
    (hK : ∀ v' w', OwnT w0 w' base v' (l ++ m) → w.grownBy w' v.ownBlock → K (a.put o.dst v') w') :
    if Region.wanted o (yielded ops a.tmps) = true then Oper.wp Try.prog o a w K Q else E := by
  have hw : Region.wanted o (yielded ops a.tmps) = true := by simp [Region.wanted, hgd]
  rw [if_pos hw]
  obtain ⟨v', w', hrun, h2, h3⟩ := run_append_ownT w o.type h hV hys hl hbase
  unfold Oper.wp execOp
  simp only [ho, resolve, invoke, builtin, Sem.run_bind, Sem.run_pure, Result.andThen_ok, List.map_toArray, List.map_cons, List.map_nil, hs, hx, hrun]
  exact hK v' w' h2 h3
theorem OwnT.made : OwnT w (w.alloc (.cells #[] 37)) w.heap.size (.slice (some ⟨w.heap.size, 0, none⟩) 0 0) [] :=
  ⟨[], ⟨World.ownsRow_made w #[] 0 (Nat.le_refl _) (by simp [maxLen]) (by simp), fun x hx => by cases hx⟩, Two.nil⟩
end

theorem OwnT.own {w : World} (h : OwnT w (w.alloc (.cells #[] 37)) w.heap.size (.slice (some ⟨w.heap.size, 0, none⟩) 0 0) []) : OwnL 2 (w.alloc (.cells #[] 37)) w.heap.size 37 (.slice (some ⟨w.heap.size, 0, none⟩) 0 0) [] := by
  obtain ⟨xs, h1, h2⟩ := h
  have : xs = [] := List.eq_nil_of_length_eq_zero (by have := h2.len; simpa using this.symm)
  subst this
  exact h1

set_option maxHeartbeats 6400000 in
set_option maxRecDepth 100000 in
theorem Group_any (v : Value) (l : List Sn) (w : World) (h : Ss w v l) (hl : l.length ≤ 1000000) :
    Calls Try.prog 10 #[v] w fun e w' => ∃ v' r, e = .returned v' ∧ Ts w' v' r ∧ Grp l r ∧ Below w.heap.size w w' := by
  obtain ⟨A, c, rfl, hc1, hc2⟩ := h.form
  have H := Lib.hid h
  clear h
  go_enter Try.func10, Try.ntmps10
  go_wp2_with fail
  go_loopw [3, 4, 5, 6] (fun ov iv _ _ wr => ∃ (i : Nat) (r : List Tn), i ≤ l.length ∧ iv = .int .i64 (i : Int) ∧ Ts wr ov r ∧ Below w.heap.size w wr ∧ Hid (Gro l i r)) (fun _ iv _ _ _ => l.length - (intOf iv).toNat)
  case atStart => exact ⟨0, [], Nat.zero_le _, rfl, Ts.nil _, Below.refl _ _, Lib.hid (Gro.zero l)⟩
  case round =>
    obtain ⟨i, r, hi, rfl, hT, hB1, HG⟩ := hrel
    revert hT hB1
    generalize wr = w1
    intro hT hB1
    by_cases hlt : i < l.length
    · obtain ⟨s, hs⟩ : ∃ s, l[i]? = some s := ⟨_, List.getElem?_eq_getElem hlt⟩
      have HS := Lib.hid hs
      have HT := Lib.hid hT
      have hrl := HG.out.len
      have HOK : Hid s.ok := Lib.hid (H.out.ok hs)
      obtain ⟨Ao, co, rfl, hco1, hco2⟩ := hT.form
      clear hT hs
      go_wp2_with fail
      go_loopw [5] (fun mv wr => ∃ m : Nat, m ≤ r.length ∧ mv = .int .i64 (m : Int) ∧ Below w1.heap.size w1 wr ∧ Hid (∀ (j : Nat) (x : Tn), j < m → r[j]? = some x → x.id < s.tr)) (fun mv _ => r.length - (intOf mv).toNat)
      case atStart => exact ⟨0, Nat.zero_le _, rfl, Below.refl _ _, Lib.hid (fun j x h => absurd h (Nat.not_lt_zero _))⟩
      case round =>
        obtain ⟨m, hm, rfl, hB5, HLT⟩ := hrel
        obtain ⟨gl, ol, dl, rfl, hgl, z0, _⟩ := (H.out.below (hB1.trans (hB5.mono hB1.size))).cells HS.out
        have hbi0 : (0 : Int) ≤ (i : Int) := by omega
        have hbi1 : (i : Int) < (l.length : Int) := by omega
        have HLO : Hid (∀ x ∈ r.take m, x.id < s.tr) := Lib.hid (by
          intro x hx
          obtain ⟨j, hj⟩ := List.mem_iff_getElem?.1 hx
          rw [List.getElem?_take] at hj
          split at hj
          · exact HLT.out j x (by assumption) hj
          · cases hj)
        by_cases hml : m < r.length
        · obtain ⟨t, hmt⟩ : ∃ t, r[m]? = some t := ⟨_, List.getElem?_eq_getElem hml⟩
          obtain ⟨gt, ot, dt, rfl, hgt, y0, _⟩ := (HT.out.below hB5).cells hmt
          have HMT := Lib.hid hmt
          have hbm0 : (0 : Int) ≤ (m : Int) := by omega
          have hbm1 : (m : Int) < (r.length : Int) := by omega
          clear hmt
          by_cases hid1 : t.id < s.tr
          · have HID := Lib.hid hid1
            go_wp2_with fail
            go_quiet (fail)
            go_wp2_with fail
            refine ⟨⟨m + 1, by omega, by go_num, below_drewN hB5 _, Lib.hid fun j x h1 h2 => ?_⟩, by simp [intOf]; omega⟩
            rcases Nat.lt_or_eq_of_le (Nat.le_of_lt_succ h1) with h3 | h3
            · exact HLT.out j x h3 h2
            · subst h3
              rw [HMT.out] at h2
              injection h2 with h2
              subst h2
              exact HID.out
          · go_wp2_with fail
            go_quiet (fail)
            go_wp2_with fail
            have hB55 := below_drewN hB5 nq
            have y0' : (wr.drewN nq).cell? ⟨gt, ot + m * 2, none⟩ = some (.int .u64 t.id) := y0
            have z0' : (wr.drewN nq).cell? ⟨gl, ol + i * 5, none⟩ = some (.int .u64 s.tr) := z0
            clear y0 z0
            revert hB55 y0' z0'
            generalize wr.drewN nq = w5
            intro hB55 y0' z0'
            by_cases hid2 : t.id = s.tr
            · have HID := Lib.hid hid2
              have k2 : (t.id == s.tr) = true := by simpa using hid2
              clear hid2 hid1
              go_quiet (fail)
              go_wp2_with fail
              exact ⟨⟨i + 1, r, by omega, by go_num, HT.out.below (below_drewN hB55 _), hB1.trans ((below_drewN hB55 _).mono hB1.size), Lib.hid (HG.out.skip HS.out (List.mem_of_getElem? HMT.out) HID.out)⟩, by simp [intOf]; omega⟩
            · have k2 : (t.id == s.tr) = false := by simpa using hid2
              have hgt' : s.tr < t.id := by omega
              have HHI : Hid (∀ x ∈ r.drop m, s.tr < x.id) := Lib.hid (by
                intro x hx
                have hup := HG.out.up
                rw [List.drop_eq_getElem_cons hml] at hx
                have e : r[m] = t := by
                  have := HMT.out
                  rw [List.getElem?_eq_getElem hml] at this
                  exact Option.some.inj this
                rcases List.mem_cons.1 hx with rfl | hx
                · rw [e]; exact hgt'
                · rw [← List.take_append_drop m r, List.pairwise_append, List.drop_eq_getElem_cons hml] at hup
                  have := (List.pairwise_cons.1 hup.2.1).1 x hx
                  rw [e] at this
                  omega)
              clear hid2 hid1 hgt'
              go_quiet (fail)
              have hB6 := below_drewN hB55 nq
              clear y0' z0'
              revert hB6
              generalize w5.drewN nq = w6
              intro hB6
              have hBw := hB1.trans (hB6.mono hB1.size)
              have hts := HT.out.below hB6
              obtain ⟨V, U, hV, hU, hVs, hUs⟩ := ts_cut hts m (by omega)
              obtain ⟨ta, hta⟩ : ∃ ta, ta = r.take m := ⟨_, rfl⟩
              obtain ⟨td, htd⟩ : ∃ td, td = r.drop m := ⟨_, rfl⟩
              have hrm : ta.length ≤ 1000000 := by rw [hta, List.length_take]; omega
              have hrd : td.length ≤ 1000000 := by rw [htd, List.length_drop]; omega
              rw [← hta] at hVs
              rw [← htd] at hUs
              have HTA := Lib.hid hta
              have HTD := Lib.hid htd
              obtain ⟨xa, hxa, hta2⟩ := hVs
              obtain ⟨xd, hxd, htd2⟩ := hUs
              have hxal := hta2.len
              have hxdl := htd2.len
              obtain ⟨AV, cV, rfl, _⟩ := hxa.form
              obtain ⟨AU, cU, rfl, _⟩ := hxd.form
              have hSl := H.out.below hBw
              obtain ⟨g, o, d, he, hg, c0, _⟩ := hSl.cells HS.out
              simp only [Option.some.injEq, Addr.mk.injEq, and_true] at he
              obtain ⟨rfl, rfl⟩ := he
              have W1 : Below w6.heap.size w6 (w6.alloc (.cells #[] 37)) := (Below.refl _ w6).alloc (Nat.le_refl _) _
              have HXA := Lib.hid (hxa.below W1)
              have HXD := Lib.hid hxd
              have TA := Lib.hid hta2
              have TD := Lib.hid htd2
              have HSL := Lib.hid hSl
              have oneA : Hid (∀ y ∈ xa, ∀ u ∈ y, u.oneCell' = true) := Lib.hid fun y hy => by
                obtain ⟨t, _, ht⟩ := hta2.right_mem hy
                exact ht.one
              have oneD : Hid (∀ y ∈ xd, ∀ u ∈ y, u.oneCell' = true) := Lib.hid fun y hy => by
                obtain ⟨t, _, ht⟩ := htd2.right_mem hy
                exact ht.one
              have C0 : Hid (∀ u, Below w6.heap.size w6 u → u.cell? ⟨gl, ol + i * 5, none⟩ = some (.int .u64 s.tr)) := Lib.hid fun u h => (h.cell hg).trans c0
              have hb2 : (0 : Int) ≤ (i : Int) := by omega
              have hb3 : (i : Int) < (l.length : Int) := by omega
              have hxb : xa.length ≤ 1000000 := by omega
              have hxb2 : xd.length ≤ 1000000 := by omega
              clear hts hxa hxd hta2 htd2 hxal hxdl hta htd hSl c0
              go_wp2_with (at_builtin; refine wpList_append_elems _ trT rfl _ _ rfl w6.heap.size (.slice (some ⟨w6.heap.size, 0, none⟩) 0 0) [] rfl (OwnT.made w6).own _ xa rfl HXA.out oneA.out (by simp only [maxLen, List.length_nil]; omega) (by simp only [List.length_nil]; omega) (by simp) ?_)
              intro v2 w2 ho2 hg2 _
              have W2 : Below w6.heap.size w6 w2 := W1.grown hg2 W1.size (fun q hq => by have : w6.heap.size = q := Option.some.inj hq; omega)
              have HO2 := Lib.hid ho2
              have r0 := C0.out
              clear ho2 hg2 W1
              go_wp2_with fail
              refine wp_region_mix [(0, false), (1, false), (2, false), (3, false), (4, false), (5, false), (6, false), (7, false), (8, false), (9, false), (10, false), (11, false), (12, true), (13, false), (14, true), (15, true), (16, true)] (fun u => Below w6.heap.size w6 u) (by kernel_rfl) (by kernel_rfl) (by kernel_rfl) rfl W2.drew ?_
              repeat
                (refine mix_read (o := ⟨_, _, _, _, _, _⟩) (v := ?_) rfl (by rfl) (fun w' hS => ?_) ?_
                 rotate_left
                 go_simp
                 with_reducible rfl
                 try simp only [Act.put, List.setIfInBounds_toArray, List.set_cons_zero, List.set_cons_succ])
              refine mix_step (o := ⟨_, _, _, _, _, _⟩) rfl (fun K hK => ?_)
              go_simp
              refine (Of_own _ l s.tr w6 w2.drew HSL.out W2.drew hl).mono ?_
              rintro e u1 ⟨v7, r7, rfl, o7, G7, b7⟩
              have W7 : Below w6.heap.size w6 u1 := W2.drew.trans (b7.mono W2.size)
              have b7' : Below w2.heap.size w2 u1 := ⟨b7.os, b7.tape, b7.output, b7.size, b7.block⟩
              obtain ⟨A7, c7, hv7, _⟩ := (o7.ss W7).form
              subst hv7
              have O7 := Lib.hid o7
              have G7' := Lib.hid G7
              refine hK.out _ _ W7 ?_
              clear hK K o7 G7 b7 r0
              try simp only [Act.put, List.setIfInBounds_toArray, List.set_cons_zero, List.set_cons_succ]
              refine mix_read (o := ⟨_, _, _, _, _, _⟩) (v := ?_) rfl (by rfl) (fun w' hS => ?_) ?_
              rotate_left
              clear hS
              go_simp
              with_reducible rfl
              try simp only [Act.put, List.setIfInBounds_toArray, List.set_cons_zero, List.set_cons_succ]
              refine mix_step (o := ⟨_, _, _, _, _, _⟩) rfl (fun K hK => ?_)
              go_simp
              have W8 : Below w6.heap.size w6 (u1.alloc (.cells #[.int .u64 s.tr, .slice A7 r7.length c7] 37)) := W7.alloc W7.size _
              refine hK.out _ _ W8 ?_
              clear hK K
              try simp only [Act.put, List.setIfInBounds_toArray, List.set_cons_zero, List.set_cons_succ]
              have ho8 := (HO2.out.below b7').below ((Below.refl u1.heap.size u1).alloc (Nat.le_refl _) (.cells #[.int .u64 s.tr, .slice A7 r7.length c7] 37))
              have o78 := O7.out.below ((Below.refl u1.heap.size u1).alloc (Nat.le_refl _) (.cells #[.int .u64 s.tr, .slice A7 r7.length c7] 37))
              have hv2 : ∀ q, v2.ownBlock = some q → w6.heap.size ≤ q ∧ q < w2.heap.size := fun q hq => ⟨HO2.out.ge q hq, HO2.out.lt q hq⟩
              have h7ge : ∀ q, (Value.slice A7 r7.length c7).ownBlock = some q → w2.heap.size ≤ q := fun q hq => (O7.out.lt q hq).1
              refine mix_step (o := ⟨_, _, _, _, _, _⟩) rfl (fun K hK => ?_)
              refine step_append_elems trT rfl _ _ rfl rfl ho8 rfl (Lv.lit1 u1 [.int .u64 s.tr, .slice A7 r7.length c7] 37) (by intro y hy u hu; simp at hy; subst hy; simp at hu; rcases hu with rfl | rfl <;> rfl) (by first | (simp only [maxLen, List.length_singleton]; omega) | (simp only [maxLen, List.nil_append, List.length_singleton]; omega)) (by first | (simp only [List.length_singleton]; omega) | (simp only [List.nil_append, List.length_singleton]; omega)) W8.size ?_
              intro v3 w3 ho3 hg3 hv3
              have W9 : Below w6.heap.size w6 w3 := W8.grown hg3 W8.size (fun q hq => (hv2 q hq).1)
              have o79 := o78.kept hg3 (by
                cases hq : (Value.slice A7 r7.length c7).ownBlock with
                | none => exact .inl rfl
                | some q => exact .inr fun e => by have h1 := h7ge q hq; have h2 := (hv2 q e.symm).2; omega)
              refine hK.out _ _ W9 ?_
              clear hK K
              try simp only [Act.put, List.setIfInBounds_toArray, List.set_cons_zero, List.set_cons_succ]
              refine mix_step (o := ⟨_, _, _, _, _, _⟩) rfl (fun K hK => ?_)
              go_simp
              refine hK.out _ _ W9 ?_
              clear hK K
              refine mix_done ?_
              have HO3 := Lib.hid ho3
              have HXD3 := Lib.hid (HXD.out.below W9)
              have O79 := Lib.hid o79
              have hn7 : ∀ q, (Value.slice A7 r7.length c7).ownBlock = some q → v3.ownBlock ≠ some q := fun q hq e => by
                have h1 := h7ge q hq
                rcases hv3 with h | h
                · rw [h] at e
                  have := (hv2 q e).2
                  omega
                · rw [h] at e
                  have h3 : (u1.alloc (.cells #[.int .u64 s.tr, .slice A7 r7.length c7] 37)).heap.size = q := Option.some.inj e
                  have h4 := (o78.lt q hq).2
                  omega
              have HN7 := Lib.hid hn7
              clear ho3 ho8 o78 o79 hg3 hv3 hn7 hv2 h7ge W2 W7 W8 b7'
              go_wp2_with (at_builtin; refine wpList_append_elems _ trT rfl _ _ rfl w6.heap.size _ _ rfl HO3.out _ xd rfl HXD3.out oneD.out (by first | (simp only [maxLen, List.length_append, List.length_singleton]; omega) | (simp only [maxLen, List.nil_append, List.length_append, List.length_singleton]; omega)) (by first | (simp only [List.length_append, List.length_singleton]; omega) | (simp only [List.nil_append, List.length_append, List.length_singleton]; omega)) W9.size ?_)
              intro v4 w4 ho4 hg4 _
              have W4 : Below w6.heap.size w6 w4 := W9.grown hg4 W9.size (fun q hq => HO3.out.ge q hq)
              have o74 := O79.out.kept hg4 (by
                cases hq : (Value.slice A7 r7.length c7).ownBlock with
                | none => exact .inl rfl
                | some q => exact .inr fun e => HN7.out q hq e.symm)
              have hts4 : Ts w4 v4 (r.take m ++ [⟨s.tr, r7⟩] ++ r.drop m) := by
                rw [← HTA.out, ← HTD.out]
                refine ⟨_, ho4.lv, ?_⟩
                have h5 := (Two.snoc (a := (⟨s.tr, r7⟩ : Tn)) (TA.out.mono fun _ _ h => h.below W4 : Two (TnC w4) ta xa) ⟨⟨HOK.out.tr0, HOK.out.tr1⟩, _, rfl, o74.ss W4⟩).append (TD.out.mono fun _ _ h => h.below W4 : Two (TnC w4) td xd)
                simpa using h5
              have HTS := Lib.hid hts4
              clear ho4 hg4 o74 hts4
              go_wp2_with fail
              exact ⟨⟨i + 1, r.take m ++ [⟨s.tr, r7⟩] ++ r.drop m, by omega, by go_num, HTS.out, hBw.trans (W4.mono hBw.size), Lib.hid (HG.out.put HS.out G7'.out (HLO.out) (HHI.out))⟩, by simp [intOf]; omega⟩
        · go_wp2_with fail
          go_quiet (fail)
          go_wp2_with fail
          have hB55 := below_drewN hB5 nq
          clear z0
          revert hB55
          generalize wr.drewN nq = w5
          intro hB55
          go_quiet (fail)
          have hB6 := below_drewN hB55 nq
          have HHI : Hid (∀ x ∈ r.drop m, s.tr < x.id) := Lib.hid (by
            rw [List.drop_of_length_le (by omega)]
            intro x hx
            cases hx)
          revert hB6
          generalize w5.drewN nq = w6
          intro hB6
          have hBw := hB1.trans (hB6.mono hB1.size)
          have hts := HT.out.below hB6
          obtain ⟨V, U, hV, hU, hVs, hUs⟩ := ts_cut hts m (by omega)
          obtain ⟨ta, hta⟩ : ∃ ta, ta = r.take m := ⟨_, rfl⟩
          obtain ⟨td, htd⟩ : ∃ td, td = r.drop m := ⟨_, rfl⟩
          have hrm : ta.length ≤ 1000000 := by rw [hta, List.length_take]; omega
          have hrd : td.length ≤ 1000000 := by rw [htd, List.length_drop]; omega
          rw [← hta] at hVs
          rw [← htd] at hUs
          have HTA := Lib.hid hta
          have HTD := Lib.hid htd
          obtain ⟨xa, hxa, hta2⟩ := hVs
          obtain ⟨xd, hxd, htd2⟩ := hUs
          have hxal := hta2.len
          have hxdl := htd2.len
          obtain ⟨AV, cV, rfl, _⟩ := hxa.form
          obtain ⟨AU, cU, rfl, _⟩ := hxd.form
          have hSl := H.out.below hBw
          obtain ⟨g, o, d, he, hg, c0, _⟩ := hSl.cells HS.out
          simp only [Option.some.injEq, Addr.mk.injEq, and_true] at he
          obtain ⟨rfl, rfl⟩ := he
          have W1 : Below w6.heap.size w6 (w6.alloc (.cells #[] 37)) := (Below.refl _ w6).alloc (Nat.le_refl _) _
          have HXA := Lib.hid (hxa.below W1)
          have HXD := Lib.hid hxd
          have TA := Lib.hid hta2
          have TD := Lib.hid htd2
          have HSL := Lib.hid hSl
          have oneA : Hid (∀ y ∈ xa, ∀ u ∈ y, u.oneCell' = true) := Lib.hid fun y hy => by
            obtain ⟨t, _, ht⟩ := hta2.right_mem hy
            exact ht.one
          have oneD : Hid (∀ y ∈ xd, ∀ u ∈ y, u.oneCell' = true) := Lib.hid fun y hy => by
            obtain ⟨t, _, ht⟩ := htd2.right_mem hy
            exact ht.one
          have C0 : Hid (∀ u, Below w6.heap.size w6 u → u.cell? ⟨gl, ol + i * 5, none⟩ = some (.int .u64 s.tr)) := Lib.hid fun u h => (h.cell hg).trans c0
          have hb2 : (0 : Int) ≤ (i : Int) := by omega
          have hb3 : (i : Int) < (l.length : Int) := by omega
          have hxb : xa.length ≤ 1000000 := by omega
          have hxb2 : xd.length ≤ 1000000 := by omega
          clear hts hxa hxd hta2 htd2 hxal hxdl hta htd hSl c0
          go_wp2_with (at_builtin; refine wpList_append_elems _ trT rfl _ _ rfl w6.heap.size (.slice (some ⟨w6.heap.size, 0, none⟩) 0 0) [] rfl (OwnT.made w6).own _ xa rfl HXA.out oneA.out (by simp only [maxLen, List.length_nil]; omega) (by simp only [List.length_nil]; omega) (by simp) ?_)
          intro v2 w2 ho2 hg2 _
          have W2 : Below w6.heap.size w6 w2 := W1.grown hg2 W1.size (fun q hq => by have : w6.heap.size = q := Option.some.inj hq; omega)
          have HO2 := Lib.hid ho2
          have r0 := C0.out
          clear ho2 hg2 W1
          go_wp2_with fail
          refine wp_region_mix [(0, false), (1, false), (2, false), (3, false), (4, false), (5, false), (6, false), (7, false), (8, false), (9, false), (10, false), (11, false), (12, true), (13, false), (14, true), (15, true), (16, true)] (fun u => Below w6.heap.size w6 u) (by kernel_rfl) (by kernel_rfl) (by kernel_rfl) rfl W2.drew ?_
          repeat
            (refine mix_read (o := ⟨_, _, _, _, _, _⟩) (v := ?_) rfl (by rfl) (fun w' hS => ?_) ?_
             rotate_left
             go_simp
             with_reducible rfl
             try simp only [Act.put, List.setIfInBounds_toArray, List.set_cons_zero, List.set_cons_succ])
          refine mix_step (o := ⟨_, _, _, _, _, _⟩) rfl (fun K hK => ?_)
          go_simp
          refine (Of_own _ l s.tr w6 w2.drew HSL.out W2.drew hl).mono ?_
          rintro e u1 ⟨v7, r7, rfl, o7, G7, b7⟩
          have W7 : Below w6.heap.size w6 u1 := W2.drew.trans (b7.mono W2.size)
          have b7' : Below w2.heap.size w2 u1 := ⟨b7.os, b7.tape, b7.output, b7.size, b7.block⟩
          obtain ⟨A7, c7, hv7, _⟩ := (o7.ss W7).form
          subst hv7
          have O7 := Lib.hid o7
          have G7' := Lib.hid G7
          refine hK.out _ _ W7 ?_
          clear hK K o7 G7 b7 r0
          try simp only [Act.put, List.setIfInBounds_toArray, List.set_cons_zero, List.set_cons_succ]
          refine mix_read (o := ⟨_, _, _, _, _, _⟩) (v := ?_) rfl (by rfl) (fun w' hS => ?_) ?_
          rotate_left
          clear hS
          go_simp
          with_reducible rfl
          try simp only [Act.put, List.setIfInBounds_toArray, List.set_cons_zero, List.set_cons_succ]
          refine mix_step (o := ⟨_, _, _, _, _, _⟩) rfl (fun K hK => ?_)
          go_simp
          have W8 : Below w6.heap.size w6 (u1.alloc (.cells #[.int .u64 s.tr, .slice A7 r7.length c7] 37)) := W7.alloc W7.size _
          refine hK.out _ _ W8 ?_
          clear hK K
          try simp only [Act.put, List.setIfInBounds_toArray, List.set_cons_zero, List.set_cons_succ]
          have ho8 := (HO2.out.below b7').below ((Below.refl u1.heap.size u1).alloc (Nat.le_refl _) (.cells #[.int .u64 s.tr, .slice A7 r7.length c7] 37))
          have o78 := O7.out.below ((Below.refl u1.heap.size u1).alloc (Nat.le_refl _) (.cells #[.int .u64 s.tr, .slice A7 r7.length c7] 37))
          have hv2 : ∀ q, v2.ownBlock = some q → w6.heap.size ≤ q ∧ q < w2.heap.size := fun q hq => ⟨HO2.out.ge q hq, HO2.out.lt q hq⟩
          have h7ge : ∀ q, (Value.slice A7 r7.length c7).ownBlock = some q → w2.heap.size ≤ q := fun q hq => (O7.out.lt q hq).1
          refine mix_step (o := ⟨_, _, _, _, _, _⟩) rfl (fun K hK => ?_)
          refine step_append_elems trT rfl _ _ rfl rfl ho8 rfl (Lv.lit1 u1 [.int .u64 s.tr, .slice A7 r7.length c7] 37) (by intro y hy u hu; simp at hy; subst hy; simp at hu; rcases hu with rfl | rfl <;> rfl) (by first | (simp only [maxLen, List.length_singleton]; omega) | (simp only [maxLen, List.nil_append, List.length_singleton]; omega)) (by first | (simp only [List.length_singleton]; omega) | (simp only [List.nil_append, List.length_singleton]; omega)) W8.size ?_
          intro v3 w3 ho3 hg3 hv3
          have W9 : Below w6.heap.size w6 w3 := W8.grown hg3 W8.size (fun q hq => (hv2 q hq).1)
          have o79 := o78.kept hg3 (by
            cases hq : (Value.slice A7 r7.length c7).ownBlock with
            | none => exact .inl rfl
            | some q => exact .inr fun e => by have h1 := h7ge q hq; have h2 := (hv2 q e.symm).2; omega)
          refine hK.out _ _ W9 ?_
          clear hK K
          try simp only [Act.put, List.setIfInBounds_toArray, List.set_cons_zero, List.set_cons_succ]
          refine mix_step (o := ⟨_, _, _, _, _, _⟩) rfl (fun K hK => ?_)
          go_simp
          refine hK.out _ _ W9 ?_
          clear hK K
          refine mix_done ?_
          have HO3 := Lib.hid ho3
          have HXD3 := Lib.hid (HXD.out.below W9)
          have O79 := Lib.hid o79
          have hn7 : ∀ q, (Value.slice A7 r7.length c7).ownBlock = some q → v3.ownBlock ≠ some q := fun q hq e => by
            have h1 := h7ge q hq
            rcases hv3 with h | h
            · rw [h] at e
              have := (hv2 q e).2
              omega
            · rw [h] at e
              have h3 : (u1.alloc (.cells #[.int .u64 s.tr, .slice A7 r7.length c7] 37)).heap.size = q := Option.some.inj e
              have h4 := (o78.lt q hq).2
              omega
          have HN7 := Lib.hid hn7
          clear ho3 ho8 o78 o79 hg3 hv3 hn7 hv2 h7ge W2 W7 W8 b7'
          go_wp2_with (at_builtin; refine wpList_append_elems _ trT rfl _ _ rfl w6.heap.size _ _ rfl HO3.out _ xd rfl HXD3.out oneD.out (by first | (simp only [maxLen, List.length_append, List.length_singleton]; omega) | (simp only [maxLen, List.nil_append, List.length_append, List.length_singleton]; omega)) (by first | (simp only [List.length_append, List.length_singleton]; omega) | (simp only [List.nil_append, List.length_append, List.length_singleton]; omega)) W9.size ?_)
          intro v4 w4 ho4 hg4 _
          have W4 : Below w6.heap.size w6 w4 := W9.grown hg4 W9.size (fun q hq => HO3.out.ge q hq)
          have o74 := O79.out.kept hg4 (by
            cases hq : (Value.slice A7 r7.length c7).ownBlock with
            | none => exact .inl rfl
            | some q => exact .inr fun e => HN7.out q hq e.symm)
          have hts4 : Ts w4 v4 (r.take m ++ [⟨s.tr, r7⟩] ++ r.drop m) := by
            rw [← HTA.out, ← HTD.out]
            refine ⟨_, ho4.lv, ?_⟩
            have h5 := (Two.snoc (a := (⟨s.tr, r7⟩ : Tn)) (TA.out.mono fun _ _ h => h.below W4 : Two (TnC w4) ta xa) ⟨⟨HOK.out.tr0, HOK.out.tr1⟩, _, rfl, o74.ss W4⟩).append (TD.out.mono fun _ _ h => h.below W4 : Two (TnC w4) td xd)
            simpa using h5
          have HTS := Lib.hid hts4
          clear ho4 hg4 o74 hts4
          go_wp2_with fail
          exact ⟨⟨i + 1, r.take m ++ [⟨s.tr, r7⟩] ++ r.drop m, by omega, by go_num, HTS.out, hBw.trans (W4.mono hBw.size), Lib.hid (HG.out.put HS.out G7'.out (HLO.out) (HHI.out))⟩, by simp [intOf]; omega⟩
    · have hii : i = l.length := by omega
      subst hii
      have HT := Lib.hid hT
      obtain ⟨Ao, co, rfl, hco1, hco2⟩ := hT.form
      clear hT
      go_wp2_with fail
      go_ret
      exact ⟨_, r, rfl, HT.out, HG.out.done, hB1⟩

end Go.Proofs.Ytpanpebllapbcaa
