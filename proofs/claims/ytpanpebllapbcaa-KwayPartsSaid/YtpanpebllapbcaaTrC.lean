/-
  CONTRACTS of slices.Clone at spans, trace.apart. Conditions: at most 140737488355 spans.
-/
import Derived.Test.YtpanpebllapbcaaTrB
import Derived.Test.YtpanpebllapbcaaKee
namespace Go.Proofs.Ytpanpebllapbcaa
open Go.RowKit
set_option maxRecDepth 100000


theorem spT : ElemT Try.prog 33 51 5 56 := ⟨Try.underlying33, by omega, by
  refine ⟨_, _, rfl, rfl, rfl, rfl, ?_⟩
  rfl⟩

/-- v is a slice of the spans l, whose Data lies apart from the block 'row' -/
def Sf (w : World) (row : Option Nat) (v : Value) (l : List Sn) : Prop := ∃ xs, Lv 5 w v xs ∧ Two (SpF w row) l xs

section
variable {w w' w0 : World} {base : Nat} {v v' : Value} {l m : List Sn} {s : Sn} {x : List Value} {row row' : Option Nat}
theorem SpF.one (h : SpF w row s x) : ∀ u ∈ x, u.oneCell' = true := by
  obtain ⟨ho, d, rfl, ⟨A, c, rfl, _⟩, _⟩ := h
  intro u hu
  simp only [spCells, List.mem_cons, List.not_mem_nil, or_false] at hu
  rcases hu with rfl | rfl | rfl | rfl | rfl <;> rfl
theorem SpF.five (h : SpF w row s x) : x.length = 5 := by
  obtain ⟨ho, d, rfl, _⟩ := h
  rfl
/-- a row in a block that is new is apart from all Data -/
theorem SpF.fresh (h : SpF w row s x) (hr : row' = row ∨ row' = some w.heap.size) : SpF w row' s x := by
  rcases hr with rfl | rfl
  · exact h
  · exact SpF.of_spc h.spc (Nat.le_refl _)
theorem Sf.of_ss (h : Ss w0 v l) (hb : Below w0.heap.size w0 w) (hr : ∀ g, row = some g → w0.heap.size ≤ g) : Sf w row v l := by
  obtain ⟨xs, h1, h2⟩ := h
  refine ⟨xs, h1.below hb, h2.mono fun s x hs => ?_⟩
  obtain ⟨ho, d, hx, hd⟩ := hs
  refine ⟨ho, d, hx, hd.below hb, fun hne e => ?_⟩
  obtain ⟨k, hk, hk'⟩ := hd.block hne
  rw [hk] at e
  have := hr k e.symm
  omega
theorem Own5.sf (h : Own5 w base v l) : Sf w v.ownBlock v l := by
  obtain ⟨xs, h1, h2⟩ := h
  exact ⟨xs, h1.lv, h2⟩
theorem Own5.len (h : Own5 w base v l) : ∃ xs, OwnL 5 w base 51 v xs ∧ Two (SpF w v.ownBlock) l xs ∧ xs.length = l.length := by
  obtain ⟨xs, h1, h2⟩ := h
  exact ⟨xs, h1, h2, h2.len.symm⟩

variable (w)
theorem run_append_own5 (ty : TypeId) (h : Own5 w base v l) {V : Value} (hV : Sf w v.ownBlock V m) (hl : l.length + m.length ≤ 1000000000) (hbase : base ≤ w.heap.size) :
    ∃ v' w', (Builtin.append_ #[33, 33] ty #[v, V]).run Try.prog w = .ok v' w' ∧ Own5 w' base v' (l ++ m) ∧ w.grownBy w' v.ownBlock ∧ (v'.ownBlock = v.ownBlock ∨ v'.ownBlock = some w.heap.size) := by
  obtain ⟨xs, h1, h2⟩ := h
  obtain ⟨ys, h3, h4⟩ := hV
  have e1 := h2.len
  have e2 := h4.len
  obtain ⟨v', w', hrun, ho, hg, hv⟩ := run_append_elems w spT ty base v xs h1 V ys h3 (fun y hy => by
    obtain ⟨i, hi⟩ := List.mem_iff_getElem?.1 hy
    have hil : i < m.length := by have := (List.getElem?_eq_some_iff.1 hi).1; omega
    exact (h4.at_ i m[i] y (List.getElem?_eq_getElem hil) hi).one) (by simp only [maxLen]; omega) (by omega) hbase
  refine ⟨v', w', hrun, ⟨xs ++ ys, ho, (h2.append h4).mono fun s x hs => ?_⟩, hg, hv⟩
  have := hs.grown hg
  obtain ⟨hok, d, hx, hd, hn⟩ := hs
  obtain ⟨_, d', hx', hd', hn'⟩ := this
  refine ⟨hok, d', hx', hd', fun hne e => ?_⟩
  rcases hv with hv | hv
  · rw [hv] at e
    exact hn' hne e
  · rw [hv] at e
    have hdd : d' = d := by
      have := hx.symm.trans hx'
      simp only [spCells, List.cons.injEq, and_true] at this
      exact this.2.2.2.2.symm
    subst hdd
    obtain ⟨k, hk, hk'⟩ := hd.block hne
    rw [hk] at e
    injection e with e
    omega
theorem wpList_append_own5 {ops : Array Oper} {rest : List Oper} {o : Oper} {a : Act} {Q : Exit → Act → World → Prop} (hgd : o.guard = none) (sx x : Operand)
    (ho : o.op = .call { callee := .builtin .append, args := #[sx, x], argTypes := #[33, 33] })
    (hs : a.eval sx = v) (hacc : Own5 w base v l) {V : Value} (hx : a.eval x = V) (hV : Sf w v.ownBlock V m) (hl : l.length + m.length ≤ 1000000000) (hbase : base ≤ w.heap.size)
    (h : ∀ v' w', Own5 w' base v' (l ++ m) → w.grownBy w' v.ownBlock → (v'.ownBlock = v.ownBlock ∨ v'.ownBlock = some w.heap.size) → wpList Try.prog ops Q rest (a.put o.dst v') w') : wpList Try.prog ops Q (o :: rest) a w := by
  refine wpList_plain hgd fun K hK => ?_
  obtain ⟨v', w', hrun, h2, h3, h4⟩ := run_append_own5 w o.type hacc hV hl hbase
  unfold Oper.wp execOp
  simp only [ho, resolve, invoke, builtin, Sem.run_bind, Sem.run_pure, Result.andThen_ok, List.map_toArray, List.map_cons, List.map_nil, hs, hx, hrun]
  exact hK _ _ (h v' w' h2 h3 h4)
end

/-- a new row of no spans -/
theorem Own5.made (w : World) : Own5 (w.alloc (.cells #[] 51)) w.heap.size (.slice (some ⟨w.heap.size, 0, none⟩) 0 0) [] :=
  ⟨[], ⟨World.ownsRow_made w #[] 0 (Nat.le_refl _) (by simp [maxLen]) (by simp), fun x hx => by cases hx⟩, Two.nil⟩

set_option maxHeartbeats 400000 in
theorem sclone_any (v : Value) (l : List Sn) (w : World) (hl : l.length ≤ 1000000000) (hv : Ss w v l) :
    Calls Try.prog 53 #[v] w fun e w' => ∃ v', e = .returned v' ∧ Own5 w' w.heap.size v' l ∧ Below w.heap.size w w' := by
  obtain ⟨A, c, rfl, hc1, hc2⟩ := hv.form
  have hnil := fun u : World => Lib.run_eql_slice_nil (P := Try.prog) u 33 51 A l.length c 0 0 spT.under
  cases A with
  | none =>
    have h0 : l = [] := by
      obtain ⟨xs, h1, h2⟩ := hv
      obtain ⟨A', c', hA, _, _, hk, hr⟩ := h1
      injection hA with hA _ _
      subst hA
      have := hr.noneEq
      have hf := flat_length hk
      rw [this] at hf
      have := h2.len
      simp only [List.length_nil] at hf
      exact List.eq_nil_of_length_eq_zero (by omega)
    subst h0
    simp only [Option.isNone_none, List.length_nil] at hnil
    clear hv
    go_enter Try.func53, Try.ntmps53
    go_wp2_with fail
    go_ret
    exact ⟨_, rfl, Own5.nil _ _, Below.refl _ _⟩
  | some ad =>
    simp only [Option.isNone_some] at hnil
    have hb : Below w.heap.size w (w.alloc (.cells #[] 51)) := (Below.refl _ w).alloc (Nat.le_refl _) _
    have hsf : Sf (w.alloc (.cells #[] 51)) (some w.heap.size) (.slice (some ad) l.length c) l := Sf.of_ss hv hb (fun g hg => by injection hg with hg; omega)
    have HS := Lib.hid hsf
    clear hv hsf
    go_enter Try.func53, Try.ntmps53
    go_wp2_with (at_builtin; refine wpList_append_own5 (v := .slice (some ⟨w.heap.size, 0, none⟩) 0 0) (l := []) _ rfl _ _ rfl rfl (Own5.made w) rfl HS.out (by simpa using hl) (by simp) ?_)
    intro v2 w2 hown2 hg2 _
    have hb2 : Below w.heap.size w w2 := hb.grown hg2 (by simp) (by intro k hk; simp [Value.ownBlock] at hk; omega)
    clear hnil hg2
    go_wp2_with fail
    go_ret
    exact ⟨_, rfl, hown2, hb2⟩

set_option maxHeartbeats 400000 in
theorem bclone_any (l : List UInt8) (v : Value) (w : World) (hl : l.length ≤ 140737488355328) (hv : Bs w v l) :
    Calls Try.prog 62 #[v] w fun e w' => ∃ v', e = .returned v' ∧ Own w' w.heap.size 5 v' l ∧ Below w.heap.size w w' := by
  have hv' := hv
  obtain ⟨A, c, rfl, hc1, hc2, hr⟩ := hv'
  have hnil := fun u : World => Lib.run_eql_slice_nil (P := Try.prog) u 49 5 A l.length c 0 0 byteT.under
  cases A with
  | none =>
    have h0 : l = [] := by
      have := hr.noneEq
      simpa [BV] using this
    subst h0
    simp only [Option.isNone_none, List.length_nil] at hnil
    go_enter Try.func62, Try.ntmps62
    go_wp2_with fail
    go_ret
    exact ⟨_, rfl, Own.nil _ _ _, Below.refl _ _⟩
  | some ad =>
    simp only [Option.isNone_some] at hnil
    go_enter Try.func62, Try.ntmps62
    go_wp2_with (at_builtin; refine wpList_append_v _ byteT rfl _ _ rfl w.heap.size (.slice (some ⟨w.heap.size, 0, none⟩) 0 0) [] rfl (Own.made w w.heap.size 5 #[] 0 (Nat.le_refl _) (by simp [maxLen]) rfl) _ l rfl (hv.alloc _) (by simp; omega) (by simp) ?_)
    intro v2 w2 hown2 hg2 _
    have hb2 : Below w.heap.size w w2 := ((Below.refl _ w).alloc (Nat.le_refl _) _).grown hg2 (by simp) (by intro k hk; simp [Value.ownBlock] at hk; omega)
    clear hnil hg2
    go_wp2_with fail
    go_ret
    exact ⟨_, rfl, hown2, hb2⟩

/-- a row of the call's own, in a block that is known -/
theorem Own5.cells {w : World} {base g n c : Nat} {l : List Sn} (h : Own5 w base (.slice (some ⟨g, 0, none⟩) n c) l) {i : Nat} {s : Sn} (hi : l[i]? = some s) :
    ∃ d, w.cell? ⟨g, i * 5, none⟩ = some (.int .u64 s.tr) ∧ w.cell? ⟨g, i * 5 + 1, none⟩ = some (.int .u64 s.id) ∧ w.cell? ⟨g, i * 5 + 2, none⟩ = some (.int .i64 s.st) ∧
      w.cell? ⟨g, i * 5 + 3, none⟩ = some (.int .i64 s.en) ∧ w.cell? ⟨g, i * 5 + 4, none⟩ = some d ∧ Bs w d s.data ∧ (s.data ≠ [] → d.ownBlock ≠ some g) ∧ s.ok := by
  obtain ⟨xs, h1, h2⟩ := h
  obtain ⟨x, hx, hok, d, rfl, hd, hn⟩ := h2.right hi
  obtain ⟨g', o, hA, hg, hc⟩ := h1.lv.cells (by omega) hx
  injection hA with hA
  injection hA with e1 e2
  subst e1 e2
  refine ⟨d, ?_, ?_, ?_, ?_, ?_, hd, hn, hok⟩
  · simpa using hc 0 _ rfl
  · simpa using hc 1 _ rfl
  · simpa using hc 2 _ rfl
  · simpa using hc 3 _ rfl
  · simpa using hc 4 _ rfl
theorem Own5.frozen {w : World} {base g n c : Nat} {l : List Sn} (h : Own5 w base (.slice (some ⟨g, 0, none⟩) n c) l) (j : Nat) : w.frozen? ⟨g, j, none⟩ = false := by
  obtain ⟨xs, ⟨h1, _⟩, h2⟩ := h
  rcases h1.2 with ⟨hv, _⟩ | ⟨g', cap, cur, hv, _, hg, _⟩
  · cases hv
  · injection hv with e1 e2 e3
    injection e1 with e1
    injection e1 with e1
    subst e1
    simp [World.frozen?, hg]
theorem Own5.form {w : World} {base : Nat} {v : Value} {l : List Sn} (h : Own5 w base v l) : (v = .slice none 0 0 ∧ l = []) ∨ ∃ g c, v = .slice (some ⟨g, 0, none⟩) l.length c ∧ l.length ≤ c ∧ c ≤ 9223372036854775807 ∧ base ≤ g ∧ g < w.heap.size := by
  obtain ⟨xs, ⟨h1, _⟩, h2⟩ := h
  rcases h1.2 with ⟨hv, h0⟩ | ⟨g, cap, cur, hv, hb, hg, hn, hm, _⟩
  · have hx : xs = [] := List.eq_nil_of_length_eq_zero h0
    subst hx
    exact .inl ⟨hv, List.eq_nil_of_length_eq_zero h2.len⟩
  · rw [← h2.len] at hv hn
    simp only [maxLen] at hm
    exact .inr ⟨g, cap, hv, hn, hm, hb, (Array.getElem?_eq_some_iff.1 hg).1⟩

/-- Data of its own for one span -/
theorem Own5.data {w w1 : World} {base g n c : Nat} {l : List Sn} (h : Own5 w base (.slice (some ⟨g, 0, none⟩) n c) l) {i : Nat} {s : Sn} (hi : l[i]? = some s) (hb : Below w.heap.size w w1) {d : Value} (hd : Own w1 w.heap.size 5 d s.data) :
    Own5 (w1.setCell ⟨g, i * 5 + 4, none⟩ d) base (.slice (some ⟨g, 0, none⟩) n c) l ∧ w.grownBy (w1.setCell ⟨g, i * 5 + 4, none⟩ d) (some g) := by
  have hlt := (h.lt g rfl).2
  have h' := h.below hb
  obtain ⟨xs, ⟨h1, hk⟩, h2⟩ := h'
  have hnx : xs.length = n := by
    rcases h1.2 with ⟨hv, _⟩ | ⟨g', cap, cur, hv, _⟩
    · cases hv
    · injection hv with e1 e2 e3
      exact e2.symm
  obtain ⟨x, hx, hsx⟩ := h2.right hi
  obtain ⟨hok, d0, rfl, hd0, hn0⟩ := hsx
  rw [hnx] at h1
  obtain ⟨h3, h4⟩ := h1.stored (i * 5 + 4) d
  have e := flat_set1 hk d hx (show 4 < 5 by omega)
  rw [e] at h3
  have hgr : w.grownBy (w1.setCell ⟨g, i * 5 + 4, none⟩ d) (some g) := grown_trans (grown_of_below hb _) h4
  refine ⟨⟨xs.set i (spCells s d), ⟨?_, ?_⟩, ?_⟩, hgr⟩
  · rw [List.length_set, hnx]
    exact h3
  · intro y hy
    rcases List.mem_or_eq_of_mem_set hy with hy | rfl
    · exact hk y hy
    · rfl
  · refine (h2.mono fun s x hs => hs.grown h4).setR hi ⟨hok, d, rfl, hd.bs.grown h4 fun _ e => ?_, fun _ e => ?_⟩
    all_goals
      have := hd.ge g e
      omega

set_option maxRecDepth 100000 in
set_option maxHeartbeats 800000 in
theorem apart_any (v : Value) (l : List Sn) (base : Nat) (w : World) (h : Own5 w base v l) (hl : l.length ≤ 1000000000) (hdl : ∀ s ∈ l, s.data.length ≤ 1000000) :
    Calls Try.prog 42 #[v] w fun e w' => e = .returned v ∧ Own5 w' base v l ∧ w.grownBy w' v.ownBlock := by
  rcases h.form with ⟨rfl, rfl⟩ | ⟨g, c, rfl, hc1, hc2, hbg, hgw⟩
  · go_enter Try.func42, Try.ntmps42
    go_wp2_with fail
    refine wp_loop_rounds 1 ?_
    rw [rounds_succ]
    go_wp2_with fail
    go_ret
    exact ⟨rfl, h, World.grownBy.refl _ _⟩
  · have HO := Lib.hid h
    have HL := Lib.hid hdl
    clear h hdl
    go_enter Try.func42, Try.ntmps42
    go_wp2_with fail
    go_loopw [3, 6] (fun _ i wr => ∃ k : Nat, k ≤ l.length ∧ i = .int .i64 k ∧ Own5 wr base (.slice (some ⟨g, 0, none⟩) l.length c) l ∧ w.grownBy wr (some g)) (fun _ i _ => l.length - (intOf i).toNat)
    case atStart => exact ⟨0, Nat.zero_le _, rfl, HO.out, World.grownBy.refl _ _⟩
    case round =>
      obtain ⟨k, hk, rfl, hO, hG⟩ := hrel
      by_cases hlt : k < l.length
      · obtain ⟨s, hks⟩ : ∃ s, l[k]? = some s := ⟨_, List.getElem?_eq_getElem hlt⟩
        have hsd : s.data.length ≤ 140737488355328 := by
          have := HL.out s (List.mem_of_getElem? hks)
          omega
        obtain ⟨d, c0, c1, c2, c3, c4, hd, hn, hok⟩ := hO.cells hks
        have HO2 := Lib.hid hO
        have HKS := Lib.hid hks
        have HSD := Lib.hid hsd
        have HD := Lib.hid hd
        obtain ⟨A', c', hdv, _⟩ := hd
        subst hdv
        clear hO hks hsd hn c0 c1 c2 c3
        go_wp2_with fail
        refine (bclone_any s.data _ _ HSD.out HD.out).mono ?_
        rintro e w1 ⟨d1, rfl, hown1, hb1⟩
        obtain ⟨h5, h6⟩ := HO2.out.data HKS.out hb1 hown1
        have hf := (HO2.out.below hb1).frozen (k * 5 + 4)
        have hcc := ((HO2.out.below hb1).cells HKS.out)
        obtain ⟨d2, x0, x1, x2, x3, x4, _⟩ := hcc
        obtain ⟨A1, cc1, hdv1, _⟩ := hown1.form
        subst hdv1
        have H5 := Lib.hid h5
        have H6 := Lib.hid h6
        clear h5 h6 hown1 x0 x1 x2 x3 c4
        go_wp2_with fail
        exact ⟨⟨k + 1, by omega, by go_num, H5.out, grown_trans hG H6.out⟩, by simp [intOf]; omega⟩
      · go_wp2_with fail
        go_ret
        exact ⟨rfl, hO, hG⟩

end Go.Proofs.Ytpanpebllapbcaa
