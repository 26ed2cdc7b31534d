/-
  CONTRACTS of the program's block.indexed, filtered, objects, Make: what is put of a block. Conditions: what each says; of the library's tables: Ld.
-/
import Derived.Test.YtnghpcfdgjkokaaGreatDoorBkB
namespace Go.Proofs.YtnghpcfdgjkokaaGreatDoor
open Go.RowKit
set_option maxRecDepth 100000

set_option maxHeartbeats 1600000 in
theorem indexed_any (v : Value) (ps : List (List Tn)) (w : World) (h : Sls TsV w v ps) (hp : pagesB ps = true) (hl : ps.flatten.length ≤ 100000000) :
    Calls Tryz.prog 65 #[v] w fun e w' => ∃ y, e = .returned y ∧ Own w' w.heap.size 5 y (bkIx ps) ∧ Below w.heap.size w w' := by
  have hids := sls_ids h
  have HIX : Hid (ixB (ps.map firstId) = true ∧ ∀ x ∈ ps.map firstId, x < 18446744073709551616) := Lib.hid ⟨(pagesB_pgs hp).ix fun r hr t ht => (hids r hr t ht).1, Pgs.bound fun r hr t ht => (hids r hr t ht).2⟩
  have hC := iof_any v ps w h hl
  have HP := Lib.hid hp
  clear hids hp hl
  obtain ⟨A, c, rfl, _, _⟩ := h.form
  clear h
  go_enter Tryz.func65, Tryz.ntmps65
  go_wp2_with fail
  refine hC.mono ?_
  rintro e w1 ⟨⟨h, _⟩ | ⟨_, y, rfl, hy⟩, hb1⟩
  · rw [HP.out] at h
    cases h
  have HB1 := Lib.hid hb1
  have HY := Lib.hid hy
  obtain ⟨B, c', hv, _, _⟩ := hy.form
  rw [List.length_map] at hv
  subst hv
  clear hC hy hb1
  go_wp2_with fail
  refine (iput_ok _ _ _ HY.out HIX.out.1 HIX.out.2).mono ?_
  rintro e w2 ⟨z, rfl, hz, hb2⟩
  have HZ := Lib.hid (hz.lower HB1.out.size)
  have HB2 := Lib.hid (HB1.out.trans (hb2.mono HB1.out.size))
  clear hz hb2
  go_wp2_with fail
  go_ret
  exact ⟨_, rfl, HZ.out, HB2.out⟩

set_option maxHeartbeats 3200000 in
theorem filtered_any (v : Value) (l : List Tn) (s : Sz) (w : World) (h : Ts w v l) (hs : szB s = true) :
    Calls Tryz.prog 66 #[v, szV s] w fun e w' => ∃ y, e = .returned y ∧ Own w' w.heap.size 5 y (bkFl l s).bytes ∧ Below w.heap.size w w' := by
  obtain ⟨hR, _, _⟩ := szB_iff.1 hs
  obtain ⟨r1, r2, r3, r4, r5, r6, r7⟩ := rightI_iff.1 hR
  obtain ⟨pg, sh, bi, hs'⟩ := s
  simp only at hR r1 r2 r3 r4 r5 r6 r7
  obtain ⟨sh, rfl⟩ := nat_of (n := sh) (by omega)
  obtain ⟨bi, rfl⟩ := nat_of (n := bi) (by omega)
  obtain ⟨hh, rfl⟩ := nat_of (n := hs') (by omega)
  have HFL : Hid (bkFl l ⟨pg, sh, bi, hh⟩ = (Bl.new sh bi hh).adds (l.map fun t => t.id.toNat)) := Lib.hid rfl
  rw [HFL.out]
  have HNw := Lib.hid (fun u : World => bnew_ok u hR)
  obtain ⟨A, c, rfl, hc1, hc2⟩ := h.form
  have H := Lib.hid h
  have HB0 : Hid (Below w.heap.size w (w.alloc (.cells #[.int .i64 pg, .int .i64 (sh : Int), .int .i64 (bi : Int), .int .i64 (hh : Int)] 25))) := Lib.hid ((Below.refl _ _).alloc (Nat.le_refl _) _)
  clear h hs hR r1 r2 r3 r4 r5 r6 r7
  simp only [szV]
  go_enter Tryz.func66, Tryz.ntmps66
  go_wp2_with fail
  refine (HNw.out _).mono ?_
  rintro e w1 ⟨g, F, rfl, hP, hb1, hF1⟩
  have HW1 : Hid (PBt w1 F g ((Bl.new sh bi hh).adds ((l.take 0).map fun t => t.id.toNat)) ∧ Below w.heap.size w w1 ∧ ∀ z, F z → w.heap.size ≤ z) := Lib.hid ⟨⟨_, _, hP⟩, HB0.out.trans (hb1.mono HB0.out.size), fun z hz => Nat.le_trans HB0.out.size (hF1 z hz)⟩
  clear hP hb1 hF1 HB0
  go_wp2_with fail
  go_loopg [21] l.length (fun gk iv wr => ∃ (k : Nat) (F : Nat → Prop), k + gk = l.length ∧ iv = .int .i64 (k : Int) ∧ Hid (PBt wr F g ((Bl.new sh bi hh).adds ((l.take k).map fun t => t.id.toNat)) ∧ Below w.heap.size w wr ∧ ∀ z, F z → w.heap.size ≤ z))
  case atStart => exact ⟨0, F, by omega, rfl, HW1⟩
  case round =>
    obtain ⟨k, F, hk, rfl, HW⟩ := hrel
    clear HW1
    by_cases hlt : k < l.length
    · obtain ⟨gk1, hgk1⟩ : ∃ x, gk = x + 1 := ⟨gk - 1, by omega⟩
      obtain ⟨t, hkt⟩ : ∃ t, l[k]? = some t := ⟨_, List.getElem?_eq_getElem hlt⟩
      obtain ⟨z, o, d, rfl, hz, c0, c1, hd, i0, i1⟩ := H.out.cells hkt
      obtain ⟨x, hx⟩ := nat_of i0
      rw [hx] at c0
      have hxb : x < 18446744073709551616 := by omega
      have d0 := (HW.out.2.1.cell (p := ⟨z, o + k * 2, none⟩) hz).trans c0
      have d1 := (HW.out.2.1.cell (p := ⟨z, o + k * 2 + 1, none⟩) hz).trans c1
      obtain ⟨Ad, cd, rfl, _, _⟩ := hd.form
      have HT : Hid ((Bl.new sh bi hh).adds ((l.take (k + 1)).map fun t => t.id.toNat) = ((Bl.new sh bi hh).adds ((l.take k).map fun t => t.id.toNat)).add x) := Lib.hid (by
        rw [take_snoc_at hkt, List.map_append, List.map_cons, List.map_nil, hx]
        exact Bl.adds_snoc _ _ _)
      have hb2 : Below wr.heap.size wr (wr.alloc (.cells #[.int .u64 (x : Int), .slice Ad t.sp.length cd] 75)) := (Below.refl _ _).alloc (Nat.le_refl _) _
      have hA := badd_any x ((PBt.thing g _).keep HW.out.1 (Apt.of_below hb2)) hxb
      rw [← HT.out] at hA
      have HB2 := Lib.hid (HW.out.2.1.trans (hb2.mono HW.out.2.1.size))
      have HF2 := Lib.hid HW.out.2.2
      clear hkt c0 c1 hd hx hb2
      go_wp2_with fail
      refine hA.mono ?_
      rintro e w4 ⟨rfl, F4, hP4, hG4⟩
      have HW4 : Hid (PBt w4 F4 g ((Bl.new sh bi hh).adds ((l.take (k + 1)).map fun t => t.id.toNat)) ∧ Below w.heap.size w w4 ∧ ∀ z, F4 z → w.heap.size ≤ z) := Lib.hid ⟨hP4, below_apt HB2.out hG4.apt HF2.out HB2.out.size, fun z hz => (hG4.new z hz).elim (HF2.out z) fun h => Nat.le_trans HB2.out.size h⟩
      clear hA hP4 hG4 d0 d1 HW HB2 HF2
      go_wp2_with fail
      go_roundg gk1
      case measure => omega
      case rel => exact ⟨k + 1, F4, by omega, by go_num, HW4⟩
    · have hkn : k = l.length := by omega
      subst hkn
      have hC := bbytes_any (by have := HW.out.1; rw [List.take_length] at this; exact this)
      have HB := Lib.hid HW.out.2.1
      clear HW
      go_wp2_with fail
      refine hC.mono ?_
      rintro e w5 ⟨y, rfl, ho, hb⟩
      have HO := Lib.hid (ho.lower HB.out.size)
      have HB5 := Lib.hid (HB.out.trans (hb.mono HB.out.size))
      clear hC ho hb
      go_wp2_with fail
      go_ret
      exact ⟨_, rfl, HO.out, HB5.out⟩

theorem bobT : ElemT Tryz.prog 28 42 2 40 := ⟨Tryz.underlying28, by omega, by
  refine ⟨_, _, rfl, rfl, rfl, rfl, ?_⟩
  rfl⟩
/-- the cells of what is put: its bytes are the call's own -/
def obE (base : Nat) (u : World) (o : Ob) (x : List Value) : Prop := ∃ d, x = [.string (Bstr o.nm), d] ∧ Own u base 5 d o.b
theorem obE_one {base : Nat} {u : World} {o : Ob} {x : List Value} (h : obE base u o x) : ∀ z ∈ x, z.oneCell' = true := by
  obtain ⟨d, rfl, hd⟩ := h
  obtain ⟨A, c, rfl, _⟩ := hd.form
  intro z hz
  simp only [List.mem_cons, List.not_mem_nil, or_false] at hz
  rcases hz with rfl | rfl <;> rfl
/-- bytes of the call's own, in a block apart from what is bad -/
theorem obE_keep {base : Nat} {w : World} {nm b : List UInt8} {d : Value} {bad : Nat → Prop} (h : Own w base 5 d b) (hn : ∀ q, d.ownBlock = some q → ¬ bad q) : Keep bad (fun u => obE base u ⟨nm, b⟩ [.string (Bstr nm), d]) w :=
  fun _ ha => ⟨d, rfl, h.apt ha hn⟩
/-- the objects, in a row of the call's own -/
abbrev ObR (w : World) (base : Nat) (v : Value) (l : List Ob) : Prop := OwnK 2 w base 42 (fun _ => False) (obE base) v l

theorem ObR.lower {w : World} {base base' : Nat} {v : Value} {l : List Ob} (h : ObR w base v l) (hb : base' ≤ base) : ObR w base' v l := by
  obtain ⟨xs, h1, h2⟩ := h
  refine ⟨xs, h1.lower hb, h2.mono fun a x hk u ha => ?_⟩
  obtain ⟨d, hx, hd⟩ := hk u ha
  exact ⟨d, hx, hd.lower hb⟩
/-- boxes that stay: of a meta, and of sizes -/
structure BxM (w : World) (g4 g7 : Nat) (C4 C7 : Array Value) (u : World) : Prop where
  b4 : Blk u g4 30 C4
  b7 : Blk u g7 25 C7
  bel : Below w.heap.size w u
section
variable {w u u' : World} {g4 g7 : Nat} {C4 C7 : Array Value}
theorem BxM.later (h : BxM w g4 g7 C4 C7 u) (hb : Below u.heap.size u u') : BxM w g4 g7 C4 C7 u' := ⟨h.b4.below hb h.b4.lt, h.b7.below hb h.b7.lt, h.bel.trans (hb.mono h.bel.size)⟩
theorem BxM.grown {row : Option Nat} {B : Nat} (h : BxM w g4 g7 C4 C7 u) (hg : u.grownBy u' row) (hr : ∀ q, row = some q → B ≤ q) (h4 : g4 < B) (h7 : g7 < B) (hB : w.heap.size ≤ B) : BxM w g4 g7 C4 C7 u' :=
  ⟨h.b4.grown hg fun e => by have := hr g4 e.symm; omega, h.b7.grown hg fun e => by have := hr g7 e.symm; omega, h.bel.grown hg h.bel.size fun q hq => Nat.le_trans hB (hr q hq)⟩
end

section
variable {α : Type} {k : Nat} {w : World} {base : Nat} {e : TypeId} {bad : Nat → Prop} {E : World → α → List Value → Prop} {v : Value} {l : List α}
/-- append, of more than one -/
theorem run_append_Ks {P : Program} {t : TypeId} {bytes : Nat} (HT : ElemT P t e k bytes) (ty : TypeId) (h : OwnK k w base e bad E v l) {bs : List α} {ys : List (List Value)} {V : Value} (hV : Lv k w V ys) (hy : Two (fun b y => Keep (fun q => bad q ∨ v.ownBlock = some q) (fun u => E u b y) w) bs ys)
    (h1 : ∀ y ∈ ys, ∀ u ∈ y, u.oneCell' = true) (hl : l.length + bs.length ≤ 1000000000) (hbytes : bytes ≤ 100) (hbase : base ≤ w.heap.size) :
    ∃ v' w', (Builtin.append_ #[t, t] ty #[v, V]).run P w = .ok v' w' ∧ OwnK k w' base e bad E v' (l ++ bs) ∧ w.grownBy w' v.ownBlock ∧ (v'.ownBlock = v.ownBlock ∨ v'.ownBlock = some w.heap.size) := by
  obtain ⟨xs, o1, o2⟩ := h
  have e1 := o2.len
  have e2 := hy.len
  have hm : (xs.length + ys.length) * bytes ≤ 1000000000 * 100 := Nat.mul_le_mul (by omega) hbytes
  obtain ⟨v', w', hrun, ho, hg, hv⟩ := run_append_elems w HT ty base v xs o1 V ys hV h1 (by simp only [maxLen]; omega) (by omega) hbase
  refine ⟨v', w', hrun, ⟨xs ++ ys, ho, (o2.append hy).mono fun _ _ hk => hk.go (Apt.of_grown hg fun q hq => .inr hq) fun q hq => ?_⟩, hg, hv⟩
  rcases hq with hq | hq
  · exact .inl (.inl hq)
  · rcases hv with h | h
    · exact .inl (.inr (by rw [← h]; exact hq))
    · rw [h] at hq
      injection hq with hq
      exact .inr (by omega)
theorem step_append_Ks {P : Program} {t : TypeId} {bytes : Nat} (HT : ElemT P t e k bytes) {ops : Array Oper} {o : Oper} {a : Act} {K : Act → World → Prop} {Q : Exit → Act → World → Prop} {D : Prop} (hgd : o.guard = none) (sx x : Operand)
    (ho : o.op = .call { callee := .builtin .append, args := #[sx, x], argTypes := #[t, t] })
    (hs : a.eval sx = v) (h : OwnK k w base e bad E v l) {bs : List α} {ys : List (List Value)} {V : Value} (hx : a.eval x = V) (hV : Lv k w V ys) (hy : Two (fun b y => Keep (fun q => bad q ∨ v.ownBlock = some q) (fun u => E u b y) w) bs ys)
    (h1 : ∀ y ∈ ys, ∀ u ∈ y, u.oneCell' = true) (hl : l.length + bs.length ≤ 1000000000) (hbytes : bytes ≤ 100) (hbase : base ≤ w.heap.size)
    (hK : ∀ v' w', OwnK k w' base e bad E v' (l ++ bs) → w.grownBy w' v.ownBlock → (v'.ownBlock = v.ownBlock ∨ v'.ownBlock = some w.heap.size) → K (a.put o.dst v') w') :
    if Region.wanted o (yielded ops a.tmps) = true then Oper.wp P o a w K Q else D := by
  have hw : Region.wanted o (yielded ops a.tmps) = true := by simp [Region.wanted, hgd]
  rw [if_pos hw]
  obtain ⟨v', w', hrun, h2, h3, h4⟩ := run_append_Ks HT o.type h hV hy h1 hl hbytes hbase
  unfold Oper.wp execOp
  simp only [ho, resolve, invoke, builtin, Sem.run_bind, Sem.run_pure, Result.andThen_ok, List.map_toArray, List.map_cons, List.map_nil, hs, hx, hrun]
  exact hK v' w' h2 h3 h4
end
theorem Two.three {α β : Type} {R : α → β → Prop} {a b c : α} {x y z : β} (h1 : R a x) (h2 : R b y) (h3 : R c z) : Two R [a, b, c] [x, y, z] := ((Two.nil.snoc h1).snoc h2).snoc h3
theorem Lv.lit3 {w : World} (x1 x2 y1 y2 z1 z2 : Value) (e : TypeId) : Lv 2 (w.alloc (.cells #[x1, x2, y1, y2, z1, z2] e)) (.slice (some ⟨w.heap.size, 0, none⟩) 3 3) [[x1, x2], [y1, y2], [z1, z2]] := by
  have hb := Blk.new w e #[x1, x2, y1, y2, z1, z2]
  refine ⟨_, 3, rfl, Nat.le_refl _, by omega, fun x hx => by simp at hx; rcases hx with rfl | rfl | rfl <;> rfl, Rd.of_cells fun j u hu => ?_⟩
  have hj : j < 6 := by simpa using (List.getElem?_eq_some_iff.1 hu).1
  rw [Addr.add_lit, Nat.zero_add, hb.cell j]
  simpa using hu

/-- the objects, in a row of the call's own, as they read in one world -/
def ObS (w : World) (base : Nat) (v : Value) (l : List Ob) : Prop := ∃ xs, OwnL 2 w base 42 v xs ∧ Two (obE base w) l xs
section
variable {w u : World} {base base' : Nat} {v : Value} {l : List Ob} {bad : Nat → Prop}
theorem ObR.obs (h : ObR w base v l) : ObS w base v l := by
  obtain ⟨xs, h1, h2⟩ := h
  exact ⟨xs, h1, h2.mono fun _ _ hk => hk.here⟩
theorem ObS.apt (h : ObS w base v l) (ha : Apt bad w u) (hb : ∀ q, base ≤ q → q < w.heap.size → ¬ bad q) : ObS u base v l := by
  obtain ⟨xs, h1, h2⟩ := h
  refine ⟨xs, h1.apt ha fun q hq => hb q (h1.ge q hq) (h1.lt q hq), h2.mono fun a x he => ?_⟩
  obtain ⟨d, hx, hd⟩ := he
  exact ⟨d, hx, hd.apt ha fun q hq => hb q (World.ownsRow.lt hd q hq).1 (World.ownsRow.lt hd q hq).2⟩
theorem ObS.below (h : ObS w base v l) (hb : Below w.heap.size w u) : ObS u base v l := h.apt (bad := fun _ => False) (Apt.of_below hb) fun _ _ _ h => h
theorem ObS.lower (h : ObS w base v l) (hb : base' ≤ base) : ObS w base' v l := by
  obtain ⟨xs, h1, h2⟩ := h
  refine ⟨xs, h1.lower hb, h2.mono fun a x he => ?_⟩
  obtain ⟨d, hx, hd⟩ := he
  exact ⟨d, hx, hd.lower hb⟩
theorem ObS.form (h : ObS w base v l) : ∃ A c, v = .slice A l.length c ∧ l.length ≤ c ∧ c ≤ 9223372036854775807 := by
  obtain ⟨xs, h1, h2⟩ := h
  obtain ⟨A, c, hv, h3, h4⟩ := h1.lv.form
  rw [← h2.len] at hv h3
  exact ⟨A, c, hv, h3, h4⟩
/-- the cells of one of them -/
theorem ObS.cells {A : Option Addr} {n c : Nat} (h : ObS w base (.slice A n c) l) {i : Nat} {o : Ob} (hi : l[i]? = some o) :
    ∃ g p d, A = some ⟨g, p, none⟩ ∧ base ≤ g ∧ g < w.heap.size ∧ w.cell? ⟨g, p + i * 2, none⟩ = some (.string (Bstr o.nm)) ∧ w.cell? ⟨g, p + i * 2 + 1, none⟩ = some d ∧ Own w base 5 d o.b := by
  obtain ⟨xs, h1, h2⟩ := h
  obtain ⟨x, hx, d, rfl, hd⟩ := h2.right hi
  obtain ⟨g, p, hA, hg, hc⟩ := h1.lv.cells (by omega) hx
  subst hA
  exact ⟨g, p, d, rfl, h1.ge g rfl, hg, hc 0 _ rfl, hc 1 _ rfl, hd⟩
end

end Go.Proofs.YtnghpcfdgjkokaaGreatDoor
