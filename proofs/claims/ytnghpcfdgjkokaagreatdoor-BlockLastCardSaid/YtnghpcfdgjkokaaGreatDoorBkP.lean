/-
  CONTRACTS of the document's Meta, Page, All (of a block in a store), where the block isn't there, and where all of it is. Conditions: what each says.
-/
import Derived.Test.YtnghpcfdgjkokaaGreatDoorBkL
import Derived.Test.YtnghpcfdgjkokaaGreatDoorPgG
namespace Go.Proofs.YtnghpcfdgjkokaaGreatDoor
open Go.RowKit
set_option maxRecDepth 100000

theorem bytesB14 (l : List UInt8) (w : World) (hl : l.length ≤ 1048576) : ∃ G W, (convert 9 40 (.string (Bstr l))).run Tryz.prog w = .ok (.slice (some ⟨w.heap.size, 0, none⟩) l.length G) W ∧ Bs W (.slice (some ⟨w.heap.size, 0, none⟩) l.length G) l ∧ Below w.heap.size w W ∧ w.heap.size < W.heap.size := by
  obtain ⟨G, W, hr, h1, h2, hb, hs, hc⟩ := bytesOf l w hl
  refine ⟨G, W, hr, ⟨_, G, rfl, h1, h2, Rd.of_cells fun j u hu => ?_⟩, hb, hs⟩
  rw [BV_getElem?] at hu
  cases hj : l[j]? with
  | none => rw [hj] at hu; cases hu
  | some y =>
    rw [hj] at hu
    injection hu with hu
    subst hu
    rw [Addr.add_lit, Nat.zero_add]
    exact (hc j y hj).1

section
variable {α : Type} {k : Nat} {w : World} {base : Nat} {e : TypeId} {bad : Nat → Prop} {E : World → α → List Value → Prop} {v : Value} {l : List α}
theorem wpList_append_Ks {P : Program} {t : TypeId} {bytes : Nat} (HT : ElemT P t e k bytes) {ops : Array Oper} {rest : List Oper} {o : Oper} {a : Act} {Q : Exit → Act → World → Prop} (hgd : o.guard = none) (sx x : Operand)
    (ho : o.op = .call { callee := .builtin .append, args := #[sx, x], argTypes := #[t, t] })
    (hs : a.eval sx = v) (h : OwnK k w base e bad E v l) {bs : List α} {ys : List (List Value)} {V : Value} (hx : a.eval x = V) (hV : Lv k w V ys) (hy : Two (fun b y => Keep (fun q => bad q ∨ v.ownBlock = some q) (fun u => E u b y) w) bs ys)
    (h1 : ∀ y ∈ ys, ∀ u ∈ y, u.oneCell' = true) (hl : l.length + bs.length ≤ 1000000000) (hbytes : bytes ≤ 100) (hbase : base ≤ w.heap.size)
    (hK : ∀ v' w', OwnK k w' base e bad E v' (l ++ bs) → w.grownBy w' v.ownBlock → (v'.ownBlock = v.ownBlock ∨ v'.ownBlock = some w.heap.size) → wpList P ops Q rest (a.put o.dst v') w') : wpList P ops Q (o :: rest) a w := by
  refine wpList_plain hgd fun K hK' => ?_
  obtain ⟨v', w', hrun, h2, h3, h4⟩ := run_append_Ks HT o.type h hV hy h1 hl hbytes hbase
  unfold Oper.wp execOp
  simp only [ho, resolve, invoke, builtin, Sem.run_bind, Sem.run_pure, Result.andThen_ok, List.map_toArray, List.map_cons, List.map_nil, hs, hx, hrun]
  exact hK' _ _ (hK v' w' h2 h3 h4)
end

theorem errN {n : Int} (h : n ≠ 0) : (n == 0) = false := by simpa using h
/-- a new block turns -/
theorem Apt.grown14 {bad : Nat → Prop} {w w1 w2 : World} {r : Nat} (h : Apt bad w w1) (hg : w1.grownBy w2 (some r)) (hr : w.heap.size ≤ r) : Apt bad w w2 :=
  ⟨hg.os.trans h.os, hg.tape.trans h.tape, hg.output.trans h.output, Nat.le_trans h.size hg.size, fun q hq hF => (hg.block q (Nat.lt_of_lt_of_le hq h.size) fun e => by have := Option.some.inj e; omega).trans (h.block q hq hF)⟩
theorem Apt.ofG {w w' : World} {g : Nat} (h : w.grownBy w' (some g)) : Apt (fun q => q = g) w w' := Apt.of_grown h fun _ hq => (Option.some.inj hq).symm

set_option maxHeartbeats 3200000 in
theorem DMeta_none {base g : Nat} {v : Value} {m : Sm} (id : Nat) (w : World) (hD : DS w base g v m) (hm : m.ok) (hc : m.calls < 1000000000) (hl : m.left = -1) (hid : id < 18446744073709551616) (hf : fnd (nmOf id [109] 0) m.l = none) :
    Calls Tryz.prog 56 #[.pointer (some ⟨g, 0, none⟩), .int .u64 (id : Int)] w fun e w' => e = .returned (.tuple #[meV Me.zero, .int .i64 4]) ∧ DS w' base g v (callS m) ∧ Apt (fun q => q = g) w w' := by
  have hb0 : Below w.heap.size w (w.alloc (.cells meZ 30)) := (Below.refl _ _).alloc (Nat.le_refl _) _
  have HR0 : Hid (Blk (w.alloc (.cells meZ 30)) w.heap.size 30 meZ) := Lib.hid (Blk.new _ _ _)
  have HB0 := Lib.hid hb0
  have HD0 := Lib.hid (hD.below hb0)
  have HG := Lib.hid hD.blk.lt
  have HVB : Hid (∀ q, v.ownBlock = some q → q < w.heap.size) := Lib.hid fun q hq => hD.row.lt q hq
  have hget := fun u (hu : DS u base g v m) => DGet_any base g v m (nmOf id [109] 0) u hu hm hc
  rw [sGet_no (left_call hl).1 hf] at hget
  have HMM := Lib.hid hm
  clear hb0 hD hm
  go_enter Tryz.func56, Tryz.ntmps56
  go_wp2_with fail
  revert HR0 HB0 HD0
  generalize w.alloc (.cells meZ 30) = w0
  intro HR0 HB0 HD0
  refine (Name_any id [109] 0 _ hid (by omega)).mono ?_
  rintro e w1 ⟨rfl, hb1⟩
  have HR1 := Lib.hid (HR0.out.below hb1 HR0.out.lt)
  have HB1 := Lib.hid (HB0.out.trans (hb1.mono HB0.out.size))
  have HD1 := Lib.hid (HD0.out.below hb1)
  clear hb1 HR0 HB0 HD0
  go_wp2_with fail
  refine (hget _ HD1.out).mono ?_
  rintro e w2 ⟨rfl, hD2, hg2⟩
  have HD2 := Lib.hid hD2
  have HR2 := Lib.hid (HR1.out.grown hg2 (fun e => by have := Option.some.inj e; have := HG.out; omega))
  have HA2 : Hid (Apt (fun q => q = g) w w2) := Lib.hid ((Apt.of_below HB1.out).trans (Apt.ofG hg2))
  have hfz := fun i => HR2.out.frozen i
  have r0 := HR2.out.cell 0
  have r1 := HR2.out.cell 1
  have r2 := HR2.out.cell 2
  have r3 := HR2.out.cell 3
  have r4 := HR2.out.cell 4
  have r5 := HR2.out.cell 5
  simp at r0 r1 r2 r3 r4 r5
  clear hget hD2 hg2 HD1 HR1 HB1
  go_wp2_with fail
  have hm2 := setall6 _ HR2.out (.int .u64 0) (.int .i64 0) (.int .i64 0) (.int .i64 0) (.int .i64 0) (.int .i64 0)
  have hg3 := gset6 w2 w.heap.size (.int .u64 0) (.int .i64 0) (.int .i64 0) (.int .i64 0) (.int .i64 0) (.int .i64 0)
  refine bodyPost_ret (v := .tuple #[.agg meZ, .int .i64 4]) (by have c := hm2.cell; simp [results, go_sem, c]; try rfl) rfl ?_
  have hNF : ¬ yF g v w.heap.size := fun hF => by
    rcases hF with h | h
    · have := HG.out
      omega
    · have := HVB.out _ h
      omega
  exact ⟨rfl, HD2.out.set9 hg3 hNF, HA2.out.grown14 hg3 (Nat.le_refl _)⟩

set_option maxHeartbeats 3200000 in
theorem DMeta_ok {base g : Nat} {v : Value} {m : Sm} {o : Ob} {M : Me} (id : Nat) (w : World) (hD : DS w base g v m) (hm : m.ok) (hc : m.calls < 1000000000) (hl : m.left = -1) (hid : id < 18446744073709551616) (hf : fnd (nmOf id [109] 0) m.l = some o) (ho : o.b = sealedOf (meRaw M)) (hMb : meB M = true) (hMo : M.ok) (hMi : M.id = (id : Int)) :
    Calls Tryz.prog 56 #[.pointer (some ⟨g, 0, none⟩), .int .u64 (id : Int)] w fun e w' => e = .returned (.tuple #[meV M, .int .i64 0]) ∧ DS w' base g v (callS m) ∧ Apt (fun q => q = g) w w' := by
  have hb0 : Below w.heap.size w (w.alloc (.cells meZ 30)) := (Below.refl _ _).alloc (Nat.le_refl _) _
  have HR0 : Hid (Blk (w.alloc (.cells meZ 30)) w.heap.size 30 meZ) := Lib.hid (Blk.new _ _ _)
  have HB0 := Lib.hid hb0
  have HD0 := Lib.hid (hD.below hb0)
  have HG := Lib.hid hD.blk.lt
  have HVB : Hid (∀ q, v.ownBlock = some q → q < w.heap.size) := Lib.hid fun q hq => hD.row.lt q hq
  have hget := fun u (hu : DS u base g v m) => DGet_any base g v m (nmOf id [109] 0) u hu hm hc
  rw [sGet_fnd (left_call hl).1 hf, ho] at hget
  have hlen : (sealedOf (meRaw M)).length ≤ 1048576 := by rw [sealedOf_length, meRaw_length]; omega
  have hmeta := fun u x (hx : Bs u x (sealedOf (meRaw M))) => Meta_any u hx (by omega)
  rw [meX_put M hMb hMo] at hmeta
  generalize sealedOf (meRaw M) = sb at hget hmeta hlen
  obtain ⟨mi, ml, ms, mn, mp, mt⟩ := M
  simp only at hMi
  subst hMi
  simp only [meV] at hmeta
  clear hb0 hD hm hf ho hMb hMo
  go_enter Tryz.func56, Tryz.ntmps56
  go_wp2_with fail
  revert HR0 HB0 HD0
  generalize w.alloc (.cells meZ 30) = w0
  intro HR0 HB0 HD0
  refine (Name_any id [109] 0 _ hid (by omega)).mono ?_
  rintro e w1 ⟨rfl, hb1⟩
  have HR1 := Lib.hid (HR0.out.below hb1 HR0.out.lt)
  have HB1 := Lib.hid (HB0.out.trans (hb1.mono HB0.out.size))
  have HD1 := Lib.hid (HD0.out.below hb1)
  clear hb1 HR0 HB0 HD0
  go_wp2_with fail
  refine (hget _ HD1.out).mono ?_
  rintro e w2 ⟨rfl, hD2, hg2⟩
  have HR2 := Lib.hid (HR1.out.grown hg2 (fun e => by have := Option.some.inj e; have := HG.out; omega))
  have HA2 : Hid (Apt (fun q => q = g) w w2) := Lib.hid ((Apt.of_below HB1.out).trans (Apt.ofG hg2))
  obtain ⟨G, W, hcv, hbs, hbW, _⟩ := bytesB14 sb w2 hlen
  have HRW := Lib.hid (HR2.out.below hbW HR2.out.lt)
  have HAW := Lib.hid (HA2.out.trans (Apt.of_below hbW))
  have HDW := Lib.hid (hD2.below hbW)
  have HBS := Lib.hid hbs
  generalize sb.length = nsb at *
  clear hget hD2 hg2 HD1 HR1 HB1 HR2 HA2 hbW hbs
  go_wp2_with fail
  refine (hmeta _ _ HBS.out).mono ?_
  rintro e w4 ⟨rfl, hb4⟩
  have HR4 := Lib.hid (HRW.out.below hb4 HRW.out.lt)
  have HA4 := Lib.hid (HAW.out.trans (Apt.of_below hb4))
  have HD4 := Lib.hid (HDW.out.below hb4)
  have hb5 : Below w4.heap.size w4 (w4.alloc (.cells #[.int .u64 id, .int .i64 ml, .int .i64 ms, .int .i64 mn, .int .i64 mp, .int .i64 mt] 30)) := (Below.refl _ _).alloc (Nat.le_refl _) _
  have HN5 : Hid (Blk (w4.alloc (.cells #[.int .u64 id, .int .i64 ml, .int .i64 ms, .int .i64 mn, .int .i64 mp, .int .i64 mt] 30)) w4.heap.size 30 #[.int .u64 id, .int .i64 ml, .int .i64 ms, .int .i64 mn, .int .i64 mp, .int .i64 mt]) := Lib.hid (Blk.new _ _ _)
  have HR5 := Lib.hid (HR4.out.below hb5 HR4.out.lt)
  have HA5 := Lib.hid (HA4.out.trans (Apt.of_below hb5))
  have HD5 := Lib.hid (HD4.out.below hb5)
  have hfz := fun i => HR5.out.frozen i
  have r0 := HR5.out.cell 0
  have r1 := HR5.out.cell 1
  have r2 := HR5.out.cell 2
  have r3 := HR5.out.cell 3
  have r4 := HR5.out.cell 4
  have r5 := HR5.out.cell 5
  simp at r0 r1 r2 r3 r4 r5
  clear hmeta hb4 hb5 HRW HAW HDW HBS hcv HR4 HA4 HD4
  go_wp2_with fail
  revert HN5 HR5 HA5 HD5
  generalize w4.alloc (.cells #[.int .u64 id, .int .i64 ml, .int .i64 ms, .int .i64 mn, .int .i64 mp, .int .i64 mt] 30) = w5
  intro HN5 HR5 HA5 HD5
  have hm2 := setall6 _ HR5.out (.int .u64 id) (.int .i64 ml) (.int .i64 ms) (.int .i64 mn) (.int .i64 mp) (.int .i64 mt)
  have hg3 := gset6 w5 w.heap.size (.int .u64 id) (.int .i64 ml) (.int .i64 ms) (.int .i64 mn) (.int .i64 mp) (.int .i64 mt)
  refine bodyPost_ret (v := .tuple #[meV ⟨id, ml, ms, mn, mp, mt⟩, .int .i64 0]) (by have c := hm2.cell; simp [results, go_sem, c, meV]; try rfl) rfl ?_
  have hNF : ¬ yF g v w.heap.size := fun hF => by
    rcases hF with h | h
    · have := HG.out
      omega
    · have := HVB.out _ h
      omega
  exact ⟨rfl, HD5.out.set9 hg3 hNF, HA5.out.grown14 hg3 (Nat.le_refl _)⟩

set_option maxHeartbeats 3200000 in
theorem DPage_ok {base g : Nat} {v : Value} {m : Sm} {o : Ob} {x : List Tn} (id i : Nat) (w : World) (hD : DS w base g v m) (hm : m.ok) (hc : m.calls < 1000000000) (hl : m.left = -1) (hid : id < 18446744073709551616) (hi : i ≤ 1000) (hf : fnd (nmOf id [112] (i : Int)) m.l = some o) (ho : o.b = pgOf x) (hx : ValP x) (hlen : (pgOf x).length ≤ 1048576) :
    Calls Tryz.prog 57 #[.pointer (some ⟨g, 0, none⟩), .int .u64 (id : Int), .int .i64 (i : Int)] w fun e w' => ∃ y B, e = .returned (.tuple #[y, .int .i64 0]) ∧ DS w' base g v (callS m) ∧ Apt (fun q => q = g) w w' ∧ w.heap.size ≤ B ∧ OwnK 2 w' B 75 (fun q => q < B) TnC y x := by
  have HD := Lib.hid hD
  have hget := fun u (hu : DS u base g v m) => DGet_any base g v m (nmOf id [112] (i : Int)) u hu hm hc
  rw [sGet_fnd (left_call hl).1 hf, ho] at hget
  have hpg : ∀ u y, Bs u y (pgOf x) → Calls Tryz.prog 81 #[y] u fun e w' => ∃ z, e = .returned (.tuple #[z, .int .i64 0]) ∧ OwnK 2 w' u.heap.size 75 (fun q => q < u.heap.size) TnC z x ∧ Below u.heap.size u w' := fun u y hy => by
    have h4 : 4 ≤ (pgOf x).length := by rw [pgOf, sealedOf_length]; omega
    refine (Paged_own y (pgOf x) u hy (by omega)).mono ?_
    rintro e w' ⟨z, n, rfl, hP, hb⟩
    obtain ⟨rfl, _⟩ := hP.pp.yes x h4 (tail_sealed _) hx (body_sealed _).symm
    exact ⟨z, rfl, hP.own x h4 (tail_sealed _) hx (body_sealed _).symm, hb⟩
  generalize pgOf x = sb at hget hpg hlen
  clear hD hm hf ho hx
  go_enter Tryz.func57, Tryz.ntmps57
  go_wp2_with fail
  refine (Name_any id [112] (i : Int) _ hid (by omega)).mono ?_
  rintro e w1 ⟨rfl, hb1⟩
  have HB1 := Lib.hid hb1
  have HD1 := Lib.hid (HD.out.below hb1)
  clear hb1
  go_wp2_with fail
  refine (hget _ HD1.out).mono ?_
  rintro e w2 ⟨rfl, hD2, hg2⟩
  have HA2 : Hid (Apt (fun q => q = g) w w2) := Lib.hid ((Apt.of_below HB1.out).trans (Apt.ofG hg2))
  obtain ⟨G, W, hcv, hbs, hbW, _⟩ := bytesB14 sb w2 hlen
  have HAW := Lib.hid (HA2.out.trans (Apt.of_below hbW))
  have HDW := Lib.hid (hD2.below hbW)
  have HBS := Lib.hid hbs
  generalize sb.length = nsb at *
  clear hget hD2 hg2 HD1 HB1 HA2 hbW hbs HD
  go_wp2_with fail
  refine (hpg _ _ HBS.out).mono ?_
  rintro e w4 ⟨y, rfl, hO, hb4⟩
  have HO := Lib.hid hO
  have HA4 := Lib.hid (HAW.out.trans (Apt.of_below hb4))
  have HD4 := Lib.hid (HDW.out.below hb4)
  have HSZ := Lib.hid HAW.out.size
  clear hpg hO hb4 hcv HBS HAW HDW
  go_wp2_with fail
  go_ret2
  exact ⟨_, _, rfl, HD4.out, HA4.out, HSZ.out, HO.out⟩

set_option maxHeartbeats 3200000 in
theorem DAll_none {base g : Nat} {v : Value} {m : Sm} (id : Nat) (w : World) (hD : DS w base g v m) (hm : m.ok) (hc : m.calls < 1000000000) (hl : m.left = -1) (hid : id < 18446744073709551616) (hf : fnd (nmOf id [109] 0) m.l = none) :
    Calls Tryz.prog 25 #[.pointer (some ⟨g, 0, none⟩), .int .u64 (id : Int)] w fun e w' => e = .returned (.tuple #[.slice none 0 0, .int .i64 4]) ∧ Apt (fun q => q = g) w w' := by
  have hM := DMeta_none id w hD hm hc hl hid hf
  simp only [meV, Me.zero] at hM
  clear hD hm
  go_enter Tryz.func25, Tryz.ntmps25
  go_wp2_with fail
  refine hM.mono ?_
  rintro e w1 ⟨rfl, _, hA⟩
  have hb5 : Below w1.heap.size w1 (w1.alloc (.cells #[.int .u64 0, .int .i64 0, .int .i64 0, .int .i64 0, .int .i64 0, .int .i64 0] 30)) := (Below.refl _ _).alloc (Nat.le_refl _) _
  have HA := Lib.hid (hA.trans (Apt.of_below hb5))
  clear hA hb5 hM
  go_wp2_with fail
  go_ret2
  exact ⟨rfl, HA.out⟩

/-- what a store has of a block -/
structure HasBk (m : Sm) (id : Nat) (M : Me) (ps : List (List Tn)) : Prop where
  me : ∃ o, fnd (nmOf id [109] 0) m.l = some o ∧ o.b = sealedOf (meRaw M)
  mb : meB M = true
  mo : M.ok
  mi : M.id = (id : Int)
  mp : M.pg = (ps.length : Nat)
  mt : M.tr = (ps.flatten.length : Nat)
  is : IsT ps.flatten
  pages : ∀ (i : Nat) (p : List Tn), ps[i]? = some p → ∃ o, fnd (nmOf id [112] (i : Int)) m.l = some o ∧ o.b = pgOf p ∧ ValP p ∧ (pgOf p).length ≤ 1048576
  few : ps.length ≤ 200
  many : ps.flatten.length ≤ 1000000
theorem take_flat {α : Type} {ps : List (List α)} {k : Nat} {p : List α} (h : ps[k]? = some p) : (ps.take (k + 1)).flatten = (ps.take k).flatten ++ p := by
  rw [List.take_add_one, h]
  simp
theorem DS.grown14 {w w' : World} {base g : Nat} {v : Value} {m : Sm} {row : Option Nat} (h : DS w base g v m) (hg : w.grownBy w' row) (hn : ∀ q, row = some q → ¬ yF g v q) : DS w' base g v m :=
  ⟨h.blk.grown hg fun e => hn g e.symm (.inl rfl), h.row.kept hg (by
    cases hv : v.ownBlock with
    | none => exact .inl rfl
    | some z => exact .inr fun e => hn z e.symm (.inr hv)), h.ne, h.ge⟩

set_option maxHeartbeats 6400000 in
theorem DAll_ok {base g : Nat} {v : Value} {m : Sm} {M : Me} {ps : List (List Tn)} {N : Nat} (id : Nat) (w : World) (hD : DS w base g v m) (hm : m.fine N) (hN : N ≤ 1000) (hl : m.left = -1) (hid : id < 18446744073709551616) (hB : HasBk m id M ps) :
    Calls Tryz.prog 25 #[.pointer (some ⟨g, 0, none⟩), .int .u64 (id : Int)] w fun e w' => ∃ y, e = .returned (.tuple #[y, .int .i64 0]) ∧ Ts w' y ps.flatten ∧ Apt (fun q => q = g) w w' := by
  obtain ⟨o0, hf0, ho0⟩ := hB.me
  have hM := DMeta_ok id w hD (hm.ok (by omega)) (by have := hm.calls1; omega) hl hid hf0 ho0 hB.mb hB.mo hB.mi
  have HG := Lib.hid hD.blk.lt
  have HVB : Hid (∀ q, v.ownBlock = some q → q < w.heap.size) := Lib.hid fun q hq => hD.row.lt q hq
  have HBK := Lib.hid hB
  have HM := Lib.hid hm
  have HL := Lib.hid hl
  have hmp := hB.mp
  have hmt := hB.mt
  obtain ⟨mi, ml, ms, mn, mp, mt⟩ := M
  simp only at hmp hmt
  subst hmp
  subst hmt
  simp only [meV] at hM
  obtain ⟨n, hn⟩ : ∃ n, n = ps.length := ⟨_, rfl⟩
  obtain ⟨nt, hnt⟩ : ∃ n, n = ps.flatten.length := ⟨_, rfl⟩
  rw [← hn, ← hnt] at hM
  have hn200 : n ≤ 200 := by rw [hn]; exact hB.few
  have HNE := Lib.hid hn
  have HNT := Lib.hid hnt
  clear hD hm hf0 ho0 hB hl hn hnt
  go_enter Tryz.func25, Tryz.ntmps25
  go_wp2_with fail
  refine hM.mono ?_
  rintro e w1 ⟨rfl, hD1, hA1⟩
  have hb2 : Below w1.heap.size w1 (w1.alloc (.cells #[.int .u64 mi, .int .i64 ml, .int .i64 ms, .int .i64 mn, .int .i64 (n : Int), .int .i64 (nt : Int)] 30)) := (Below.refl _ _).alloc (Nat.le_refl _) _
  have HR2 : Hid (Blk (w1.alloc (.cells #[.int .u64 mi, .int .i64 ml, .int .i64 ms, .int .i64 mn, .int .i64 (n : Int), .int .i64 (nt : Int)] 30)) w1.heap.size 30 #[.int .u64 mi, .int .i64 ml, .int .i64 ms, .int .i64 mn, .int .i64 (n : Int), .int .i64 (nt : Int)]) := Lib.hid (Blk.new _ _ _)
  have HA2 := Lib.hid (hA1.trans (Apt.of_below hb2))
  have HD2 := Lib.hid (hD1.below hb2)
  have hs1 := hA1.size
  clear hM hD1 hA1 hb2
  go_wp2_with fail
  revert HR2 HA2 HD2
  generalize w1.alloc (.cells #[.int .u64 mi, .int .i64 ml, .int .i64 ms, .int .i64 mn, .int .i64 (n : Int), .int .i64 (nt : Int)] 30) = w2
  obtain ⟨g6, hg6⟩ : ∃ z, z = w1.heap.size := ⟨_, rfl⟩
  rw [← hg6]
  intro HR2 HA2 HD2
  have HG6 : Hid (w.heap.size ≤ g6) := Lib.hid (by omega)
  clear hg6 hs1
  go_loopg [8, 9] n (fun gk lv iv wr => ∃ (k : Nat) (mk : Sm), k + gk = n ∧ iv = .int .i64 (k : Int) ∧ Hid (OwnK 2 wr (g6 + 1) 75 (fun q => q = g ∨ q = g6) TnC lv (ps.take k).flatten ∧ DS wr base g v mk ∧ mk.l = m.l ∧ mk.left = -1 ∧ mk.fine (N + 1 + k) ∧ Blk wr g6 30 #[.int .u64 mi, .int .i64 ml, .int .i64 ms, .int .i64 mn, .int .i64 (n : Int), .int .i64 (nt : Int)] ∧ Apt (fun q => q = g) w wr))
  case atStart => exact ⟨0, callS m, by omega, rfl, Lib.hid ⟨OwnK.nil _ _ _ _ _ _, HD2.out, rfl, (left_call HL.out).2, HM.out.call, HR2.out, HA2.out⟩⟩
  case round =>
    obtain ⟨k, mk, hk, rfl, HW⟩ := hrel
    have b4 := HW.out.2.2.2.2.2.1.cell 4
    have b5 := HW.out.2.2.2.2.2.1.cell 5
    simp at b4 b5
    by_cases hlt : k < n
    · obtain ⟨gk1, hgk1⟩ : ∃ x, gk = x + 1 := ⟨gk - 1, by omega⟩
      obtain ⟨p, hp⟩ : ∃ p, ps[k]? = some p := ⟨_, List.getElem?_eq_getElem (by rw [← HNE.out]; exact hlt)⟩
      obtain ⟨o, hf, ho, hv, hlen⟩ := HBK.out.pages k p hp
      have hP := DPage_ok (o := o) id k wr HW.out.2.1 (HW.out.2.2.2.2.1.ok (by omega)) (by have := HW.out.2.2.2.2.1.calls1; omega) HW.out.2.2.2.1 hid (by omega) (by rw [HW.out.2.2.1]; exact hf) ho hv hlen
      have HP := Lib.hid hp
      clear hp hf ho hv hlen
      go_wp2_with fail
      refine hP.mono ?_
      rintro e w3 ⟨y, B, rfl, hD3, hA3, hB3, hO3⟩
      have hgs := HG.out
      have hg6s := HG6.out
      have hwr := HW.out.2.2.2.2.2.2.size
      have hg6w := HW.out.2.2.2.2.2.1.lt
      have hlv := HW.out.1.lt
      have HOut : Hid (OwnK 2 w3 (g6 + 1) 75 (fun q => q = g ∨ q = g6) TnC u8 (ps.take k).flatten) := Lib.hid (HW.out.1.apt hA3 (fun q _ hq => .inl hq) (fun q hq e => by have := (hlv q hq).1; omega) fun q hq => .inl hq)
      have HR3 : Hid (Blk w3 g6 30 #[.int .u64 mi, .int .i64 ml, .int .i64 ms, .int .i64 mn, .int .i64 (n : Int), .int .i64 (nt : Int)]) := Lib.hid ((hA3.block g6 hg6w fun e => by omega).trans HW.out.2.2.2.2.2.1)
      have HA3 := Lib.hid (HW.out.2.2.2.2.2.2.trans hA3)
      have HMK := Lib.hid HW.out.2.2
      have HD3 := Lib.hid hD3
      obtain ⟨ys, y1, y2⟩ := hO3
      have HYL := Lib.hid y1.lv
      have HYK : Hid (Two (fun b z => Keep (fun q => (q = g ∨ q = g6) ∨ u8.ownBlock = some q) (fun u => TnC u b z) w3) p ys) := Lib.hid (y2.mono fun _ _ hk => hk.less fun q hq => by
        rcases hq with (rfl | rfl) | hq
        · exact .inl (.inl (by omega))
        · exact .inl (.inl (by omega))
        · have := (hlv q hq).2
          exact .inl (.inl (by omega)))
      have HY1 : Hid (∀ z ∈ ys, ∀ u ∈ z, u.oneCell' = true) := Lib.hid fun z hz => by
        obtain ⟨j, hj⟩ := List.getElem?_of_mem hz
        have hjl : j < p.length := by
          rw [y2.len]
          exact (List.getElem?_eq_some_iff.1 hj).1
        exact (y2.at_ j _ _ (List.getElem?_eq_getElem hjl) hj).here.one
      have HLen : Hid ((ps.take k).flatten.length + p.length ≤ 1000000000) := Lib.hid (by
        have h1 := HBK.out.many
        have h2 : ((ps.take (k + 1)).flatten).length ≤ ps.flatten.length := by
          conv => rhs; rw [← List.take_append_drop (k + 1) ps, List.flatten_append, List.length_append]
          omega
        rw [take_flat HP.out, List.length_append] at h2
        omega)
      have HSZ : Hid (g6 + 1 ≤ w3.heap.size) := Lib.hid (by have := hA3.size; omega)
      have HLT : Hid (∀ q, u8.ownBlock = some q → g6 < q) := Lib.hid fun q hq => (hlv q hq).1
      clear hP hD3 hA3 y1 y2 hlv hB3 HW b4 b5 hgs hg6s hwr hg6w
      go_wp2_with (at_builtin; refine wpList_append_Ks trT rfl _ _ rfl rfl HOut.out rfl HYL.out HYK.out HY1.out HLen.out (by decide) HSZ.out ?_)
      intro v' w4 hO4 hg4 hv4
      have HO4 := Lib.hid hO4
      have HNF : Hid (∀ q, u8.ownBlock = some q → ¬ yF g v q ∧ q ≠ g6 ∧ w.heap.size ≤ q) := Lib.hid fun q hq => by
        have h1 := HLT.out q hq
        have h2 := HG6.out
        have h3 := HG.out
        refine ⟨fun h => ?_, by omega, by omega⟩
        rcases h with h | h
        · omega
        · have := HVB.out q h
          omega
      have HD4 := Lib.hid (HD3.out.grown14 hg4 fun q hq => (HNF.out q hq).1)
      have HR4 := Lib.hid (HR3.out.grown hg4 fun e => (HNF.out g6 e.symm).2.1 rfl)
      have HA4 : Hid (Apt (fun q => q = g) w w4) := Lib.hid ⟨hg4.os.trans HA3.out.os, hg4.tape.trans HA3.out.tape, hg4.output.trans HA3.out.output, Nat.le_trans HA3.out.size hg4.size, fun q hq hF => (hg4.block q (Nat.lt_of_lt_of_le hq HA3.out.size) fun e => by have := (HNF.out q e.symm).2.2; omega).trans (HA3.out.block q hq hF)⟩
      clear hO4 hg4 hv4 HOut HR3 HA3 HD3 HYL HYK HY1 HLen HSZ HLT HNF
      go_wp2_with fail
      go_roundg gk1
      case measure => omega
      case rel =>
        refine ⟨k + 1, callS mk, by omega, by go_num, Lib.hid ⟨by rw [take_flat HP.out]; exact HO4.out, HD4.out, HMK.out.1, (left_call HMK.out.2.1).2, ?_, HR4.out, HA4.out⟩⟩
        exact HMK.out.2.2.1.call
    · have hkn : k = n := by omega
      have HTs : Hid (Ts wr u8 ps.flatten) := Lib.hid (by
        have h := HW.out.1.ts
        rw [hkn, HNE.out, List.take_length] at h
        exact h)
      have hIs := Is_any u8 ps.flatten wr HTs.out
      rw [isB_true HBK.out.is] at hIs
      obtain ⟨A, c, hu8, _, _⟩ := HTs.out.form
      rw [← HNT.out] at hu8
      subst hu8
      have HA := Lib.hid HW.out.2.2.2.2.2.2
      have HR := Lib.hid HW.out.2.2.2.2.2.1
      clear HW hkn
      go_wp2_with fail
      refine hIs.mono ?_
      rintro e w3 ⟨rfl, hb3⟩
      have HTs3 := Lib.hid (HTs.out.below hb3)
      have HA3 := Lib.hid (HA.out.trans (Apt.of_below hb3))
      have c5 := (hb3.cell HR.out.lt).trans b5
      clear hIs hb3 b4 b5
      go_wp2_with fail
      go_ret2
      exact ⟨_, rfl, HTs3.out, HA3.out⟩

end Go.Proofs.YtnghpcfdgjkokaaGreatDoor
