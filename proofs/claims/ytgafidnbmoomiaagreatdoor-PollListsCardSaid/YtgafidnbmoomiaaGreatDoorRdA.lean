/-
  CONTRACTS of the document's Meta, Page, All of a block, whatever the store has. Conditions: what each says.
  CONTRACT of the document's Find (a trace in a block), whatever the store has. Conditions: what it says.
-/
import Derived.Test.YtgafidnbmoomiaaGreatDoorBkP
import Derived.Test.YtgafidnbmoomiaaGreatDoorBlJ
namespace Go.Proofs.YtgafidnbmoomiaaGreatDoor
open Go.RowKit
set_option maxRecDepth 100000

theorem sGet_len (m : Sm) (n : List UInt8) : (sGet m n).1.length ≤ usedL m.l := by
  have hmem : ∀ o ∈ m.l, o.b.length ≤ usedL m.l := fun o h => by
    obtain ⟨i, hi⟩ := List.getElem?_of_mem h
    have h1 := usedL_split m.l i
    have hil := (List.getElem?_eq_some_iff.1 hi).1
    have hd : m.l.drop i = o :: m.l.drop (i + 1) := by rw [List.drop_eq_getElem_cons hil, (List.getElem?_eq_some_iff.1 hi).2]
    rw [hd, usedL_cons] at h1
    omega
  unfold sGet
  split
  · simp
  · cases ho : m.l[(atI n m.l).toNat]? with
    | none => simp
    | some o =>
      simp only
      split
      · simp
      · exact hmem o (List.mem_of_getElem? ho)

def meR (m : Sm) (id : Nat) : Int × Me :=
  if (sGet m (nmOf id [109] 0)).2 ≠ 0 then ((sGet m (nmOf id [109] 0)).2, Me.zero)
  else if (meX (sGet m (nmOf id [109] 0)).1).1 ≠ 0 then ((meX (sGet m (nmOf id [109] 0)).1).1, Me.zero)
  else if (meX (sGet m (nmOf id [109] 0)).1).2.id = (id : Int) then (0, (meX (sGet m (nmOf id [109] 0)).1).2) else (2, Me.zero)

set_option maxHeartbeats 3200000 in
theorem DMeta_any {base g : Nat} {v : Value} {m : Sm} (id : Nat) (w : World) (hD : DS w base g v m) (hm : m.ok) (hc : m.calls < 1000000000) (hid : id < 18446744073709551616) :
    Calls Tryz.prog 28 #[.pointer (some ⟨g, 0, none⟩), .int .u64 (id : Int)] w fun e w' => e = .returned (.tuple #[meV (meR m id).2, .int .i64 (meR m id).1]) ∧ DS w' base g v (callS m) ∧ Apt (fun q => q = g) w w' := by
  have hb0 : Below w.heap.size w (w.alloc (.cells meZ 85)) := (Below.refl _ _).alloc (Nat.le_refl _) _
  have HR0 : Hid (Blk (w.alloc (.cells meZ 85)) w.heap.size 85 meZ) := Lib.hid (Blk.new _ _ _)
  have HB0 := Lib.hid hb0
  have HD0 := Lib.hid (hD.below hb0)
  have HG := Lib.hid hD.blk.lt
  have HVB : Hid (∀ q, v.ownBlock = some q → q < w.heap.size) := Lib.hid fun q hq => hD.row.lt q hq
  have hget := fun u (hu : DS u base g v m) => DGet_any base g v m (nmOf id [109] 0) u hu hm hc
  have hlen : (sGet m (nmOf id [109] 0)).1.length ≤ 1048576 := Nat.le_trans (sGet_len _ _) hm.used
  have HRR : Hid (meR m id = if (sGet m (nmOf id [109] 0)).2 ≠ 0 then ((sGet m (nmOf id [109] 0)).2, Me.zero) else if (meX (sGet m (nmOf id [109] 0)).1).1 ≠ 0 then ((meX (sGet m (nmOf id [109] 0)).1).1, Me.zero) else if (meX (sGet m (nmOf id [109] 0)).1).2.id = (id : Int) then (0, (meX (sGet m (nmOf id [109] 0)).1).2) else (2, Me.zero)) := Lib.hid rfl
  generalize (sGet m (nmOf id [109] 0)).1 = sb at hget hlen HRR
  generalize (sGet m (nmOf id [109] 0)).2 = bc at hget HRR
  have hmeta := fun u x (hx : Bs u x sb) => Meta_any u hx (by omega)
  generalize (meX sb).1 = mc at hmeta HRR
  generalize (meX sb).2 = M at hmeta HRR
  obtain ⟨mi, ml, ms, mn, mp, mt⟩ := M
  simp only [meV] at hmeta
  have HNF : Hid (¬ yF g v w.heap.size) := Lib.hid fun hF => by
    rcases hF with h | h
    · have := HG.out
      omega
    · have := HVB.out _ h
      omega
  clear hb0 hD hm
  go_enter Tryz.func28, Tryz.ntmps28
  go_wp2_with fail
  revert HR0 HB0 HD0
  generalize w.alloc (.cells meZ 85) = w0
  intro HR0 HB0 HD0
  refine (Name_any id [109] 0 _ hid (by omega)).mono ?_
  rintro e w1 ⟨rfl, hb1⟩
  have HR1 := Lib.hid (HR0.out.below hb1 HR0.out.lt)
  have HB1 := Lib.hid (HB0.out.trans (hb1.mono HB0.out.size))
  have HD1 := Lib.hid (HD0.out.below hb1)
  clear hb1 HR0 HB0 HD0
  go_wp2_with fail
  refine (hget _ HD1.out).mono ?_
  rintro e w2 ⟨rfl, hD2, hg2⟩
  have HR2 := Lib.hid (HR1.out.grown hg2 (fun e => by have := Option.some.inj e; have := HG.out; omega))
  have HA2 : Hid (Apt (fun q => q = g) w w2) := Lib.hid ((Apt.of_below HB1.out).trans (Apt.ofG hg2))
  have HD2 := Lib.hid hD2
  clear hget hD2 hg2 HD1 HR1 HB1
  by_cases hbc : bc = 0
  rotate_left
  · have hbe := errN hbc
    have hRR : meR m id = (bc, Me.zero) := by rw [HRR.out, if_pos hbc]
    have HE := Lib.hid hRR
    have hfz := fun i => HR2.out.frozen i
    have r0 := HR2.out.cell 0
    have r1 := HR2.out.cell 1
    have r2 := HR2.out.cell 2
    have r3 := HR2.out.cell 3
    have r4 := HR2.out.cell 4
    have r5 := HR2.out.cell 5
    simp at r0 r1 r2 r3 r4 r5
    clear hmeta hRR
    go_wp2_with fail
    have hm2 := setall6 _ HR2.out (.int .u64 0) (.int .i64 0) (.int .i64 0) (.int .i64 0) (.int .i64 0) (.int .i64 0)
    have hg3 := gset6 w2 w.heap.size (.int .u64 0) (.int .i64 0) (.int .i64 0) (.int .i64 0) (.int .i64 0) (.int .i64 0)
    refine bodyPost_ret (v := .tuple #[.agg meZ, .int .i64 bc]) (by have c := hm2.cell; simp [results, go_sem, c]; try rfl) rfl ?_
    rw [HE.out]
    exact ⟨rfl, HD2.out.set9 hg3 HNF.out, HA2.out.grown14 hg3 (Nat.le_refl _)⟩
  subst hbc
  obtain ⟨G, W, hcv, hbs, hbW, _⟩ := bytesB14 sb w2 hlen
  have HRW := Lib.hid (HR2.out.below hbW HR2.out.lt)
  have HAW := Lib.hid (HA2.out.trans (Apt.of_below hbW))
  have HDW := Lib.hid (HD2.out.below hbW)
  have HBS := Lib.hid hbs
  generalize sb.length = nsb at *
  clear HR2 HA2 hbW hbs HD2
  go_wp2_with fail
  refine (hmeta _ _ HBS.out).mono ?_
  rintro e w4 ⟨rfl, hb4⟩
  have HR4 := Lib.hid (HRW.out.below hb4 HRW.out.lt)
  have HA4 := Lib.hid (HAW.out.trans (Apt.of_below hb4))
  have HD4 := Lib.hid (HDW.out.below hb4)
  have hb5 : Below w4.heap.size w4 (w4.alloc (.cells #[.int .u64 mi, .int .i64 ml, .int .i64 ms, .int .i64 mn, .int .i64 mp, .int .i64 mt] 85)) := (Below.refl _ _).alloc (Nat.le_refl _) _
  have HR5 := Lib.hid (HR4.out.below hb5 HR4.out.lt)
  have HA5 := Lib.hid (HA4.out.trans (Apt.of_below hb5))
  have HD5 := Lib.hid (HD4.out.below hb5)
  have hfz := fun i => HR5.out.frozen i
  have r0 := HR5.out.cell 0
  have r1 := HR5.out.cell 1
  have r2 := HR5.out.cell 2
  have r3 := HR5.out.cell 3
  have r4 := HR5.out.cell 4
  have r5 := HR5.out.cell 5
  simp at r0 r1 r2 r3 r4 r5
  clear hmeta hb4 hb5 HRW HAW HDW HBS hcv HR4 HA4 HD4
  by_cases hmc : mc = 0
  rotate_left
  · have hbe := errN hmc
    have hRR : meR m id = (mc, Me.zero) := by rw [HRR.out, if_neg (by simp), if_pos hmc]
    have HE := Lib.hid hRR
    clear hRR
    go_wp2_with fail
    revert HR5 HA5 HD5
    generalize w4.alloc (.cells #[.int .u64 mi, .int .i64 ml, .int .i64 ms, .int .i64 mn, .int .i64 mp, .int .i64 mt] 85) = w5
    intro HR5 HA5 HD5
    have hm2 := setall6 _ HR5.out (.int .u64 0) (.int .i64 0) (.int .i64 0) (.int .i64 0) (.int .i64 0) (.int .i64 0)
    have hg3 := gset6 w5 w.heap.size (.int .u64 0) (.int .i64 0) (.int .i64 0) (.int .i64 0) (.int .i64 0) (.int .i64 0)
    refine bodyPost_ret (v := .tuple #[.agg meZ, .int .i64 mc]) (by have c := hm2.cell; simp [results, go_sem, c]; try rfl) rfl ?_
    rw [HE.out]
    exact ⟨rfl, HD5.out.set9 hg3 HNF.out, HA5.out.grown14 hg3 (Nat.le_refl _)⟩
  subst hmc
  by_cases hie : mi = (id : Int)
  rotate_left
  · have hbe : (mi == (id : Int)) = false := by simpa using hie
    have hRR : meR m id = (2, Me.zero) := by rw [HRR.out, if_neg (by simp), if_neg (by simp), if_neg hie]
    have HE := Lib.hid hRR
    clear hRR
    go_wp2_with fail
    revert HR5 HA5 HD5
    generalize w4.alloc (.cells #[.int .u64 mi, .int .i64 ml, .int .i64 ms, .int .i64 mn, .int .i64 mp, .int .i64 mt] 85) = w5
    intro HR5 HA5 HD5
    have hm2 := setall6 _ HR5.out (.int .u64 0) (.int .i64 0) (.int .i64 0) (.int .i64 0) (.int .i64 0) (.int .i64 0)
    have hg3 := gset6 w5 w.heap.size (.int .u64 0) (.int .i64 0) (.int .i64 0) (.int .i64 0) (.int .i64 0) (.int .i64 0)
    refine bodyPost_ret (v := .tuple #[.agg meZ, .int .i64 2]) (by have c := hm2.cell; simp [results, go_sem, c]; try rfl) rfl ?_
    rw [HE.out]
    exact ⟨rfl, HD5.out.set9 hg3 HNF.out, HA5.out.grown14 hg3 (Nat.le_refl _)⟩
  subst hie
  have HE : Hid (meR m id = (0, ⟨id, ml, ms, mn, mp, mt⟩)) := Lib.hid (by rw [HRR.out, if_neg (by simp), if_neg (by simp), if_pos rfl])
  clear HRR
  go_wp2_with fail
  revert HR5 HA5 HD5
  generalize w4.alloc (.cells #[.int .u64 id, .int .i64 ml, .int .i64 ms, .int .i64 mn, .int .i64 mp, .int .i64 mt] 85) = w5
  intro HR5 HA5 HD5
  have hm2 := setall6 _ HR5.out (.int .u64 id) (.int .i64 ml) (.int .i64 ms) (.int .i64 mn) (.int .i64 mp) (.int .i64 mt)
  have hg3 := gset6 w5 w.heap.size (.int .u64 id) (.int .i64 ml) (.int .i64 ms) (.int .i64 mn) (.int .i64 mp) (.int .i64 mt)
  refine bodyPost_ret (v := .tuple #[meV ⟨id, ml, ms, mn, mp, mt⟩, .int .i64 0]) (by have c := hm2.cell; simp [results, go_sem, c, meV]; try rfl) rfl ?_
  rw [HE.out]
  exact ⟨rfl, HD5.out.set9 hg3 HNF.out, HA5.out.grown14 hg3 (Nat.le_refl _)⟩

end Go.Proofs.YtgafidnbmoomiaaGreatDoor
