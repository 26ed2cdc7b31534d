/-
  CONTRACTS of the document's Meta, Page, All of a block, whatever the store has. Conditions: what each says.
  CONTRACT of the document's Find (a trace in a block), whatever the store has. Conditions: what it says.
-/
import Derived.Test.YtfccfnbmmgfgcaaGreatDoorBkP
import Derived.Test.YtfccfnbmmgfgcaaGreatDoorBlO
namespace Go.Proofs.YtfccfnbmmgfgcaaGreatDoor
open Go.RowKit
set_option maxRecDepth 100000

theorem sGet_len (m : Sm) (n : List UInt8) : (sGet m n).1.length ≤ usedL m.l := by
  have hmem : ∀ o ∈ m.l, o.b.length ≤ usedL m.l := fun o h => by
    obtain ⟨i, hi⟩ := List.getElem?_of_mem h
    have h1 := usedL_split m.l i
    have hil := (List.getElem?_eq_some_iff.1 hi).1
    have hd : m.l.drop i = o :: m.l.drop (i + 1) := by rw [List.drop_eq_getElem_cons hil, (List.getElem?_eq_some_iff.1 hi).2]
    rw [hd, usedL_cons] at h1
    omega
  unfold sGet
  split
  · simp
  · cases ho : m.l[(atI n m.l).toNat]? with
    | none => simp
    | some o =>
      simp only
      split
      · simp
      · exact hmem o (List.mem_of_getElem? ho)
theorem meX_may {x : List UInt8} (h : (meX x).1 = 0) : meB (meX x).2 = true := by
  unfold meX meOf at h ⊢
  repeat' split
  all_goals simp_all
def meR (m : Sm) (id : Nat) : Int × Me :=
  if (sGet m (nmOf id [109] 0)).2 ≠ 0 then ((sGet m (nmOf id [109] 0)).2, Me.zero)
  else if (meX (sGet m (nmOf id [109] 0)).1).1 ≠ 0 then ((meX (sGet m (nmOf id [109] 0)).1).1, Me.zero)
  else if (meX (sGet m (nmOf id [109] 0)).1).2.id = (id : Int) then (0, (meX (sGet m (nmOf id [109] 0)).1).2) else (2, Me.zero)

set_option maxHeartbeats 3200000 in
theorem DMeta_any {base g : Nat} {v : Value} {m : Sm} (id : Nat) (w : World) (hD : DS w base g v m) (hm : m.ok) (hc : m.calls < 1000000000) (hid : id < 18446744073709551616) :
    Calls Tryz.prog 28 #[.pointer (some ⟨g, 0, none⟩), .int .u64 (id : Int)] w fun e w' => e = .returned (.tuple #[meV (meR m id).2, .int .i64 (meR m id).1]) ∧ DS w' base g v (callS m) ∧ Apt (fun q => q = g) w w' := by
  have hb0 : Below w.heap.size w (w.alloc (.cells meZ 62)) := (Below.refl _ _).alloc (Nat.le_refl _) _
  have HR0 : Hid (Blk (w.alloc (.cells meZ 62)) w.heap.size 62 meZ) := Lib.hid (Blk.new _ _ _)
  have HB0 := Lib.hid hb0
  have HD0 := Lib.hid (hD.below hb0)
  have HG := Lib.hid hD.blk.lt
  have HVB : Hid (∀ q, v.ownBlock = some q → q < w.heap.size) := Lib.hid fun q hq => hD.row.lt q hq
  have hget := fun u (hu : DS u base g v m) => DGet_any base g v m (nmOf id [109] 0) u hu hm hc
  have hlen : (sGet m (nmOf id [109] 0)).1.length ≤ 1048576 := Nat.le_trans (sGet_len _ _) hm.used
  have HRR : Hid (meR m id = if (sGet m (nmOf id [109] 0)).2 ≠ 0 then ((sGet m (nmOf id [109] 0)).2, Me.zero) else if (meX (sGet m (nmOf id [109] 0)).1).1 ≠ 0 then ((meX (sGet m (nmOf id [109] 0)).1).1, Me.zero) else if (meX (sGet m (nmOf id [109] 0)).1).2.id = (id : Int) then (0, (meX (sGet m (nmOf id [109] 0)).1).2) else (2, Me.zero)) := Lib.hid rfl
  generalize (sGet m (nmOf id [109] 0)).1 = sb at hget hlen HRR
  generalize (sGet m (nmOf id [109] 0)).2 = bc at hget HRR
  have hmeta := fun u x (hx : Bs u x sb) => Meta_any u hx (by omega)
  generalize (meX sb).1 = mc at hmeta HRR
  generalize (meX sb).2 = M at hmeta HRR
  obtain ⟨mi, ml, ms, mn, mp, mt⟩ := M
  simp only [meV] at hmeta
  have HNF : Hid (¬ yF g v w.heap.size) := Lib.hid fun hF => by
    rcases hF with h | h
    · have := HG.out
      omega
    · have := HVB.out _ h
      omega
  clear hb0 hD hm
  go_enter Tryz.func28, Tryz.ntmps28
  go_wp2_with fail
  revert HR0 HB0 HD0
  generalize w.alloc (.cells meZ 62) = w0
  intro HR0 HB0 HD0
  refine (Name_any id [109] 0 _ hid (by omega)).mono ?_
  rintro e w1 ⟨rfl, hb1⟩
  have HR1 := Lib.hid (HR0.out.below hb1 HR0.out.lt)
  have HB1 := Lib.hid (HB0.out.trans (hb1.mono HB0.out.size))
  have HD1 := Lib.hid (HD0.out.below hb1)
  clear hb1 HR0 HB0 HD0
  go_wp2_with fail
  refine (hget _ HD1.out).mono ?_
  rintro e w2 ⟨rfl, hD2, hg2⟩
  have HR2 := Lib.hid (HR1.out.grown hg2 (fun e => by have := Option.some.inj e; have := HG.out; omega))
  have HA2 : Hid (Apt (fun q => q = g) w w2) := Lib.hid ((Apt.of_below HB1.out).trans (Apt.ofG hg2))
  have HD2 := Lib.hid hD2
  clear hget hD2 hg2 HD1 HR1 HB1
  by_cases hbc : bc = 0
  rotate_left
  · have hbe := errN hbc
    have hRR : meR m id = (bc, Me.zero) := by rw [HRR.out, if_pos hbc]
    have HE := Lib.hid hRR
    have hfz := fun i => HR2.out.frozen i
    have r0 := HR2.out.cell 0
    have r1 := HR2.out.cell 1
    have r2 := HR2.out.cell 2
    have r3 := HR2.out.cell 3
    have r4 := HR2.out.cell 4
    have r5 := HR2.out.cell 5
    simp at r0 r1 r2 r3 r4 r5
    clear hmeta hRR
    go_wp2_with fail
    have hm2 := setall6 _ HR2.out (.int .u64 0) (.int .i64 0) (.int .i64 0) (.int .i64 0) (.int .i64 0) (.int .i64 0)
    have hg3 := gset6 w2 w.heap.size (.int .u64 0) (.int .i64 0) (.int .i64 0) (.int .i64 0) (.int .i64 0) (.int .i64 0)
    refine bodyPost_ret (v := .tuple #[.agg meZ, .int .i64 bc]) (by have c := hm2.cell; simp [results, go_sem, c]; try rfl) rfl ?_
    rw [HE.out]
    exact ⟨rfl, HD2.out.set9 hg3 HNF.out, HA2.out.grown14 hg3 (Nat.le_refl _)⟩
  subst hbc
  obtain ⟨G, W, hcv, hbs, hbW, _⟩ := bytesB14 sb w2 hlen
  have HRW := Lib.hid (HR2.out.below hbW HR2.out.lt)
  have HAW := Lib.hid (HA2.out.trans (Apt.of_below hbW))
  have HDW := Lib.hid (HD2.out.below hbW)
  have HBS := Lib.hid hbs
  generalize sb.length = nsb at *
  clear HR2 HA2 hbW hbs HD2
  go_wp2_with fail
  refine (hmeta _ _ HBS.out).mono ?_
  rintro e w4 ⟨rfl, hb4⟩
  have HR4 := Lib.hid (HRW.out.below hb4 HRW.out.lt)
  have HA4 := Lib.hid (HAW.out.trans (Apt.of_below hb4))
  have HD4 := Lib.hid (HDW.out.below hb4)
  have hb5 : Below w4.heap.size w4 (w4.alloc (.cells #[.int .u64 mi, .int .i64 ml, .int .i64 ms, .int .i64 mn, .int .i64 mp, .int .i64 mt] 62)) := (Below.refl _ _).alloc (Nat.le_refl _) _
  have HR5 := Lib.hid (HR4.out.below hb5 HR4.out.lt)
  have HA5 := Lib.hid (HA4.out.trans (Apt.of_below hb5))
  have HD5 := Lib.hid (HD4.out.below hb5)
  have hfz := fun i => HR5.out.frozen i
  have r0 := HR5.out.cell 0
  have r1 := HR5.out.cell 1
  have r2 := HR5.out.cell 2
  have r3 := HR5.out.cell 3
  have r4 := HR5.out.cell 4
  have r5 := HR5.out.cell 5
  simp at r0 r1 r2 r3 r4 r5
  clear hmeta hb4 hb5 HRW HAW HDW HBS hcv HR4 HA4 HD4
  by_cases hmc : mc = 0
  rotate_left
  · have hbe := errN hmc
    have hRR : meR m id = (mc, Me.zero) := by rw [HRR.out, if_neg (by simp), if_pos hmc]
    have HE := Lib.hid hRR
    clear hRR
    go_wp2_with fail
    revert HR5 HA5 HD5
    generalize w4.alloc (.cells #[.int .u64 mi, .int .i64 ml, .int .i64 ms, .int .i64 mn, .int .i64 mp, .int .i64 mt] 62) = w5
    intro HR5 HA5 HD5
    have hm2 := setall6 _ HR5.out (.int .u64 0) (.int .i64 0) (.int .i64 0) (.int .i64 0) (.int .i64 0) (.int .i64 0)
    have hg3 := gset6 w5 w.heap.size (.int .u64 0) (.int .i64 0) (.int .i64 0) (.int .i64 0) (.int .i64 0) (.int .i64 0)
    refine bodyPost_ret (v := .tuple #[.agg meZ, .int .i64 mc]) (by have c := hm2.cell; simp [results, go_sem, c]; try rfl) rfl ?_
    rw [HE.out]
    exact ⟨rfl, HD5.out.set9 hg3 HNF.out, HA5.out.grown14 hg3 (Nat.le_refl _)⟩
  subst hmc
  by_cases hie : mi = (id : Int)
  rotate_left
  · have hbe : (mi == (id : Int)) = false := by simpa using hie
    have hRR : meR m id = (2, Me.zero) := by rw [HRR.out, if_neg (by simp), if_neg (by simp), if_neg hie]
    have HE := Lib.hid hRR
    clear hRR
    go_wp2_with fail
    revert HR5 HA5 HD5
    generalize w4.alloc (.cells #[.int .u64 mi, .int .i64 ml, .int .i64 ms, .int .i64 mn, .int .i64 mp, .int .i64 mt] 62) = w5
    intro HR5 HA5 HD5
    have hm2 := setall6 _ HR5.out (.int .u64 0) (.int .i64 0) (.int .i64 0) (.int .i64 0) (.int .i64 0) (.int .i64 0)
    have hg3 := gset6 w5 w.heap.size (.int .u64 0) (.int .i64 0) (.int .i64 0) (.int .i64 0) (.int .i64 0) (.int .i64 0)
    refine bodyPost_ret (v := .tuple #[.agg meZ, .int .i64 2]) (by have c := hm2.cell; simp [results, go_sem, c]; try rfl) rfl ?_
    rw [HE.out]
    exact ⟨rfl, HD5.out.set9 hg3 HNF.out, HA5.out.grown14 hg3 (Nat.le_refl _)⟩
  subst hie
  have HE : Hid (meR m id = (0, ⟨id, ml, ms, mn, mp, mt⟩)) := Lib.hid (by rw [HRR.out, if_neg (by simp), if_neg (by simp), if_pos rfl])
  clear HRR
  go_wp2_with fail
  revert HR5 HA5 HD5
  generalize w4.alloc (.cells #[.int .u64 id, .int .i64 ml, .int .i64 ms, .int .i64 mn, .int .i64 mp, .int .i64 mt] 62) = w5
  intro HR5 HA5 HD5
  have hm2 := setall6 _ HR5.out (.int .u64 id) (.int .i64 ml) (.int .i64 ms) (.int .i64 mn) (.int .i64 mp) (.int .i64 mt)
  have hg3 := gset6 w5 w.heap.size (.int .u64 id) (.int .i64 ml) (.int .i64 ms) (.int .i64 mn) (.int .i64 mp) (.int .i64 mt)
  refine bodyPost_ret (v := .tuple #[meV ⟨id, ml, ms, mn, mp, mt⟩, .int .i64 0]) (by have c := hm2.cell; simp [results, go_sem, c, meV]; try rfl) rfl ?_
  rw [HE.out]
  exact ⟨rfl, HD5.out.set9 hg3 HNF.out, HA5.out.grown14 hg3 (Nat.le_refl _)⟩

open Classical in
noncomputable def pgX (x : List UInt8) : Int × List Tn :=
  if x.length < 4 then (2, []) else if tailOf x = crcOf (bodyOf x) then (if h : ∃ m, ValP m ∧ pgBody m = bodyOf x then (0, Classical.choose h) else (2, [])) else (7, [])
theorem pgX_short {x : List UInt8} (h : x.length < 4) : pgX x = (2, []) := if_pos h
theorem pgX_sum {x : List UInt8} (h : ¬ x.length < 4) (h2 : tailOf x ≠ crcOf (bodyOf x)) : pgX x = (7, []) := by rw [pgX, if_neg h, if_neg h2]
theorem pgX_form {x : List UInt8} (h : ¬ x.length < 4) (h2 : tailOf x = crcOf (bodyOf x)) (h3 : ¬ ∃ m, ValP m ∧ pgBody m = bodyOf x) : pgX x = (2, []) := by rw [pgX, if_neg h, if_pos h2, dif_neg h3]
theorem pgX_yes {x : List UInt8} (h : ¬ x.length < 4) (h2 : tailOf x = crcOf (bodyOf x)) (h3 : ∃ m, ValP m ∧ pgBody m = bodyOf x) : ∃ m, pgX x = (0, m) ∧ ValP m ∧ pgBody m = bodyOf x := by
  refine ⟨Classical.choose h3, ?_, Classical.choose_spec h3⟩
  rw [pgX, if_neg h, if_pos h2, dif_pos h3]
theorem pgX_len (x : List UInt8) : (pgX x).2.length ≤ 64 := by
  by_cases h : x.length < 4
  · rw [pgX_short h]; simp
  · by_cases h2 : tailOf x = crcOf (bodyOf x)
    · by_cases h3 : ∃ m, ValP m ∧ pgBody m = bodyOf x
      · obtain ⟨m, e, hv, _⟩ := pgX_yes h h2 h3
        rw [e]
        exact hv.most
      · rw [pgX_form h h2 h3]; simp
    · rw [pgX_sum h h2]; simp
theorem Paged_x (v : Value) (x : List UInt8) (w : World) (h : Bs w v x) (hl : x.length ≤ 140737488355320) :
    Calls Tryz.prog 52 #[v] w fun e w' => ∃ y, e = .returned (.tuple #[y, .int .i64 (pgX x).1]) ∧ OwnK 2 w' w.heap.size 43 (fun q => q < w.heap.size) TnC y (pgX x).2 ∧ Below w.heap.size w w' := by
  refine (Paged_own v x w h hl).mono ?_
  rintro e w' ⟨y, n, rfl, hP, hb⟩
  by_cases h : x.length < 4
  · obtain ⟨rfl, rfl⟩ := hP.pp.short h
    rw [pgX_short h]
    exact ⟨_, rfl, OwnK.nil _ _ _ _ _ _, hb⟩
  · by_cases h2 : tailOf x = crcOf (bodyOf x)
    · by_cases h3 : ∃ m, ValP m ∧ pgBody m = bodyOf x
      · obtain ⟨m, e, hv, hb3⟩ := pgX_yes h h2 h3
        obtain ⟨rfl, _⟩ := hP.pp.yes m (by omega) h2 hv hb3
        rw [e]
        exact ⟨_, rfl, hP.own m (by omega) h2 hv hb3, hb⟩
      · obtain ⟨rfl, rfl⟩ := hP.pp.form (by omega) h2 fun m hv e => h3 ⟨m, hv, e⟩
        rw [pgX_form h h2 h3]
        exact ⟨_, rfl, OwnK.nil _ _ _ _ _ _, hb⟩
    · obtain ⟨rfl, rfl⟩ := hP.pp.sum (by omega) h2
      rw [pgX_sum h h2]
      exact ⟨_, rfl, OwnK.nil _ _ _ _ _ _, hb⟩
noncomputable def pgR (m : Sm) (id i : Nat) : Int × List Tn :=
  if (sGet m (nmOf id [112] (i : Int))).2 ≠ 0 then ((sGet m (nmOf id [112] (i : Int))).2, []) else pgX (sGet m (nmOf id [112] (i : Int))).1
theorem pgR_len (m : Sm) (id i : Nat) : (pgR m id i).2.length ≤ 64 := by
  unfold pgR
  split
  · simp
  · exact pgX_len _

set_option maxHeartbeats 3200000 in
theorem DPage_any {base g : Nat} {v : Value} {m : Sm} (id i : Nat) (w : World) (hD : DS w base g v m) (hm : m.ok) (hc : m.calls < 1000000000) (hid : id < 18446744073709551616) (hi : i ≤ 1000000) :
    Calls Tryz.prog 29 #[.pointer (some ⟨g, 0, none⟩), .int .u64 (id : Int), .int .i64 (i : Int)] w fun e w' => ∃ y B, e = .returned (.tuple #[y, .int .i64 (pgR m id i).1]) ∧ DS w' base g v (callS m) ∧ Apt (fun q => q = g) w w' ∧ w.heap.size ≤ B ∧ OwnK 2 w' B 43 (fun q => q < B) TnC y (pgR m id i).2 := by
  have HD := Lib.hid hD
  have hget := fun u (hu : DS u base g v m) => DGet_any base g v m (nmOf id [112] (i : Int)) u hu hm hc
  have hlen : (sGet m (nmOf id [112] (i : Int))).1.length ≤ 1048576 := Nat.le_trans (sGet_len _ _) hm.used
  have HRR : Hid (pgR m id i = if (sGet m (nmOf id [112] (i : Int))).2 ≠ 0 then ((sGet m (nmOf id [112] (i : Int))).2, []) else pgX (sGet m (nmOf id [112] (i : Int))).1) := Lib.hid rfl
  generalize (sGet m (nmOf id [112] (i : Int))).1 = sb at hget hlen HRR
  generalize (sGet m (nmOf id [112] (i : Int))).2 = bc at hget HRR
  have hpg := fun u y (hy : Bs u y sb) => Paged_x y sb u hy (by omega)
  clear hD hm
  go_enter Tryz.func29, Tryz.ntmps29
  go_wp2_with fail
  refine (Name_any id [112] (i : Int) _ hid (by omega)).mono ?_
  rintro e w1 ⟨rfl, hb1⟩
  have HB1 := Lib.hid hb1
  have HD1 := Lib.hid (HD.out.below hb1)
  clear hb1
  go_wp2_with fail
  refine (hget _ HD1.out).mono ?_
  rintro e w2 ⟨rfl, hD2, hg2⟩
  have HA2 : Hid (Apt (fun q => q = g) w w2) := Lib.hid ((Apt.of_below HB1.out).trans (Apt.ofG hg2))
  have HD2 := Lib.hid hD2
  clear hget hD2 hg2 HD1 HB1 HD
  by_cases hbc : bc = 0
  rotate_left
  · have hbe := errN hbc
    have HE : Hid (pgR m id i = (bc, [])) := Lib.hid (by rw [HRR.out, if_pos hbc])
    clear hpg
    go_wp2_with fail
    go_ret2
    rw [HE.out]
    exact ⟨_, w2.heap.size, rfl, HD2.out, HA2.out, HA2.out.size, OwnK.nil _ _ _ _ _ _⟩
  subst hbc
  obtain ⟨G, W, hcv, hbs, hbW, _⟩ := bytesB14 sb w2 hlen
  have HAW := Lib.hid (HA2.out.trans (Apt.of_below hbW))
  have HDW := Lib.hid (HD2.out.below hbW)
  have HBS := Lib.hid hbs
  have HE : Hid (pgR m id i = pgX sb) := Lib.hid (by rw [HRR.out, if_neg (by simp)])
  generalize pgX sb = px at hpg HE
  obtain ⟨pc, pl⟩ := px
  generalize sb.length = nsb at *
  clear HA2 hbW hbs HD2 HRR
  go_wp2_with fail
  refine (hpg _ _ HBS.out).mono ?_
  rintro e w4 ⟨y, rfl, hO, hb4⟩
  have HO := Lib.hid hO
  have HA4 := Lib.hid (HAW.out.trans (Apt.of_below hb4))
  have HD4 := Lib.hid (HDW.out.below hb4)
  have HSZ := Lib.hid HAW.out.size
  clear hpg hO hb4 hcv HBS HAW HDW
  go_wp2_with fail
  go_ret2
  rw [HE.out]
  exact ⟨_, _, rfl, HD4.out, HA4.out, HSZ.out, HO.out⟩

theorem meR_pages {m : Sm} {id : Nat} (h : (meR m id).1 = 0) : 0 ≤ (meR m id).2.pg ∧ (meR m id).2.pg ≤ 200 := by
  unfold meR at h ⊢
  split at h
  · rename_i h1
    exact absurd h h1
  · split at h
    · rename_i h1
      exact absurd h h1
    · rename_i h1 h2
      split at h
      · rename_i h3
        rw [if_neg h1, if_neg h2, if_pos h3]
        have := meX_may (Classical.not_not.1 h2)
        have hp : meP _ := of_decide_eq_true this
        obtain ⟨_, _, _, _, _, _, h7, h8, _⟩ := hp
        constructor <;> (simp only; omega)
      · cases h
end Go.Proofs.YtfccfnbmmgfgcaaGreatDoor
