/-
  CONTRACTS of the document's Meta, Page, All of a block, whatever the store has. Conditions: what each says.
  CONTRACT of the document's Find (a trace in a block), whatever the store has. Conditions: what it says.
-/
import Derived.Test.YtfaefacefdkjdaaGreatDoorBkP
import Derived.Test.YtfaefacefdkjdaaGreatDoorBlO
namespace Go.Proofs.YtfaefacefdkjdaaGreatDoor
open Go.RowKit
set_option maxRecDepth 100000

theorem sGet_len (m : Sm) (n : List UInt8) : (sGet m n).1.length ≤ usedL m.l := by
  have hmem : ∀ o ∈ m.l, o.b.length ≤ usedL m.l := fun o h => by
    obtain ⟨i, hi⟩ := List.getElem?_of_mem h
    have h1 := usedL_split m.l i
    have hil := (List.getElem?_eq_some_iff.1 hi).1
    have hd : m.l.drop i = o :: m.l.drop (i + 1) := by rw [List.drop_eq_getElem_cons hil, (List.getElem?_eq_some_iff.1 hi).2]
    rw [hd, usedL_cons] at h1
    omega
  unfold sGet
  split
  · simp
  · cases ho : m.l[(atI n m.l).toNat]? with
    | none => simp
    | some o =>
      simp only
      split
      · simp
      · exact hmem o (List.mem_of_getElem? ho)
theorem meX_may {x : List UInt8} (h : (meX x).1 = 0) : meB (meX x).2 = true := by
  unfold meX meOf at h ⊢
  repeat' split
  all_goals simp_all
def meR (m : Sm) (id : Nat) : Int × Me :=
  if (sGet m (nmOf id [109] 0)).2 ≠ 0 then ((sGet m (nmOf id [109] 0)).2, Me.zero)
  else if (meX (sGet m (nmOf id [109] 0)).1).1 ≠ 0 then ((meX (sGet m (nmOf id [109] 0)).1).1, Me.zero)
  else if (meX (sGet m (nmOf id [109] 0)).1).2.id = (id : Int) then (0, (meX (sGet m (nmOf id [109] 0)).1).2) else (2, Me.zero)

set_option maxHeartbeats 3200000 in
theorem DMeta_any {base g : Nat} {v : Value} {m : Sm} (id : Nat) (w : World) (hD : DS w base g v m) (hm : m.ok) (hc : m.calls < 1000000000) (hid : id < 18446744073709551616) :
    Calls Tryz.prog 10 #[.pointer (some ⟨g, 0, none⟩), .int .u64 (id : Int)] w fun e w' => e = .returned (.tuple #[meV (meR m id).2, .int .i64 (meR m id).1]) ∧ DS w' base g v (callS m) ∧ Apt (fun q => q = g) w w' := by
  have hb0 : Below w.heap.size w (w.alloc (.cells meZ 34)) := (Below.refl _ _).alloc (Nat.le_refl _) _
  have HR0 : Hid (Blk (w.alloc (.cells meZ 34)) w.heap.size 34 meZ) := Lib.hid (Blk.new _ _ _)
  have HB0 := Lib.hid hb0
  have HD0 := Lib.hid (hD.below hb0)
  have HG := Lib.hid hD.blk.lt
  have HVB : Hid (∀ q, v.ownBlock = some q → q < w.heap.size) := Lib.hid fun q hq => hD.row.lt q hq
  have hget := fun u (hu : DS u base g v m) => DGet_any base g v m (nmOf id [109] 0) u hu hm hc
  have hlen : (sGet m (nmOf id [109] 0)).1.length ≤ 1048576 := Nat.le_trans (sGet_len _ _) hm.used
  have HRR : Hid (meR m id = if (sGet m (nmOf id [109] 0)).2 ≠ 0 then ((sGet m (nmOf id [109] 0)).2, Me.zero) else if (meX (sGet m (nmOf id [109] 0)).1).1 ≠ 0 then ((meX (sGet m (nmOf id [109] 0)).1).1, Me.zero) else if (meX (sGet m (nmOf id [109] 0)).1).2.id = (id : Int) then (0, (meX (sGet m (nmOf id [109] 0)).1).2) else (2, Me.zero)) := Lib.hid rfl
  generalize (sGet m (nmOf id [109] 0)).1 = sb at hget hlen HRR
  generalize (sGet m (nmOf id [109] 0)).2 = bc at hget HRR
  have hmeta := fun u x (hx : Bs u x sb) => Meta_any u hx (by omega)
  generalize (meX sb).1 = mc at hmeta HRR
  generalize (meX sb).2 = M at hmeta HRR
  obtain ⟨mi, ml, ms, mn, mp, mt⟩ := M
  simp only [meV] at hmeta
  have HNF : Hid (¬ yF g v w.heap.size) := Lib.hid fun hF => by
    rcases hF with h | h
    · have := HG.out
      omega
    · have := HVB.out _ h
      omega
  clear hb0 hD hm
  go_enter Tryz.func10, Tryz.ntmps10
  go_wp2_with fail
  revert HR0 HB0 HD0
  generalize w.alloc (.cells meZ 34) = w0
  intro HR0 HB0 HD0
  refine (Name_any id [109] 0 _ hid (by omega)).mono ?_
  rintro e w1 ⟨rfl, hb1⟩
  have HR1 := Lib.hid (HR0.out.below hb1 HR0.out.lt)
  have HB1 := Lib.hid (HB0.out.trans (hb1.mono HB0.out.size))
  have HD1 := Lib.hid (HD0.out.below hb1)
  clear hb1 HR0 HB0 HD0
  go_wp2_with fail
  refine (hget _ HD1.out).mono ?_
  rintro e w2 ⟨rfl, hD2, hg2⟩
  have HR2 := Lib.hid (HR1.out.grown hg2 (fun e => by have := Option.some.inj e; have := HG.out; omega))
  have HA2 : Hid (Apt (fun q => q = g) w w2) := Lib.hid ((Apt.of_below HB1.out).trans (Apt.ofG hg2))
  have HD2 := Lib.hid hD2
  clear hget hD2 hg2 HD1 HR1 HB1
  by_cases hbc : bc = 0
  rotate_left
  · have hbe := errN hbc
    have hRR : meR m id = (bc, Me.zero) := by rw [HRR.out, if_pos hbc]
    have HE := Lib.hid hRR
    have hfz := fun i => HR2.out.frozen i
    have r0 := HR2.out.cell 0
    have r1 := HR2.out.cell 1
    have r2 := HR2.out.cell 2
    have r3 := HR2.out.cell 3
    have r4 := HR2.out.cell 4
    have r5 := HR2.out.cell 5
    simp at r0 r1 r2 r3 r4 r5
    clear hmeta hRR
    go_wp2_with fail
    have hm2 := setall6 _ HR2.out (.int .u64 0) (.int .i64 0) (.int .i64 0) (.int .i64 0) (.int .i64 0) (.int .i64 0)
    have hg3 := gset6 w2 w.heap.size (.int .u64 0) (.int .i64 0) (.int .i64 0) (.int .i64 0) (.int .i64 0) (.int .i64 0)
    refine bodyPost_ret (v := .tuple #[.agg meZ, .int .i64 bc]) (by have c := hm2.cell; simp [results, go_sem, c]; try rfl) rfl ?_
    rw [HE.out]
    exact ⟨rfl, HD2.out.set9 hg3 HNF.out, HA2.out.grown14 hg3 (Nat.le_refl _)⟩
  subst hbc
  obtain ⟨G, W, hcv, hbs, hbW, _⟩ := bytesB14 sb w2 hlen
  have HRW := Lib.hid (HR2.out.below hbW HR2.out.lt)
  have HAW := Lib.hid (HA2.out.trans (Apt.of_below hbW))
  have HDW := Lib.hid (HD2.out.below hbW)
  have HBS := Lib.hid hbs
  generalize sb.length = nsb at *
  clear HR2 HA2 hbW hbs HD2
  go_wp2_with fail
  refine (hmeta _ _ HBS.out).mono ?_
  rintro e w4 ⟨rfl, hb4⟩
  have HR4 := Lib.hid (HRW.out.below hb4 HRW.out.lt)
  have HA4 := Lib.hid (HAW.out.trans (Apt.of_below hb4))
  have HD4 := Lib.hid (HDW.out.below hb4)
  have hb5 : Below w4.heap.size w4 (w4.alloc (.cells #[.int .u64 mi, .int .i64 ml, .int .i64 ms, .int .i64 mn, .int .i64 mp, .int .i64 mt] 34)) := (Below.refl _ _).alloc (Nat.le_refl _) _
  have HR5 := Lib.hid (HR4.out.below hb5 HR4.out.lt)
  have HA5 := Lib.hid (HA4.out.trans (Apt.of_below hb5))
  have HD5 := Lib.hid (HD4.out.below hb5)
  have hfz := fun i => HR5.out.frozen i
  have r0 := HR5.out.cell 0
  have r1 := HR5.out.cell 1
  have r2 := HR5.out.cell 2
  have r3 := HR5.out.cell 3
  have r4 := HR5.out.cell 4
  have r5 := HR5.out.cell 5
  simp at r0 r1 r2 r3 r4 r5
  clear hmeta hb4 hb5 HRW HAW HDW HBS hcv HR4 HA4 HD4
  by_cases hmc : mc = 0
  rotate_left
  · have hbe := errN hmc
    have hRR : meR m id = (mc, Me.zero) := by rw [HRR.out, if_neg (by simp), if_pos hmc]
    have HE := Lib.hid hRR
    clear hRR
    go_wp2_with fail
    revert HR5 HA5 HD5
    generalize w4.alloc (.cells #[.int .u64 mi, .int .i64 ml, .int .i64 ms, .int .i64 mn, .int .i64 mp, .int .i64 mt] 34) = w5
    intro HR5 HA5 HD5
    have hm2 := setall6 _ HR5.out (.int .u64 0) (.int .i64 0) (.int .i64 0) (.int .i64 0) (.int .i64 0) (.int .i64 0)
    have hg3 := gset6 w5 w.heap.size (.int .u64 0) (.int .i64 0) (.int .i64 0) (.int .i64 0) (.int .i64 0) (.int .i64 0)
    refine bodyPost_ret (v := .tuple #[.agg meZ, .int .i64 mc]) (by have c := hm2.cell; simp [results, go_sem, c]; try rfl) rfl ?_
    rw [HE.out]
    exact ⟨rfl, HD5.out.set9 hg3 HNF.out, HA5.out.grown14 hg3 (Nat.le_refl _)⟩
  subst hmc
  by_cases hie : mi = (id : Int)
  rotate_left
  · have hbe : (mi == (id : Int)) = false := by simpa using hie
    have hRR : meR m id = (2, Me.zero) := by rw [HRR.out, if_neg (by simp), if_neg (by simp), if_neg hie]
    have HE := Lib.hid hRR
    clear hRR
    go_wp2_with fail
    revert HR5 HA5 HD5
    generalize w4.alloc (.cells #[.int .u64 mi, .int .i64 ml, .int .i64 ms, .int .i64 mn, .int .i64 mp, .int .i64 mt] 34) = w5
    intro HR5 HA5 HD5
    have hm2 := setall6 _ HR5.out (.int .u64 0) (.int .i64 0) (.int .i64 0) (.int .i64 0) (.int .i64 0) (.int .i64 0)
    have hg3 := gset6 w5 w.heap.size (.int .u64 0) (.int .i64 0) (.int .i64 0) (.int .i64 0) (.int .i64 0) (.int .i64 0)
    refine bodyPost_ret (v := .tuple #[.agg meZ, .int .i64 2]) (by have c := hm2.cell; simp [results, go_sem, c]; try rfl) rfl ?_
    rw [HE.out]
    exact ⟨rfl, HD5.out.set9 hg3 HNF.out, HA5.out.grown14 hg3 (Nat.le_refl _)⟩
  subst hie
  have HE : Hid (meR m id = (0, ⟨id, ml, ms, mn, mp, mt⟩)) := Lib.hid (by rw [HRR.out, if_neg (by simp), if_neg (by simp), if_pos rfl])
  clear HRR
  go_wp2_with fail
  revert HR5 HA5 HD5
  generalize w4.alloc (.cells #[.int .u64 id, .int .i64 ml, .int .i64 ms, .int .i64 mn, .int .i64 mp, .int .i64 mt] 34) = w5
  intro HR5 HA5 HD5
  have hm2 := setall6 _ HR5.out (.int .u64 id) (.int .i64 ml) (.int .i64 ms) (.int .i64 mn) (.int .i64 mp) (.int .i64 mt)
  have hg3 := gset6 w5 w.heap.size (.int .u64 id) (.int .i64 ml) (.int .i64 ms) (.int .i64 mn) (.int .i64 mp) (.int .i64 mt)
  refine bodyPost_ret (v := .tuple #[meV ⟨id, ml, ms, mn, mp, mt⟩, .int .i64 0]) (by have c := hm2.cell; simp [results, go_sem, c, meV]; try rfl) rfl ?_
  rw [HE.out]
  exact ⟨rfl, HD5.out.set9 hg3 HNF.out, HA5.out.grown14 hg3 (Nat.le_refl _)⟩

open Classical in
noncomputable def pgX (x : List UInt8) : Int × List Tn :=
  if x.length < 4 then (2, []) else if tailOf x = crcOf (bodyOf x) then (if h : ∃ m, ValP m ∧ pgBody m = bodyOf x then (0, Classical.choose h) else (2, [])) else (7, [])
theorem pgX_short {x : List UInt8} (h : x.length < 4) : pgX x = (2, []) := if_pos h
theorem pgX_sum {x : List UInt8} (h : ¬ x.length < 4) (h2 : tailOf x ≠ crcOf (bodyOf x)) : pgX x = (7, []) := by rw [pgX, if_neg h, if_neg h2]
theorem pgX_form {x : List UInt8} (h : ¬ x.length < 4) (h2 : tailOf x = crcOf (bodyOf x)) (h3 : ¬ ∃ m, ValP m ∧ pgBody m = bodyOf x) : pgX x = (2, []) := by rw [pgX, if_neg h, if_pos h2, dif_neg h3]
theorem pgX_yes {x : List UInt8} (h : ¬ x.length < 4) (h2 : tailOf x = crcOf (bodyOf x)) (h3 : ∃ m, ValP m ∧ pgBody m = bodyOf x) : ∃ m, pgX x = (0, m) ∧ ValP m ∧ pgBody m = bodyOf x := by
  refine ⟨Classical.choose h3, ?_, Classical.choose_spec h3⟩
  rw [pgX, if_neg h, if_pos h2, dif_pos h3]
theorem pgX_len (x : List UInt8) : (pgX x).2.length ≤ 64 := by
  by_cases h : x.length < 4
  · rw [pgX_short h]; simp
  · by_cases h2 : tailOf x = crcOf (bodyOf x)
    · by_cases h3 : ∃ m, ValP m ∧ pgBody m = bodyOf x
      · obtain ⟨m, e, hv, _⟩ := pgX_yes h h2 h3
        rw [e]
        exact hv.most
      · rw [pgX_form h h2 h3]; simp
    · rw [pgX_sum h h2]; simp
theorem Paged_x (v : Value) (x : List UInt8) (w : World) (h : Bs w v x) (hl : x.length ≤ 140737488355320) :
    Calls Tryz.prog 87 #[v] w fun e w' => ∃ y, e = .returned (.tuple #[y, .int .i64 (pgX x).1]) ∧ OwnK 2 w' w.heap.size 63 (fun q => q < w.heap.size) TnC y (pgX x).2 ∧ Below w.heap.size w w' := by
  refine (Paged_own v x w h hl).mono ?_
  rintro e w' ⟨y, n, rfl, hP, hb⟩
  by_cases h : x.length < 4
  · obtain ⟨rfl, rfl⟩ := hP.pp.short h
    rw [pgX_short h]
    exact ⟨_, rfl, OwnK.nil _ _ _ _ _ _, hb⟩
  · by_cases h2 : tailOf x = crcOf (bodyOf x)
    · by_cases h3 : ∃ m, ValP m ∧ pgBody m = bodyOf x
      · obtain ⟨m, e, hv, hb3⟩ := pgX_yes h h2 h3
        obtain ⟨rfl, _⟩ := hP.pp.yes m (by omega) h2 hv hb3
        rw [e]
        exact ⟨_, rfl, hP.own m (by omega) h2 hv hb3, hb⟩
      · obtain ⟨rfl, rfl⟩ := hP.pp.form (by omega) h2 fun m hv e => h3 ⟨m, hv, e⟩
        rw [pgX_form h h2 h3]
        exact ⟨_, rfl, OwnK.nil _ _ _ _ _ _, hb⟩
    · obtain ⟨rfl, rfl⟩ := hP.pp.sum (by omega) h2
      rw [pgX_sum h h2]
      exact ⟨_, rfl, OwnK.nil _ _ _ _ _ _, hb⟩
noncomputable def pgR (m : Sm) (id i : Nat) : Int × List Tn :=
  if (sGet m (nmOf id [112] (i : Int))).2 ≠ 0 then ((sGet m (nmOf id [112] (i : Int))).2, []) else pgX (sGet m (nmOf id [112] (i : Int))).1
theorem pgR_len (m : Sm) (id i : Nat) : (pgR m id i).2.length ≤ 64 := by
  unfold pgR
  split
  · simp
  · exact pgX_len _

set_option maxHeartbeats 3200000 in
theorem DPage_any {base g : Nat} {v : Value} {m : Sm} (id i : Nat) (w : World) (hD : DS w base g v m) (hm : m.ok) (hc : m.calls < 1000000000) (hid : id < 18446744073709551616) (hi : i ≤ 1000000) :
    Calls Tryz.prog 49 #[.pointer (some ⟨g, 0, none⟩), .int .u64 (id : Int), .int .i64 (i : Int)] w fun e w' => ∃ y B, e = .returned (.tuple #[y, .int .i64 (pgR m id i).1]) ∧ DS w' base g v (callS m) ∧ Apt (fun q => q = g) w w' ∧ w.heap.size ≤ B ∧ OwnK 2 w' B 63 (fun q => q < B) TnC y (pgR m id i).2 := by
  have HD := Lib.hid hD
  have hget := fun u (hu : DS u base g v m) => DGet_any base g v m (nmOf id [112] (i : Int)) u hu hm hc
  have hlen : (sGet m (nmOf id [112] (i : Int))).1.length ≤ 1048576 := Nat.le_trans (sGet_len _ _) hm.used
  have HRR : Hid (pgR m id i = if (sGet m (nmOf id [112] (i : Int))).2 ≠ 0 then ((sGet m (nmOf id [112] (i : Int))).2, []) else pgX (sGet m (nmOf id [112] (i : Int))).1) := Lib.hid rfl
  generalize (sGet m (nmOf id [112] (i : Int))).1 = sb at hget hlen HRR
  generalize (sGet m (nmOf id [112] (i : Int))).2 = bc at hget HRR
  have hpg := fun u y (hy : Bs u y sb) => Paged_x y sb u hy (by omega)
  clear hD hm
  go_enter Tryz.func49, Tryz.ntmps49
  go_wp2_with fail
  refine (Name_any id [112] (i : Int) _ hid (by omega)).mono ?_
  rintro e w1 ⟨rfl, hb1⟩
  have HB1 := Lib.hid hb1
  have HD1 := Lib.hid (HD.out.below hb1)
  clear hb1
  go_wp2_with fail
  refine (hget _ HD1.out).mono ?_
  rintro e w2 ⟨rfl, hD2, hg2⟩
  have HA2 : Hid (Apt (fun q => q = g) w w2) := Lib.hid ((Apt.of_below HB1.out).trans (Apt.ofG hg2))
  have HD2 := Lib.hid hD2
  clear hget hD2 hg2 HD1 HB1 HD
  by_cases hbc : bc = 0
  rotate_left
  · have hbe := errN hbc
    have HE : Hid (pgR m id i = (bc, [])) := Lib.hid (by rw [HRR.out, if_pos hbc])
    clear hpg
    go_wp2_with fail
    go_ret2
    rw [HE.out]
    exact ⟨_, w2.heap.size, rfl, HD2.out, HA2.out, HA2.out.size, OwnK.nil _ _ _ _ _ _⟩
  subst hbc
  obtain ⟨G, W, hcv, hbs, hbW, _⟩ := bytesB14 sb w2 hlen
  have HAW := Lib.hid (HA2.out.trans (Apt.of_below hbW))
  have HDW := Lib.hid (HD2.out.below hbW)
  have HBS := Lib.hid hbs
  have HE : Hid (pgR m id i = pgX sb) := Lib.hid (by rw [HRR.out, if_neg (by simp)])
  generalize pgX sb = px at hpg HE
  obtain ⟨pc, pl⟩ := px
  generalize sb.length = nsb at *
  clear HA2 hbW hbs HD2 HRR
  go_wp2_with fail
  refine (hpg _ _ HBS.out).mono ?_
  rintro e w4 ⟨y, rfl, hO, hb4⟩
  have HO := Lib.hid hO
  have HA4 := Lib.hid (HAW.out.trans (Apt.of_below hb4))
  have HD4 := Lib.hid (HDW.out.below hb4)
  have HSZ := Lib.hid HAW.out.size
  clear hpg hO hb4 hcv HBS HAW HDW
  go_wp2_with fail
  go_ret2
  rw [HE.out]
  exact ⟨_, _, rfl, HD4.out, HA4.out, HSZ.out, HO.out⟩

noncomputable def rdA (id : Nat) : Nat → Nat → Sm → List Tn → (Int × List Tn) × Sm
  | 0, _, m, out => ((0, out), m)
  | n + 1, k, m, out => if (pgR m id k).1 ≠ 0 then (((pgR m id k).1, []), callS m) else rdA id n (k + 1) (callS m) (out ++ (pgR m id k).2)
noncomputable def alR (m : Sm) (id : Nat) : (Int × List Tn) × Sm :=
  if (meR m id).1 ≠ 0 then (((meR m id).1, []), callS m)
  else if (rdA id (meR m id).2.pg.toNat 0 (callS m) []).1.1 ≠ 0 then rdA id (meR m id).2.pg.toNat 0 (callS m) []
  else if isB (rdA id (meR m id).2.pg.toNat 0 (callS m) []).1.2 = true ∧ ((rdA id (meR m id).2.pg.toNat 0 (callS m) []).1.2.length : Int) = (meR m id).2.tr then rdA id (meR m id).2.pg.toNat 0 (callS m) []
  else ((2, []), (rdA id (meR m id).2.pg.toNat 0 (callS m) []).2)
theorem meR_pages {m : Sm} {id : Nat} (h : (meR m id).1 = 0) : 0 ≤ (meR m id).2.pg ∧ (meR m id).2.pg ≤ 200 := by
  unfold meR at h ⊢
  split at h
  · rename_i h1
    exact absurd h h1
  · split at h
    · rename_i h1
      exact absurd h h1
    · rename_i h1 h2
      split at h
      · rename_i h3
        rw [if_neg h1, if_neg h2, if_pos h3]
        have := meX_may (Classical.not_not.1 h2)
        have hp : meP _ := of_decide_eq_true this
        obtain ⟨_, _, _, _, _, _, h7, h8, _⟩ := hp
        constructor <;> (simp only; omega)
      · cases h
theorem rdA_fail {id n k : Nat} {m : Sm} {out : List Tn} (h : (pgR m id k).1 ≠ 0) : rdA id (n + 1) k m out = (((pgR m id k).1, []), callS m) := by rw [rdA, if_pos h]
theorem rdA_on {id n k : Nat} {m : Sm} {out : List Tn} (h : (pgR m id k).1 = 0) : rdA id (n + 1) k m out = rdA id n (k + 1) (callS m) (out ++ (pgR m id k).2) := by rw [rdA, if_neg (by rw [h]; simp)]

set_option maxHeartbeats 6400000 in
theorem DAll_any {base g : Nat} {v : Value} {m : Sm} {N : Nat} (id : Nat) (w : World) (hD : DS w base g v m) (hm : m.fine N) (hN : N ≤ 10000) (hid : id < 18446744073709551616) :
    Calls Tryz.prog 16 #[.pointer (some ⟨g, 0, none⟩), .int .u64 (id : Int)] w fun e w' => ∃ y, e = .returned (.tuple #[y, .int .i64 (alR m id).1.1]) ∧ DS w' base g v (alR m id).2 ∧ (alR m id).2.fine (N + 201) ∧ Ts w' y (alR m id).1.2 ∧ Apt (fun q => q = g) w w' := by
  have hM := DMeta_any id w hD (hm.ok (by omega)) (by have := hm.calls1; omega) hid
  have HG := Lib.hid hD.blk.lt
  have HVB : Hid (∀ q, v.ownBlock = some q → q < w.heap.size) := Lib.hid fun q hq => hD.row.lt q hq
  have HM := Lib.hid hm
  have HPG : Hid ((meR m id).1 = 0 → 0 ≤ (meR m id).2.pg ∧ (meR m id).2.pg ≤ 200) := Lib.hid meR_pages
  have HAR : Hid (alR m id = if (meR m id).1 ≠ 0 then (((meR m id).1, []), callS m) else if (rdA id (meR m id).2.pg.toNat 0 (callS m) []).1.1 ≠ 0 then rdA id (meR m id).2.pg.toNat 0 (callS m) [] else if isB (rdA id (meR m id).2.pg.toNat 0 (callS m) []).1.2 = true ∧ ((rdA id (meR m id).2.pg.toNat 0 (callS m) []).1.2.length : Int) = (meR m id).2.tr then rdA id (meR m id).2.pg.toNat 0 (callS m) [] else ((2, []), (rdA id (meR m id).2.pg.toNat 0 (callS m) []).2)) := Lib.hid rfl
  generalize meR m id = mr at hM HPG HAR
  obtain ⟨mc, mi, ml, ms, mn, mp, mt⟩ := mr
  simp only [meV] at hM
  clear hD hm
  go_enter Tryz.func16, Tryz.ntmps16
  go_wp2_with fail
  refine hM.mono ?_
  rintro e w1 ⟨rfl, hD1, hA1⟩
  have hb2 : Below w1.heap.size w1 (w1.alloc (.cells #[.int .u64 mi, .int .i64 ml, .int .i64 ms, .int .i64 mn, .int .i64 mp, .int .i64 mt] 34)) := (Below.refl _ _).alloc (Nat.le_refl _) _
  have HR2 : Hid (Blk (w1.alloc (.cells #[.int .u64 mi, .int .i64 ml, .int .i64 ms, .int .i64 mn, .int .i64 mp, .int .i64 mt] 34)) w1.heap.size 34 #[.int .u64 mi, .int .i64 ml, .int .i64 ms, .int .i64 mn, .int .i64 mp, .int .i64 mt]) := Lib.hid (Blk.new _ _ _)
  have HA2 := Lib.hid (hA1.trans (Apt.of_below hb2))
  have HD2 := Lib.hid (hD1.below hb2)
  have hs1 := hA1.size
  clear hM hD1 hA1 hb2
  by_cases hmc : mc = 0
  rotate_left
  · have hbe := errN hmc
    have HE : Hid (alR m id = ((mc, []), callS m)) := Lib.hid (by rw [HAR.out, if_pos hmc])
    clear HAR
    go_wp2_with fail
    go_ret2
    rw [HE.out]
    exact ⟨_, rfl, HD2.out, HM.out.call.more (by omega), Ts.nil _, HA2.out⟩
  subst hmc
  have hp0 := (HPG.out rfl).1
  have hp1 := (HPG.out rfl).2
  try simp only at hp0 hp1
  obtain ⟨n, rfl⟩ := nat_of (n := mp) hp0
  have HRE : Hid (alR m id = if (rdA id n 0 (callS m) []).1.1 ≠ 0 then rdA id n 0 (callS m) [] else if isB (rdA id n 0 (callS m) []).1.2 = true ∧ ((rdA id n 0 (callS m) []).1.2.length : Int) = mt then rdA id n 0 (callS m) [] else ((2, []), (rdA id n 0 (callS m) []).2)) := Lib.hid (by
    rw [HAR.out, if_neg (by simp)]
    rfl)
  have hn200 : n ≤ 200 := by omega
  clear HAR HPG hp0 hp1
  go_wp2_with fail
  revert HR2 HA2 HD2
  generalize w1.alloc (.cells #[.int .u64 mi, .int .i64 ml, .int .i64 ms, .int .i64 mn, .int .i64 (n : Int), .int .i64 mt] 34) = w2
  obtain ⟨g6, hg6⟩ : ∃ z, z = w1.heap.size := ⟨_, rfl⟩
  rw [← hg6]
  intro HR2 HA2 HD2
  have HG6 : Hid (w.heap.size ≤ g6) := Lib.hid (by omega)
  clear hg6 hs1
  go_loopg [8, 9] n (fun gk lv iv wr => ∃ (k : Nat) (mk : Sm) (out : List Tn), k + gk = n ∧ iv = .int .i64 (k : Int) ∧ Hid (OwnK 2 wr (g6 + 1) 63 (fun q => q = g ∨ q = g6) TnC lv out ∧ DS wr base g v mk ∧ rdA id n 0 (callS m) [] = rdA id gk k mk out ∧ out.length ≤ 64 * k ∧ mk.fine (N + 1 + k) ∧ Blk wr g6 34 #[.int .u64 mi, .int .i64 ml, .int .i64 ms, .int .i64 mn, .int .i64 (n : Int), .int .i64 mt] ∧ Apt (fun q => q = g) w wr))
  case atStart => exact ⟨0, callS m, [], by omega, rfl, Lib.hid ⟨OwnK.nil _ _ _ _ _ _, HD2.out, rfl, by simp, HM.out.call, HR2.out, HA2.out⟩⟩
  case round =>
    obtain ⟨k, mk, out, hk, rfl, HW⟩ := hrel
    have b4 := HW.out.2.2.2.2.2.1.cell 4
    have b5 := HW.out.2.2.2.2.2.1.cell 5
    simp at b4 b5
    by_cases hlt : k < n
    · obtain ⟨gk1, hgk1⟩ : ∃ x, gk = x + 1 := ⟨gk - 1, by omega⟩
      have hP := DPage_any id k wr HW.out.2.1 (HW.out.2.2.2.2.1.ok (by omega)) (by have := HW.out.2.2.2.2.1.calls1; omega) hid (by omega)
      have hpl := pgR_len mk id k
      have HF : Hid ((pgR mk id k).1 ≠ 0 → rdA id n 0 (callS m) [] = (((pgR mk id k).1, []), callS mk)) := Lib.hid fun h => by
        rw [HW.out.2.2.1, hgk1, rdA_fail h]
      have HON : Hid ((pgR mk id k).1 = 0 → rdA id n 0 (callS m) [] = rdA id gk1 (k + 1) (callS mk) (out ++ (pgR mk id k).2)) := Lib.hid fun h => by
        rw [HW.out.2.2.1, hgk1, rdA_on h]
      generalize pgR mk id k = pr at hP hpl HF HON
      obtain ⟨pc, p⟩ := pr
      simp only at hP hpl
      go_wp2_with fail
      refine hP.mono ?_
      rintro e w3 ⟨y, B, rfl, hD3, hA3, hB3, hO3⟩
      by_cases hpc : pc = 0
      rotate_left
      · have hbe := errN hpc
        have HE : Hid (alR m id = ((pc, []), callS mk)) := Lib.hid (by rw [HRE.out, HF.out hpc, if_pos hpc])
        have HA3 := Lib.hid (HW.out.2.2.2.2.2.2.trans hA3)
        have HD3 := Lib.hid hD3
        have HFI := Lib.hid (HW.out.2.2.2.2.1.call.more (show N + 1 + k + 1 ≤ N + 201 by omega))
        clear hP hO3 hD3 hA3 HW HRE HF HON b4 b5
        go_wp2_with fail
        go_ret2
        rw [HE.out]
        exact ⟨_, rfl, HD3.out, HFI.out, Ts.nil _, HA3.out⟩
      subst hpc
      have hgs := HG.out
      have hg6s := HG6.out
      have hwr := HW.out.2.2.2.2.2.2.size
      have hg6w := HW.out.2.2.2.2.2.1.lt
      have hlv := HW.out.1.lt
      have HOut : Hid (OwnK 2 w3 (g6 + 1) 63 (fun q => q = g ∨ q = g6) TnC u8 out) := Lib.hid (HW.out.1.apt hA3 (fun q _ hq => .inl hq) (fun q hq e => by have := (hlv q hq).1; omega) fun q hq => .inl hq)
      have HR3 : Hid (Blk w3 g6 34 #[.int .u64 mi, .int .i64 ml, .int .i64 ms, .int .i64 mn, .int .i64 (n : Int), .int .i64 mt]) := Lib.hid ((hA3.block g6 hg6w fun e => by omega).trans HW.out.2.2.2.2.2.1)
      have HA3 := Lib.hid (HW.out.2.2.2.2.2.2.trans hA3)
      have HMK := Lib.hid HW.out.2.2.2
      have HD3 := Lib.hid hD3
      have HRD := Lib.hid (HON.out rfl)
      obtain ⟨ys, y1, y2⟩ := hO3
      have HYL := Lib.hid y1.lv
      have HYK : Hid (Two (fun b z => Keep (fun q => (q = g ∨ q = g6) ∨ u8.ownBlock = some q) (fun u => TnC u b z) w3) p ys) := Lib.hid (y2.mono fun _ _ hk => hk.less fun q hq => by
        rcases hq with (rfl | rfl) | hq
        · exact .inl (.inl (by omega))
        · exact .inl (.inl (by omega))
        · have := (hlv q hq).2
          exact .inl (.inl (by omega)))
      have HY1 : Hid (∀ z ∈ ys, ∀ u ∈ z, u.oneCell' = true) := Lib.hid fun z hz => by
        obtain ⟨j, hj⟩ := List.getElem?_of_mem hz
        have hjl : j < p.length := by
          rw [y2.len]
          exact (List.getElem?_eq_some_iff.1 hj).1
        exact (y2.at_ j _ _ (List.getElem?_eq_getElem hjl) hj).here.one
      have HLen : Hid (out.length + p.length ≤ 1000000000) := Lib.hid (by
        have := HW.out.2.2.2.1
        omega)
      have HSZ : Hid (g6 + 1 ≤ w3.heap.size) := Lib.hid (by have := hA3.size; omega)
      have HLT : Hid (∀ q, u8.ownBlock = some q → g6 < q) := Lib.hid fun q hq => (hlv q hq).1
      have HPL := Lib.hid hpl
      clear hP hD3 hA3 y1 y2 hlv hB3 HW b4 b5 hgs hg6s hwr hg6w HF HON hpl
      go_wp2_with (at_builtin; refine wpList_append_Ks trT rfl _ _ rfl rfl HOut.out rfl HYL.out HYK.out HY1.out HLen.out (by decide) HSZ.out ?_)
      intro v' w4 hO4 hg4 hv4
      have HO4 := Lib.hid hO4
      have HNF : Hid (∀ q, u8.ownBlock = some q → ¬ yF g v q ∧ q ≠ g6 ∧ w.heap.size ≤ q) := Lib.hid fun q hq => by
        have h1 := HLT.out q hq
        have h2 := HG6.out
        have h3 := HG.out
        refine ⟨fun h => ?_, by omega, by omega⟩
        rcases h with h | h
        · omega
        · have := HVB.out q h
          omega
      have HD4 := Lib.hid (HD3.out.grown14 hg4 fun q hq => (HNF.out q hq).1)
      have HR4 := Lib.hid (HR3.out.grown hg4 fun e => (HNF.out g6 e.symm).2.1 rfl)
      have HA4 : Hid (Apt (fun q => q = g) w w4) := Lib.hid ⟨hg4.os.trans HA3.out.os, hg4.tape.trans HA3.out.tape, hg4.output.trans HA3.out.output, Nat.le_trans HA3.out.size hg4.size, fun q hq hF => (hg4.block q (Nat.lt_of_lt_of_le hq HA3.out.size) fun e => by have := (HNF.out q e.symm).2.2; omega).trans (HA3.out.block q hq hF)⟩
      clear hO4 hg4 hv4 HOut HR3 HA3 HD3 HYL HYK HY1 HLen HSZ HLT HNF
      go_wp2_with fail
      go_roundg gk1
      case measure => omega
      case rel =>
        exact ⟨k + 1, callS mk, out ++ p, by omega, by go_num, Lib.hid ⟨HO4.out, HD4.out, HRD.out, by rw [List.length_append]; have := HMK.out.1; have := HPL.out; omega, HMK.out.2.1.call, HR4.out, HA4.out⟩⟩
    · have hkn : k = n := by omega
      have hg0 : gk = 0 := by omega
      subst hkn
      subst hg0
      have HTs : Hid (Ts wr u8 out) := Lib.hid HW.out.1.ts
      have hIs := Is_any u8 out wr HTs.out
      have HRD : Hid (rdA id k 0 (callS m) [] = ((0, out), mk)) := Lib.hid (by rw [HW.out.2.2.1]; rfl)
      have HA := Lib.hid HW.out.2.2.2.2.2.2
      have HR := Lib.hid HW.out.2.2.2.2.2.1
      have HD := Lib.hid HW.out.2.1
      have HFI := Lib.hid (HW.out.2.2.2.2.1.more (show N + 1 + k ≤ N + 201 by omega))
      have hol : out.length ≤ 12800 := by have := HW.out.2.2.2.1; omega
      obtain ⟨A, c, hu8, _, _⟩ := HTs.out.form
      obtain ⟨lo, hlo⟩ : ∃ z, z = out.length := ⟨_, rfl⟩
      rw [← hlo] at hu8 hol
      subst hu8
      have HLO := Lib.hid hlo
      clear HW hlo
      cases hib : isB out with
      | false =>
        rw [hib] at hIs
        have HE : Hid (alR m id = ((2, []), mk)) := Lib.hid (by
          rw [HRE.out, HRD.out, if_neg (by simp), if_neg (by
            intro h
            rw [hib] at h
            cases h.1)])
        clear HRE HRD hib
        go_wp2_with fail
        refine hIs.mono ?_
        rintro e w3 ⟨rfl, hb3⟩
        have HA3 := Lib.hid (HA.out.trans (Apt.of_below hb3))
        have HD3 := Lib.hid (HD.out.below hb3)
        clear hIs hb3 b4 b5
        go_wp2_with fail
        go_ret2
        rw [HE.out]
        exact ⟨_, rfl, HD3.out, HFI.out, Ts.nil _, HA3.out⟩
      | true =>
        rw [hib] at hIs
        by_cases hlm : (lo : Int) = mt
        · have HE : Hid (alR m id = ((0, out), mk)) := Lib.hid (by
            rw [HRE.out, HRD.out, if_neg (by simp), if_pos ⟨hib, by rw [← HLO.out]; exact hlm⟩])
          clear HRE HRD hib
          go_wp2_with fail
          refine hIs.mono ?_
          rintro e w3 ⟨rfl, hb3⟩
          have HA3 := Lib.hid (HA.out.trans (Apt.of_below hb3))
          have HD3 := Lib.hid (HD.out.below hb3)
          have HT3 := Lib.hid (HTs.out.below hb3)
          have c5 := (hb3.cell HR.out.lt).trans b5
          clear hIs hb3 b4 b5
          have hle : ((lo : Int) == mt) = true := by simpa using hlm
          go_wp2_with fail
          go_ret2
          rw [HE.out]
          exact ⟨_, rfl, HD3.out, HFI.out, HT3.out, HA3.out⟩
        · have HE : Hid (alR m id = ((2, []), mk)) := Lib.hid (by
            rw [HRE.out, HRD.out, if_neg (by simp), if_neg (by
              intro h
              exact hlm (by rw [HLO.out]; exact h.2))])
          clear HRE HRD hib
          go_wp2_with fail
          refine hIs.mono ?_
          rintro e w3 ⟨rfl, hb3⟩
          have HA3 := Lib.hid (HA.out.trans (Apt.of_below hb3))
          have HD3 := Lib.hid (HD.out.below hb3)
          have c5 := (hb3.cell HR.out.lt).trans b5
          clear hIs hb3 b4 b5
          have hle : ((lo : Int) == mt) = false := by simpa using hlm
          go_wp2_with fail
          go_ret2
          rw [HE.out]
          exact ⟨_, rfl, HD3.out, HFI.out, Ts.nil _, HA3.out⟩

end Go.Proofs.YtfaefacefdkjdaaGreatDoor

namespace Go.Proofs.YtfaefacefdkjdaaGreatDoor
open Go.RowKit
set_option maxRecDepth 100000

open Classical in
noncomputable def atX (l : List Nat) (id : Nat) : Int := if h : ∃ k, IsAt l id k then Classical.choose h else -1
theorem atX_of {l : List Nat} {id : Nat} {k : Int} (h : IsAt l id k) : atX l id = k := by
  have he : ∃ k, IsAt l id k := ⟨k, h⟩
  rw [atX, dif_pos he]
  exact IsAt.one (Classical.choose_spec he) h
def spOf (tr : Nat) : List Tn → List Sn
  | [] => []
  | t :: l => if t.id = (tr : Int) then t.sp else spOf tr l
theorem spOf_none {tr : Nat} : ∀ {l : List Tn}, (∀ t ∈ l, t.id ≠ (tr : Int)) → spOf tr l = []
  | [], _ => rfl
  | t :: l, h => by rw [spOf, if_neg (h t (List.mem_cons_self ..)), spOf_none fun x hx => h x (List.mem_cons_of_mem _ hx)]
theorem spOf_at {tr : Nat} : ∀ {l : List Tn} {k : Nat} {t : Tn}, l[k]? = some t → t.id = (tr : Int) → (∀ x ∈ l.take k, x.id ≠ (tr : Int)) → spOf tr l = t.sp
  | [], k, t, h, _, _ => by simp at h
  | x :: l, 0, t, h, ht, _ => by
    simp at h
    subst h
    rw [spOf, if_pos ht]
  | x :: l, k + 1, t, h, ht, hn => by
    have h0 := hn x (by simp)
    rw [spOf, if_neg h0]
    exact spOf_at (by simpa using h) ht fun y hy => hn y (by simp [hy])
noncomputable def fiP (m : Sm) (id tr : Nat) (ns : List Nat) : (Int × List Sn) × Sm :=
  if atX ns tr < 0 then ((0, []), m) else if (pgR m id (atX ns tr).toNat).1 ≠ 0 then (((pgR m id (atX ns tr).toNat).1, []), callS m) else ((0, spOf tr (pgR m id (atX ns tr).toNat).2), callS m)
noncomputable def fiI (m : Sm) (id tr : Nat) : (Int × List Sn) × Sm :=
  if (sGet m (nmOf id [105] 0)).2 ≠ 0 then (((sGet m (nmOf id [105] 0)).2, []), callS m) else if (ixX (sGet m (nmOf id [105] 0)).1).1 ≠ 0 then (((ixX (sGet m (nmOf id [105] 0)).1).1, []), callS m) else fiP (callS m) id tr (ixX (sGet m (nmOf id [105] 0)).1).2
noncomputable def fiR (m : Sm) (id tr : Nat) : (Int × List Sn) × Sm :=
  if (sGet m (nmOf id [102] 0)).2 ≠ 0 then (((sGet m (nmOf id [102] 0)).2, []), callS m) else
    match getX (sGet m (nmOf id [102] 0)).1 with
    | .error n => (((n : Int), []), callS m)
    | .ok b => if b.has tr = true then fiI (callS m) id tr else ((0, []), callS m)
theorem getX_ne {x : List UInt8} {n : Nat} (h : getX x = .error n) : (n : Int) ≠ 0 := by
  unfold getX at h
  split at h
  · injection h with h
    omega
  · split at h
    · injection h with h
      omega
    · split at h
      · injection h with h
        omega
      · cases h
theorem ixX_len (x : List UInt8) : (ixX x).2.length ≤ 200 := by
  have hg : ∀ b, (ixRes (ixGet b)).2.length ≤ 200 := fun b => by
    unfold ixGet
    split
    · rename_i h
      have := h.2
      simp only [ixB, Bool.and_eq_true, decide_eq_true_iff] at this
      exact this.2
    · simp [ixRes]
  unfold ixX
  repeat' split
  · simp
  · exact hg _
  · simp

set_option maxHeartbeats 6400000 in
theorem DFind14_any {base g : Nat} {v : Value} {m : Sm} {N : Nat} (id tr : Nat) (w : World) (hD : DS w base g v m) (hm : m.fine N) (hN : N ≤ 10000) (hid : id < 18446744073709551616) (htr : tr < 18446744073709551616) :
    Calls Tryz.prog 13 #[.pointer (some ⟨g, 0, none⟩), .int .u64 (id : Int), .int .u64 (tr : Int)] w fun e w' => ∃ y, e = .returned (.tuple #[y, .int .i64 (fiR m id tr).1.1]) ∧ DS w' base g v (fiR m id tr).2 ∧ (fiR m id tr).2.fine (N + 3) ∧ Ss w' y (fiR m id tr).1.2 ∧ Apt (fun q => q = g) w w' := by
  have HM := Lib.hid hm
  have HD := Lib.hid hD
  have hget := fun u (hu : DS u base g v m) => DGet_any base g v m (nmOf id [102] 0) u hu (hm.ok (by omega)) (by have := hm.calls1; omega)
  have hlen : (sGet m (nmOf id [102] 0)).1.length ≤ 1048576 := Nat.le_trans (sGet_len _ _) hm.used
  have HFR : Hid (fiR m id tr = if (sGet m (nmOf id [102] 0)).2 ≠ 0 then (((sGet m (nmOf id [102] 0)).2, []), callS m) else match getX (sGet m (nmOf id [102] 0)).1 with | .error n => (((n : Int), []), callS m) | .ok b => if b.has tr = true then fiI (callS m) id tr else ((0, []), callS m)) := Lib.hid rfl
  generalize (sGet m (nmOf id [102] 0)).1 = sb at hget hlen HFR
  generalize (sGet m (nmOf id [102] 0)).2 = bc at hget HFR
  have hfil := fun u x (hx : Bs u x sb) => DFiltered_any u hx hlen
  clear hD hm
  go_enter Tryz.func13, Tryz.ntmps13
  go_wp2_with fail
  refine (Name_any id [102] 0 _ hid (by omega)).mono ?_
  rintro e w1 ⟨rfl, hb1⟩
  have HB1 := Lib.hid hb1
  have HD1 := Lib.hid (HD.out.below hb1)
  clear hb1
  go_wp2_with fail
  refine (hget _ HD1.out).mono ?_
  rintro e w2 ⟨rfl, hD2, hg2⟩
  have HA2 : Hid (Apt (fun q => q = g) w w2) := Lib.hid ((Apt.of_below HB1.out).trans (Apt.ofG hg2))
  have HD2 := Lib.hid hD2
  clear hget hD2 hg2 HD1 HB1 HD
  have HM1 : Hid ((callS m).fine (N + 1)) := Lib.hid HM.out.call
  by_cases hbc : bc = 0
  rotate_left
  · have hbe := errN hbc
    have HE : Hid (fiR m id tr = ((bc, []), callS m)) := Lib.hid (by rw [HFR.out, if_pos hbc])
    clear hfil HFR
    go_wp2_with fail
    go_ret2
    rw [HE.out]
    exact ⟨_, rfl, HD2.out, HM1.out.more (by omega), Ss.nil _, HA2.out⟩
  subst hbc
  have HFR2 : Hid (fiR m id tr = match getX sb with | .error n => (((n : Int), []), callS m) | .ok b => if b.has tr = true then fiI (callS m) id tr else ((0, []), callS m)) := Lib.hid (by rw [HFR.out, if_neg (by simp)])
  obtain ⟨G, W, hcv, hbs, hbW, _⟩ := bytesB14 sb w2 hlen
  have HAW := Lib.hid (HA2.out.trans (Apt.of_below hbW))
  have HDW := Lib.hid (HD2.out.below hbW)
  have HBS := Lib.hid hbs
  generalize sb.length = nsb at *
  clear HA2 hbW hbs HD2 HFR
  go_wp2_with fail
  refine (hfil _ _ HBS.out).mono ?_
  rintro e w4 ⟨hb4, hcase⟩
  have HA4 := Lib.hid (HAW.out.trans (Apt.of_below hb4))
  have HD4 := Lib.hid (HDW.out.below hb4)
  clear hfil hb4 hcv HBS HAW HDW
  rcases hcase with ⟨n, hx, rfl⟩ | ⟨gf, F, b, hx, rfl, hDB, _⟩
  · have hbe := errN (getX_ne hx)
    have HE : Hid (fiR m id tr = (((n : Int), []), callS m)) := Lib.hid (by rw [HFR2.out, hx])
    clear HFR2 hx
    go_wp2_with fail
    go_ret2
    rw [HE.out]
    exact ⟨_, rfl, HD4.out, HM1.out.more (by omega), Ss.nil _, HA4.out⟩
  have HFR3 : Hid (fiR m id tr = if b.has tr = true then fiI (callS m) id tr else ((0, []), callS m)) := Lib.hid (by rw [HFR2.out, hx])
  have hHas := DHas_any tr hDB htr
  clear HFR2 hx hDB
  cases hh : b.has tr with
  | false =>
    rw [hh] at hHas
    have HE : Hid (fiR m id tr = ((0, []), callS m)) := Lib.hid (by rw [HFR3.out, hh, if_neg (by simp)])
    clear HFR3 hh
    go_wp2_with fail
    refine hHas.mono ?_
    rintro e w5 ⟨rfl, hb5⟩
    have HA5 := Lib.hid (HA4.out.trans (Apt.of_below hb5))
    have HD5 := Lib.hid (HD4.out.below hb5)
    clear hHas hb5
    go_wp2_with fail
    go_ret2
    rw [HE.out]
    exact ⟨_, rfl, HD5.out, HM1.out.more (by omega), Ss.nil _, HA5.out⟩
  | true =>
    rw [hh] at hHas
    have HFR4 : Hid (fiR m id tr = fiI (callS m) id tr) := Lib.hid (by rw [HFR3.out, hh, if_pos rfl])
    clear HFR3 hh
    generalize callS m = m1 at HM1 HD4 HFR4
    have HM1o := HM1.out
    have hget2 := fun u (hu : DS u base g v m1) => DGet_any base g v m1 (nmOf id [105] 0) u hu (HM1o.ok (by omega)) (by have := HM1o.calls1; omega)
    have hlen2 : (sGet m1 (nmOf id [105] 0)).1.length ≤ 1048576 := Nat.le_trans (sGet_len _ _) HM1o.used
    have HFI : Hid (fiI m1 id tr = if (sGet m1 (nmOf id [105] 0)).2 ≠ 0 then (((sGet m1 (nmOf id [105] 0)).2, []), callS m1) else if (ixX (sGet m1 (nmOf id [105] 0)).1).1 ≠ 0 then (((ixX (sGet m1 (nmOf id [105] 0)).1).1, []), callS m1) else fiP (callS m1) id tr (ixX (sGet m1 (nmOf id [105] 0)).1).2) := Lib.hid rfl
    generalize (sGet m1 (nmOf id [105] 0)).1 = sc at hget2 hlen2 HFI
    generalize (sGet m1 (nmOf id [105] 0)).2 = cc at hget2 HFI
    have hidx := fun u x (hx : Bs u x sc) => Indexed_any u hx (by omega)
    have HIL := Lib.hid (ixX_len sc)
    generalize ixX sc = ir at hidx HFI HIL
    obtain ⟨ic, ns⟩ := ir
    have HM2 : Hid ((callS m1).fine (N + 2)) := Lib.hid HM1o.call
    clear HM1o
    go_wp2_with fail
    refine hHas.mono ?_
    rintro e w5 ⟨rfl, hb5⟩
    have HA5 := Lib.hid (HA4.out.trans (Apt.of_below hb5))
    have HD5 := Lib.hid (HD4.out.below hb5)
    clear hHas hb5 HA4 HD4
    go_wp2_with fail
    refine (Name_any id [105] 0 _ hid (by omega)).mono ?_
    rintro e w6 ⟨rfl, hb6⟩
    have HA6 := Lib.hid (HA5.out.trans (Apt.of_below hb6))
    have HD6 := Lib.hid (HD5.out.below hb6)
    clear hb6 HA5 HD5
    go_wp2_with fail
    refine (hget2 _ HD6.out).mono ?_
    rintro e w7 ⟨rfl, hD7, hg7⟩
    have HA7 := Lib.hid (HA6.out.trans (Apt.ofG hg7))
    have HD7 := Lib.hid hD7
    clear hget2 hD7 hg7 HA6 HD6
    by_cases hcc : cc = 0
    rotate_left
    · have hbe := errN hcc
      have HE : Hid (fiR m id tr = ((cc, []), callS m1)) := Lib.hid (by rw [HFR4.out, HFI.out, if_pos hcc])
      clear hidx HFI HFR4
      go_wp2_with fail
      go_ret2
      rw [HE.out]
      exact ⟨_, rfl, HD7.out, HM2.out.more (by omega), Ss.nil _, HA7.out⟩
    subst hcc
    obtain ⟨G2, W2', hcv2, hbs2, hbW2, _⟩ := bytesB14 sc w7 hlen2
    have HAW := Lib.hid (HA7.out.trans (Apt.of_below hbW2))
    have HDW := Lib.hid (HD7.out.below hbW2)
    have HBS := Lib.hid hbs2
    generalize sc.length = nsc at *
    clear HA7 hbW2 hbs2 HD7
    go_wp2_with fail
    refine (hidx _ _ HBS.out).mono ?_
    rintro e w8 ⟨ny, rfl, hU, hb8⟩
    have HA8 := Lib.hid (HAW.out.trans (Apt.of_below hb8))
    have HD8 := Lib.hid (HDW.out.below hb8)
    have HU := Lib.hid hU
    clear hidx hU hb8 hcv2 HBS HAW HDW
    by_cases hic : ic = 0
    rotate_left
    · have hbe := errN hic
      have HE : Hid (fiR m id tr = ((ic, []), callS m1)) := Lib.hid (by rw [HFR4.out, HFI.out, if_neg (by simp), if_pos hic])
      clear HFI HFR4
      go_wp2_with fail
      go_ret2
      rw [HE.out]
      exact ⟨_, rfl, HD8.out, HM2.out.more (by omega), Ss.nil _, HA8.out⟩
    subst hic
    have HFP : Hid (fiR m id tr = fiP (callS m1) id tr ns) := Lib.hid (by rw [HFR4.out, HFI.out, if_neg (by simp), if_neg (by simp)])
    clear HFI HFR4
    have hfd := DFind_any ny ns tr w8 HU.out
    go_wp2_with fail
    refine hfd.mono ?_
    rintro e w9 ⟨k, rfl, hk, rfl⟩
    have HAX := Lib.hid (atX_of hk)
    have hk0 := hk.1
    have hk1 := hk.2.1
    have hil : ns.length ≤ 200 := HIL.out
    clear hfd hk
    by_cases hkn : k < 0
    · have HE : Hid (fiR m id tr = ((0, []), callS m1)) := Lib.hid (by rw [HFP.out, fiP, HAX.out, if_pos hkn])
      go_wp2_with fail
      go_ret2
      rw [HE.out]
      exact ⟨_, rfl, HD8.out, HM2.out.more (by omega), Ss.nil _, HA8.out⟩
    obtain ⟨kn, rfl⟩ := nat_of (n := k) (by omega)
    have HFQ : Hid (fiR m id tr = if (pgR (callS m1) id kn).1 ≠ 0 then (((pgR (callS m1) id kn).1, []), callS (callS m1)) else ((0, spOf tr (pgR (callS m1) id kn).2), callS (callS m1))) := Lib.hid (by rw [HFP.out, fiP, HAX.out, if_neg hkn]; rfl)
    have HM2o := HM2.out
    have hPg := DPage_any id kn w8 HD8.out (HM2o.ok (by omega)) (by have := HM2o.calls1; omega) hid (by omega)
    have HM3 : Hid ((callS (callS m1)).fine (N + 3)) := Lib.hid HM2o.call
    have hpl := pgR_len (callS m1) id kn
    generalize pgR (callS m1) id kn = pr at hPg HFQ hpl
    generalize callS (callS m1) = m3 at hPg HFQ HM3
    obtain ⟨pc, p⟩ := pr
    simp only at hPg hpl
    clear HM2o HFP HAX hk0
    go_wp2_with fail
    refine hPg.mono ?_
    rintro e w10 ⟨y, B, rfl, hD10, hA10, _, hO10⟩
    have HA10 := Lib.hid (HA8.out.trans hA10)
    have HD10 := Lib.hid hD10
    have HT := Lib.hid hO10.ts
    clear hPg hD10 hA10 hO10
    by_cases hpc : pc = 0
    rotate_left
    · have hbe := errN hpc
      have HE : Hid (fiR m id tr = ((pc, []), m3)) := Lib.hid (by rw [HFQ.out, if_pos hpc])
      clear HFQ
      go_wp2_with fail
      go_ret2
      rw [HE.out]
      exact ⟨_, rfl, HD10.out, HM3.out, Ss.nil _, HA10.out⟩
    subst hpc
    have HE : Hid (fiR m id tr = ((0, spOf tr p), m3)) := Lib.hid (by rw [HFQ.out, if_neg (by simp)])
    obtain ⟨A, c, rfl, hc1, hc2⟩ := HT.out.form
    clear HFQ
    go_wp2_with fail
    go_loopg [17] p.length (fun gk iv wr => ∃ k : Nat, k + gk = p.length ∧ iv = .int .i64 (k : Int) ∧ wr = w10 ∧ Hid (∀ x ∈ p.take k, x.id ≠ (tr : Int)))
    case atStart => exact ⟨0, by omega, rfl, rfl, Lib.hid (by simp)⟩
    case round =>
      obtain ⟨k, hk, rfl, rfl, HNN⟩ := hrel
      by_cases hlt : k < p.length
      · obtain ⟨gk1, hgk1⟩ : ∃ x, gk = x + 1 := ⟨gk - 1, by omega⟩
        obtain ⟨t, ht⟩ : ∃ t, p[k]? = some t := ⟨_, List.getElem?_eq_getElem hlt⟩
        obtain ⟨gx, px, d, hAx, hgx, x0, x1, hd, _, _⟩ := Ts.cells HT.out ht
        subst hAx
        have HTK := Lib.hid ht
        have HDD := Lib.hid hd
        have a0 : (0 : Int) ≤ (k : Int) := by omega
        have a1 : (k : Int) < (p.length : Int) := by omega
        clear ht hd hgx
        by_cases he : t.id = (tr : Int)
        · have hbe : (t.id == (tr : Int)) = true := by simpa using he
          have HS : Hid (spOf tr p = t.sp) := Lib.hid (spOf_at HTK.out he HNN.out)
          clear he
          go_wp2_with fail
          go_ret2
          rw [HE.out]
          exact ⟨_, rfl, HD10.out, HM3.out, by simp only; rw [HS.out]; exact HDD.out, HA10.out⟩
        · have hbe : (t.id == (tr : Int)) = false := by simpa using he
          have HNE := Lib.hid he
          clear he
          go_wp2_with fail
          go_roundg gk1
          case measure => omega
          case rel =>
            refine ⟨k + 1, by omega, by go_num, rfl, Lib.hid fun x hx => ?_⟩
            rw [List.take_add_one, HTK.out] at hx
            rcases List.mem_append.1 hx with h | h
            · exact HNN.out x h
            · simp at h
              rw [h]
              exact HNE.out
      · have hkn : k = p.length := by omega
        have HS : Hid (spOf tr p = []) := Lib.hid (spOf_none fun t ht => HNN.out t (by rw [hkn, List.take_length]; exact ht))
        clear hkn
        go_wp2_with fail
        go_ret2
        rw [HE.out]
        exact ⟨_, rfl, HD10.out, HM3.out, by simp only; rw [HS.out]; exact Ss.nil _, HA10.out⟩

end Go.Proofs.YtfaefacefdkjdaaGreatDoor
