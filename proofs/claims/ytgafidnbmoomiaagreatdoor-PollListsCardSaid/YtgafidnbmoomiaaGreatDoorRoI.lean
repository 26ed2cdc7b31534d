/-
  ROSTERS: CONTRACTS of the document's Marker, Names, List, whatever the store has. Conditions: what each says.
  ROSTERS: CONTRACT of the document's List, whatever the store has. Conditions: what it says.
  ROSTERS: CONTRACTS of tankardlaw17.Filled (a store with objects, and the document's), as. Conditions: what each says.
  WHAT THE PROGRAM's ROSTER IS TO TELL (RosterK), L being what it reads of the library's variables. The head of layer 17's statements, and RosterPuts, walked over it. Conditions: what each says.
-/
import Derived.Test.YtgafidnbmoomiaaGreatDoorRoA
import Derived.Test.YtgafidnbmoomiaaGreatDoorRoD
import Derived.Test.YtgafidnbmoomiaaGreatDoorBkL
namespace Go.Proofs.YtgafidnbmoomiaaGreatDoor
open Go.RowKit
set_option maxRecDepth 100000

theorem Apt.newrow {bad : Nat → Prop} {w w1 w2 : World} {row : Option Nat} (h : Apt bad w w1) (hg : w1.grownBy w2 row) (hr : ∀ q, row = some q → w.heap.size ≤ q) : Apt bad w w2 :=
  ⟨hg.os.trans h.os, hg.tape.trans h.tape, hg.output.trans h.output, Nat.le_trans h.size hg.size, fun q hq hF => (hg.block q (Nat.lt_of_lt_of_le hq h.size) fun e => by have := hr q e.symm; omega).trans (h.block q hq hF)⟩

abbrev mkZ : Array Value := #[.int .u64 0, .int .i64 0, .int .u64 0]

set_option maxHeartbeats 3200000 in
theorem DMarker_any {base g : Nat} {v : Value} {m : Sm} (id : Nat) (w : World) (hD : DS w base g v m) (hm : m.ok) (hc : m.calls < 1000000000) (hid : id < 18446744073709551616) :
    Calls Tryz.prog 29 #[.pointer (some ⟨g, 0, none⟩), .int .u64 (id : Int)] w fun e w' => e = .returned (.tuple #[mkV (mrR m id).2, .int .i64 (mrR m id).1]) ∧ DS w' base g v (callS m) ∧ Apt (fun q => q = g) w w' := by
  have hb0 : Below w.heap.size w (w.alloc (.cells mkZ 89)) := (Below.refl _ _).alloc (Nat.le_refl _) _
  have HR0 : Hid (Blk (w.alloc (.cells mkZ 89)) w.heap.size 89 mkZ) := Lib.hid (Blk.new _ _ _)
  have HB0 := Lib.hid hb0
  have HD0 := Lib.hid (hD.below hb0)
  have HG := Lib.hid hD.blk.lt
  have HVB : Hid (∀ q, v.ownBlock = some q → q < w.heap.size) := Lib.hid fun q hq => hD.row.lt q hq
  have hget := fun u (hu : DS u base g v m) => DGet_any base g v m (nmOf id [120] 0) u hu hm hc
  have hlen : (sGet m (nmOf id [120] 0)).1.length ≤ 1048576 := Nat.le_trans (sGet_len _ _) hm.used
  have HRR : Hid (mrR m id = if (sGet m (nmOf id [120] 0)).2 ≠ 0 then ((sGet m (nmOf id [120] 0)).2, Mk.zero) else if (mkX (sGet m (nmOf id [120] 0)).1).1 ≠ 0 then ((mkX (sGet m (nmOf id [120] 0)).1).1, Mk.zero) else if (mkX (sGet m (nmOf id [120] 0)).1).2.id = (id : Int) then (0, (mkX (sGet m (nmOf id [120] 0)).1).2) else (2, Mk.zero)) := Lib.hid rfl
  generalize (sGet m (nmOf id [120] 0)).1 = sb at hget hlen HRR
  generalize (sGet m (nmOf id [120] 0)).2 = bc at hget HRR
  have hmeta := fun u x (hx : Bs u x sb) => Marker_any u hx (by omega)
  generalize (mkX sb).1 = mc at hmeta HRR
  generalize (mkX sb).2 = M at hmeta HRR
  obtain ⟨mi, ma, mb⟩ := M
  simp only [mkV] at hmeta
  have HNF : Hid (¬ yF g v w.heap.size) := Lib.hid fun hF => by
    rcases hF with h | h
    · have := HG.out
      omega
    · have := HVB.out _ h
      omega
  clear hb0 hD hm
  go_enter Tryz.func29, Tryz.ntmps29
  go_wp2_with fail
  revert HR0 HB0 HD0
  generalize w.alloc (.cells mkZ 89) = w0
  intro HR0 HB0 HD0
  refine (Name_any id [120] 0 _ hid (by omega)).mono ?_
  rintro e w1 ⟨rfl, hb1⟩
  have HR1 := Lib.hid (HR0.out.below hb1 HR0.out.lt)
  have HB1 := Lib.hid (HB0.out.trans (hb1.mono HB0.out.size))
  have HD1 := Lib.hid (HD0.out.below hb1)
  clear hb1 HR0 HB0 HD0
  go_wp2_with fail
  refine (hget _ HD1.out).mono ?_
  rintro e w2 ⟨rfl, hD2, hg2⟩
  have HR2 := Lib.hid (HR1.out.grown hg2 (fun e => by have := Option.some.inj e; have := HG.out; omega))
  have HA2 : Hid (Apt (fun q => q = g) w w2) := Lib.hid ((Apt.of_below HB1.out).trans (Apt.ofG hg2))
  have HD2 := Lib.hid hD2
  clear hget hD2 hg2 HD1 HR1 HB1
  by_cases hbc : bc = 0
  rotate_left
  · have hbe := errN hbc
    have hRR : mrR m id = (bc, Mk.zero) := by rw [HRR.out, if_pos hbc]
    have HE := Lib.hid hRR
    have hfz := fun i => HR2.out.frozen i
    have r0 := HR2.out.cell 0
    have r1 := HR2.out.cell 1
    have r2 := HR2.out.cell 2
    simp at r0 r1 r2
    clear hmeta hRR
    go_wp2_with fail
    have hm2 := setall3 _ HR2.out (.int .u64 0) (.int .i64 0) (.int .u64 0)
    have hg3 := gset3 w2 w.heap.size (.int .u64 0) (.int .i64 0) (.int .u64 0)
    refine bodyPost_ret (v := .tuple #[.agg mkZ, .int .i64 bc]) (by have c := hm2.cell; simp [results, go_sem, c]; try rfl) rfl ?_
    rw [HE.out]
    exact ⟨rfl, HD2.out.set9 hg3 HNF.out, HA2.out.grown14 hg3 (Nat.le_refl _)⟩
  subst hbc
  obtain ⟨G, W, hcv, hbs, hbW, _⟩ := bytesB14 sb w2 hlen
  have HRW := Lib.hid (HR2.out.below hbW HR2.out.lt)
  have HAW := Lib.hid (HA2.out.trans (Apt.of_below hbW))
  have HDW := Lib.hid (HD2.out.below hbW)
  have HBS := Lib.hid hbs
  generalize sb.length = nsb at *
  clear HR2 HA2 hbW hbs HD2
  go_wp2_with fail
  refine (hmeta _ _ HBS.out).mono ?_
  rintro e w4 ⟨rfl, hb4⟩
  have HR4 := Lib.hid (HRW.out.below hb4 HRW.out.lt)
  have HA4 := Lib.hid (HAW.out.trans (Apt.of_below hb4))
  have HD4 := Lib.hid (HDW.out.below hb4)
  have hb5 : Below w4.heap.size w4 (w4.alloc (.cells #[.int .u64 mi, .int .i64 ma, .int .u64 mb] 89)) := (Below.refl _ _).alloc (Nat.le_refl _) _
  have HR5 := Lib.hid (HR4.out.below hb5 HR4.out.lt)
  have HA5 := Lib.hid (HA4.out.trans (Apt.of_below hb5))
  have HD5 := Lib.hid (HD4.out.below hb5)
  have hfz := fun i => HR5.out.frozen i
  have r0 := HR5.out.cell 0
  have r1 := HR5.out.cell 1
  have r2 := HR5.out.cell 2
  simp at r0 r1 r2
  clear hmeta hb4 hb5 HRW HAW HDW HBS hcv HR4 HA4 HD4
  by_cases hmc : mc = 0
  rotate_left
  · have hbe := errN hmc
    have hRR : mrR m id = (mc, Mk.zero) := by rw [HRR.out, if_neg (by simp), if_pos hmc]
    have HE := Lib.hid hRR
    clear hRR
    go_wp2_with fail
    revert HR5 HA5 HD5
    generalize w4.alloc (.cells #[.int .u64 mi, .int .i64 ma, .int .u64 mb] 89) = w5
    intro HR5 HA5 HD5
    have hm2 := setall3 _ HR5.out (.int .u64 0) (.int .i64 0) (.int .u64 0)
    have hg3 := gset3 w5 w.heap.size (.int .u64 0) (.int .i64 0) (.int .u64 0)
    refine bodyPost_ret (v := .tuple #[.agg mkZ, .int .i64 mc]) (by have c := hm2.cell; simp [results, go_sem, c]; try rfl) rfl ?_
    rw [HE.out]
    exact ⟨rfl, HD5.out.set9 hg3 HNF.out, HA5.out.grown14 hg3 (Nat.le_refl _)⟩
  subst hmc
  by_cases hie : mi = (id : Int)
  rotate_left
  · have hbe : (mi == (id : Int)) = false := by simpa using hie
    have hRR : mrR m id = (2, Mk.zero) := by rw [HRR.out, if_neg (by simp), if_neg (by simp), if_neg hie]
    have HE := Lib.hid hRR
    clear hRR
    go_wp2_with fail
    revert HR5 HA5 HD5
    generalize w4.alloc (.cells #[.int .u64 mi, .int .i64 ma, .int .u64 mb] 89) = w5
    intro HR5 HA5 HD5
    have hm2 := setall3 _ HR5.out (.int .u64 0) (.int .i64 0) (.int .u64 0)
    have hg3 := gset3 w5 w.heap.size (.int .u64 0) (.int .i64 0) (.int .u64 0)
    refine bodyPost_ret (v := .tuple #[.agg mkZ, .int .i64 2]) (by have c := hm2.cell; simp [results, go_sem, c]; try rfl) rfl ?_
    rw [HE.out]
    exact ⟨rfl, HD5.out.set9 hg3 HNF.out, HA5.out.grown14 hg3 (Nat.le_refl _)⟩
  subst hie
  have HE : Hid (mrR m id = (0, ⟨id, ma, mb⟩)) := Lib.hid (by rw [HRR.out, if_neg (by simp), if_neg (by simp), if_pos rfl])
  clear HRR
  go_wp2_with fail
  revert HR5 HA5 HD5
  generalize w4.alloc (.cells #[.int .u64 id, .int .i64 ma, .int .u64 mb] 89) = w5
  intro HR5 HA5 HD5
  have hm2 := setall3 _ HR5.out (.int .u64 id) (.int .i64 ma) (.int .u64 mb)
  have hg3 := gset3 w5 w.heap.size (.int .u64 id) (.int .i64 ma) (.int .u64 mb)
  refine bodyPost_ret (v := .tuple #[mkV ⟨id, ma, mb⟩, .int .i64 0]) (by have c := hm2.cell; simp [results, go_sem, c, mkV]; try rfl) rfl ?_
  rw [HE.out]
  exact ⟨rfl, HD5.out.set9 hg3 HNF.out, HA5.out.grown14 hg3 (Nat.le_refl _)⟩

theorem sList_len (m : Sm) (p : List UInt8) : (sList m p).1.length ≤ m.l.length := by
  unfold sList
  split
  · simp
  · exact sNames_len _ _

set_option maxHeartbeats 6400000 in
theorem DNames_any {base g : Nat} {v : Value} {m : Sm} {N : Nat} (w : World) (hD : DS w base g v m) (hm : m.fine N) (hN : N ≤ 10000) :
    Calls Tryz.prog 27 #[.pointer (some ⟨g, 0, none⟩)] w fun e w' => ∃ a b, e = .returned (.tuple #[a, b, .int .i64 (nsR m).1]) ∧ DS w' base g v (callS m) ∧ OwnU w' w.heap.size a (nsR m).2.1 ∧ OwnU w' w.heap.size b (nsR m).2.2 ∧ (∀ q, a.ownBlock = some q → b.ownBlock ≠ some q) ∧ Apt (fun q => q = g) w w' := by
  have hml := hm.len
  have hL := DList_any base g v m [98, 47] w hD (hm.ok (by omega)) (by have := hm.calls1; omega) (by simp)
  have hlen := sList_len m [98, 47]
  have HNR : Hid (nsR m = if (sList m [98, 47]).2 ≠ 0 then ((sList m [98, 47]).2, [], []) else (0, lvN m.l (sList m [98, 47]).1, mkN m.l (sList m [98, 47]).1)) := Lib.hid rfl
  generalize (sList m [98, 47]).1 = ns at hL hlen HNR
  generalize (sList m [98, 47]).2 = bc at hL HNR
  have HG := Lib.hid hD.blk.lt
  have HM := Lib.hid hm
  have HD := Lib.hid hD
  clear hD hm
  have HVB : Hid (∀ q, v.ownBlock = some q → q < w.heap.size) := Lib.hid fun q hq => HD.out.row.lt q hq
  clear HD
  go_enter Tryz.func27, Tryz.ntmps27
  go_wp2_with fail
  refine hL.mono ?_
  rintro e w1 ⟨x, rfl, hx, hD1, hg1⟩
  have HA1 : Hid (Apt (fun q => q = g) w w1) := Lib.hid (Apt.ofG hg1)
  have HS1 : Hid (w.heap.size ≤ w1.heap.size) := Lib.hid hg1.size
  have HD1 := Lib.hid hD1
  have HX1 := Lib.hid hx
  clear hL hD1 hg1 hx
  by_cases hbc : bc = 0
  rotate_left
  · have hbe := errN hbc
    have HE : Hid (nsR m = (bc, [], [])) := Lib.hid (by rw [HNR.out, if_pos hbc])
    clear HNR
    go_wp2_with fail
    go_ret3
    rw [HE.out]
    exact ⟨_, _, rfl, HD1.out, OwnU.nil _ _, OwnU.nil _ _, (fun q h => by cases h), HA1.out⟩
  subst hbc
  have HE : Hid (nsR m = (0, lvN m.l ns, mkN m.l ns)) := Lib.hid (by rw [HNR.out, if_neg (by simp)])
  obtain ⟨A, c, rfl, _, _⟩ := HX1.out.form
  have HXK : Hid (∀ u, Apt (fun q => w1.heap.size ≤ q) w1 u → StL u (.slice A ns.length c) ns) := Lib.hid fun u hu => HX1.out.below ⟨hu.os, hu.tape, hu.output, hu.size, fun q hq => hu.block q hq (by omega)⟩
  clear HNR
  go_wp2_with fail
  go_loopg [7, 8, 9] ns.length (fun gk av bv iv wr => ∃ k : Nat, k + gk = ns.length ∧ iv = .int .i64 (k : Int) ∧ Hid (OwnU wr w1.heap.size av (lvN m.l (ns.take k)) ∧ OwnU wr w1.heap.size bv (mkN m.l (ns.take k)) ∧ (∀ q, av.ownBlock = some q → bv.ownBlock ≠ some q) ∧ DS wr base g v (callS m) ∧ Apt (fun q => q = g) w wr ∧ Apt (fun q => w1.heap.size ≤ q) w1 wr))
  case atStart => exact ⟨0, by omega, rfl, Lib.hid ⟨OwnU.nil _ _, OwnU.nil _ _, (fun q h => by cases h), HD1.out, HA1.out, Apt.refl _ _⟩⟩
  case round =>
    obtain ⟨k, hk, rfl, HW⟩ := hrel
    by_cases hlt : k < ns.length
    · obtain ⟨gk1, hgk1⟩ : ∃ x, gk = x + 1 := ⟨gk - 1, by omega⟩
      obtain ⟨s, hks⟩ : ∃ t, ns[k]? = some t := ⟨_, List.getElem?_eq_getElem hlt⟩
      have HT : Hid (ns.take (k + 1) = ns.take k ++ [s]) := Lib.hid (by rw [List.take_add_one, hks]; rfl)
      obtain ⟨gx, px, rfl, hgx, x0⟩ := (HXK.out wr HW.out.2.2.2.2.2).cell hks
      have a0 : (0 : Int) ≤ (k : Int) := by omega
      have a1 : (k : Int) < (ns.length : Int) := by omega
      clear hks hgx
      go_wp2_with fail
      refine (DParse_any s _).mono ?_
      rintro e w2 ⟨id, what, n, is, rfl, hPP, hb2⟩
      have HOA := Lib.hid (HW.out.1.below hb2)
      have HOB := Lib.hid (HW.out.2.1.below hb2)
      have HN2 := Lib.hid HW.out.2.2.1
      have HD2 := Lib.hid (HW.out.2.2.2.1.below hb2)
      have HA2 := Lib.hid (HW.out.2.2.2.2.1.trans (Apt.of_below hb2))
      have HAB2 := Lib.hid (HW.out.2.2.2.2.2.trans (Apt.of_below hb2))
      have HS2 : Hid (w1.heap.size ≤ w2.heap.size) := Lib.hid HAB2.out.size
      have HPP := Lib.hid hPP
      clear hb2 HW x0 hPP
      cases is with
      | false =>
        have HF := Lib.hid (lvN_none (l := m.l) (ns := ns.take k) (idOf_no HPP.out))
        clear HPP
        go_wp2_with fail
        go_roundg gk1
        case measure => omega
        case rel => exact ⟨k + 1, by omega, by go_num, Lib.hid ⟨by rw [HT.out, HF.out.1]; exact HOA.out, by rw [HT.out, HF.out.2]; exact HOB.out, HN2.out, HD2.out, HA2.out, HAB2.out⟩⟩
      | true =>
        by_cases hw : what = [109]
        rotate_left
        · have hwb : ((Bstr what).toList == [109]) = false := by rw [Bstr_toList]; simpa using hw
          have HF := Lib.hid (lvN_none (l := m.l) (ns := ns.take k) (idOf_other HPP.out hw))
          clear HPP hw
          go_wp2_with fail
          go_roundg gk1
          case measure => omega
          case rel => exact ⟨k + 1, by omega, by go_num, Lib.hid ⟨by rw [HT.out, HF.out.1]; exact HOA.out, by rw [HT.out, HF.out.2]; exact HOB.out, HN2.out, HD2.out, HA2.out, HAB2.out⟩⟩
        subst hw
        obtain ⟨hid, hidl⟩ := idOf_yes HPP.out
        have HID := Lib.hid hid
        have hat := fun u (hu : DS u base g v (callS m)) => At_any base g v (callS m) (nmOf id [120] 0) u hu
        have hmm : ((Bstr [109]).toList == [109]) = true := by rw [Bstr_toList]; rfl
        clear HPP hid
        go_wp2_with fail
        refine (Name_any id [120] 0 _ hidl (by omega)).mono ?_
        rintro e w3 ⟨rfl, hb3⟩
        replace HOA := Lib.hid (HOA.out.below hb3)
        replace HOB := Lib.hid (HOB.out.below hb3)
        replace HD2 := Lib.hid (HD2.out.below hb3)
        replace HA2 := Lib.hid (HA2.out.trans (Apt.of_below hb3))
        replace HAB2 := Lib.hid (HAB2.out.trans (Apt.of_below hb3))
        replace HS2 : Hid (w1.heap.size ≤ w3.heap.size) := Lib.hid HAB2.out.size
        clear hb3
        go_wp2_with fail
        refine (hat _ HD2.out).mono ?_
        rintro e w4 ⟨rfl, rfl⟩
        clear hat
        by_cases ha : atI (nmOf id [120] 0) m.l < 0
        · have hge : decide (0 ≤ atI (nmOf id [120] 0) (callS m).l) = false := decide_eq_false (by show ¬ 0 ≤ atI _ m.l; omega)
          have HF := Lib.hid (lvN_live (l := m.l) (ns := ns.take k) HID.out ha)
          clear ha
          have H6 : Hid (Below w3.heap.size w3 (w3.alloc (.cells #[.int .u64 (id : Int)] 83))) := Lib.hid ((Below.refl _ _).alloc (Nat.le_refl _) _)
          have HL6 : Hid ((lvN m.l (ns.take k)).length + [id].length ≤ 1000000000000) := Lib.hid (by have := lvN_len m.l (ns.take k); rw [List.length_take] at this; simp; omega)
          go_wp2_with (at_builtin; refine wpList_append_u rfl _ _ rfl rfl (HOA.out.below H6.out) rfl (Us.lit w3 id _) HL6.out (Nat.le_trans HS2.out H6.out.size) ?_)
          intro v7 w7 ho7 hg7 hv7
          have hb6 := H6.out
          have hlo : ∀ q, u7.ownBlock = some q → w1.heap.size ≤ q := fun q hq => (HOA.out.lt q hq).1
          have HO7 : Hid (OwnU w7 w1.heap.size v7 (lvN m.l (ns.take (k + 1)))) := Lib.hid (by rw [HT.out, (HF.out).1]; exact ho7)
          have HP7 : Hid (OwnU w7 w1.heap.size u8 (mkN m.l (ns.take (k + 1)))) := Lib.hid (by
            rw [HT.out, (HF.out).2]
            exact OwnL.kept (HOB.out.below hb6) hg7 (by
              cases h4 : u8.ownBlock with
              | none => exact .inl rfl
              | some z => exact .inr fun e => HN2.out z e.symm h4))
          have HN7 : Hid (∀ q, v7.ownBlock = some q → u8.ownBlock ≠ some q) := Lib.hid fun q hq e => by
            rcases hv7 with h | h
            · exact HN2.out q (h ▸ hq) e
            · rw [h] at hq
              have h1 := Option.some.inj hq
              have h2 := (HOB.out.lt q e).2
              have h3 := hb6.size
              omega
          have HD7 : Hid (DS w7 base g v (callS m)) := Lib.hid ((HD2.out.below hb6).grown14 hg7 fun q hq hF => by
            have h1 := hlo q hq
            rcases hF with h | h
            · have := HG.out
              have := HS1.out
              omega
            · have := HVB.out q h
              have := HS1.out
              omega)
          have HX7 : Hid (StL w7 (.slice _ ns.length c) ns) := Lib.hid (HXK.out w7 (HAB2.out.trans ((Apt.of_below hb6).trans (Apt.of_grown (bad := fun q => w1.heap.size ≤ q) hg7 hlo))))
          have HA7 : Hid (Apt (fun q => q = g) w w7) := Lib.hid ((HA2.out.trans (Apt.of_below hb6)).newrow hg7 fun q hq => Nat.le_trans HS1.out (hlo q hq))
          have HB7 : Hid (Apt (fun q => w1.heap.size ≤ q) w1 w7) := Lib.hid (HAB2.out.trans ((Apt.of_below hb6).trans (Apt.of_grown hg7 hlo)))
          clear ho7 hg7 hv7 hlo hb6
          go_wp2_with fail
          go_roundg gk1
          case measure => omega
          case rel => exact ⟨k + 1, by omega, by go_num, Lib.hid ⟨HO7.out, HP7.out, HN7.out, HD7.out, HA7.out, HB7.out⟩⟩
        · have hge : decide (0 ≤ atI (nmOf id [120] 0) (callS m).l) = true := decide_eq_true (by show 0 ≤ atI _ m.l; omega)
          have HF := Lib.hid (lvN_mark (l := m.l) (ns := ns.take k) HID.out (by omega))
          clear ha
          have H6 : Hid (Below w3.heap.size w3 (w3.alloc (.cells #[.int .u64 (id : Int)] 83))) := Lib.hid ((Below.refl _ _).alloc (Nat.le_refl _) _)
          have HL6 : Hid ((mkN m.l (ns.take k)).length + [id].length ≤ 1000000000000) := Lib.hid (by have := lvN_len m.l (ns.take k); rw [List.length_take] at this; simp; omega)
          go_wp2_with (at_builtin; refine wpList_append_u rfl _ _ rfl rfl (HOB.out.below H6.out) rfl (Us.lit w3 id _) HL6.out (Nat.le_trans HS2.out H6.out.size) ?_)
          intro v7 w7 ho7 hg7 hv7
          have hb6 := H6.out
          have hlo : ∀ q, u8.ownBlock = some q → w1.heap.size ≤ q := fun q hq => (HOB.out.lt q hq).1
          have HO7 : Hid (OwnU w7 w1.heap.size v7 (mkN m.l (ns.take (k + 1)))) := Lib.hid (by rw [HT.out, (HF.out).2]; exact ho7)
          have HP7 : Hid (OwnU w7 w1.heap.size u7 (lvN m.l (ns.take (k + 1)))) := Lib.hid (by
            rw [HT.out, (HF.out).1]
            exact OwnL.kept (HOA.out.below hb6) hg7 (by
              cases h4 : u7.ownBlock with
              | none => exact .inl rfl
              | some z => exact .inr fun e => HN2.out z h4 e.symm))
          have HN7 : Hid (∀ q, u7.ownBlock = some q → v7.ownBlock ≠ some q) := Lib.hid fun q hq e => by
            rcases hv7 with h | h
            · exact HN2.out q hq (h ▸ e)
            · rw [h] at e
              have h1 := Option.some.inj e
              have h2 := (HOA.out.lt q hq).2
              have h3 := hb6.size
              omega
          have HD7 : Hid (DS w7 base g v (callS m)) := Lib.hid ((HD2.out.below hb6).grown14 hg7 fun q hq hF => by
            have h1 := hlo q hq
            rcases hF with h | h
            · have := HG.out
              have := HS1.out
              omega
            · have := HVB.out q h
              have := HS1.out
              omega)
          have HX7 : Hid (StL w7 (.slice _ ns.length c) ns) := Lib.hid (HXK.out w7 (HAB2.out.trans ((Apt.of_below hb6).trans (Apt.of_grown (bad := fun q => w1.heap.size ≤ q) hg7 hlo))))
          have HA7 : Hid (Apt (fun q => q = g) w w7) := Lib.hid ((HA2.out.trans (Apt.of_below hb6)).newrow hg7 fun q hq => Nat.le_trans HS1.out (hlo q hq))
          have HB7 : Hid (Apt (fun q => w1.heap.size ≤ q) w1 w7) := Lib.hid (HAB2.out.trans ((Apt.of_below hb6).trans (Apt.of_grown hg7 hlo)))
          clear ho7 hg7 hv7 hlo hb6
          go_wp2_with fail
          go_roundg gk1
          case measure => omega
          case rel => exact ⟨k + 1, by omega, by go_num, Lib.hid ⟨HP7.out, HO7.out, HN7.out, HD7.out, HA7.out, HB7.out⟩⟩
    · have hkn : k = ns.length := by omega
      subst hkn
      have HOA := Lib.hid HW.out.1
      have HOB := Lib.hid HW.out.2.1
      rw [List.take_length] at HOA HOB
      clear hlt
      go_wp2_with fail
      go_ret3
      rw [HE.out]
      exact ⟨_, _, rfl, HW.out.2.2.2.1, HOA.out.lower HS1.out, HOB.out.lower HS1.out, HW.out.2.2.1, HW.out.2.2.2.2.1⟩

theorem meX_ok (x : List UInt8) : (meX x).2.ok := by
  have hz : Me.zero.ok := ⟨by decide, by decide, by decide, by decide, by decide, by decide, by decide, by decide, by decide, by decide, by decide, by decide⟩
  unfold meX meOf
  split
  · exact hz
  · split
    · split
      · exact meAt_ok _
      · exact hz
    · exact hz

theorem mkX_ok (x : List UInt8) : (mkX x).2.ok := by
  have hz : Mk.zero.ok := ⟨by decide, by decide, by decide, by decide, by decide, by decide⟩
  unfold mkX mkOf
  split
  · exact hz
  · split
    · split
      · exact mkAt_ok _
      · exact hz
    · exact hz

theorem meR_ok (m : Sm) (id : Nat) : (meR m id).2.ok := by
  have hz : Me.zero.ok := ⟨by decide, by decide, by decide, by decide, by decide, by decide, by decide, by decide, by decide, by decide, by decide, by decide⟩
  unfold meR
  split
  · exact hz
  · split
    · exact hz
    · split
      · exact meX_ok _
      · exact hz

theorem mrR_ok (m : Sm) (id : Nat) : (mrR m id).2.ok := by
  have hz : Mk.zero.ok := ⟨by decide, by decide, by decide, by decide, by decide, by decide⟩
  unfold mrR
  split
  · exact hz
  · split
    · exact hz
    · split
      · exact mkX_ok _
      · exact hz

theorem liR_err {m : Sm} (h : (liR m).1.1 ≠ 0) : (liR m).1.2 = ([], []) := by
  unfold liR at h ⊢
  split
  · rfl
  · split
    · rfl
    · split
      · rfl
      · split
        · rfl
        · rename_i h1 h2 h3 h4
          rw [if_neg h1, if_neg h2, if_neg h3, if_neg h4] at h
          exact absurd rfl h

theorem nsR_len (m : Sm) : (nsR m).2.1.length + (nsR m).2.2.length ≤ m.l.length := by
  unfold nsR
  split
  · simp
  · exact Nat.le_trans (lvN_len _ _) (sList_len _ _)

theorem nsR_lt (m : Sm) : (∀ i ∈ (nsR m).2.1, i < 18446744073709551616) ∧ ∀ i ∈ (nsR m).2.2, i < 18446744073709551616 := by
  unfold nsR
  split
  · exact ⟨fun i h => by simp at h, fun i h => by simp at h⟩
  · exact ⟨fun i h => lvN_lt h, fun i h => mkN_lt h⟩

theorem loR_on {id : Nat} {r : List Nat} {m : Sm} {out : List Me} (h : (meR m id).1 = 0) : loR (id :: r) m out = loR r (callS m) (out ++ [(meR m id).2]) := by rw [loR, if_neg (by rw [h]; simp)]

theorem loR_no {id : Nat} {r : List Nat} {m : Sm} {out : List Me} (h : (meR m id).1 ≠ 0) : loR (id :: r) m out = (((meR m id).1, out), callS m) := by rw [loR, if_pos h]

theorem moR_on {id : Nat} {r : List Nat} {m : Sm} {out : List Mk} (h : (mrR m id).1 = 0) : moR (id :: r) m out = moR r (callS m) (out ++ [(mrR m id).2]) := by rw [moR, if_neg (by rw [h]; simp)]

theorem moR_no {id : Nat} {r : List Nat} {m : Sm} {out : List Mk} (h : (mrR m id).1 ≠ 0) : moR (id :: r) m out = (((mrR m id).1, out), callS m) := by rw [moR, if_pos h]

def PtC (w : World) (p : Ob) (x : List Value) : Prop := p.nm.length ≤ 9223372036854775807 ∧ ∃ v, x = [.string (Bstr p.nm), v] ∧ Bs w v p.b

def Pts (w : World) (v : Value) (l : List Ob) : Prop := ∃ xs, Lv 2 w v xs ∧ Two (PtC w) l xs

theorem Pts.form {w : World} {v : Value} {l : List Ob} (h : Pts w v l) : ∃ A c, v = .slice A l.length c ∧ l.length ≤ c ∧ c ≤ 9223372036854775807 := by
  obtain ⟨xs, h1, h2⟩ := h
  obtain ⟨A, c, hv, h3, h4⟩ := h1.form
  rw [← h2.len] at hv h3
  exact ⟨A, c, hv, h3, h4⟩

theorem Pts.cells {w : World} {A : Option Addr} {n c : Nat} {l : List Ob} (h : Pts w (.slice A n c) l) {i : Nat} {p : Ob} (hi : l[i]? = some p) :
    ∃ g o v, A = some ⟨g, o, none⟩ ∧ g < w.heap.size ∧ w.cell? ⟨g, o + i * 2, none⟩ = some (.string (Bstr p.nm)) ∧ w.cell? ⟨g, o + i * 2 + 1, none⟩ = some v ∧ Bs w v p.b ∧ p.nm.length ≤ 9223372036854775807 := by
  obtain ⟨xs, h1, h2⟩ := h
  obtain ⟨x, hx, hn, v, rfl, hb⟩ := h2.right hi
  obtain ⟨g, o, hA, hg, hc⟩ := h1.cells (by omega) hx
  exact ⟨g, o, v, hA, hg, hc 0 _ rfl, hc 1 _ rfl, hb, hn⟩

def Nms (m : Sm) : Prop := ∀ o ∈ m.l, o.nm.length ≤ 100

theorem Nms.put {m : Sm} (h : Nms m) {n : List UInt8} (b : List UInt8) (hn : n.length ≤ 100) : Nms (sPut m n b).1 := by
  unfold sPut
  split
  · exact h
  · split
    · exact h
    · split
      · exact h
      · split
        · intro o ho
          rcases List.mem_append.1 ho with h1 | h1
          · exact h o (List.mem_of_mem_take h1)
          · rcases List.mem_cons.1 h1 with rfl | h1
            · exact hn
            · exact h o (List.mem_of_mem_drop h1)
        · intro o ho
          rcases List.mem_or_eq_of_mem_set ho with h1 | rfl
          · exact h o h1
          · exact hn

set_option maxHeartbeats 6400000 in
theorem Filled_any (v : Value) (l : List Ob) (w : World) (h : Pts w v l) :
    Calls Tryz.prog 6 #[v] w fun e w' =>
      (∃ g : Nat, e = .returned (.tuple #[.pointer (some ⟨g, 0, none⟩), .pointer none, .bool false]) ∧ Below w.heap.size w w') ∨
      ∃ (g gy : Nat) (F G : Nat → Prop) (m : Sm), e = .returned (.tuple #[.pointer (some ⟨g, 0, none⟩), .pointer (some ⟨gy, 0, none⟩), .bool true]) ∧ m.fine 100 ∧ m.left = -1 ∧ Nms m ∧ W2 (fun _ => True) w w' (stA g m) F (stB gy gy m) G := by
  obtain ⟨A, c, rfl, hc1, hc2⟩ := h.form
  have HPT := Lib.hid h
  clear h
  go_enter Tryz.func6, Tryz.ntmps6
  go_wp2_with fail
  refine (snew_ok 1000000 w (by omega) (by omega)).mono ?_
  rintro e w3 ⟨g, F, rfl, hP3, hb3, hF3⟩
  have HB3 := Lib.hid hb3
  have HW3 : Hid (PSt w3 F g ⟨1000000, -1, 0, []⟩ ∧ ∀ q, F q → w.heap.size ≤ q) := Lib.hid ⟨hP3, hF3⟩
  clear hP3 hb3 hF3
  by_cases h100 : 100 < l.length
  · have hgt : decide ((100 : Int) < (l.length : Int)) = true := decide_eq_true (by omega)
    clear h100
    go_wp2_with fail
    refine bodyPost_ret (v := .tuple #[.pointer (some ⟨g, 0, none⟩), .pointer none, .bool false]) (by simp [results, go_sem]; try rfl) rfl ?_
    exact .inl ⟨_, rfl, HB3.out⟩
  have hgt : decide ((100 : Int) < (l.length : Int)) = false := decide_eq_false (by omega)
  have hb4 : Below w3.heap.size w3 (w3.alloc (.cells #[.int .i64 1000000, .int .i64 (-1), .int .i64 0, .slice none 0 0] 65)) := (Below.refl _ _).alloc (Nat.le_refl _) _
  have hyF : ∀ q, yF w3.heap.size (.slice none 0 0) q → q = w3.heap.size := fun q hq => hq.elim (fun h => h) fun h => by cases h
  have HW4 : Hid (W2 (fun _ => True) w (w3.alloc (.cells #[.int .i64 1000000, .int .i64 (-1), .int .i64 0, .slice none 0 0] 65)) (stA g ⟨1000000, -1, 0, []⟩) F (stB w3.heap.size w3.heap.size ⟨1000000, -1, 0, []⟩) (yF w3.heap.size (.slice none 0 0))) := Lib.hid
    ⟨HB3.out.trans (hb4.mono HB3.out.size), HW3.out.1.below hb4, ⟨_, ⟨Blk.new w3 _ _, OwnL.nil _ _ _ _, by simp [Value.ownBlock], Nat.le_refl _⟩, rfl⟩, (fun q hq => HW3.out.2 q hq), (fun q hq => by
      rw [hyF q hq]
      exact HB3.out.size), (fun q hq hG => by
      have := HW3.out.1.lt q hq
      have := hyF q hG
      omega), fun _ _ => trivial⟩
  have HL100 : Hid (l.length ≤ 100) := Lib.hid (by omega)
  clear hb4 hyF HW3 h100
  go_wp2_with fail
  revert HW4
  generalize w3.alloc (.cells #[.int .i64 1000000, .int .i64 (-1), .int .i64 0, .slice none 0 0] 65) = w4
  generalize w3.heap.size = gy
  intro HW4
  go_loopg [8] l.length (fun gk iv wr => ∃ (k : Nat) (Fk Gk : Nat → Prop) (mk : Sm), k + gk = l.length ∧ iv = .int .i64 (k : Int) ∧ Hid (W2 (fun _ => True) w wr (stA g mk) Fk (stB gy gy mk) Gk ∧ mk.fine k ∧ mk.left = -1 ∧ Nms mk))
  case atStart => exact ⟨0, F, _, ⟨1000000, -1, 0, []⟩, by omega, rfl, Lib.hid ⟨HW4.out, fine_start 1000000 (by omega) (by omega), rfl, fun o h => by cases h⟩⟩
  case round =>
    obtain ⟨k, Fk, Gk, mk, hk, rfl, HW⟩ := hrel
    clear HW4
    by_cases hlt : k < l.length
    · obtain ⟨gk1, hgk1⟩ : ∃ x, gk = x + 1 := ⟨gk - 1, by omega⟩
      obtain ⟨d, hd⟩ : ∃ d, l[k]? = some d := ⟨_, List.getElem?_eq_getElem hlt⟩
      obtain ⟨gd, od, bv, hA, hgd, c0, c1, hbs, hnm⟩ := HPT.out.cells hd
      subst hA
      have hB := HW.out.1.below
      have a0 : (0 : Int) ≤ (k : Int) := by omega
      have a1 : (k : Int) < (l.length : Int) := by omega
      obtain ⟨Ad, cb, hbv, _, _, _⟩ := id hbs
      subst hbv
      have HBS := Lib.hid hbs
      have hcl : ∀ u, Below w.heap.size w u → u.cell? ⟨gd, od + k * 2, none⟩ = some (.string (Bstr d.nm)) ∧ u.cell? ⟨gd, od + k * 2 + 1, none⟩ = some (.slice Ad d.b.length cb) := fun u hu => ⟨(hu.cell hgd).trans c0, (hu.cell hgd).trans c1⟩
      obtain ⟨e0, e1⟩ := hcl wr hB
      have hzn := Bstr_size d.nm
      clear c0 c1 hbs hd
      by_cases hbad : 100 < d.nm.length ∨ 1000 < d.b.length
      · have hor : decide ((100 : Int) < (d.nm.length : Int)) = true ∨ (decide ((100 : Int) < (d.nm.length : Int)) = false ∧ decide ((1000 : Int) < (d.b.length : Int)) = true) := by
          by_cases h1 : 100 < d.nm.length
          · exact .inl (decide_eq_true (by omega))
          · exact .inr ⟨decide_eq_false (by omega), decide_eq_true (by omega)⟩
        clear hbad hcl
        rcases hor with h1 | ⟨h1, h2⟩
        all_goals
          go_wp2_with fail
          refine bodyPost_ret (v := .tuple #[.pointer (some ⟨g, 0, none⟩), .pointer none, .bool false]) (by simp [results, go_sem]; try rfl) rfl ?_
          exact .inl ⟨_, rfl, HW.out.1.below⟩
      · have h1 : decide ((100 : Int) < (d.nm.length : Int)) = false := decide_eq_false (by omega)
        have h2 : decide ((1000 : Int) < (d.b.length : Int)) = false := decide_eq_false (by omega)
        have hn100 : d.nm.length ≤ 100 := by omega
        have hb1000 : d.b.length ≤ 1000 := by omega
        have HL := HL100.out
        have hfi := HW.out.2.1
        have hnF : ¬ Fk gd := fun hF => by have := HW.out.1.fge gd hF; omega
        have hgr : gd < wr.heap.size := Nat.lt_of_lt_of_le hgd hB.size
        have hcA : ∀ u, Apt Fk wr u → u.cell? ⟨gd, od + k * 2, none⟩ = some (.string (Bstr d.nm)) ∧ u.cell? ⟨gd, od + k * 2 + 1, none⟩ = some (.slice Ad d.b.length cb) := fun u hu =>
          ⟨(World.cell?_of_block (a := ⟨gd, od + k * 2, none⟩) (hu.block gd hgr hnF)).trans e0, (World.cell?_of_block (a := ⟨gd, od + k * 2 + 1, none⟩) (hu.block gd hgr hnF)).trans e1⟩
        have hsep : ∀ Q : Nat → Prop, (∀ q, Q q → w.heap.size ≤ q) → d.b ≠ [] → ∀ q, (Value.slice Ad d.b.length cb).ownBlock = some q → ¬ Q q := fun Q hQ hne q hq hF => by
          have h1 := hQ q hF
          obtain ⟨y, hy, hy2⟩ := HBS.out.block hne
          rw [hy] at hq
          injection hq with hq
          omega
        have HSEP := Lib.hid hsep
        have hput := stPut_any (n := d.nm) (HW.out.1.a.below (Below.refl _ wr).drew) hfi (by omega) (by omega) (HBS.out.below (hB.trans ((Below.refl _ wr).drew.mono hB.size))) (hsep Fk HW.out.1.fge) (by omega)
        have HFI : Hid ((sPut mk d.nm d.b).1.fine (k + 1)) := Lib.hid (hfi.put _ _)
        have HLF : Hid ((sPut mk d.nm d.b).1.left = -1) := Lib.hid (sPut_left1 HW.out.2.2.1)
        have HNP : Hid (Nms (sPut mk d.nm d.b).1) := Lib.hid (HW.out.2.2.2.put d.b hn100)
        have HOK := Lib.hid hfi
        clear hbad hfi hsep hnF hgr HL
        go_wp2_with fail
        refine wp_region_mix [(0, false), (1, false), (2, false), (3, false), (4, false), (5, false), (6, false), (7, false), (8, false), (9, false), (10, false), (11, true)] (fun u => Apt Fk wr u) (by kernel_rfl) (by kernel_rfl) (by kernel_rfl) rfl (Apt.of_below (Below.refl _ _).drew) ?_
        iterate 11
          (refine mix_read (o := ⟨_, _, _, _, _, _⟩) (v := ?_) rfl (by rfl) (fun w' hS => ?_) ?_
           rotate_left
           obtain ⟨j0, j1⟩ := hcA w' hS
           go_simp
           with_reducible rfl
           try simp only [Act.put, List.setIfInBounds_toArray, List.set_cons_zero, List.set_cons_succ])
        refine mix_step (o := ⟨_, _, _, _, _, _⟩) rfl (fun K hK => ?_)
        go_simp
        refine hput.mono ?_
        rintro e w5 ⟨rfl, F5, hP5, hA5, hn5⟩
        have hA5' : Apt Fk wr w5 := (Apt.of_below (Below.refl _ wr).drew).trans hA5
        refine hK.out _ _ hA5' ?_
        clear hK K hput hcA
        try simp only [Act.put, List.setIfInBounds_toArray, List.set_cons_zero, List.set_cons_succ]
        refine mix_done ?_
        have HW5 := Lib.hid (HW.out.1.stepA (A' := stA g (sPut mk d.nm d.b).1) (stA_thing _ _) (stB_thing _ _ _) hP5 hA5' hn5)
        clear hP5 hA5 hn5 hA5' HW hB e0 e1
        obtain ⟨vy, hD5, hG5⟩ := HW5.out.b
        have hB := HW5.out.below
        obtain ⟨e0, e1⟩ := hcl w5 hB
        have hnF : ¬ Gk gd := fun hF => by have := HW5.out.gge gd hF; omega
        have hgr : gd < w5.heap.size := Nat.lt_of_lt_of_le hgd hB.size
        have hcA : ∀ u, Apt Gk w5 u → u.cell? ⟨gd, od + k * 2, none⟩ = some (.string (Bstr d.nm)) ∧ u.cell? ⟨gd, od + k * 2 + 1, none⟩ = some (.slice Ad d.b.length cb) ∧ (convert 42 9 (.slice Ad d.b.length cb)).run Tryz.prog u = .ok (.string (Bstr d.b)) u := fun u hu =>
          ⟨(World.cell?_of_block (a := ⟨gd, od + k * 2, none⟩) (hu.block gd hgr hnF)).trans e0, (World.cell?_of_block (a := ⟨gd, od + k * 2 + 1, none⟩) (hu.block gd hgr hnF)).trans e1, strOf ((HBS.out.below hB).apt hu (HSEP.out Gk HW5.out.gge))⟩
        have hml := HOK.out
        have hdput := DPut_any gy gy vy mk d.nm d.b w5.drew (hD5.below (Below.refl _ _).drew) (hml.ok (by have := HL100.out; omega)) (by have := hml.calls1; have := HL100.out; omega) (by omega) (by omega)
        have HG5 := Lib.hid hG5
        clear hD5 hG5 hml hnF hgr HOK
        go_wp2_with fail
        refine wp_region_mix [(0, false), (1, false), (2, false), (3, false), (4, false), (5, false), (6, false), (7, false), (8, false), (9, false), (10, false), (11, false), (12, true)] (fun u => Apt Gk w5 u) (by kernel_rfl) (by kernel_rfl) (by kernel_rfl) rfl (Apt.of_below (Below.refl _ _).drew) ?_
        iterate 12
          (refine mix_read (o := ⟨_, _, _, _, _, _⟩) (v := ?_) rfl (by rfl) (fun w' hS => ?_) ?_
           rotate_left
           obtain ⟨j0, j1, j2⟩ := hcA w' hS
           go_simp
           with_reducible rfl
           try simp only [Act.put, List.setIfInBounds_toArray, List.set_cons_zero, List.set_cons_succ])
        refine mix_step (o := ⟨_, _, _, _, _, _⟩) rfl (fun K hK => ?_)
        go_simp
        refine hdput.mono ?_
        rintro e w6 ⟨rfl, v6, hD6, hA6, hn6⟩
        have hA6' : Apt Gk w5 w6 := (Apt.of_below (Below.refl _ w5).drew).trans (hA6.mono fun q _ hq => by rw [HG5.out]; exact hq)
        refine hK.out _ _ hA6' ?_
        clear hK K hdput hcA
        try simp only [Act.put, List.setIfInBounds_toArray, List.set_cons_zero, List.set_cons_succ]
        refine mix_done ?_
        have HW6 := Lib.hid (HW5.out.stepB (B' := stB gy gy (sPut mk d.nm d.b).1) (stA_thing _ _) ⟨v6, hD6, rfl⟩ hA6' fun q hq => by
          rcases hq with h | h
          · exact .inl (by rw [HG5.out]; exact .inl h)
          · rcases hn6 q h with h | h
            · exact .inl (by rw [HG5.out]; exact .inr h)
            · exact .inr h)
        clear hD6 hA6 hn6 hA6' HW5 HG5 e0 e1 hB
        go_wp2_with fail
        go_roundg gk1
        case measure => omega
        case rel => exact ⟨k + 1, F5, _, _, by omega, by go_num, Lib.hid ⟨HW6.out, HFI.out, HLF.out, HNP.out⟩⟩
    · have hkl : k = l.length := by omega
      subst hkl
      clear hlt
      go_wp2_with fail
      refine bodyPost_ret (v := .tuple #[.pointer (some ⟨g, 0, none⟩), .pointer (some ⟨gy, 0, none⟩), .bool true]) (by simp [results, go_sem]; try rfl) rfl ?_
      exact .inr ⟨g, gy, Fk, Gk, mk, rfl, HW.out.2.1.more HL100.out, HW.out.2.2.1, HW.out.2.2.2, HW.out.1⟩

theorem PSt.rise {w : World} {F : Nat → Prop} {g : Nat} {m : Sm} (h : PSt w F g m) : Rise m.l := by
  obtain ⟨mb, D, N, W, hB, hM, _⟩ := h.ex
  exact hM.rise

theorem nsR_empty : nsR ⟨100, -1, 0, []⟩ = (0, [], []) := rfl

end Go.Proofs.YtgafidnbmoomiaaGreatDoor
