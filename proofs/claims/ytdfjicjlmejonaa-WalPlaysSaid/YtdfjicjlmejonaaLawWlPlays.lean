/-
  tankardlaw08.WalPlays, walked over whatever keeps what a tape and a log are to keep ('TapeK', 'LogK'). Conditions: what the theorem says.
-/
import Derived.Test.YtdfjicjlmejonaaWlF
namespace Go.Proofs.Ytdfjicjlmejonaa
open Go.RowKit
set_option maxRecDepth 100000

set_option maxHeartbeats 6400000 in
theorem walPlays_any {PT : World → (Nat → Prop) → Nat → Tm → Prop} {LK : World → (Nat → Prop) → Nat → Nat → Tm → List (List UInt8) → Prop} (hT : TapeK PT) (hK : LogK PT LK) (room : Int) (vf : Value) (first : List UInt8) (vl : Value) (l : List De8) (w : World) (hf : Bs w vf first) (hl : Ds8 w vl l) (hr0 : -9223372036854775808 ≤ room) (hr1 : room ≤ 9223372036854775807) :
    Calls Try.prog 4 #[.int .i64 room, vf, vl] w fun e w' => e = .returned (.bool true) ∧ Below w.heap.size w w' := by
  have HT := Lib.hid hT
  have HK := Lib.hid hK
  have HL := Lib.hid hl
  have HFI := Lib.hid hf
  have eqc := eqCode
  have neq_ := neCode
  obtain ⟨Al, cl, rfl, hcl1, hcl2⟩ := hl.form
  obtain ⟨Af, cf, rfl, hcf1, hcf2, _⟩ := hf
  clear hl hK hT
  by_cases hroom : room < 1 ∨ 1048576 < room
  · have hNew := fun u => HT.out.new_no room u hroom
    clear hroom
    go_enter Try.func4, Try.ntmps4
    go_wp2_with fail
    refine (up8_any HT.out HK.out _).mono ?_
    rintro e w1 ⟨rfl, hb1⟩
    go_wp2_with fail
    refine (hNew _).mono ?_
    rintro e w2 ⟨rfl, hb2⟩
    clear hNew
    go_wp2_with fail
    go_ret
    exact ⟨rfl, hb1.trans (hb2.mono hb1.size)⟩
  have h1 : 1 ≤ room := by omega
  have h2 : room ≤ 1048576 := by omega
  have hNew := fun u => HT.out.new_ok room u h1 h2
  clear hroom
  go_enter Try.func4, Try.ntmps4
  go_wp2_with fail
  refine (up8_any HT.out HK.out _).mono ?_
  rintro e w1 ⟨rfl, hb1⟩
  go_wp2_with fail
  refine (hNew _).mono ?_
  rintro e w2 ⟨gt, F, rfl, hP2, hb2, hF⟩
  have hB2 := hb1.trans (hb2.mono hb1.size)
  have hF2 : ∀ q, F q → w.heap.size ≤ q := fun q hq => Nat.le_trans hb1.size (hF q hq)
  clear hNew hb1 hb2 hF
  by_cases hr5 : 50000 < room
  · go_wp2_with fail
    go_ret
    exact ⟨rfl, hB2⟩
  by_cases hfl : 3000 < first.length
  · go_wp2_with fail
    go_ret
    exact ⟨rfl, hB2⟩
  by_cases hll : 60 < l.length
  · go_wp2_with fail
    go_ret
    exact ⟨rfl, hB2⟩
  have hf0 : (⟨room, 0, -1, [], false⟩ : Tm).fine := ⟨by simp only; omega, by simp only; omega, by simp; omega, by simp, by simp, by simp⟩
  have hW0 : W2 (fun _ => True) w ((w2.alloc (.cells #[.int .i64 room, .int .i64 0, .int .i64 (-1), .string ⟨#[]⟩, .bool false] 41)).alloc (.cells #[.pointer (some ⟨w2.heap.size, 0, none⟩), .slice none 0 0] 43)) (fun w F => PT w F gt ⟨room, 0, -1, [], false⟩) F (D8 w.heap.size (w2.heap.size + 1) w2.heap.size ⟨room, 0, -1, [], false⟩ []) (fun q => q = w2.heap.size + 1 ∨ q = w2.heap.size ∨ (Value.slice none 0 0).ownBlock = some q) := by
    have ha2 : Below w2.heap.size w2 ((w2.alloc (.cells #[.int .i64 room, .int .i64 0, .int .i64 (-1), .string ⟨#[]⟩, .bool false] 41)).alloc (.cells #[.pointer (some ⟨w2.heap.size, 0, none⟩), .slice none 0 0] 43)) := ((Below.refl _ w2).alloc (Nat.le_refl _) _).alloc (by simp) _
    have hz := hB2.size
    have hnb : (Value.slice none 0 0).ownBlock = none := rfl
    have hbl := Blk.new (w2.alloc (.cells #[.int .i64 room, .int .i64 0, .int .i64 (-1), .string ⟨#[]⟩, .bool false] 41)) 43 #[.pointer (some ⟨w2.heap.size, 0, none⟩), .slice none 0 0]
    rw [show (w2.alloc (.cells #[.int .i64 room, .int .i64 0, .int .i64 (-1), .string ⟨#[]⟩, .bool false] 41)).heap.size = w2.heap.size + 1 from by simp] at hbl
    refine ⟨hB2.trans (ha2.mono hz), HT.out.later hP2 ha2, ⟨_, ⟨hbl, OwnL.nil _ _ _ _, Blk.alloc (Blk.new _ _ _) _, by omega, by simp [hnb], by simp [hnb], by omega, hz⟩, fun q => Iff.rfl⟩, hF2, fun q hq => ?_, fun q hq hG => ?_, fun _ _ => trivial⟩
    · rcases hq with rfl | rfl | hq
      · omega
      · exact hz
      · rw [hnb] at hq; cases hq
    · have := (HT.out.thing _ _).lt hP2 q hq
      rcases hG with rfl | rfl | hG
      · omega
      · omega
      · rw [hnb] at hG; cases hG
  have HW0 := Lib.hid hW0
  have hApp := fun (u : World) (hu : PT u F gt ⟨room, 0, -1, [], false⟩) (hb : Bs u (.slice Af first.length cf) first) (hs : first ≠ [] → ∀ q, (Value.slice Af first.length cf).ownBlock = some q → ¬ F q) => HT.out.append hu hf0 hb hs (by omega)
  have hDA := fun (u : World) (hu : DT u w2.heap.size ⟨room, 0, -1, [], false⟩) => dappend_any first hu hf0 (by omega)
  have hf1 := hf0.append first
  generalize tAppend ⟨room, 0, -1, [], false⟩ first = r1 at *
  obtain ⟨m1, c1⟩ := r1
  simp only at hApp hDA hf1
  have HF1 := Lib.hid hf1
  have HApp := Lib.hid hApp
  have HDA := Lib.hid hDA
  clear hApp hDA hf1 hf0 hW0 hP2 hB2 hF2
  go_wp2_with fail
  refine (HApp.out _ HW0.out.a (HFI.out.below HW0.out.below) (fun hne q hq hF => by
    have h1 := HW0.out.fge q hF
    obtain ⟨y, hy, hy'⟩ := HFI.out.block hne
    rw [hy] at hq
    injection hq with hq
    omega)).mono ?_
  rintro e w3 ⟨rfl, F3, hP3, hA3, hN3⟩
  have hW3 := HW0.out.stepA (A' := fun w F => PT w F gt m1) (HT.out.thing _ _) (D8.thing _ _ _ _ _) hP3 hA3 hN3
  have HW3 := Lib.hid hW3
  have hbs3 := HFI.out.below hW3.below
  obtain ⟨v3, hD3, hG3⟩ := hW3.b
  have k0 := hD3.blk.cell 0
  simp at k0
  have HD3 := Lib.hid hD3
  have HG3 := Lib.hid hG3
  clear hP3 hA3 hN3 hW3 hD3 hG3 HW0 HApp
  generalize w2.heap.size = gd at *
  go_wp2_with fail
  refine wp_region_mix [(0, false), (1, false), (2, false), (3, false), (4, false), (5, false), (6, true)] (fun u => u.cell? ⟨gd + 1, 0, none⟩ = some (.pointer (some ⟨gd, 0, none⟩)) ∧ Bs u (.slice Af first.length cf) first) (by kernel_rfl) (by kernel_rfl) (by decide +kernel) rfl ⟨k0, hbs3⟩ ?_
  repeat
    (refine mix_read (o := ⟨_, _, _, _, _, _⟩) (v := ?_) rfl (by rfl) (fun w' hS => ?_) ?_
     rotate_left
     have hst := strOf hS.2
     have hS1 := hS.1
     go_simp
     with_reducible rfl
     try simp only [Act.put, List.setIfInBounds_toArray, List.set_cons_zero, List.set_cons_succ])
  refine mix_step (o := ⟨_, _, _, _, _, _⟩) rfl (fun K hK => ?_)
  go_simp
  have hd3 := HD3.out.below (Below.refl w3.heap.size w3).drew
  refine (HDA.out _ hd3.tape).mono ?_
  rintro e w4 ⟨rfl, hD4, hg4⟩
  have hW4 := (HW3.out.later (HT.out.thing _ _) (D8.thing _ _ _ _ _) (Below.refl w3.heap.size w3).drew).tape8 (HT.out.thing _ _) hD4 hg4
  have HW4 := Lib.hid hW4
  have k04 := (hd3.onTape hD4 hg4).blk.cell 0
  simp at k04
  refine hK.out _ _ ⟨k04, HFI.out.below hW4.below⟩ ?_
  clear hK K
  refine mix_done ?_
  have hO := HK.out.open_ok hW4.a HF1.out
  clear k0 hbs3 HD3 HG3 HW3 HDA hd3 hD4 hg4 k04 hW4
  go_wp2_with fail
  refine hO.mono ?_
  rintro e w5 ⟨g, F5, t, q, rfl, hR, hL5, hA5, hN5⟩
  obtain ⟨hWh, _⟩ := whole_open HF1.out hR
  have HWh := Lib.hid hWh
  have HW5 := Lib.hid (HW4.out.stepA (A' := fun w F => LK w F g gt (tCut (tUp m1) (q : Int)).1 t) (HT.out.thing _ _) (D8.thing _ _ _ _ _) hL5 hA5 hN5)
  have hDO := HW5.out.callB (HK.out.thing _ _ _ _) (fun v hv => lopen_at _ _ _ v m1 [] t q _ hv HF1.out hR)
  generalize (tCut (tUp m1) (q : Int)).1 = m at *
  clear hO hR hL5 hA5 hN5 hWh HW4
  go_wp2_with fail
  refine hDO.mono ?_
  rintro e w6 ⟨rfl, G6, hW6⟩
  obtain ⟨v6, hW6v⟩ := hW6.open8
  have k1 := hW6v.b.1.blk.cell 1
  simp at k1
  obtain ⟨Ax, cx, rfl, _⟩ := hW6v.b.1.form
  have HW6 := Lib.hid hW6v
  clear hDO HW5 hW6v hW6
  go_wp2_with fail
  refine wp_region_mix [(0, false), (1, false), (2, false), (3, false), (4, false), (5, false), (6, false), (7, false), (9, false), (10, false), (11, false), (12, false), (8, true), (13, true), (14, false), (15, false)] (fun u => u.cell? ⟨gd + 1, 1, none⟩ = some (.slice Ax t.length cx)) (by kernel_rfl) (by kernel_rfl) (by decide +kernel) rfl k1 ?_
  repeat
    (refine mix_read (o := ⟨_, _, _, _, _, _⟩) (v := ?_) rfl (by rfl) (fun w' hS => ?_) ?_
     rotate_left
     go_simp
     with_reducible rfl
     try simp only [Act.put, List.setIfInBounds_toArray, List.set_cons_zero, List.set_cons_succ])
  refine mix_step (o := ⟨_, _, _, _, _, _⟩) rfl (fun K hK => ?_)
  go_simp
  have hWd := HW6.out.later (HK.out.thing _ _ _ _) (D8v.thing _ _ _ _ _ _) (Below.refl w6.heap.size w6).drew
  refine (HK.out.all hWd.a HWh.out.fine HWh.out.b).mono ?_
  rintro e w7 ⟨x7, F7, rfl, hx7, hL7, hA7, hN7⟩
  have hW7 := hWd.stepA (A' := fun w F => LK w F g gt m t) (HK.out.thing _ _ _ _) (D8v.thing _ _ _ _ _ _) hL7 hA7 hN7
  have HW7 := Lib.hid hW7
  have k17 := hW7.b.1.blk.cell 1
  simp at k17
  refine hK.out _ _ k17 ?_
  clear hK K
  have hAl := alike_any x7 _ t _ hx7 hW7.b.1.row.lv
  obtain ⟨A7, c7, rfl, _⟩ := hx7.form
  try simp only [Act.put, List.setIfInBounds_toArray, List.set_cons_zero, List.set_cons_succ]
  refine mix_step (o := ⟨_, _, _, _, _, _⟩) rfl (fun K hK => ?_)
  go_simp
  refine hAl.mono ?_
  rintro e w8 ⟨rfl, hb8⟩
  have HW8 := Lib.hid (hW7.later (HK.out.thing _ _ _ _) (D8v.thing _ _ _ _ _ _) hb8).shut8
  refine hK.out _ _ ((hb8.cell (p := ⟨gd + 1, 1, none⟩) hW7.b.1.blk.lt).trans k17) ?_
  clear hK K
  try simp only [Act.put, List.setIfInBounds_toArray, List.set_cons_zero, List.set_cons_succ]
  repeat
    (refine mix_read (o := ⟨_, _, _, _, _, _⟩) (v := ?_) rfl (by rfl) (fun w' hS => ?_) ?_
     rotate_left
     go_simp
     with_reducible rfl
     try simp only [Act.put, List.setIfInBounds_toArray, List.set_cons_zero, List.set_cons_succ])
  refine mix_done ?_
  clear hWd hx7 hL7 hA7 hN7 hW7 k17 hAl hb8 HW7 HW6 k1
  clear HF1
  go_wp2_with fail
  go_loopg [11, 12, 13] l.length (fun gk lv fv iv wr => ∃ (k : Nat) (F : Nat → Prop) (G : Nat → Prop) (g : Nat) (m : Tm) (rs : List (List UInt8)), k + gk = l.length ∧ iv = .int .i64 (k : Int) ∧ lv = .pointer (some ⟨g, 0, none⟩) ∧ fv = .nilIface ∧ Hid (W2 (fun _ => True) w wr (fun w F => LK w F g gt m rs) F (D8 w.heap.size (gd + 1) gd m rs) G ∧ Whole m rs))
  case atStart => exact ⟨0, F7, G6, g, m, t, by omega, rfl, rfl, rfl, Lib.hid ⟨HW8.out, HWh.out⟩⟩
  case round =>
    obtain ⟨k, F, G, g, m, rs, hk, rfl, rfl, rfl, HM⟩ := hrel
    clear HW8 HWh
    by_cases hlt : k < l.length
    · obtain ⟨gk1, hgk1⟩ : ∃ x, gk = x + 1 := ⟨gk - 1, by omega⟩
      have HGK := Lib.hid hgk1
      have HKG : Hid (k + (gk1 + 1) = l.length) := Lib.hid (by omega)
      clear hgk1 hk
      obtain ⟨d, hkd⟩ : ∃ d, l[k]? = some d := ⟨_, List.getElem?_eq_getElem hlt⟩
      obtain ⟨q, o, dv, rfl, hq, x0, x1, x2, hdb, hw1, hw2⟩ := HL.out.cells hkd
      have hB := HM.out.1.below
      have c0 := (hB.cell (p := ⟨q, o + k * 3, none⟩) hq).trans x0
      have c1 := (hB.cell (p := ⟨q, o + k * 3 + 1, none⟩) hq).trans x1
      have c2 := (hB.cell (p := ⟨q, o + k * 3 + 2, none⟩) hq).trans x2
      have HDB := Lib.hid (hdb.below hB)
      have HDB0 := Lib.hid hdb
      obtain ⟨Ad, cd, rfl, hd1, hd2, _⟩ := hdb
      have HBl := Lib.hid hB
      clear hkd x0 x1 x2 hB
      by_cases hbl : 20000 < d.b.length
      · as_aux_lemma =>
          go_wp2_with fail
          go_ret
          exact ⟨rfl, HBl.out.alloc HBl.out.size _⟩
      have hbw5 : Below wr.heap.size wr (wr.alloc (.cells #[.int .i64 d.what, .int .i64 d.n, .slice Ad d.b.length cd] 51)) := (Below.refl _ wr).alloc (Nat.le_refl _) _
      have hcx := Blk.new wr 51 #[.int .i64 d.what, .int .i64 d.n, .slice Ad d.b.length cd]
      have hbadw := HM.out.1.bad_lt (HK.out.thing _ _ _ _) (D8.thing _ _ _ _ _)
      have hbadg := HM.out.1.bad_ge
      have hsepd : ∀ bad : Nat → Prop, (∀ z, bad z → w.heap.size ≤ z) → d.b ≠ [] → ∀ z, (Value.slice Ad d.b.length cd).ownBlock = some z → ¬ bad z := fun bad hbad hne z hz hb => by
        have h1 := hbad z hb
        obtain ⟨y, hy, hy'⟩ := HDB0.out.block hne
        rw [hy] at hz
        injection hz with hz
        omega
      have HSep := Lib.hid hsepd
      have hX : Xd8 wr.heap.size d (.slice Ad d.b.length cd) (wr.alloc (.cells #[.int .i64 d.what, .int .i64 d.n, .slice Ad d.b.length cd] 51)) := ⟨hcx.cell 0, hcx.cell 1, hcx.cell 2, HDB.out.below hbw5⟩
      have hW5 := (HM.out.1.later (HK.out.thing _ _ _ _) (D8.thing _ _ _ _ _) hbw5).say (hX.keep hcx.lt (fun hb => Nat.lt_irrefl _ (hbadw _ hb)) (hsepd _ hbadg))
      have HW5 := Lib.hid hW5
      have HM2 := Lib.hid HM.out.2
      have hPk := fun u => pick8_any d.what 5 u hw1.1 hw1.2 (by omega) (by omega)
      have hP0 : 0 ≤ pick8 d.what 5 := by unfold pick8; omega
      have hP7 : pick8 d.what 5 < 5 := by unfold pick8; omega
      generalize pick8 d.what 5 = pk at *
      clear hbw5 hcx hbadw hbadg hX hW5 HM HDB HDB0 hsepd
      go_wp2_with fail
      refine (hPk _).mono ?_
      rintro e w5 ⟨rfl, hw5e⟩
      rw [hw5e] at HW5
      generalize wr.heap.size = gx at *
      clear hPk hw5e c0 c1 c2
      go_simp
      go_step
      go_step
      go_simp
      go_step
      go_cut [11, 12] (fun lv fv wc => ∃ (F' : Nat → Prop) (G' : Nat → Prop) (g' : Nat) (m' : Tm) (rs' : List (List UInt8)), lv = .pointer (some ⟨g', 0, none⟩) ∧ fv = .nilIface ∧ Hid (W2 (fun _ => True) w wc (fun w F => LK w F g' gt m' rs') F' (D8 w.heap.size (gd + 1) gd m' rs') G' ∧ Whole m' rs'))
      case first =>
        have hm5 := HM2.out
        have HXB := Lib.hid (HSep.out F HW5.out.fge)
        rcases (by omega : (pk = 0 ∨ pk = 1) ∨ pk = 2 ∨ pk = 3 ∨ pk = 4) with hpk | rfl | rfl | rfl
        · as_aux_lemma =>
            obtain ⟨k0, k1, k2, hbs5⟩ := HW5.out.x
            obtain ⟨a1, _, a3, a4⟩ := hm5.append d.b
            have hApp := fun u (hu : W2 (Xd8 gx d (.slice Ad d.b.length cd)) w u (fun w F => LK w F g gt m rs) F (D8 w.heap.size (gd + 1) gd m rs) G) => hu.callA (A' := fun w F => LK w F g gt (wApp m rs d.b).1 (wApp m rs d.b).2.1) (HK.out.thing _ _ _ _) (D8.thing _ _ _ _ _) (HK.out.append hu.a hm5 hu.x.2.2.2 HXB.out (by omega))
            have hsm := hm5.small
            have hDoc := fun u (F6 : Nat → Prop) (hu : W2 (Xd8 gx d (.slice Ad d.b.length cd)) w u (fun w F => LK w F g gt (wApp m rs d.b).1 (wApp m rs d.b).2.1) F6 (D8 w.heap.size (gd + 1) gd m rs) G) => hu.callB (HK.out.thing _ _ _ _) (fun v hv => lappend_any _ _ _ v m rs d.b u hv hm5.fine (by omega) (by omega) (by omega))
            generalize wApp m rs d.b = r at *
            obtain ⟨m6, rs6, c⟩ := r
            simp only at hApp hDoc a1 a3
            clear a4 hm5 hP0 hP7
            rcases hpk with rfl | rfl
            all_goals
              go_wp2_with fail
              refine wp_region_mix [(0, false), (1, false), (2, false), (5, false), (6, false), (7, false), (8, false), (3, true), (4, true), (9, true), (10, false)] (fun u => u.cell? ⟨gx, 2, none⟩ = some (.slice Ad d.b.length cd) ∧ Bs u (.slice Ad d.b.length cd) d.b) (by kernel_rfl) (by kernel_rfl) (by decide +kernel) rfl ⟨k2, hbs5⟩ ?_
              repeat
                (refine mix_read (o := ⟨_, _, _, _, _, _⟩) (v := ?_) rfl (by rfl) (fun w' hS => ?_) ?_
                 rotate_left
                 have hst := strOf hS.2
                 have hS1 := hS.1
                 go_simp
                 with_reducible rfl
                 try simp only [Act.put, List.setIfInBounds_toArray, List.set_cons_zero, List.set_cons_succ])
              refine mix_step (o := ⟨_, _, _, _, _, _⟩) rfl (fun K hK => ?_)
              go_simp
              refine (hApp _ (HW5.out.later (HK.out.thing _ _ _ _) (D8.thing _ _ _ _ _) (Below.refl w5.heap.size w5).drew)).mono ?_
              rintro e w6 ⟨rfl, F6, hW6⟩
              refine hK.out _ _ ⟨hW6.x.2.2.1, hW6.x.2.2.2⟩ ?_
              clear hK K
              try simp only [Act.put, List.setIfInBounds_toArray, List.set_cons_zero, List.set_cons_succ]
              refine mix_step (o := ⟨_, _, _, _, _, _⟩) rfl (fun K hK => ?_)
              go_simp
              refine (Code_err c _ a3).mono ?_
              rintro e w7 ⟨rfl, rfl⟩
              refine hK.out _ _ ⟨hW6.x.2.2.1, hW6.x.2.2.2⟩ ?_
              clear hK K
              try simp only [Act.put, List.setIfInBounds_toArray, List.set_cons_zero, List.set_cons_succ]
              refine mix_step (o := ⟨_, _, _, _, _, _⟩) rfl (fun K hK => ?_)
              go_simp
              refine (hDoc _ _ hW6).mono ?_
              rintro e w7 ⟨rfl, G7, hW7⟩
              refine hK.out _ _ ⟨hW7.x.2.2.1, hW7.x.2.2.2⟩ ?_
              clear hK K
              try simp only [Act.put, List.setIfInBounds_toArray, List.set_cons_zero, List.set_cons_succ]
              repeat
                (refine mix_read (o := ⟨_, _, _, _, _, _⟩) (v := ?_) rfl (by rfl) (fun w' hS => ?_) ?_
                 rotate_left
                 go_simp
                 with_reducible rfl
                 try simp only [Act.put, List.setIfInBounds_toArray, List.set_cons_zero, List.set_cons_succ])
              refine mix_done ?_
              have HW7 := Lib.hid hW7
              clear hApp hDoc hW6 hW7 k0 k1 k2 hbs5
              go_wp2_with fail
              go_meet
              case rel => exact ⟨F6, G7, g, m6, rs6, rfl, rfl, Lib.hid ⟨HW7.out.fin8, a1⟩⟩
        · as_aux_lemma =>
            have hx5 := HW5.out.x
            have k1 := hx5.2.1
            have hFl := HW5.out.callA (A' := fun w F => LK w F g gt (tFail m d.n) rs) (HK.out.thing _ _ _ _) (D8.thing _ _ _ _ _) (HK.out.on HW5.out.a fun Ft hF => HT.out.fail (n := d.n) hF hm5.fine hw2.1 hw2.2)
            have HWh := Lib.hid (hm5.fail d.n hw2.2)
            clear hx5 hm5 hP0 hP7
            go_wp2_with fail
            refine hFl.mono ?_
            rintro e w6 ⟨rfl, F6, hW6⟩
            obtain ⟨v6, hD6, hG6⟩ := hW6.b
            have p0 := hD6.blk.cell 0
            have p2 := Blk.cell hD6.tape 2
            have f2 := Blk.frozen hD6.tape 2
            simp at p0 p2
            have p1 := hW6.x.2.1
            have hg6 := grown_set w6 gd 2 (.int .i64 d.n)
            have hd6 := hD6.onTape (hD6.tape.left_ d.n) hg6
            have hW8 := (hW6.tape8 (HK.out.thing _ _ _ _) (hD6.tape.left_ d.n) hg6).later (HK.out.thing _ _ _ _) (D8.thing _ _ _ _ _) (Below.refl _ (w6.setCell ⟨gd, 2, none⟩ (.int .i64 d.n))).drew
            have hd8 := hd6.below (Below.refl _ (w6.setCell ⟨gd, 2, none⟩ (.int .i64 d.n))).drew
            have HW8 := Lib.hid hW8
            have HD8 := Lib.hid hd8
            clear hFl hW6 hG6 k1 hW8 hD6 hg6 hd6 hd8
            go_wp2_with fail
            refine wp_region_mix [(0, false), (1, false), (2, false), (3, false), (4, false), (5, false), (6, false), (7, false), (8, true)] (fun u => u.cell? ⟨gd + 1, 0, none⟩ = some (.pointer (some ⟨gd, 0, none⟩)) ∧ u.cell? ⟨gx, 1, none⟩ = some (.int .i64 d.n)) (by kernel_rfl) (by kernel_rfl) (by decide +kernel) rfl ⟨p0, p1⟩ ?_
            repeat
              (refine mix_read (o := ⟨_, _, _, _, _, _⟩) (v := ?_) rfl (by rfl) (fun w' hS => ?_) ?_
               rotate_left
               have hS1 := hS.1
               have hS2 := hS.2
               go_simp
               with_reducible rfl
               try simp only [Act.put, List.setIfInBounds_toArray, List.set_cons_zero, List.set_cons_succ])
            refine mix_step (o := ⟨_, _, _, _, _, _⟩) rfl (fun K hK => ?_)
            go_simp
            clear p0 p1 p2 f2
            generalize (w6.setCell ⟨gd, 2, none⟩ (.int .i64 d.n)).drew = w8 at *
            have p0 := HD8.out.blk.cell 0
            have p2 := Blk.cell HD8.out.tape 2
            have f2 := Blk.frozen HD8.out.tape 2
            simp at p0 p2
            have p1 := HW8.out.x.2.1
            refine hK.out _ _ ⟨p0, p1⟩ ?_
            clear hK K
            refine mix_done ?_
            by_cases hneg : d.n < 0
            · have hm' : Hid (tFail m d.n = { m with left := -1 }) := Lib.hid (by rw [tFail, if_pos hneg])
              have HW9 := Lib.hid (HW8.out.tape8 (HK.out.thing _ _ _ _) (HD8.out.tape.left_ (-1)) (grown_set _ _ _ _))
              go_wp2_with fail
              go_meet
              case rel => exact ⟨F6, G, g, tFail m d.n, rs, rfl, rfl, Lib.hid ⟨by
                have := HW9.out.fin8
                rw [hm'.out] at this ⊢
                exact this, HWh.out⟩⟩
            · have hm' : Hid (tFail m d.n = { m with left := d.n }) := Lib.hid (by rw [tFail, if_neg hneg])
              go_wp2_with fail
              go_meet
              case rel => exact ⟨F6, G, g, tFail m d.n, rs, rfl, rfl, Lib.hid ⟨by
                have := HW8.out.fin8
                rw [hm'.out] at this ⊢
                exact this, HWh.out⟩⟩
        · as_aux_lemma =>
            have hx5 := HW5.out.x
            have k1 := hx5.2.1
            have hCr := HW5.out.callA (A' := fun w F => LK w F g gt (tCrash m d.n) rs) (HK.out.thing _ _ _ _) (D8.thing _ _ _ _ _) (HK.out.on HW5.out.a fun Ft hF => HT.out.crash (n := d.n) hF hm5.fine hw2.1 hw2.2)
            have hDC := fun (u : World) (hu : DT u gd m) => dcrash_any d.n hu hm5.fine hw2.1 hw2.2
            have HFC := Lib.hid (hm5.fine.crash d.n)
            generalize tCrash m d.n = m6 at *
            clear hx5 hm5 hP0 hP7
            go_wp2_with fail
            refine hCr.mono ?_
            rintro e w6 ⟨rfl, F6, hW6⟩
            have hWd := hW6.later (HK.out.thing _ _ _ _) (D8.thing _ _ _ _ _) (Below.refl w6.heap.size w6).drew
            obtain ⟨v6, hD6, hG6⟩ := hWd.b
            have p0 := hD6.blk.cell 0
            simp at p0
            have p1 := hWd.x.2.1
            clear hCr hG6 k1
            go_wp2_with fail
            refine wp_region_mix [(0, false), (1, false), (2, false), (3, false), (4, false), (5, false), (6, true)] (fun u => u.cell? ⟨gd + 1, 0, none⟩ = some (.pointer (some ⟨gd, 0, none⟩)) ∧ u.cell? ⟨gx, 1, none⟩ = some (.int .i64 d.n)) (by kernel_rfl) (by kernel_rfl) (by decide +kernel) rfl ⟨p0, p1⟩ ?_
            repeat
              (refine mix_read (o := ⟨_, _, _, _, _, _⟩) (v := ?_) rfl (by rfl) (fun w' hS => ?_) ?_
               rotate_left
               have hS1 := hS.1
               have hS2 := hS.2
               go_simp
               with_reducible rfl
               try simp only [Act.put, List.setIfInBounds_toArray, List.set_cons_zero, List.set_cons_succ])
            refine mix_step (o := ⟨_, _, _, _, _, _⟩) rfl (fun K hK => ?_)
            go_simp
            refine (hDC _ hD6.tape).mono ?_
            rintro e w7 ⟨rfl, hD7, hg7⟩
            have hW7 := hWd.tape8 (HK.out.thing _ _ _ _) hD7 hg7
            have p07 := (hD6.onTape hD7 hg7).blk.cell 0
            simp at p07
            refine hK.out _ _ ⟨p07, hW7.x.2.1⟩ ?_
            clear hK K
            refine mix_done ?_
            have HW7 := Lib.hid hW7
            obtain ⟨Ft, hPT, hsub, _⟩ := HK.out.tape hW7.a
            have hO := HK.out.open_ok hPT HFC.out
            clear hDC hD7 hg7 hW7 p07 hW6 hWd hD6 p0 p1 hPT
            go_wp2_with fail
            refine hO.mono ?_
            rintro e w8 ⟨g8, F8, t8, q8, rfl, hR, hL8, hA8, hN8⟩
            obtain ⟨hWh8, _⟩ := whole_open HFC.out hR
            have HWh8 := Lib.hid hWh8
            have hW8 := HW7.out.stepA (A' := fun w F => LK w F g8 gt (tCut (tUp m6) (q8 : Int)).1 t8) (HK.out.thing _ _ _ _) (D8.thing _ _ _ _ _) hL8 (hA8.mono fun q _ hq => hsub q hq) (fun q hq => (hN8 q hq).imp (hsub q) id)
            have hDO := hW8.callB (HK.out.thing _ _ _ _) (fun v hv => lopen_at _ _ _ v m6 rs t8 q8 _ hv HFC.out hR)
            generalize (tCut (tUp m6) (q8 : Int)).1 = m8 at *
            clear hO hR hL8 hA8 hN8 hWh8 HW7 hW8 hsub
            go_wp2_with fail
            refine hDO.mono ?_
            rintro e w9 ⟨rfl, G9, hW9⟩
            have HW9 := Lib.hid hW9
            clear hDO hW9
            go_wp2_with fail
            go_meet
            case rel => exact ⟨F8, G9, g8, m8, t8, rfl, rfl, Lib.hid ⟨HW9.out.fin8, HWh8.out⟩⟩
        · as_aux_lemma =>
            obtain ⟨e0, hWh6⟩ := hm5.clear
            have hCl := HW5.out.callA (A' := fun w F => LK w F g gt { m with b := [], synced := 0 } []) (r := .nilIface) (HK.out.thing _ _ _ _) (D8.thing _ _ _ _ _) (by
              have h := HK.out.clear HW5.out.a hm5.fine hm5.b
              rw [e0] at h
              exact h)
            have hDoc := fun u (F6 : Nat → Prop) (hu : W2 (Xd8 gx d (.slice Ad d.b.length cd)) w u (fun w F => LK w F g gt { m with b := [], synced := 0 } []) F6 (D8 w.heap.size (gd + 1) gd m rs) G) => hu.callB (r := .int .i64 0) (m' := { m with b := [], synced := 0 }) (rs' := []) (HK.out.thing _ _ _ _) (fun v hv => by
              have h := lclear_any _ _ _ v m rs u hv
              rw [e0] at h
              refine h.mono ?_
              rintro e w' ⟨he, v', hd, ha, hn⟩
              exact ⟨he, v', hd, ha, fun q hq => .inl (hn q hq)⟩)
            clear hm5 hP0 hP7 e0
            go_wp2_with fail
            refine hCl.mono ?_
            rintro e w6 ⟨rfl, F6, hW6⟩
            go_wp2_with fail
            refine (Code_nil _).mono ?_
            rintro e w7 ⟨rfl, rfl⟩
            go_wp2_with fail
            refine (hDoc _ _ hW6).mono ?_
            rintro e w7 ⟨rfl, G7, hW7⟩
            have HW7 := Lib.hid hW7
            clear hCl hDoc hW6 hW7
            go_wp2_with fail
            go_meet
            case rel => exact ⟨F6, G7, g, _, [], rfl, rfl, Lib.hid ⟨HW7.out.fin8, hWh6⟩⟩
      case rest => as_aux_lemma =>
        obtain ⟨F', G', g', m', rs', rfl, rfl, HC⟩ := hcut
        have hRd := LogK.read HT.out HK.out HC.out.1.a HC.out.2
        clear HW5 HM2 hP0 hP7 HSep
        go_wp2_with fail
        refine hRd.mono ?_
        rintro e w8 ⟨x8, F8, rfl, hown8, hL8, hA8, hN8, hx8⟩
        have hW8 := (HC.out.1.stepA (A' := fun w F => LK w F g' gt m' rs') (HK.out.thing _ _ _ _) (D8.thing _ _ _ _ _) hL8 hA8 hN8).say (X' := fun u => Bs u x8 m'.b) (fun u ha => hown8.bs.apt ha fun _ z hz hb => hb.elim (hx8 z hz) fun hG => by
          have := (D8.thing _ _ _ _ _).lt HC.out.1.b z hG
          have := hown8.ge z hz
          omega)
        obtain ⟨v8, hW8v⟩ := hW8.open8
        have p0 := hW8v.b.1.blk.cell 0
        have p1 := hW8v.b.1.blk.cell 1
        have p3 := Blk.cell hW8v.b.1.tape 3
        simp at p0 p1 p3
        have hbs8 := hW8v.x
        obtain ⟨Av, cv, rfl, _⟩ := hW8v.b.1.form
        obtain ⟨A8, c8, rfl, _⟩ := hown8.form
        have HW8 := Lib.hid hW8v
        clear hRd hown8 hL8 hA8 hN8 hx8 hW8 hW8v
        go_wp2_with fail
        refine wp_region_mix [(0, false), (1, false), (2, false), (3, false), (4, false), (5, false), (6, false), (7, false), (8, false), (9, false), (10, false), (11, false), (12, false), (13, false), (14, false), (15, false), (17, false), (18, false), (19, false), (20, false), (16, true), (21, true), (22, false), (23, false)] (fun u => u.cell? ⟨gd + 1, 0, none⟩ = some (.pointer (some ⟨gd, 0, none⟩)) ∧ u.cell? ⟨gd + 1, 1, none⟩ = some (.slice Av rs'.length cv) ∧ u.cell? ⟨gd, 3, none⟩ = some (.string (Bstr m'.b)) ∧ Bs u (.slice A8 m'.b.length c8) m'.b) (by kernel_rfl) (by kernel_rfl) (by decide +kernel) rfl ⟨p0, p1, p3, hbs8⟩ ?_
        repeat
          (refine mix_read (o := ⟨_, _, _, _, _, _⟩) (v := ?_) rfl (by rfl) (fun w' hS => ?_) ?_
           rotate_left
           have hS1 := hS.1
           have hS2 := hS.2.1
           have hS3 := hS.2.2.1
           have hst := strOf hS.2.2.2
           have hbb : ((Bstr m'.b).toList == (Bstr m'.b).toList) = true := by simp
           go_simp
           with_reducible rfl
           try simp only [Act.put, List.setIfInBounds_toArray, List.set_cons_zero, List.set_cons_succ])
        refine mix_step (o := ⟨_, _, _, _, _, _⟩) rfl (fun K hK => ?_)
        go_simp
        have hWd := HW8.out.later (HK.out.thing _ _ _ _) (D8v.thing _ _ _ _ _ _) (Below.refl w8.heap.size w8).drew
        refine (HK.out.all hWd.a HC.out.2.fine HC.out.2.b).mono ?_
        rintro e w9 ⟨x9, F9, rfl, hx9, hL9, hA9, hN9⟩
        have hW9 := hWd.stepA (A' := fun w F => LK w F g' gt m' rs') (HK.out.thing _ _ _ _) (D8v.thing _ _ _ _ _ _) hL9 hA9 hN9
        have q0 := hW9.b.1.blk.cell 0
        have q1 := hW9.b.1.blk.cell 1
        have q3 := Blk.cell hW9.b.1.tape 3
        simp at q0 q1 q3
        refine hK.out _ _ ⟨q0, q1, q3, hW9.x⟩ ?_
        clear hK K
        have hAl := alike_any x9 _ rs' _ hx9 hW9.b.1.row.lv
        obtain ⟨A9, c9, rfl, _⟩ := hx9.form
        try simp only [Act.put, List.setIfInBounds_toArray, List.set_cons_zero, List.set_cons_succ]
        refine mix_step (o := ⟨_, _, _, _, _, _⟩) rfl (fun K hK => ?_)
        go_simp
        refine hAl.mono ?_
        rintro e w10 ⟨rfl, hb10⟩
        have hW10 := hW9.later (HK.out.thing _ _ _ _) (D8v.thing _ _ _ _ _ _) hb10
        have r0 := hW10.b.1.blk.cell 0
        have r1 := hW10.b.1.blk.cell 1
        have r3 := Blk.cell hW10.b.1.tape 3
        simp at r0 r1 r3
        refine hK.out _ _ ⟨r0, r1, r3, hW10.x⟩ ?_
        clear hK K
        try simp only [Act.put, List.setIfInBounds_toArray, List.set_cons_zero, List.set_cons_succ]
        repeat
          (refine mix_read (o := ⟨_, _, _, _, _, _⟩) (v := ?_) rfl (by rfl) (fun w' hS => ?_) ?_
           rotate_left
           go_simp
           with_reducible rfl
           try simp only [Act.put, List.setIfInBounds_toArray, List.set_cons_zero, List.set_cons_succ])
        refine mix_done ?_
        have HW10 := Lib.hid hW10.shut8.fin8
        clear hWd hx9 hL9 hA9 hN9 hW9 q0 q1 q3 r0 r1 r3 hAl hb10 hW10 HW8 p0 p1 p3 hbs8
        go_wp2_with fail
        go_roundg gk1
        case measure => have := HGK.out; omega
        case rel => exact ⟨k + 1, F9, G', g', m', rs', by have := HKG.out; omega, by go_num, rfl, rfl, Lib.hid ⟨HW10.out, HC.out.2⟩⟩
    · as_aux_lemma =>
        go_wp2_with fail
        go_ret
        exact ⟨rfl, HM.out.1.below⟩
end Go.Proofs.Ytdfjicjlmejonaa
