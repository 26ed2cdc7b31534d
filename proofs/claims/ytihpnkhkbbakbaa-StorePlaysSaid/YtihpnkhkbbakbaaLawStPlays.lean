/-
  tankardlaw06.StorePlays, walked over whatever keeps what a store is to keep ('StoreK'). Conditions: what the theorem says.
-/
import Derived.Test.YtihpnkhkbbakbaaStL
import Derived.Deep.DeepCutAuto
namespace Go.Proofs.Ytihpnkhkbbakbaa
open Go.RowKit
set_option maxRecDepth 100000

set_option maxHeartbeats 6400000 in
theorem storePlays_any {PS : World → (Nat → Prop) → Nat → Sm → Prop} (hK : StoreK PS) (room : Int) (vl : Value) (l : List De) (w : World) (hl : Ds w vl l) (hr0 : -9223372036854775808 ≤ room) (hr1 : room ≤ 9223372036854775807) :
    Calls Try.prog 3 #[.int .i64 room, vl] w fun e w' => e = .returned (.bool true) ∧ Below w.heap.size w w' := by
  have HK := Lib.hid hK
  have HL := Lib.hid hl
  have eqc := eqCode
  have neq_ := neCode
  obtain ⟨Al, cl, rfl, hcl1, hcl2⟩ := hl.form
  clear hl hK
  by_cases hroom : room < 1 ∨ 1048576 < room
  · have hNew := fun u => HK.out.new_no room u hroom
    go_enter Try.func3, Try.ntmps3
    go_wp2_with fail
    refine (up6_any HK.out _).mono ?_
    rintro e w1 ⟨rfl, hb1⟩
    go_wp2_with fail
    refine (hNew _).mono ?_
    rintro e w2 ⟨rfl, hb2⟩
    clear hNew
    rcases hroom with h | h
    · go_wp2_with fail
      go_ret
      exact ⟨rfl, hb1.trans (hb2.mono hb1.size)⟩
    · go_wp2_with fail
      go_ret
      exact ⟨rfl, hb1.trans (hb2.mono hb1.size)⟩
  · have h1 : 1 ≤ room := by omega
    have h2 : room ≤ 1048576 := by omega
    have hNew := fun u => HK.out.new_ok room u h1 h2
    clear hroom
    go_enter Try.func3, Try.ntmps3
    go_wp2_with fail
    refine (up6_any HK.out _).mono ?_
    rintro e w1 ⟨rfl, hb1⟩
    go_wp2_with fail
    refine (hNew _).mono ?_
    rintro e w2 ⟨g, F, rfl, hPS, hb2, hF⟩
    have hB2 := hb1.trans (hb2.mono hb1.size)
    have hF2 : ∀ q, F q → w.heap.size ≤ q := fun q hq => Nat.le_trans hb1.size (hF q hq)
    clear hNew hb1 hb2 hF
    by_cases hll : 100 < l.length
    · go_wp2_with fail
      go_ret
      exact ⟨rfl, hB2⟩
    · have hgF := hF2
      have hD0 : DS (w2.alloc (.cells #[.int .i64 room, .int .i64 (-1), .int .i64 0, .slice none 0 0] 33)) w.heap.size w2.heap.size (.slice none 0 0) ⟨room, -1, 0, []⟩ :=
        ⟨Blk.new _ _ _, OwnL.nil _ _ _ _, by simp [Value.ownBlock], hB2.size⟩
      have ha2 : Below w2.heap.size w2 (w2.alloc (.cells #[.int .i64 room, .int .i64 (-1), .int .i64 0, .slice none 0 0] 33)) := (Below.refl _ _).alloc (Nat.le_refl _) _
      have hW0 : W6 PS (fun _ => True) w (w2.alloc (.cells #[.int .i64 room, .int .i64 (-1), .int .i64 0, .slice none 0 0] 33)) F g ⟨room, -1, 0, []⟩ w2.heap.size (.slice none 0 0) ⟨room, -1, 0, []⟩ :=
        ⟨hB2.trans (ha2.mono hB2.size), HK.out.keep hPS (Apt.of_below ha2), hD0, hF2, fun hq => by have := HK.out.lt hPS _ hq; omega, fun q hq => by simp [Value.ownBlock] at hq, fun _ _ => trivial⟩
      have hf0 : (⟨room, -1, 0, []⟩ : Sm).fine 0 := ⟨by simp only; omega, by simp only; omega, by simp only; omega, by simp only; omega, by simp only; omega, by simp only; omega, by simp, by simp [usedL]⟩
      have HW0 := Lib.hid hW0
      have HF0 := Lib.hid hf0
      clear hD0 ha2 hW0 hf0 hB2 hF2 hgF hPS
      go_wp2_with fail
      generalize w2.heap.size = gd at *
      go_loopg [9] l.length (fun gk iv wr => ∃ (k : Nat) (F : Nat → Prop) (m : Sm) (v : Value), k + gk = l.length ∧ iv = .int .i64 (k : Int) ∧ Hid (W6 PS (fun _ => True) w wr F g m gd v m ∧ m.fine k ∧ Good m.l))
      case atStart => exact ⟨0, F, _, _, by omega, rfl, Lib.hid ⟨HW0.out, HF0.out, ⟨Rise.nil, by simp⟩⟩⟩
      case round =>
        obtain ⟨k, F, m, v, hk, rfl, HM⟩ := hrel
        by_cases hlt : k < l.length
        · obtain ⟨gk1, hgk1⟩ : ∃ x, gk = x + 1 := ⟨gk - 1, by omega⟩
          have HGK := Lib.hid hgk1
          have HKG : Hid (k + (gk1 + 1) = l.length) := Lib.hid (by omega)
          clear hgk1 hk
          obtain ⟨d, hkd⟩ : ∃ d, l[k]? = some d := ⟨_, List.getElem?_eq_getElem hlt⟩
          obtain ⟨q, o, dv, rfl, hq, x0, x1, x2, x3, x4, hdb, hw1, hw2, hw3, hdn⟩ := HL.out.cells hkd
          have hB := HM.out.1.below
          have c0 := (hB.cell (p := ⟨q, o + k * 5, none⟩) hq).trans x0
          have c1 := (hB.cell (p := ⟨q, o + k * 5 + 1, none⟩) hq).trans x1
          have c2 := (hB.cell (p := ⟨q, o + k * 5 + 2, none⟩) hq).trans x2
          have c3 := (hB.cell (p := ⟨q, o + k * 5 + 3, none⟩) hq).trans x3
          have c4 := (hB.cell (p := ⟨q, o + k * 5 + 4, none⟩) hq).trans x4
          have HDB := Lib.hid (hdb.below hB)
          have HDB0 := Lib.hid hdb
          obtain ⟨Ad, cd, rfl, hd1, hd2, _⟩ := hdb
          have HBl := Lib.hid hB
          have hszn : (Bstr d.nm).size = d.nm.length := Bstr_size _
          clear hkd x0 x1 x2 x3 x4 hB
          by_cases hbl : 500 < d.b.length
          · as_aux_lemma =>
              go_wp2_with fail
              go_ret
              exact ⟨rfl, HBl.out.alloc HBl.out.size _⟩
          by_cases hnl : 100 < d.nm.length
          · as_aux_lemma =>
              go_wp2_with fail
              go_ret
              exact ⟨rfl, HBl.out.alloc HBl.out.size _⟩
          have hown0 := (Own.made (wr.alloc (.cells #[.int .i64 d.what, .string (Bstr d.nm), .int .i64 d.n, .int .u8 d.x, .slice Ad d.b.length cd] 36)) (wr.heap.size + 1) 5 #[] 0 (by simp) (by simp [maxLen]) rfl)
          rw [show (wr.alloc (.cells #[.int .i64 d.what, .string (Bstr d.nm), .int .i64 d.n, .int .u8 d.x, .slice Ad d.b.length cd] 36)).heap.size = wr.heap.size + 1 from by simp] at hown0
          have HOwn0 := Lib.hid hown0
          have hbw : Below wr.heap.size wr ((wr.alloc (.cells #[.int .i64 d.what, .string (Bstr d.nm), .int .i64 d.n, .int .u8 d.x, .slice Ad d.b.length cd] 36)).alloc (.cells #[] 5)) := ((Below.refl _ wr).alloc (Nat.le_refl _) _).alloc (by simp) _
          have HBW := Lib.hid hbw
          have hsz2 : wr.heap.size + 1 ≤ ((wr.alloc (.cells #[.int .i64 d.what, .string (Bstr d.nm), .int .i64 d.n, .int .u8 d.x, .slice Ad d.b.length cd] 36)).alloc (.cells #[] 5)).heap.size := by simp
          clear hbw hown0
          go_wp2_with (at_builtin; refine wpList_append_v _ byteT rfl _ _ rfl (wr.heap.size + 1) _ [] rfl HOwn0.out _ d.b rfl (HDB.out.below HBW.out) (by simp; omega) hsz2 ?_)
          intro ov w5 ho5 hg5 _
          have hbw5 : Below wr.heap.size wr w5 := HBW.out.grown hg5 HBW.out.size (fun z hz => by simp [Value.ownBlock] at hz; omega)
          have hcx : Blk w5 wr.heap.size 36 #[.int .i64 d.what, .string (Bstr d.nm), .int .i64 d.n, .int .u8 d.x, .slice Ad d.b.length cd] :=
            ((Blk.new wr _ _).alloc _).grown hg5 (by simp [Value.ownBlock])
          have k0 := hcx.cell 0
          have k1 := hcx.cell 1
          have k2 := hcx.cell 2
          have k3 := hcx.cell 3
          have k4 := hcx.cell 4
          simp at k0 k1 k2 k3 k4
          have hbadw : ∀ z, (F z ∨ z = gd ∨ v.ownBlock = some z) → z < wr.heap.size := fun z hz => by
            rcases hz with h | h | h
            · exact HK.out.lt HM.out.1.ps z h
            · rw [h]; exact HM.out.1.ds.blk.lt
            · exact HM.out.1.ds.row.lt z h
          have hbadg : ∀ z, (F z ∨ z = gd ∨ v.ownBlock = some z) → w.heap.size ≤ z := fun z hz => by
            rcases hz with h | h | h
            · exact HM.out.1.fge z h
            · rw [h]; exact HM.out.1.ds.ge
            · exact HM.out.1.ds.row.ge z h
          have hX : Xd wr.heap.size d (.slice Ad d.b.length cd) ov w.heap.size w5 := ⟨k0, k1, k2, k3, k4, HDB.out.below hbw5, ho5.lower (by have := HBl.out.size; omega)⟩
          have hov : ∀ z, ov.ownBlock = some z → ¬ (F z ∨ z = gd ∨ v.ownBlock = some z) := fun z hz hb => by
            have := ho5.ge z hz
            have := hbadw z hb
            omega
          have hXK := hX.keep (bad := fun z => F z ∨ z = gd ∨ v.ownBlock = some z) hcx.lt (fun hb => Nat.lt_irrefl _ (hbadw _ hb)) (fun hne z hz hb => by
            have h1 := hbadg z hb
            obtain ⟨y, hy, hy'⟩ := HDB0.out.block hne
            rw [hy] at hz
            injection hz with hz
            omega) hov
          have hW5 : W6 PS (Xd wr.heap.size d (.slice Ad d.b.length cd) ov w.heap.size) w w5 F g m gd v m := HM.out.1.own (row := none) HK.out (grown_of_below hbw5 _) (fun z hz => by cases hz) hXK
          have HW5 := Lib.hid hW5
          have HOV := Lib.hid hov
          have HM2 := Lib.hid HM.out.2
          have hPk := fun u => pick_any d.what 7 u hw1.1 hw1.2 (by omega) (by omega)
          have hP0 : 0 ≤ pickI d.what 7 := by unfold pickI; omega
          have hP7 : pickI d.what 7 < 7 := by unfold pickI; omega
          generalize pickI d.what 7 = pk at *
          generalize wr.heap.size = gx at *
          obtain ⟨Ao, co, rfl, ho1, ho2, _, _⟩ := ho5.form
          clear ho5 hg5 hbw5 hcx hbadw hbadg hX hov hXK hW5 HM HOwn0 HBW hsz2 c0 c1 c2 c3 c4 HDB HDB0
          go_wp2_with fail
          refine (hPk _).mono ?_
          rintro e w6 ⟨rfl, rfl⟩
          clear hPk
          go_simp
          go_step
          go_step
          go_simp
          go_step
          go_cut [12, 13] (fun cv ev wc => ∃ (c : Int) (F' : Nat → Prop) (m' : Sm) (v' : Value), cv = .int .i64 c ∧ ev = errV c ∧ (0 ≤ c ∧ c ≤ 10) ∧ Hid (W6 PS (fun u => Own u w.heap.size 5 (.slice Ao d.b.length co) d.b) w wc F' g m' gd v' m' ∧ (∀ z, (Value.slice Ao d.b.length co).ownBlock = some z → ¬ (F' z ∨ z = gd ∨ v'.ownBlock = some z)) ∧ m'.fine (k + 1) ∧ Good m'.l))
          case first =>
            have hm5 := HM2.out.1
            have hok5 := hm5.ok (by omega)
            have hcl5 : m.calls < 1000000000 := by have := hm5.calls1; omega
            rcases (by omega : (pk = 0 ∨ pk = 1) ∨ pk = 2 ∨ pk = 3 ∨ pk = 4 ∨ pk = 5 ∨ pk = 6) with hpk | rfl | rfl | rfl | rfl | rfl
            · as_aux_lemma =>
                have hx5 := HW5.out.x
                have hsep : d.b ≠ [] → ∀ z, (Value.slice Ao d.b.length co).ownBlock = some z → ¬ F z := fun _ z hz hF => HOV.out z hz (.inl hF)
                have hPut := HK.out.put (n := d.nm) HW5.out.ps hm5 (by omega) hdn hx5.2.2.2.2.2.2.bs hsep (by omega)
                have HLT := Lib.hid hx5.2.2.2.2.2.2.blk_lt
                have HSz := Lib.hid HW5.out.below.size
                have HR : Hid ((sPut m d.nm d.b).1.fine (k + 1) ∧ Good (sPut m d.nm d.b).1.l ∧ 0 ≤ (sPut m d.nm d.b).2 ∧ (sPut m d.nm d.b).2 ≤ 10) := Lib.hid ⟨hm5.put _ _, good_put HM2.out.2 _ _, sPut_code _ _ _⟩
                have hDP := fun (u : World) (hu : DS u w.heap.size gd v m) => DPut_any w.heap.size gd v m d.nm d.b u hu hok5 hcl5 (by omega) (by omega)
                generalize sPut m d.nm d.b = r at *
                obtain ⟨m', c⟩ := r
                simp only at hPut hDP HR
                clear hx5 hsep hok5 hcl5 hm5 hP0 hP7
                rcases hpk with rfl | rfl
                all_goals
                  go_wp2_with fail
                  refine hPut.mono ?_
                  rintro e w6 ⟨rfl, F6, hP6, hA6, hN6⟩
                  have HW6 := Lib.hid (HW5.out.prog hP6 hA6 hN6)
                  have HOV6 := Lib.hid (apart_more HOV.out HLT.out hN6 fun q hq => .inl hq)
                  obtain ⟨k0', k1', k2', k3', k4', hbs6, hown6⟩ := HW6.out.x
                  have HLT6 := Lib.hid hown6.blk_lt
                  have hst := strOf hbs6
                  have hD6 := hDP _ HW6.out.ds
                  clear hPut hDP hP6 hA6 hN6 k0 k1 k2 k3 k4 hbs6 hown6 k0' k2' k3'
                  go_wp2_with fail
                  refine hD6.mono ?_
                  rintro e w7 ⟨rfl, v7, hD7, hA7, hN7⟩
                  have HW7 := Lib.hid (HW6.out.doc HK.out hD7 hA7 hN7)
                  have HOV7 := Lib.hid (apart_more HOV6.out HLT6.out (fun q hq => .inl hq) hN7)
                  clear hD6 hD7 hA7 hN7 hst k1' k4'
                  go_wp2_with fail
                  go_meet
                  case rel => exact ⟨c, F6, m', v7, rfl, rfl, HR.out.2.2, Lib.hid ⟨HW7.out.fin, HOV7.out, HR.out.1, HR.out.2.1⟩⟩
            · as_aux_lemma =>
                have hx5 := HW5.out.x
                have hGet := HK.out.get (n := d.nm) HW5.out.ps hm5 (by omega) hdn
                have HLT := Lib.hid hx5.2.2.2.2.2.2.blk_lt
                have HDG := Lib.hid HW5.out.ds
                have HR : Hid ((callS m).fine (k + 1) ∧ Good (callS m).l ∧ 0 ≤ (sGet m d.nm).2 ∧ (sGet m d.nm).2 ≤ 10) := Lib.hid ⟨hm5.call, HM2.out.2, sGet_code _ _⟩
                have hDG := fun (u : World) (hu : DS u w.heap.size gd v m) => DGet_any w.heap.size gd v m d.nm u hu hok5 hcl5
                generalize sGet m d.nm = r at *
                obtain ⟨bs, c⟩ := r
                simp only at hGet hDG HR
                clear hx5 hok5 hcl5 hm5 hP0 hP7
                go_wp2_with fail
                refine hGet.mono ?_
                rintro e w6 ⟨x6, F6, rfl, hown6, hP6, hA6, hN6, hx6⟩
                have HW6 := Lib.hid (HW5.out.prog hP6 hA6 hN6)
                have HOV6 := Lib.hid (apart_more HOV.out HLT.out hN6 fun q hq => .inl hq)
                have HB6 : Hid (∀ z, x6.ownBlock = some z → ¬ (F6 z ∨ z = gd ∨ v.ownBlock = some z)) := Lib.hid fun z hz hb => by
                  have h1 := hown6.ge z hz
                  rcases hb with hb | hb | hb
                  · exact hx6 z hz hb
                  · have := HDG.out.blk.lt
                    omega
                  · have := HDG.out.row.lt z hb
                    omega
                have HN6 : Hid (∀ z, (Value.slice Ao d.b.length co).ownBlock = some z → x6.ownBlock ≠ some z) := Lib.hid fun z hz hb => by
                  have h1 := hown6.ge z hb
                  have h2 := HLT.out z hz
                  omega
                obtain ⟨k0', k1', k2', k3', k4', _, _⟩ := HW6.out.x
                have hD6 := hDG _ HW6.out.ds
                have HOwn6 := Lib.hid (hown6.lower (base' := w.heap.size) HW5.out.below.size)
                clear hGet hDG hP6 hA6 hN6 hx6 k0 k1 k2 k3 k4 hown6 k0' k2' k3' k4'
                go_wp2_with fail
                refine hD6.mono ?_
                rintro e w7 ⟨rfl, hD7, hg7⟩
                have HW7 := Lib.hid (HW6.out.doc HK.out hD7 (Apt.of_grown hg7 fun q hq => by injection hq with hq; exact .inl hq.symm) fun q hq => .inl hq)
                have hown7 : Own w7 w.heap.size 5 x6 bs := HOwn6.out.kept hg7 (by
                  cases hq : x6.ownBlock with
                  | none => exact .inl rfl
                  | some z => exact .inr fun e => HB6.out z hq (.inr (.inl (by injection e))))
                have HW7' := Lib.hid (HW7.out.say (X' := fun u => Own u w.heap.size 5 (.slice Ao d.b.length co) d.b ∧ Own u w.heap.size 5 x6 bs) fun u hu => ⟨(HW7.out.kx u hu).2.2.2.2.2.2, hown7.apt hu HB6.out⟩)
                have hst := strOf hown7.bs
                have hbb : ((Bstr bs).toList == (Bstr bs).toList) = true := by simp
                obtain ⟨A6, c6, rfl, hc61, hc62, _, _⟩ := hown7.form
                clear hD6 hD7 hg7 hown7 k1'
                go_wp2_with fail
                clear hst
                go_loopg [18] bs.length (fun gj jv wj => ∃ (j : Nat) (b' : List UInt8), j + gj = bs.length ∧ jv = .int .i64 (j : Int) ∧ Hid (W6 PS (fun u => Own u w.heap.size 5 (.slice Ao d.b.length co) d.b ∧ Own u w.heap.size 5 (.slice A6 bs.length c6) b') w wj F6 g (callS m) gd v (callS m)))
                case atStart => exact ⟨0, bs, by omega, rfl, Lib.hid HW7'.out⟩
                case round =>
                  obtain ⟨j, b', hj, rfl, HJ⟩ := hrel
                  by_cases hjl : j < bs.length
                  · obtain ⟨qo, yn, rfl, hqo, hyl, hcell, hfz⟩ := Own.byte HJ.out.x.2 hjl
                    have hb0 : (0 : Int) ≤ (j : Int) := by omega
                    have hb1 : (j : Int) < (bs.length : Int) := by omega
                    go_wp2_with fail
                    obtain ⟨z, hz⟩ := byte_next yn
                    rw [← hz]
                    obtain ⟨hst', hgs⟩ := Own.put_ HJ.out.x.2 j z
                    have hov' : Own (wr.setCell ⟨qo, j, none⟩ (.int .u8 (z.toNat : Int))) w.heap.size 5 (.slice Ao d.b.length co) d.b := HJ.out.x.1.kept hgs (by
                      cases hq : (Value.slice Ao d.b.length co).ownBlock with
                      | none => exact .inl rfl
                      | some y => exact .inr fun e => HN6.out y hq (by injection e with e; subst e; rfl))
                    have hW' := HJ.out.own HK.out hgs (fun y hy => by injection hy with hy; subst hy; exact ⟨hqo, HB6.out _ rfl⟩) (X' := fun u => Own u w.heap.size 5 (.slice Ao d.b.length co) d.b ∧ Own u w.heap.size 5 (.slice (some ⟨qo, 0, none⟩) bs.length c6) (b'.set j z)) (fun u hu => ⟨hov'.apt hu fun y hy => HOV6.out y hy, hst'.apt hu fun y hy => HB6.out y hy⟩)
                    go_roundg (gk - 1)
                    case measure => omega
                    case rel => exact ⟨j + 1, _, by omega, by go_num, Lib.hid hW'⟩
                  · go_wp2_with fail
                    go_meet
                    case rel => exact ⟨c, F6, callS m, v, rfl, rfl, HR.out.2.2, Lib.hid ⟨HJ.out.say fun u hu => (HJ.out.kx u hu).1, HOV6.out, HR.out.1, HR.out.2.1⟩⟩
            · as_aux_lemma =>
                have hx5 := HW5.out.x
                have hList := HK.out.list (p := d.nm) HW5.out.ps hm5 (by omega) hdn
                have HLT := Lib.hid hx5.2.2.2.2.2.2.blk_lt
                have HDG := Lib.hid HW5.out.ds.blk.lt
                have HR : Hid ((callS m).fine (k + 1) ∧ Good (callS m).l ∧ 0 ≤ (sList m d.nm).2 ∧ (sList m d.nm).2 ≤ 10) := Lib.hid ⟨hm5.call, HM2.out.2, sList_code _ _⟩
                have hDL := fun (u : World) (hu : DS u w.heap.size gd v m) => DList_any w.heap.size gd v m d.nm u hu hok5 hcl5 (by omega)
                generalize sList m d.nm = r at *
                obtain ⟨ns, c⟩ := r
                simp only at hList hDL HR
                clear hx5 hok5 hcl5 hm5 hP0 hP7
                go_wp2_with fail
                refine hList.mono ?_
                rintro e w6 ⟨x6, F6, rfl, hK6, hP6, hA6, hN6⟩
                have HW6 := Lib.hid (HW5.out.prog hP6 hA6 hN6)
                have HOV6 := Lib.hid (apart_more HOV.out HLT.out hN6 fun q hq => .inl hq)
                obtain ⟨k0', k1', k2', k3', k4', _, hown6⟩ := HW6.out.x
                have HLT6 := Lib.hid hown6.blk_lt
                have hD6 := hDL _ HW6.out.ds
                have HK6 := Lib.hid hK6
                clear hList hDL hP6 hA6 hN6 k0 k1 k2 k3 k4 hown6 k0' k2' k3' k4' hK6
                go_wp2_with fail
                refine hD6.mono ?_
                rintro e w7 ⟨x7, rfl, hS7, hD7, hg7⟩
                have hA7 : Apt (fun q => q < w5.heap.size ∨ F6 q) w6 w7 := Apt.of_grown hg7 fun q hq => by injection hq with hq; subst hq; exact .inl HDG.out
                have hS6 : StL w7 x6 ns := HK6.out w7 hA7
                have HW7 := Lib.hid (HW6.out.doc HK.out hD7 (Apt.of_grown hg7 fun q hq => by injection hq with hq; exact .inl hq.symm) fun q hq => .inl hq)
                have hNm := Names_same x6 x7 ns w7 hS6 hS7
                clear hD6 hD7 hA7 hg7 hS6 hS7 k1'
                go_wp2_with fail
                refine hNm.mono ?_
                rintro e w8 ⟨rfl, hb8⟩
                have HW8 := Lib.hid (HW7.out.later HK.out hb8)
                clear hNm hb8
                go_wp2_with fail
                go_meet
                case rel => exact ⟨c, F6, callS m, v, rfl, rfl, HR.out.2.2, Lib.hid ⟨HW8.out.fin, HOV6.out, HR.out.1, HR.out.2.1⟩⟩
            · as_aux_lemma =>
                have hx5 := HW5.out.x
                have hDel := HK.out.del (n := d.nm) HW5.out.ps hm5 (by omega) hdn
                have HLT := Lib.hid hx5.2.2.2.2.2.2.blk_lt
                have HR : Hid ((sDel m d.nm).1.fine (k + 1) ∧ Good (sDel m d.nm).1.l ∧ 0 ≤ (sDel m d.nm).2 ∧ (sDel m d.nm).2 ≤ 10) := Lib.hid ⟨hm5.del _, good_del HM2.out.2 _, sDel_code _ _⟩
                have hDD := fun (u : World) (hu : DS u w.heap.size gd v m) => DDelete_any w.heap.size gd v m d.nm u hu hok5 hcl5
                generalize sDel m d.nm = r at *
                obtain ⟨m', c⟩ := r
                simp only at hDel hDD HR
                clear hx5 hok5 hcl5 hm5 hP0 hP7
                go_wp2_with fail
                refine hDel.mono ?_
                rintro e w6 ⟨rfl, F6, hP6, hA6, hN6⟩
                have HW6 := Lib.hid (HW5.out.prog hP6 hA6 hN6)
                have HOV6 := Lib.hid (apart_more HOV.out HLT.out hN6 fun q hq => .inl hq)
                obtain ⟨k0', k1', k2', k3', k4', _, hown6⟩ := HW6.out.x
                have HLT6 := Lib.hid hown6.blk_lt
                have hD6 := hDD _ HW6.out.ds
                clear hDel hDD hP6 hA6 hN6 k0 k1 k2 k3 k4 hown6 k0' k2' k3' k4'
                go_wp2_with fail
                refine hD6.mono ?_
                rintro e w7 ⟨rfl, v7, hD7, hg7, hN7⟩
                have HW7 := Lib.hid (HW6.out.doc HK.out hD7 (Apt.of_grown hg7 fun q hq => by injection hq with hq; exact .inl hq.symm) hN7)
                have HOV7 := Lib.hid (apart_more HOV6.out HLT6.out (fun q hq => .inl hq) hN7)
                clear hD6 hD7 hg7 hN7 k1'
                go_wp2_with fail
                go_meet
                case rel => exact ⟨c, F6, m', v7, rfl, rfl, HR.out.2.2, Lib.hid ⟨HW7.out.fin, HOV7.out, HR.out.1, HR.out.2.1⟩⟩
            · as_aux_lemma =>
                have hx5 := HW5.out.x
                have hFail := HK.out.fail (n := d.n) HW5.out.ps hm5 hw2.1 hw2.2
                have HLT := Lib.hid hx5.2.2.2.2.2.2.blk_lt
                have HR : Hid ((failS m d.n).fine (k + 1) ∧ Good (failS m d.n).l) := Lib.hid ⟨(hm5.fail _ hw2.2).more (by omega), HM2.out.2⟩
                clear hx5 hok5 hcl5 hm5 hP0 hP7
                go_wp2_with fail
                refine hFail.mono ?_
                rintro e w6 ⟨rfl, F6, hP6, hA6, hN6⟩
                have HW6 := Lib.hid (HW5.out.prog hP6 hA6 hN6)
                have HOV6 := Lib.hid (apart_more HOV.out HLT.out hN6 fun q hq => .inl hq)
                obtain ⟨k0', k1', k2', k3', k4', _, hown6⟩ := HW6.out.x
                have hD6 := Fail_any w.heap.size gd v m d.n _ HW6.out.ds
                clear hFail hP6 hA6 hN6 k0 k1 k2 k3 k4 hown6 k0' k1' k3' k4'
                go_wp2_with fail
                refine hD6.mono ?_
                rintro e w7 ⟨rfl, hD7, hg7⟩
                have HW7 := Lib.hid (HW6.out.doc HK.out hD7 (Apt.of_grown hg7 fun q hq => by injection hq with hq; exact .inl hq.symm) fun q hq => .inl hq)
                clear hD6 hD7 hg7 k2'
                go_wp2_with fail
                go_meet
                case rel => exact ⟨0, F6, failS m d.n, v, rfl, rfl, ⟨by omega, by omega⟩, Lib.hid ⟨HW7.out.fin, HOV6.out, HR.out.1, HR.out.2⟩⟩
            · as_aux_lemma =>
                have hx5 := HW5.out.x
                have hPd := HK.out.keep HW5.out.ps (Apt.of_below (below_drewN (Below.refl w5.heap.size w5) 1))
                have hAlt := HK.out.alt (n := d.nm) (at_ := d.n) (x := d.x) hPd hm5 (by omega) hdn hw2.1 hw2.2 hw3.1 hw3.2
                have HLT := Lib.hid hx5.2.2.2.2.2.2.blk_lt
                have HR : Hid ((sAlt m d.nm d.n (UInt8.ofNat d.x.toNat)).1.fine (k + 1) ∧ Good (sAlt m d.nm d.n (UInt8.ofNat d.x.toNat)).1.l) := Lib.hid ⟨(hm5.alt _ _ _).more (by omega), good_alt HM2.out.2 _ _ _⟩
                have hDA := fun (u : World) (hu : DS u w.heap.size gd v m) => DAlter_any w.heap.size gd v m d.nm d.n d.x u hu hok5 hw3.1 hw3.2
                generalize sAlt m d.nm d.n (UInt8.ofNat d.x.toNat) = r at *
                obtain ⟨m', bb⟩ := r
                simp only at hAlt hDA HR
                have hbb : (bb == bb) = true := by simp
                have HW5d := Lib.hid (HW5.out.later HK.out (below_drewN (Below.refl w5.heap.size w5) 1))
                clear hx5 hok5 hcl5 hm5 hP0 hP7 k0 k1 k2 k3 k4
                go_wp2_with fail
                refine wp_region_mix [(0, false), (1, false), (2, false), (3, false), (4, false), (5, false), (6, false), (8, false), (9, false), (10, false), (11, false), (12, false), (13, false), (14, false), (7, true), (15, true), (16, true)] (Xd gx d (.slice Ad d.b.length cd) (.slice Ao d.b.length co) w.heap.size) (by kernel_rfl) (by kernel_rfl) (by decide +kernel) rfl HW5d.out.x ?_
                repeat
                  (refine mix_read (o := ⟨_, _, _, _, _, _⟩) (v := ?_) rfl (by rfl) (fun w' hS => ?_) ?_
                   rotate_left
                   obtain ⟨hS0, hS1, hS2, hS3, hS4, _, _⟩ := hS
                   go_simp
                   with_reducible rfl
                   try simp only [Act.put, List.setIfInBounds_toArray, List.set_cons_zero, List.set_cons_succ])
                refine mix_step (o := ⟨_, _, _, _, _, _⟩) rfl (fun K hK => ?_)
                go_simp
                refine hAlt.mono ?_
                rintro e w6 ⟨rfl, F6, hP6, hA6, hN6⟩
                have HW6 := Lib.hid (HW5d.out.prog hP6 hA6 hN6)
                have HOV6 := Lib.hid (apart_more HOV.out HLT.out hN6 fun q hq => .inl hq)
                have HLT6 := Lib.hid HW6.out.x.2.2.2.2.2.2.blk_lt
                have hD6 := hDA _ HW6.out.ds
                refine hK.out _ _ HW6.out.x ?_
                clear hK K hAlt hDA hP6 hA6 hN6
                try simp only [Act.put, List.setIfInBounds_toArray, List.set_cons_zero, List.set_cons_succ]
                refine mix_step (o := ⟨_, _, _, _, _, _⟩) rfl (fun K hK => ?_)
                go_simp
                refine hD6.mono ?_
                rintro e w7 ⟨rfl, hD7, hA7⟩
                have HW7 := Lib.hid (HW6.out.doc HK.out hD7 hA7 fun q hq => .inl hq)
                refine hK.out _ _ HW7.out.x ?_
                clear hK K hD6 hD7 hA7
                try simp only [Act.put, List.setIfInBounds_toArray, List.set_cons_zero, List.set_cons_succ]
                refine mix_step (o := ⟨_, _, _, _, _, _⟩) rfl (fun K hK => ?_)
                go_simp
                refine hK.out _ _ HW7.out.x ?_
                clear hK K
                refine mix_done ?_
                go_wp2_with fail
                go_meet
                case rel => exact ⟨0, F6, m', v, rfl, rfl, ⟨by omega, by omega⟩, Lib.hid ⟨HW7.out.fin, HOV6.out, HR.out.1, HR.out.2⟩⟩
          case rest => as_aux_lemma =>
              obtain ⟨c, F', m', v', rfl, rfl, hc, HC⟩ := hcut
              clear k0 k1 k2 k3 k4 hP0 hP7
              go_wp2_with fail
              go_loopg [23] d.b.length (fun gj jv wj => ∃ (j : Nat) (b' : List UInt8), j + gj = d.b.length ∧ jv = .int .i64 (j : Int) ∧ Hid (b'.length = d.b.length) ∧ Hid (W6 PS (fun u => Own u w.heap.size 5 (.slice Ao d.b.length co) b') w wj F' g m' gd v' m'))
              case atStart => exact ⟨0, d.b, by omega, rfl, Lib.hid rfl, Lib.hid HC.out.1⟩
              case round =>
                obtain ⟨j, b', hj, rfl, hb', HJ⟩ := hrel
                by_cases hjl : j < d.b.length
                · obtain ⟨qo, yn, rfl, hqo, hyl, hcell, hfz⟩ := Own.byte HJ.out.x hjl
                  have hb0 : (0 : Int) ≤ (j : Int) := by omega
                  have hb1 : (j : Int) < (d.b.length : Int) := by omega
                  go_wp2_with fail
                  obtain ⟨z, hz⟩ := byte_next yn
                  rw [← hz]
                  obtain ⟨hst', hgs⟩ := Own.put_ HJ.out.x j z
                  have hW' := HJ.out.own HK.out hgs (fun y hy => by injection hy with hy; subst hy; exact ⟨hqo, HC.out.2.1 _ rfl⟩) (X' := fun u => Own u w.heap.size 5 (.slice (some ⟨qo, 0, none⟩) d.b.length co) (b'.set j z)) (fun u hu => hst'.apt hu fun y hy => HC.out.2.1 y hy)
                  go_roundg (gk - 1)
                  case measure => omega
                  case rel => exact ⟨j + 1, _, by omega, by go_num, Lib.hid (by rw [List.length_set]; exact hb'.out), Lib.hid hW'⟩
                · have hps := fun (n : Nat) => HK.out.keep HJ.out.ps (Apt.of_below (below_drewN (Below.refl wr.heap.size wr) n))
                  have hds := fun (n : Nat) => HJ.out.ds.below (below_drewN (Below.refl wr.heap.size wr) n)
                  have e2 := HJ.out.ds.blk.cell 2
                  simp at e2
                  have hcc : (c == c) = true := by simp
                  have hcalls : (m'.calls == m'.calls) = true := by simp
                  have hul : (((usedL m'.l : Nat) : Int) == ((usedL m'.l : Nat) : Int)) = true := by simp
                  have HPS := Lib.hid hps
                  have HDS := Lib.hid hds
                  clear hps hds
                  go_wp2_with fail
                  go_quiet (first
                    | (go_at_call 21; exact (Code_err c _ hc).mono fun _ _ ⟨h1, h2⟩ => ⟨h1, _, h2.symm⟩)
                    | (go_at_call 22; exact (HK.out.callsQ (HPS.out _) HC.out.2.2.1 (by omega)).mono fun _ _ ⟨h1, h2⟩ => ⟨h1, _, h2.symm⟩)
                    | (go_at_call 23; exact (HK.out.usedQ (HPS.out _) HC.out.2.2.1 (by omega)).mono fun _ _ ⟨h1, h2⟩ => ⟨h1, _, h2.symm⟩)
                    | (go_at_call 24; exact (Used_any _ _ _ _ _ (HDS.out _) HC.out.2.2.1.used).mono fun _ _ ⟨h1, h2⟩ => ⟨h1, _, h2.symm⟩))
                  go_wp2_with fail
                  go_roundg gk1
                  case measure => have := HGK.out; omega
                  case rel => exact ⟨k + 1, F', m', v', by have := HKG.out; omega, by go_num, Lib.hid ⟨(HJ.out.later HK.out (below_drewN (Below.refl _ _) _)).say fun _ _ => trivial, HC.out.2.2⟩⟩
        · as_aux_lemma =>
            have hkn : k = l.length := by omega
            have hk100 : k ≤ 100 := by omega
            obtain ⟨A, c, rfl, hc1, hc2⟩ := HM.out.1.ds.form
            have hFail := HK.out.fail (n := -1) HM.out.1.ps HM.out.2.1 (by omega) (by omega)
            have hml : m.l.length ≤ 100 := by have := HM.out.2.1.len; omega
            have HPF : Hid ((failS m (-1)).fine 100 ∧ (failS m (-1)).left = -1) := Lib.hid ⟨(HM.out.2.1.fail (-1) (by omega)).more hk100, rfl⟩
            clear hkn hk100 hk
            go_wp2_with fail
            refine hFail.mono ?_
            rintro e w6 ⟨rfl, F6, hP6, hA6, hN6⟩
            have HW6 := Lib.hid (HM.out.1.prog hP6 hA6 hN6)
            clear hFail hP6 hA6 hN6
            go_wp2_with fail
            go_loopg [24] m.l.length (fun gj jv wj => ∃ (j : Nat) (F' : Nat → Prop) (p : Sm), j + gj = m.l.length ∧ jv = .int .i64 (j : Int) ∧ Hid (W6 PS (fun _ => True) w wj F' g p gd (.slice A m.l.length c) m ∧ p.fine (100 + j) ∧ p.l = m.l ∧ p.left = -1))
            case atStart => exact ⟨0, F6, _, by omega, rfl, Lib.hid ⟨HW6.out, HPF.out.1, rfl, HPF.out.2⟩⟩
            case round =>
              obtain ⟨j, F', p, hj, rfl, HJ⟩ := hrel
              have e3 := HJ.out.1.ds.blk.cell 3
              simp at e3
              by_cases hjl : j < m.l.length
              · obtain ⟨x, hxj⟩ : ∃ x, m.l[j]? = some x := ⟨_, List.getElem?_eq_getElem hjl⟩
                obtain ⟨qd, pd, rfl, hqd, d0, d1⟩ := HJ.out.1.ds.cells hxj
                have hn32 := HM.out.2.2.2 x (List.mem_of_getElem? hxj)
                have hfx : fnd x.nm p.l = some x := by rw [HJ.out.2.2.1]; exact fnd_of_mem HM.out.2.2.1 (List.mem_of_getElem? hxj)
                have hG := sGet_fnd (m := p) (n := x.nm) (by simp [callB, HJ.out.2.2.2]) hfx
                have hGet := HK.out.get (n := x.nm) HJ.out.1.ps HJ.out.2.1 (by omega) (by omega)
                rw [hG] at hGet
                have hb0 : (0 : Int) ≤ (j : Int) := by omega
                have hb1 : (j : Int) < (m.l.length : Int) := by omega
                have HXJ := Lib.hid hxj
                clear hG hfx hxj
                go_wp2_with fail
                refine hGet.mono ?_
                rintro e w7 ⟨x7, F7, rfl, hown7, hP7, hA7, hN7, _⟩
                have HW7 := Lib.hid (HJ.out.1.prog hP7 hA7 hN7)
                have e3' := HW7.out.ds.blk.cell 3
                simp at e3'
                obtain ⟨qe, pe, he, hqe, d0', d1'⟩ := HW7.out.ds.cells HXJ.out
                simp only [Option.some.injEq, Addr.mk.injEq, and_true] at he
                obtain ⟨rfl, rfl⟩ := he
                have hst := fun (n : Nat) => strOf (hown7.bs.drewN n)
                obtain ⟨A7, c7, rfl, _⟩ := hown7.form
                have hbb : ((Bstr x.b).toList == (Bstr x.b).toList) = true := by simp
                clear hGet hown7 hP7 hA7 hN7 e3 d0 d1 d0'
                rw [errV_zero]
                go_wp2_with fail
                go_quiet (fail)
                go_wp2_with fail
                go_roundg (gk - 1)
                case measure => omega
                case rel => exact ⟨j + 1, F7, callS p, by omega, by go_num, Lib.hid ⟨HW7.out.later HK.out (below_drewN (Below.refl _ _) _), HJ.out.2.1.call, HJ.out.2.2.1, callS_left HJ.out.2.2.2⟩⟩
              · go_wp2_with fail
                go_ret
                exact ⟨rfl, HJ.out.1.below⟩

end Go.Proofs.Ytihpnkhkbbakbaa
