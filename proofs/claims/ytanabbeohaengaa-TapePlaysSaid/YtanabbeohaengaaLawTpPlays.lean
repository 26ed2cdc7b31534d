/-
  tankardlaw07.TapePlays, walked over whatever keeps what a tape is to keep ('TapeK'). Conditions: what the theorem says.
-/
import Derived.Test.YtanabbeohaengaaTpB
import Derived.Test.YtanabbeohaengaaRowDe7
import Derived.Deep.DeepCutAuto
namespace Go.Proofs.Ytanabbeohaengaa
open Go.RowKit
set_option maxRecDepth 100000

/-- the document's tape, in its one block -/
def D7 (gd : Nat) (md : Tm) (w : World) (G : Nat → Prop) : Prop := DT w gd md ∧ ∀ q, G q ↔ q = gd
theorem D7.thing (gd : Nat) (md : Tm) : Thing (D7 gd md) where
  keep h ha := ⟨(ha.block gd (Blk.lt h.1) fun hn => hn ((h.2 gd).2 rfl)).trans h.1, h.2⟩
  lt h q hq := by
    rw [(h.2 q).1 hq]
    exact Blk.lt h.1
theorem W2.doc7 {X : World → Prop} {w0 w w' : World} {A : World → (Nat → Prop) → Prop} {F G : Nat → Prop} {gd : Nat} {md md' : Tm} (h : W2 X w0 w A F (D7 gd md) G) (hA : Thing A) (hd : DT w' gd md') (hg : w.grownBy w' (some gd)) : W2 X w0 w' A F (D7 gd md') G :=
  h.stepB hA ⟨hd, h.b.2⟩ (Apt.of_grown hg fun q hq => by injection hq with hq; exact (h.b.2 q).2 hq.symm) fun q hq => .inl hq

/-- what a round holds: the deed's cells in block gx, its bytes, and the copy of them of the law's own -/
def Xd7 (gx : Nat) (d : De7) (dv ov : Value) (base : Nat) (u : World) : Prop :=
  u.cell? ⟨gx, 0, none⟩ = some (.int .i64 d.what) ∧ u.cell? ⟨gx, 1, none⟩ = some (.int .i64 d.n) ∧ u.cell? ⟨gx, 2, none⟩ = some (.bool d.up) ∧ u.cell? ⟨gx, 3, none⟩ = some dv ∧ Bs u dv d.b ∧ Own u base 5 ov d.b
theorem Xd7.keep {gx : Nat} {d : De7} {dv ov : Value} {base : Nat} {w : World} {bad : Nat → Prop} (h : Xd7 gx d dv ov base w) (hgx : gx < w.heap.size) (hbx : ¬ bad gx) (hbd : d.b ≠ [] → ∀ q, dv.ownBlock = some q → ¬ bad q) (hbo : ∀ q, ov.ownBlock = some q → ¬ bad q) : Keep bad (Xd7 gx d dv ov base) w := fun u ha => by
  obtain ⟨h0, h1, h2, h3, h4, h5⟩ := h
  have hc : ∀ j, u.cell? ⟨gx, j, none⟩ = w.cell? ⟨gx, j, none⟩ := fun j => World.cell?_of_block (ha.block gx hgx hbx)
  exact ⟨(hc 0).trans h0, (hc 1).trans h1, (hc 2).trans h2, (hc 3).trans h3, h4.apt ha hbd, h5.apt ha hbo⟩
theorem W2.fin7 {A B : World → (Nat → Prop) → Prop} {w0 w : World} {F G : Nat → Prop} {gx base : Nat} {dv ov : Value} {d : De7} (h : W2 (Xd7 gx d dv ov base) w0 w A F B G) : W2 (fun u => Own u base 5 ov d.b) w0 w A F B G :=
  h.say fun u hu => (h.kx u hu).2.2.2.2.2

/-- one of n -/
def pick7 (c n : Int) : Int := (if c < 0 then -(c + 1) else c) % n
set_option maxHeartbeats 800000 in
theorem pick7_any (c n : Int) (w : World) (h0 : -9223372036854775808 ≤ c) (h1 : c ≤ 9223372036854775807) (hn : 0 < n) (hn1 : n ≤ 1000) :
    Calls Try.prog 7 #[.int .i64 c, .int .i64 n] w fun e w' => e = .returned (.int .i64 (pick7 c n)) ∧ w = w' := by
  by_cases hc : c < 0
  · have hp : Hid (pick7 c n = -((c + 1).tmod n)) := Lib.hid (by rw [pick7, if_pos hc, ← Int.neg_tmod, Int.tmod_eq_emod_of_nonneg (by omega)])
    go_enter Try.func7, Try.ntmps7
    go_wp2_with fail
    go_ret
    exact ⟨ret_int hp.out.symm, rfl⟩
  · have hp : Hid (pick7 c n = c % n) := Lib.hid (by rw [pick7, if_neg hc])
    go_enter Try.func7, Try.ntmps7
    go_wp2_with fail
    go_ret
    exact ⟨ret_int hp.out.symm, rfl⟩

theorem tAppend_code (m : Tm) (b : List UInt8) : 0 ≤ (tAppend m b).2 ∧ (tAppend m b).2 ≤ 10 := by
  have := tCall_code m
  unfold tAppend
  split
  · split <;> simp
  · rcases this with h | h | h <;> rw [h] <;> omega
theorem tSync_code (m : Tm) : 0 ≤ (tSync m).2 ∧ (tSync m).2 ≤ 10 := by
  have := tCall_code m
  unfold tSync
  split
  · simp
  · rcases this with h | h | h <;> rw [h] <;> omega
theorem tCut_code (m : Tm) (n : Int) : 0 ≤ (tCut m n).2 ∧ (tCut m n).2 ≤ 10 := by
  unfold tCut
  split
  · simp
  · split <;> simp

set_option maxHeartbeats 6400000 in
theorem tapePlays_any {PT : World → (Nat → Prop) → Nat → Tm → Prop} (hK : TapeK PT) (room : Int) (vl : Value) (l : List De7) (w : World) (hl : Ds7 w vl l) (hr0 : -9223372036854775808 ≤ room) (hr1 : room ≤ 9223372036854775807) :
    Calls Try.prog 3 #[.int .i64 room, vl] w fun e w' => e = .returned (.bool true) ∧ Below w.heap.size w w' := by
  have HK := Lib.hid hK
  have HL := Lib.hid hl
  have eqc := eqCode
  have neq_ := neCode
  obtain ⟨Al, cl, rfl, hcl1, hcl2⟩ := hl.form
  clear hl hK
  by_cases hroom : room < 1 ∨ 1048576 < room
  · have hNew := fun u => HK.out.new_no room u hroom
    go_enter Try.func3, Try.ntmps3
    go_wp2_with fail
    refine (up7_any HK.out _).mono ?_
    rintro e w1 ⟨rfl, hb1⟩
    go_wp2_with fail
    refine (hNew _).mono ?_
    rintro e w2 ⟨rfl, hb2⟩
    clear hNew
    rcases hroom with h | h
    · go_wp2_with fail
      go_ret
      exact ⟨rfl, hb1.trans (hb2.mono hb1.size)⟩
    · go_wp2_with fail
      go_ret
      exact ⟨rfl, hb1.trans (hb2.mono hb1.size)⟩
  · have h1 : 1 ≤ room := by omega
    have h2 : room ≤ 1048576 := by omega
    have hNew := fun u => HK.out.new_ok room u h1 h2
    clear hroom
    go_enter Try.func3, Try.ntmps3
    go_wp2_with fail
    refine (up7_any HK.out _).mono ?_
    rintro e w1 ⟨rfl, hb1⟩
    go_wp2_with fail
    refine (hNew _).mono ?_
    rintro e w2 ⟨g, F, rfl, hPT, hb2, hF⟩
    have hB2 := hb1.trans (hb2.mono hb1.size)
    have hF2 : ∀ q, F q → w.heap.size ≤ q := fun q hq => Nat.le_trans hb1.size (hF q hq)
    clear hNew hb1 hb2 hF
    by_cases hll : 100 < l.length
    · go_wp2_with fail
      go_ret
      exact ⟨rfl, hB2⟩
    · have ha2 : Below w2.heap.size w2 (w2.alloc (.cells #[.int .i64 room, .int .i64 0, .int .i64 (-1), .string ⟨#[]⟩, .bool false] 32)) := (Below.refl _ _).alloc (Nat.le_refl _) _
      have hD0 : DT (w2.alloc (.cells #[.int .i64 room, .int .i64 0, .int .i64 (-1), .string ⟨#[]⟩, .bool false] 32)) w2.heap.size ⟨room, 0, -1, [], false⟩ := Blk.new _ _ _
      have hW0 : W2 (fun _ => True) w (w2.alloc (.cells #[.int .i64 room, .int .i64 0, .int .i64 (-1), .string ⟨#[]⟩, .bool false] 32)) (fun w F => PT w F g ⟨room, 0, -1, [], false⟩) F (D7 w2.heap.size ⟨room, 0, -1, [], false⟩) (fun q => q = w2.heap.size) :=
        ⟨hB2.trans (ha2.mono hB2.size), HK.out.later hPT ha2, ⟨hD0, fun q => Iff.rfl⟩, hF2, fun q hq => by rw [hq]; exact hB2.size, fun q hq hG => by have := (HK.out.thing _ _).lt hPT q hq; omega, fun _ _ => trivial⟩
      have hf0 : (⟨room, 0, -1, [], false⟩ : Tm).fine := ⟨by simp only; omega, by simp only; omega, by simp; omega, by simp, by simp, by simp⟩
      have HW0 := Lib.hid hW0
      have HF0 := Lib.hid hf0
      clear hD0 ha2 hW0 hf0 hB2 hF2 hPT
      go_wp2_with fail
      generalize w2.heap.size = gd at *
      go_loopg [9] l.length (fun gk iv wr => ∃ (k : Nat) (F : Nat → Prop) (m : Tm), k + gk = l.length ∧ iv = .int .i64 (k : Int) ∧ Hid (W2 (fun _ => True) w wr (fun w F => PT w F g m) F (D7 gd m) (fun q => q = gd) ∧ m.fine))
      case atStart => exact ⟨0, F, _, by omega, rfl, Lib.hid ⟨HW0.out, HF0.out⟩⟩
      case round =>
        obtain ⟨k, F, m, hk, rfl, HM⟩ := hrel
        by_cases hlt : k < l.length
        · obtain ⟨gk1, hgk1⟩ : ∃ x, gk = x + 1 := ⟨gk - 1, by omega⟩
          have HGK := Lib.hid hgk1
          have HKG : Hid (k + (gk1 + 1) = l.length) := Lib.hid (by omega)
          clear hgk1 hk
          obtain ⟨d, hkd⟩ : ∃ d, l[k]? = some d := ⟨_, List.getElem?_eq_getElem hlt⟩
          obtain ⟨q, o, dv, rfl, hq, x0, x1, x2, x3, hdb, hw1, hw2⟩ := HL.out.cells hkd
          have hB := HM.out.1.below
          have c0 := (hB.cell (p := ⟨q, o + k * 4, none⟩) hq).trans x0
          have c1 := (hB.cell (p := ⟨q, o + k * 4 + 1, none⟩) hq).trans x1
          have c2 := (hB.cell (p := ⟨q, o + k * 4 + 2, none⟩) hq).trans x2
          have c3 := (hB.cell (p := ⟨q, o + k * 4 + 3, none⟩) hq).trans x3
          have HDB := Lib.hid (hdb.below hB)
          have HDB0 := Lib.hid hdb
          obtain ⟨Ad, cd, rfl, hd1, hd2, _⟩ := hdb
          have HBl := Lib.hid hB
          clear hkd x0 x1 x2 x3 hB
          by_cases hbl : 500 < d.b.length
          · as_aux_lemma =>
              go_wp2_with fail
              go_ret
              exact ⟨rfl, HBl.out.alloc HBl.out.size _⟩
          have hown0 := (Own.made (wr.alloc (.cells #[.int .i64 d.what, .int .i64 d.n, .bool d.up, .slice Ad d.b.length cd] 35)) (wr.heap.size + 1) 5 #[] 0 (by simp) (by simp [maxLen]) rfl)
          rw [show (wr.alloc (.cells #[.int .i64 d.what, .int .i64 d.n, .bool d.up, .slice Ad d.b.length cd] 35)).heap.size = wr.heap.size + 1 from by simp] at hown0
          have HOwn0 := Lib.hid hown0
          have hbw : Below wr.heap.size wr ((wr.alloc (.cells #[.int .i64 d.what, .int .i64 d.n, .bool d.up, .slice Ad d.b.length cd] 35)).alloc (.cells #[] 5)) := ((Below.refl _ wr).alloc (Nat.le_refl _) _).alloc (by simp) _
          have HBW := Lib.hid hbw
          have hsz2 : wr.heap.size + 1 ≤ ((wr.alloc (.cells #[.int .i64 d.what, .int .i64 d.n, .bool d.up, .slice Ad d.b.length cd] 35)).alloc (.cells #[] 5)).heap.size := by simp
          clear hbw hown0
          go_wp2_with (at_builtin; refine wpList_append_v _ byteT rfl _ _ rfl (wr.heap.size + 1) _ [] rfl HOwn0.out _ d.b rfl (HDB.out.below HBW.out) (by simp; omega) hsz2 ?_)
          intro ov w5 ho5 hg5 _
          have hbw5 : Below wr.heap.size wr w5 := HBW.out.grown hg5 HBW.out.size (fun z hz => by simp [Value.ownBlock] at hz; omega)
          have hcx : Blk w5 wr.heap.size 35 #[.int .i64 d.what, .int .i64 d.n, .bool d.up, .slice Ad d.b.length cd] :=
            ((Blk.new wr _ _).alloc _).grown hg5 (by simp [Value.ownBlock])
          have k0 := hcx.cell 0
          have k1 := hcx.cell 1
          have k2 := hcx.cell 2
          have k3 := hcx.cell 3
          simp at k0 k1 k2 k3
          have hbadw := HM.out.1.bad_lt (HK.out.thing _ _) (D7.thing _ _)
          have hbadg := HM.out.1.bad_ge
          have hX : Xd7 wr.heap.size d (.slice Ad d.b.length cd) ov w.heap.size w5 := ⟨k0, k1, k2, k3, HDB.out.below hbw5, ho5.lower (by have := HBl.out.size; omega)⟩
          have hov : ∀ z, ov.ownBlock = some z → ¬ (F z ∨ z = gd) := fun z hz hb => by
            have := ho5.ge z hz
            have := hbadw z hb
            omega
          have hXK := hX.keep (bad := fun z => F z ∨ z = gd) hcx.lt (fun hb => Nat.lt_irrefl _ (hbadw _ hb)) (fun hne z hz hb => by
            have h1 := hbadg z hb
            obtain ⟨y, hy, hy'⟩ := HDB0.out.block hne
            rw [hy] at hz
            injection hz with hz
            omega) hov
          have hW5 := HM.out.1.own (row := none) (HK.out.thing _ _) (D7.thing _ _) (grown_of_below hbw5 _) (fun z hz => by cases hz) hXK
          have HW5 := Lib.hid hW5
          have HOV := Lib.hid hov
          have HM2 := Lib.hid HM.out.2
          have hPk := fun u => pick7_any d.what 6 u hw1.1 hw1.2 (by omega) (by omega)
          have hP0 : 0 ≤ pick7 d.what 6 := by unfold pick7; omega
          have hP7 : pick7 d.what 6 < 6 := by unfold pick7; omega
          generalize pick7 d.what 6 = pk at *
          generalize wr.heap.size = gx at *
          obtain ⟨Ao, co, rfl, ho1, ho2, _, _⟩ := ho5.form
          clear ho5 hg5 hbw5 hcx hbadw hbadg hX hov hXK hW5 HM HOwn0 HBW hsz2 c0 c1 c2 c3 HDB HDB0
          go_wp2_with fail
          refine (hPk _).mono ?_
          rintro e w6 ⟨rfl, rfl⟩
          clear hPk
          go_simp
          go_step
          go_step
          go_simp
          go_step
          go_cut [12, 13] (fun cv ev wc => ∃ (c : Int) (F' : Nat → Prop) (m' : Tm), cv = .int .i64 c ∧ ev = errV c ∧ (0 ≤ c ∧ c ≤ 10) ∧ Hid (W2 (fun u => Own u w.heap.size 5 (.slice Ao d.b.length co) d.b) w wc (fun w F => PT w F g m') F' (D7 gd m') (fun q => q = gd) ∧ (∀ z, (Value.slice Ao d.b.length co).ownBlock = some z → ¬ (F' z ∨ z = gd)) ∧ m'.fine))
          case first =>
            have hm5 := HM2.out
            rcases (by omega : (pk = 0 ∨ pk = 1) ∨ pk = 2 ∨ pk = 3 ∨ pk = 4 ∨ pk = 5) with hpk | rfl | rfl | rfl | rfl
            · as_aux_lemma =>
                have hx5 := HW5.out.x
                have hApp := HK.out.append HW5.out.a hm5 hx5.2.2.2.2.2.bs (fun _ z hz hF => HOV.out z hz (.inl hF)) (by omega)
                have HLT := Lib.hid hx5.2.2.2.2.2.blk_lt
                have HR : Hid ((tAppend m d.b).1.fine ∧ 0 ≤ (tAppend m d.b).2 ∧ (tAppend m d.b).2 ≤ 10) := Lib.hid ⟨hm5.append _, tAppend_code _ _⟩
                have hDA := fun (u : World) (hu : DT u gd m) => dappend_any d.b hu hm5 (by omega)
                generalize tAppend m d.b = r at *
                obtain ⟨m', c⟩ := r
                simp only at hApp hDA HR
                clear hx5 hm5 hP0 hP7
                rcases hpk with rfl | rfl
                all_goals
                  go_wp2_with fail
                  refine hApp.mono ?_
                  rintro e w6 ⟨rfl, F6, hP6, hA6, hN6⟩
                  have HW6 := Lib.hid (HW5.out.stepA (A' := fun w F => PT w F g m') (HK.out.thing _ _) (D7.thing _ _) hP6 hA6 hN6)
                  have HOV6 := Lib.hid (apart_two HOV.out HLT.out hN6 fun q hq => .inl hq)
                  obtain ⟨k0', k1', k2', k3', hbs6, _⟩ := HW6.out.x
                  have hst := strOf hbs6
                  have hD6 := hDA _ HW6.out.b.1
                  clear hApp hDA hP6 hA6 hN6 k0 k1 k2 k3 hbs6 k0' k1' k2'
                  go_wp2_with fail
                  refine hD6.mono ?_
                  rintro e w7 ⟨rfl, hD7, hg7⟩
                  have HW7 := Lib.hid (HW6.out.doc7 (HK.out.thing _ _) hD7 hg7)
                  clear hD6 hD7 hg7 hst k3'
                  go_wp2_with fail
                  go_meet
                  case rel => exact ⟨c, F6, m', rfl, rfl, HR.out.2, Lib.hid ⟨HW7.out.fin7, HOV6.out, HR.out.1⟩⟩
            · as_aux_lemma =>
                have hx5 := HW5.out.x
                have hSyn := HK.out.sync HW5.out.a hm5
                have HLT := Lib.hid hx5.2.2.2.2.2.blk_lt
                have HR : Hid ((tSync m).1.fine ∧ 0 ≤ (tSync m).2 ∧ (tSync m).2 ≤ 10) := Lib.hid ⟨hm5.syn, tSync_code _⟩
                have hDS := fun (u : World) (hu : DT u gd m) => dsync_any hu hm5
                generalize tSync m = r at *
                obtain ⟨m', c⟩ := r
                simp only at hSyn hDS HR
                clear hx5 hm5 hP0 hP7 k0 k1 k2 k3
                go_wp2_with fail
                refine hSyn.mono ?_
                rintro e w6 ⟨rfl, F6, hP6, hA6, hN6⟩
                have HW6 := Lib.hid (HW5.out.stepA (A' := fun w F => PT w F g m') (HK.out.thing _ _) (D7.thing _ _) hP6 hA6 hN6)
                have HOV6 := Lib.hid (apart_two HOV.out HLT.out hN6 fun q hq => .inl hq)
                have hD6 := hDS _ HW6.out.b.1
                clear hSyn hDS hP6 hA6 hN6
                go_wp2_with fail
                refine hD6.mono ?_
                rintro e w7 ⟨rfl, hD7, hg7⟩
                have HW7 := Lib.hid (HW6.out.doc7 (HK.out.thing _ _) hD7 hg7)
                clear hD6 hD7 hg7
                go_wp2_with fail
                go_meet
                case rel => exact ⟨c, F6, m', rfl, rfl, HR.out.2, Lib.hid ⟨HW7.out.fin7, HOV6.out, HR.out.1⟩⟩
            · as_aux_lemma =>
                have hx5 := HW5.out.x
                have hCut := HK.out.cut (n := d.n) HW5.out.a hm5 hw2.1 hw2.2
                have HLT := Lib.hid hx5.2.2.2.2.2.blk_lt
                have HR : Hid ((tCut m d.n).1.fine ∧ 0 ≤ (tCut m d.n).2 ∧ (tCut m d.n).2 ≤ 10) := Lib.hid ⟨hm5.cut _, tCut_code _ _⟩
                have hDC := fun (u : World) (hu : DT u gd m) => dcut_any d.n hu hw2.1 hw2.2
                generalize tCut m d.n = r at *
                obtain ⟨m', c⟩ := r
                simp only at hCut hDC HR
                clear hx5 hm5 hP0 hP7
                go_wp2_with fail
                refine hCut.mono ?_
                rintro e w6 ⟨rfl, F6, hP6, hA6, hN6⟩
                have HW6 := Lib.hid (HW5.out.stepA (A' := fun w F => PT w F g m') (HK.out.thing _ _) (D7.thing _ _) hP6 hA6 hN6)
                have HOV6 := Lib.hid (apart_two HOV.out HLT.out hN6 fun q hq => .inl hq)
                obtain ⟨k0', k1', k2', k3', _, _⟩ := HW6.out.x
                have hD6 := hDC _ HW6.out.b.1
                clear hCut hDC hP6 hA6 hN6 k0 k1 k2 k3 k0' k2' k3'
                go_wp2_with fail
                refine hD6.mono ?_
                rintro e w7 ⟨rfl, hD7, hg7⟩
                have HW7 := Lib.hid (HW6.out.doc7 (HK.out.thing _ _) hD7 hg7)
                clear hD6 hD7 hg7 k1'
                go_wp2_with fail
                go_meet
                case rel => exact ⟨c, F6, m', rfl, rfl, HR.out.2, Lib.hid ⟨HW7.out.fin7, HOV6.out, HR.out.1⟩⟩
            · as_aux_lemma =>
                have hx5 := HW5.out.x
                have hFail := HK.out.fail (n := d.n) HW5.out.a hm5 hw2.1 hw2.2
                have HLT := Lib.hid hx5.2.2.2.2.2.blk_lt
                have HR := Lib.hid (hm5.fail d.n hw2.2)
                clear hx5 hm5 hP0 hP7
                go_wp2_with fail
                refine hFail.mono ?_
                rintro e w6 ⟨rfl, F6, hP6, hA6, hN6⟩
                have HW6 := Lib.hid (HW5.out.stepA (A' := fun w F => PT w F g (tFail m d.n)) (HK.out.thing _ _) (D7.thing _ _) hP6 hA6 hN6)
                have HOV6 := Lib.hid (apart_two HOV.out HLT.out hN6 fun q hq => .inl hq)
                obtain ⟨k0', k1', k2', k3', _, _⟩ := HW6.out.x
                have p2 := Blk.cell HW6.out.b.1 2
                have f2 := Blk.frozen HW6.out.b.1 2
                simp at p2
                have hW7 := HW6.out.doc7 (HK.out.thing _ _) (HW6.out.b.1.left_ d.n) (grown_set _ _ _ _)
                have HW7 := Lib.hid hW7
                obtain ⟨_, k1'', _, _, _, _⟩ := HW7.out.x
                clear hFail hP6 hA6 hN6 k0 k1 k2 k3 k0' k2' k3' hW7
                by_cases hneg : d.n < 0
                · have hm' : Hid (tFail m d.n = { m with left := -1 }) := Lib.hid (by rw [tFail, if_pos hneg])
                  have HW8 := Lib.hid (HW7.out.doc7 (HK.out.thing _ _) (HW7.out.b.1.left_ (-1)) (grown_set _ _ _ _))
                  go_wp2_with fail
                  go_meet
                  case rel => exact ⟨0, F6, tFail m d.n, rfl, rfl, ⟨by omega, by omega⟩, Lib.hid ⟨by
                    have := HW8.out.fin7
                    rw [hm'.out] at this ⊢
                    exact this, HOV6.out, HR.out⟩⟩
                · have hm' : Hid (tFail m d.n = { m with left := d.n }) := Lib.hid (by rw [tFail, if_neg hneg])
                  go_wp2_with fail
                  go_meet
                  case rel => exact ⟨0, F6, tFail m d.n, rfl, rfl, ⟨by omega, by omega⟩, Lib.hid ⟨by
                    have := HW7.out.fin7
                    rw [hm'.out] at this ⊢
                    exact this, HOV6.out, HR.out⟩⟩
            · as_aux_lemma =>
                have hx5 := HW5.out.x
                have hCr := HK.out.crash (n := d.n) HW5.out.a hm5 hw2.1 hw2.2
                have HLT := Lib.hid hx5.2.2.2.2.2.blk_lt
                have HR := Lib.hid (hm5.crash d.n)
                have hDC := fun (u : World) (hu : DT u gd m) => dcrash_any d.n hu hm5 hw2.1 hw2.2
                generalize tCrash m d.n = m' at *
                clear hx5 hm5 hP0 hP7
                go_wp2_with fail
                refine hCr.mono ?_
                rintro e w6 ⟨rfl, F6, hP6, hA6, hN6⟩
                have HW6 := Lib.hid (HW5.out.stepA (A' := fun w F => PT w F g m') (HK.out.thing _ _) (D7.thing _ _) hP6 hA6 hN6)
                have HOV6 := Lib.hid (apart_two HOV.out HLT.out hN6 fun q hq => .inl hq)
                obtain ⟨k0', k1', k2', k3', _, hown6⟩ := HW6.out.x
                have HLT6 := Lib.hid hown6.blk_lt
                have hD6 := hDC _ HW6.out.b.1
                clear hCr hDC hP6 hA6 hN6 k0 k1 k2 k3 k0' k2' k3' hown6
                go_wp2_with fail
                refine hD6.mono ?_
                rintro e w7 ⟨rfl, hD7, hg7⟩
                have HW7 := Lib.hid (HW6.out.doc7 (HK.out.thing _ _) hD7 hg7)
                obtain ⟨_, _, k2'', _, _, hown7⟩ := HW7.out.x
                have HLT7 := Lib.hid hown7.blk_lt
                clear hD6 hD7 hg7 k1' hown7
                cases hup : d.up with
                | false =>
                  rw [hup] at k2''
                  go_wp2_with fail
                  go_meet
                  case rel => exact ⟨0, F6, m', rfl, rfl, ⟨by omega, by omega⟩, Lib.hid ⟨HW7.out.fin7, HOV6.out, HR.out⟩⟩
                | true =>
                  rw [hup] at k2''
                  have hU := HK.out.up HW7.out.a HR.out
                  have HR8 := Lib.hid HR.out.up
                  go_wp2_with fail
                  refine hU.mono ?_
                  rintro e w8 ⟨rfl, F8, hP8, hA8, hN8⟩
                  have HW8 := Lib.hid (HW7.out.stepA (A' := fun w F => PT w F g (tUp m')) (HK.out.thing _ _) (D7.thing _ _) hP8 hA8 hN8)
                  have HOV8 := Lib.hid (apart_two HOV6.out HLT7.out hN8 fun q hq => .inl hq)
                  have p4 := Blk.cell HW8.out.b.1 4
                  have f4 := Blk.frozen HW8.out.b.1 4
                  simp at p4
                  have HW9 := Lib.hid (HW8.out.doc7 (HK.out.thing _ _) (HW8.out.b.1.down_ false) (grown_set _ _ _ _))
                  clear hU hP8 hA8 hN8 k2''
                  go_wp2_with fail
                  go_meet
                  case rel => exact ⟨0, F8, tUp m', rfl, rfl, ⟨by omega, by omega⟩, Lib.hid ⟨HW9.out.fin7, HOV8.out, HR8.out⟩⟩
          case rest => as_aux_lemma =>
              obtain ⟨c, F', m', rfl, rfl, hc, HC⟩ := hcut
              clear k0 k1 k2 k3 hP0 hP7
              go_wp2_with fail
              go_loopg [14] d.b.length (fun gj jv wj => ∃ (j : Nat) (b' : List UInt8), j + gj = d.b.length ∧ jv = .int .i64 (j : Int) ∧ Hid (W2 (fun u => Own u w.heap.size 5 (.slice Ao d.b.length co) b') w wj (fun w F => PT w F g m') F' (D7 gd m') (fun q => q = gd)))
              case atStart => exact ⟨0, d.b, by omega, rfl, Lib.hid HC.out.1⟩
              case round =>
                obtain ⟨j, b', hj, rfl, HJ⟩ := hrel
                by_cases hjl : j < d.b.length
                · obtain ⟨qo, yn, rfl, hqo, hyl, hcell, hfz⟩ := Own.byte HJ.out.x hjl
                  have hb0 : (0 : Int) ≤ (j : Int) := by omega
                  have hb1 : (j : Int) < (d.b.length : Int) := by omega
                  go_wp2_with fail
                  obtain ⟨z, hz⟩ := byte_next yn
                  rw [← hz]
                  obtain ⟨hst', hgs⟩ := Own.put_ HJ.out.x j z
                  have hW' := HJ.out.own (HK.out.thing _ _) (D7.thing _ _) hgs (fun y hy => by injection hy with hy; subst hy; exact ⟨hqo, HC.out.2.1 _ rfl⟩) (X' := fun u => Own u w.heap.size 5 (.slice (some ⟨qo, 0, none⟩) d.b.length co) (b'.set j z)) (fun u hu => hst'.apt hu fun y hy => HC.out.2.1 y hy)
                  go_roundg (gk - 1)
                  case measure => omega
                  case rel => exact ⟨j + 1, _, by omega, by go_num, Lib.hid hW'⟩
                · have hRd := HK.out.read HJ.out.a HC.out.2.2
                  have hcc : (c == c) = true := by simp
                  go_wp2_with fail
                  refine hRd.mono ?_
                  rintro e w8 ⟨x8, F8, rfl, hown8, hP8, hA8, hN8, _⟩
                  have HW8 := Lib.hid (HJ.out.stepA (A' := fun w F => PT w F g m') (HK.out.thing _ _) (D7.thing _ _) hP8 hA8 hN8)
                  have p3 := Blk.cell HW8.out.b.1 3
                  have p4 := Blk.cell HW8.out.b.1 4
                  simp at p3 p4
                  clear hRd hP8 hA8 hN8
                  cases hdn : m'.down with
                  | true =>
                    have er : tRead m' = ([], 9) := by rw [tRead, if_pos hdn]
                    rw [er] at hown8 ⊢
                    rw [hdn] at p4
                    obtain ⟨A8, c8, rfl, _⟩ := hown8.form
                    clear hown8 er hdn
                    rw [errV_code (by omega)]
                    go_wp2_with fail
                    refine (Code_err c _ hc).mono ?_
                    rintro e w9 ⟨rfl, rfl⟩
                    go_wp2_with fail
                    go_roundg gk1
                    case measure => have := HGK.out; omega
                    case rel => exact ⟨k + 1, F8, m', by have := HKG.out; omega, by go_num, Lib.hid ⟨HW8.out.say fun _ _ => trivial, HC.out.2.2⟩⟩
                  | false =>
                    have er : tRead m' = (m'.b, 0) := by rw [tRead, if_neg (by rw [hdn]; simp)]
                    rw [er] at hown8 ⊢
                    rw [hdn] at p4
                    have hst := fun n : Nat => strOf (hown8.bs.drewN n)
                    obtain ⟨A8, c8, rfl, _⟩ := hown8.form
                    have hbb : ((Bstr m'.b).toList == (Bstr m'.b).toList) = true := by simp
                    clear hown8 er hdn
                    rw [errV_zero]
                    go_wp2_with fail
                    go_quiet (fail)
                    go_wp2_with fail
                    refine (Code_err c _ hc).mono ?_
                    rintro e w9 ⟨rfl, rfl⟩
                    go_wp2_with fail
                    go_roundg gk1
                    case measure => have := HGK.out; omega
                    case rel => exact ⟨k + 1, F8, m', by have := HKG.out; omega, by go_num, Lib.hid ⟨(HW8.out.later (HK.out.thing _ _) (D7.thing _ _) (below_drewN (Below.refl _ _) _)).say fun _ _ => trivial, HC.out.2.2⟩⟩
        · as_aux_lemma =>
            go_wp2_with fail
            go_ret
            exact ⟨rfl, HM.out.1.below⟩

end Go.Proofs.Ytanabbeohaengaa
