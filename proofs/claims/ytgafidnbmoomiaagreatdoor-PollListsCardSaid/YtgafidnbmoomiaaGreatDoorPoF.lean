/-
  PollSteps, walked over PollK. Conditions: what it says.
-/
import Derived.Test.YtgafidnbmoomiaaGreatDoorPoD
namespace Go.Proofs.YtgafidnbmoomiaaGreatDoor
open Go.RowKit
set_option maxRecDepth 100000

def pickI18 (c n : Int) : Int := (if c < 0 then -(c + 1) else c) % n

theorem plStep_runs (m : Sm) (q : Pl) : (plStep m q).2.2.runs ≤ q.runs + 1 := by
  have h := plGo_runs m q
  rw [plStep]
  generalize (plGo m q).1 = c
  revert h
  generalize (plGo m q).2 = p
  intro h
  unfold plEnd
  split
  · simp only; omega
  · split
    · simp only; omega
    · split
      · simp only; omega
      · simp only; omega

structure Pd where
  what : Int
  n : Int
  nm : List UInt8
  b : List UInt8

def PdC (w : World) (d : Pd) (x : List Value) : Prop := (-9223372036854775808 ≤ d.what ∧ d.what ≤ 9223372036854775807) ∧ (-9223372036854775808 ≤ d.n ∧ d.n ≤ 9223372036854775807) ∧ d.nm.length ≤ 9223372036854775807 ∧ ∃ v, x = [.int .i64 d.what, .int .i64 d.n, .string (Bstr d.nm), v] ∧ Bs w v d.b

def Pds (w : World) (v : Value) (l : List Pd) : Prop := ∃ xs, Lv 4 w v xs ∧ Two (PdC w) l xs

theorem Pds.form {w : World} {v : Value} {l : List Pd} (h : Pds w v l) : ∃ A c, v = .slice A l.length c ∧ l.length ≤ c ∧ c ≤ 9223372036854775807 := by
  obtain ⟨xs, h1, h2⟩ := h
  obtain ⟨A, c, hv, h3, h4⟩ := h1.form
  rw [← h2.len] at hv h3
  exact ⟨A, c, hv, h3, h4⟩

theorem Pds.cells {w : World} {A : Option Addr} {n c : Nat} {l : List Pd} (h : Pds w (.slice A n c) l) {i : Nat} {p : Pd} (hi : l[i]? = some p) :
    ∃ g o v, A = some ⟨g, o, none⟩ ∧ g < w.heap.size ∧ w.cell? ⟨g, o + i * 4, none⟩ = some (.int .i64 p.what) ∧ w.cell? ⟨g, o + i * 4 + 1, none⟩ = some (.int .i64 p.n) ∧ w.cell? ⟨g, o + i * 4 + 2, none⟩ = some (.string (Bstr p.nm)) ∧ w.cell? ⟨g, o + i * 4 + 3, none⟩ = some v ∧ Bs w v p.b ∧ (-9223372036854775808 ≤ p.what ∧ p.what ≤ 9223372036854775807) ∧ (-9223372036854775808 ≤ p.n ∧ p.n ≤ 9223372036854775807) ∧ p.nm.length ≤ 9223372036854775807 := by
  obtain ⟨xs, h1, h2⟩ := h
  obtain ⟨x, hx, hw, hn, hl, v, rfl, hb⟩ := h2.right hi
  obtain ⟨g, o, hA, hg, hc⟩ := h1.cells (by omega) hx
  exact ⟨g, o, v, hA, hg, hc 0 _ rfl, hc 1 _ rfl, hc 2 _ rfl, hc 3 _ rfl, hb, hw, hn, hl⟩

set_option maxHeartbeats 800000 in
theorem pick18_any (c n : Int) (w : World) (h0 : -9223372036854775808 ≤ c) (h1 : c ≤ 9223372036854775807) (hn : 0 < n) (hn1 : n ≤ 1000) :
    Calls Tryz.prog 8 #[.int .i64 c, .int .i64 n] w fun e w' => e = .returned (.int .i64 (pickI18 c n)) ∧ w = w' := by
  by_cases hc : c < 0
  · have hp : Hid (pickI18 c n = -((c + 1).tmod n)) := Lib.hid (by rw [pickI18, if_pos hc, ← Int.neg_tmod, Int.tmod_eq_emod_of_nonneg (by omega)])
    go_enter Tryz.func8, Tryz.ntmps8
    go_wp2_with fail
    go_ret
    exact ⟨ret_int hp.out.symm, rfl⟩
  · have hp : Hid (pickI18 c n = c % n) := Lib.hid (by rw [pickI18, if_neg hc])
    go_enter Tryz.func8, Tryz.ntmps8
    go_wp2_with fail
    go_ret
    exact ⟨ret_int hp.out.symm, rfl⟩

def D18 (y z : Nat) (m : Sm) (cs : Array Value) : World → (Nat → Prop) → Prop := fun w G => ∃ v, DS w y y v m ∧ Blk w z 41 cs ∧ z ≠ y ∧ v.ownBlock ≠ some z ∧ G = fun x => x = z ∨ yF y v x

theorem D18_thing (y z : Nat) (m : Sm) (cs : Array Value) : Thing (D18 y z m cs) := ⟨fun ⟨v, h, hB, h1, h2, e⟩ ha => ⟨v, by
    subst e
    exact ⟨(ha.block y h.blk.lt fun hn => hn (.inr (.inl rfl))).trans h.blk, h.row.apt ha fun q hq hn => hn (.inr (.inr hq)), h.ne, h.ge⟩, by
    subst e
    exact (ha.block z hB.lt fun hn => hn (.inl rfl)).trans hB, h1, h2, e⟩, fun ⟨v, h, hB, _, _, e⟩ q hq => by
  subst e
  rcases hq with hq | hq | hq
  · rw [hq]; exact hB.lt
  · rw [hq]; exact h.blk.lt
  · exact h.row.lt q hq⟩

def plCs (y : Nat) (q : Pl) (rl rk lv mk gl gk : Value) : Array Value := #[.pointer (some ⟨y, 0, none⟩), rl, rk, .int .i64 (q.runs : Int), .bool q.on, lv, mk, gl, gk]

theorem W2.doc18 {X : World → Prop} {w0 w w' : World} {A : World → (Nat → Prop) → Prop} {F G : Nat → Prop} {y z : Nat} {m m' : Sm} {cs : Array Value} {v v' : Value} (h : W2 X w0 w A F (D18 y z m cs) G) (hA : Thing A)
    (hB : Blk w z 41 cs) (hzy : z ≠ y) (hvz : v.ownBlock ≠ some z) (hG : G = fun x => x = z ∨ yF y v x) (hD' : DS w' y y v' m') (ha : Apt (yF y v) w w') (hn : ∀ q, v'.ownBlock = some q → v.ownBlock = some q ∨ w.heap.size ≤ q) :
    ∃ G', W2 X w0 w' A F (D18 y z m' cs) G' := by
  subst hG
  refine ⟨_, h.stepB (B' := D18 y z m' cs) (G' := fun x => x = z ∨ yF y v' x) hA ⟨v', hD', (ha.block z hB.lt fun e => by
    rcases e with e | e
    · exact hzy e
    · exact hvz e).trans hB, hzy, fun e => ?_, rfl⟩ (ha.mono fun q _ hq => .inr hq) fun q hq => ?_⟩
  · rcases hn z e with h1 | h1
    · exact hvz h1
    · have := hB.lt
      omega
  · rcases hq with h1 | h1 | h1
    · exact .inl (.inl h1)
    · exact .inl (.inr (.inl h1))
    · rcases hn q h1 with h2 | h2
      · exact .inl (.inr (.inr h2))
      · exact .inr h2

theorem W2.say1 {X Y : World → Prop} {w0 w : World} {A B : World → (Nat → Prop) → Prop} {F G : Nat → Prop} (h : W2 (fun u => X u ∧ Y u) w0 w A F B G) : W2 X w0 w A F B G := h.say fun u hu => (h.kx u hu).1

set_option maxHeartbeats 25600000 in
theorem pollSteps_any {L : World → Prop} {PP : World → (Nat → Prop) → Nat → Nat → Sm → Pl → Prop} (hK : PollK L PP) (v dv : Value) (l : List Ob) (d : List Pd) (w : World) (h : Pts w v l) (hd : Pds w dv d) (hL : L w) :
    Calls Tryz.prog 3 #[v, dv] w fun e w' => e = .returned (.bool true) ∧ Below w.heap.size w w' := by
  have hLw : ∀ u, Below w.heap.size w u → L u := fun u hu => hK.later hL hu
  have HLW := Lib.hid hLw
  have HP := Lib.hid fun (u : World) (hu : Below w.heap.size w u) => (show Pts u v l from by
    obtain ⟨xs, h1, h2⟩ := h
    exact ⟨xs, h1.below hu, h2.mono fun _ _ ⟨hn, z, hz, hb⟩ => ⟨hn, z, hz, hb.below hu⟩⟩)
  have HDV := Lib.hid hd
  obtain ⟨Ad, cd, rfl, hcd1, hcd2⟩ := hd.form
  clear h hd hL hLw
  go_enter Tryz.func3, Tryz.ntmps3
  go_wp2_with fail
  refine (up18_any hK _ (HLW.out _ (Below.refl _ _))).mono ?_
  rintro e w1 ⟨rfl, hb1⟩
  have HB1 := Lib.hid hb1
  clear hb1
  go_wp2_with fail
  refine (Filled_any v l _ (HP.out _ HB1.out)).mono ?_
  rintro e w2 hcase
  rcases hcase with ⟨g, rfl, hb2⟩ | ⟨g, gy, F, G, m, rfl, hmf, hleft, hnms, hW2⟩
  · have HB2 := Lib.hid (HB1.out.trans (hb2.mono HB1.out.size))
    clear hb2
    go_wp2_with fail
    go_ret
    exact ⟨rfl, HB2.out⟩
  have HW2 := Lib.hid hW2
  have HM := Lib.hid hmf
  have HNMS := Lib.hid hnms
  have HLU : Hid (∀ u, Below w1.heap.size w1 u → L u) := Lib.hid fun u hu => HLW.out _ (HB1.out.trans (hu.mono HB1.out.size))
  have HFIN : Hid (∀ u, Below w1.heap.size w1 u → Below w.heap.size w u) := Lib.hid fun u hu => HB1.out.trans (hu.mono HB1.out.size)
  have HSZ : Hid (w.heap.size ≤ w1.heap.size) := Lib.hid HB1.out.size
  clear hW2 hmf hleft hnms HLW HP HB1
  by_cases hbig : 60 < d.length
  · have hdd : decide ((60 : Int) < (d.length : Int)) = true := decide_eq_true (by omega)
    clear hbig
    go_wp2_with fail
    go_ret
    exact ⟨rfl, HFIN.out _ HW2.out.below⟩
  have hdd : decide ((60 : Int) < (d.length : Int)) = false := decide_eq_false (by omega)
  have hN := hK.new HW2.out.a
  go_wp2_with fail
  refine hN.mono ?_
  rintro e w3 ⟨p, F3, rfl, hP3, hG3⟩
  have HW3 := Lib.hid (HW2.out.stepA (A' := fun u F => PP u F p g m Pl.new) (stA_thing _ _) (stB_thing _ _ _) hP3 hG3.apt hG3.new)
  clear hN hP3 hG3 HW2 hdd
  have HW4 : Hid (∃ G4, W2 (PlV Pl.new (.slice none 0 0) (.slice none 0 0) (.slice none 0 0) (.slice none 0 0) (.slice none 0 0) (.slice none 0 0)) w1 (w3.alloc (.cells (plCs gy Pl.new (.slice none 0 0) (.slice none 0 0) (.slice none 0 0) (.slice none 0 0) (.slice none 0 0) (.slice none 0 0)) 41)) (fun u F => PP u F p g m Pl.new) F3 (D18 gy w3.heap.size m (plCs gy Pl.new (.slice none 0 0) (.slice none 0 0) (.slice none 0 0) (.slice none 0 0) (.slice none 0 0) (.slice none 0 0))) G4) := Lib.hid (by
    obtain ⟨vy, hDy, hGy⟩ := HW3.out.b
    have hb4 : Below w3.heap.size w3 (w3.alloc (.cells (plCs gy Pl.new (.slice none 0 0) (.slice none 0 0) (.slice none 0 0) (.slice none 0 0) (.slice none 0 0) (.slice none 0 0)) 41)) := (Below.refl _ _).alloc (Nat.le_refl _) _
    have hlt := hDy.blk.lt
    have hge := HW3.out.below.size
    refine ⟨fun x => x = w3.heap.size ∨ yF gy vy x, HW3.out.below.trans (hb4.mono hge), (hK.thing _ _ _ _).keep HW3.out.a (Apt.of_below hb4), ⟨vy, hDy.below hb4, Blk.new _ _ _, by omega, fun e => by
      have := hDy.row.lt _ e
      omega, rfl⟩, HW3.out.fge, fun q hq => ?_, fun q hq hG => ?_, fun u _ => ⟨Mes.nil u, Mks.nil u, Us.nil u, Us.nil u, Mes.nil u, Mks.nil u⟩⟩
    · rcases hq with h | h
      · omega
      · exact HW3.out.gge q (by rw [hGy]; exact h)
    · rcases hG with h | h
      · have := (hK.thing _ _ _ _).lt HW3.out.a q hq
        omega
      · exact HW3.out.ne q hq (by rw [hGy]; exact h))
  have HD60 : Hid (d.length ≤ 60) := Lib.hid (by omega)
  clear HW3 hbig
  simp only [plCs, Pl.new, Int.cast_ofNat_Int] at HW4
  go_wp2_with fail
  revert HW4
  generalize w3.alloc (.cells #[.pointer (some ⟨gy, 0, none⟩), .slice none 0 0, .slice none 0 0, .int .i64 0, .bool false, .slice none 0 0, .slice none 0 0, .slice none 0 0, .slice none 0 0] 41) = w4
  generalize w3.heap.size = z
  intro HW4
  go_loopg [12] d.length (fun gk iv wr => ∃ (k : Nat) (Fk Gk : Nat → Prop) (mk : Sm) (qk : Pl) (rl rk lv mr gl gks : Value), k + gk = d.length ∧ iv = .int .i64 (k : Int) ∧ Hid (W2 (PlV qk rl rk lv mr gl gks) w1 wr (fun u F => PP u F p g mk qk) Fk (D18 gy z mk (plCs gy qk rl rk lv mr gl gks)) Gk ∧ mk.fine (100 + k) ∧ Nms mk ∧ qk.fine 2000 ∧ qk.runs ≤ k))
  case atStart =>
    obtain ⟨G4, hW4⟩ := HW4.out
    exact ⟨0, F3, G4, m, Pl.new, _, _, _, _, _, _, by omega, rfl, Lib.hid ⟨hW4, HM.out, HNMS.out, Pl.fine.new 2000, Nat.le_refl _⟩⟩
  case round =>
    obtain ⟨k, Fk, Gk, mk, qk, rl, rk, lv, mr, gl, gks, hk, rfl, HW⟩ := hrel
    clear HW4 HM HNMS
    by_cases hlt : k < d.length
    · obtain ⟨gk1, hgk1⟩ : ∃ x, gk = x + 1 := ⟨gk - 1, by omega⟩
      obtain ⟨x, hkd⟩ : ∃ x, d[k]? = some x := ⟨_, List.getElem?_eq_getElem hlt⟩
      obtain ⟨gd, od, bv, hA, hgd, c0, c1, c2, c3, hbs, hw1, hw2, hnm⟩ := HDV.out.cells hkd
      subst hA
      have hB := HFIN.out _ HW.out.1.below
      have a0 : (0 : Int) ≤ (k : Int) := by omega
      have a1 : (k : Int) < (d.length : Int) := by omega
      obtain ⟨Ab, cb, rfl, _, _, _⟩ := id hbs
      have e0 := (hB.cell (p := ⟨gd, od + k * 4, none⟩) hgd).trans c0
      have e1 := (hB.cell (p := ⟨gd, od + k * 4 + 1, none⟩) hgd).trans c1
      have e2 := (hB.cell (p := ⟨gd, od + k * 4 + 2, none⟩) hgd).trans c2
      have e3 := (hB.cell (p := ⟨gd, od + k * 4 + 3, none⟩) hgd).trans c3
      have HBU : Hid (∀ u, Below w1.heap.size w1 u → Bs u (.slice Ab x.b.length cb) x.b) := Lib.hid fun u hu => hbs.below (HFIN.out u hu)
      have HOLD : Hid (∀ q, w1.heap.size ≤ q → x.b ≠ [] → (Value.slice Ab x.b.length cb).ownBlock ≠ some q) := Lib.hid fun q hq hne hz => by
        obtain ⟨y, hy, hlt⟩ := hbs.block hne
        rw [hy] at hz
        have := Option.some.inj hz
        have := HSZ.out
        omega
      have hzn := Bstr_size x.nm
      clear c0 c1 c2 c3 hbs hkd hB
      have hb5 : Below wr.heap.size wr (wr.alloc (.cells #[.int .i64 x.what, .int .i64 x.n, .string (Bstr x.nm), .slice Ab x.b.length cb] 46)) := (Below.refl _ _).alloc (Nat.le_refl _) _
      have HW5 : Hid (W2 (fun u => PlV qk rl rk lv mr gl gks u ∧ Blk u wr.heap.size 46 #[.int .i64 x.what, .int .i64 x.n, .string (Bstr x.nm), .slice Ab x.b.length cb]) w1 (wr.alloc (.cells #[.int .i64 x.what, .int .i64 x.n, .string (Bstr x.nm), .slice Ab x.b.length cb] 46)) (fun u F => PP u F p g mk qk) Fk (D18 gy z mk (plCs gy qk rl rk lv mr gl gks)) Gk) := Lib.hid ((HW.out.1.later (hK.thing _ _ _ _) (D18_thing _ _ _ _) hb5).say (Keep.and (HW.out.1.later (hK.thing _ _ _ _) (D18_thing _ _ _ _) hb5).kx (keepBlk (Blk.new wr _ _) fun hbad => by
        have := HW.out.1.bad_lt (hK.thing _ _ _ _) (D18_thing _ _ _ _) _ hbad
        omega)))
      have HF := Lib.hid HW.out.2
      clear hb5 HW
      by_cases hbad : 1000 < x.b.length ∨ 100 < x.nm.length
      · have hor : decide ((1000 : Int) < (x.b.length : Int)) = true ∨ (decide ((1000 : Int) < (x.b.length : Int)) = false ∧ decide ((100 : Int) < (x.nm.length : Int)) = true) := by
          by_cases h1 : 1000 < x.b.length
          · exact .inl (decide_eq_true (by omega))
          · exact .inr ⟨decide_eq_false (by omega), decide_eq_true (by omega)⟩
        clear hbad
        rcases hor with h1 | ⟨h1, h2⟩
        all_goals
          go_wp2_with fail
          go_ret
          exact ⟨rfl, HFIN.out _ HW5.out.below⟩
      have h1 : decide ((1000 : Int) < (x.b.length : Int)) = false := decide_eq_false (by omega)
      have h2 : decide ((100 : Int) < (x.nm.length : Int)) = false := decide_eq_false (by omega)
      have hPk := fun u => pick18_any x.what 5 u hw1.1 hw1.2 (by omega) (by omega)
      have hP0 : 0 ≤ pickI18 x.what 5 := by unfold pickI18; omega
      have hP5 : pickI18 x.what 5 < 5 := by unfold pickI18; omega
      go_wp2_with fail
      revert HW5
      generalize wr.alloc (.cells #[.int .i64 x.what, .int .i64 x.n, .string (Bstr x.nm), .slice Ab x.b.length cb] 46) = w5
      generalize wr.heap.size = gx
      intro HW5
      revert hPk hP0 hP5
      generalize pickI18 x.what 5 = pk
      intro hPk hP0 hP5
      refine (hPk _).mono ?_
      rintro e w6 ⟨rfl, rfl⟩
      clear hPk e0 e1 e2 e3 h1 h2
      go_simp
      go_step
      go_step
      go_simp
      go_step
      go_cut [14, 15, 16, 17] (fun _ _ _ _ wc => ∃ (F' G' : Nat → Prop) (m' : Sm) (q' : Pl) (rl' rk' lv' mr' gl' gks' : Value), Hid (W2 (PlV q' rl' rk' lv' mr' gl' gks') w1 wc (fun u F => PP u F p g m' q') F' (D18 gy z m' (plCs gy q' rl' rk' lv' mr' gl' gks')) G' ∧ m'.fine (100 + (k + 1)) ∧ Nms m' ∧ q'.fine 2000 ∧ q'.runs ≤ k + 1))
      case first =>
        have hk60 := HD60.out
        obtain ⟨hm1, hm2, hm3, hm4⟩ := id HF.out
        rcases (by omega : (pk = 0 ∨ pk = 1) ∨ pk = 2 ∨ pk = 3 ∨ pk = 4) with hpk | rfl | rfl | rfl
        · as_aux_lemma =>
            have hSt := hK.step HW5.out.a hm1 hm2 (by omega) hm3 (by omega) (Keep.of_old HLU.out HW5.out.below HW5.out.fge)
            have hDS := fun (u : World) (vy : Value) (bad : Nat → Prop) (h1 : DS u gy gy vy mk) (h2 : DPl bad z gy qk u) => DPStep_any u h1 h2 hm1 (by omega) hm3 (by omega)
            have HRES : Hid ((callS mk).fine (100 + (k + 1)) ∧ Nms (callS mk) ∧ (plStep mk qk).2.2.fine 2000 ∧ (plStep mk qk).2.2.runs ≤ k + 1 ∧ 0 ≤ (plStep mk qk).2.1 ∧ (plStep mk qk).2.1 ≤ 10) := Lib.hid (by
              have h1 := plStep_code mk qk
              have h2 := plStep_fine hm3 (show mk.l.length ≤ 2000 by have := hm1.len; omega)
              have h3 := plStep_runs mk qk
              exact ⟨hm1.call, hm2, h2, by omega, h1⟩)
            revert hSt hDS HRES
            generalize plStep mk qk = r
            obtain ⟨wh, c, q'⟩ := r
            simp only
            intro hSt hDS HRES
            rcases hpk with rfl | rfl
            all_goals
              go_wp2_with fail
              refine hSt.mono ?_
              rintro e w6 ⟨F6, rfl, hP6, hG6⟩
              have HW6 := Lib.hid ((HW5.out.stepA (A' := fun u F => PP u F p g (callS mk) q') (hK.thing _ _ _ _) (D18_thing _ _ _ _) hP6 hG6.apt hG6.new).say1)
              obtain ⟨vy, hDy, hBz, hzy, hvz, hGy⟩ := HW6.out.b
              have hD7 := hDS w6 vy (fun t => F6 t ∨ Gk t) hDy ⟨_, _, _, _, _, _, hBz, HW6.out.kx⟩ (.inr (by rw [hGy]; exact .inr (.inl rfl))) (.inr (by rw [hGy]; exact .inl rfl)) (fun t ht => HW6.out.bad_lt (hK.thing _ _ _ _) (D18_thing _ _ _ _) t ht) hzy hvz
              have HDD := Lib.hid (And.intro hzy (And.intro hvz hGy))
              clear hSt hDS hP6 hG6 hDy hBz hzy hvz hGy
              go_wp2_with fail
              refine hD7.mono ?_
              rintro e w7 ⟨rfl, hD8, hP8, hA8⟩
              obtain ⟨rl', rk', lv', mr', gl', gks', hB8, hK8⟩ := hP8
              have HW7 : Hid (W2 (PlV q' rl' rk' lv' mr' gl' gks') w1 w7 (fun u F => PP u F p g (callS mk) q') F6 (D18 gy z (callS mk) (plCs gy q' rl' rk' lv' mr' gl' gks')) Gk) := Lib.hid ((HW6.out.stepB (B' := D18 gy z (callS mk) (plCs gy q' rl' rk' lv' mr' gl' gks')) (G' := Gk) (hK.thing _ _ _ _) ⟨vy, hD8, hB8, HDD.out.1, HDD.out.2.1, HDD.out.2.2⟩ (hA8.mono fun t _ ht => by
                rw [HDD.out.2.2]
                rcases ht with ht | ht
                · exact .inr (.inl ht)
                · exact .inl ht) fun t ht => .inl ht).say hK8)
              clear hD7 hD8 hA8 hB8 hK8 HW6 HDD
              go_wp2_with fail
              refine (Code_err c _ HRES.out.2.2.2.2).mono ?_
              rintro e w8 ⟨rfl, rfl⟩
              go_wp2_with fail
              go_meet
              case rel => exact ⟨F6, Gk, callS mk, q', rl', rk', lv', mr', gl', gks', Lib.hid ⟨HW7.out, HRES.out.1, HRES.out.2.1, HRES.out.2.2.1, HRES.out.2.2.2.1⟩⟩
        · as_aux_lemma =>
            have hx := HW5.out.x.2
            have k0 := hx.cell 0
            have k1 := hx.cell 1
            have k2 := hx.cell 2
            have k3 := hx.cell 3
            simp at k0 k1 k2 k3
            obtain ⟨Fs, hPs, hsub, hwand⟩ := hK.store HW5.out.a
            have hPr := stPut_any (n := x.nm) (b := x.b) hPs hm1 (by omega) hnm (HBU.out _ HW5.out.below) (fun hne t ht hF => HOLD.out t (HW5.out.fge t (hsub t hF)) hne ht) (by omega)
            have HRES : Hid ((sPut mk x.nm x.b).1.fine (100 + (k + 1)) ∧ Nms (sPut mk x.nm x.b).1) := Lib.hid ⟨hm1.put _ _, hm2.put2 _ _⟩
            have hDo := fun (u : World) (vy : Value) (h1 : DS u gy gy vy mk) => DPut_any gy gy vy mk x.nm x.b u h1 (hm1.ok (by omega)) (by have := hm1.calls1; omega) (by omega) (by omega)
            clear hx
            go_wp2_with fail
            refine hPr.mono ?_
            rintro e w6 ⟨rfl, F6s, hP6, hA6, hN6⟩
            obtain ⟨F6, hPP6, hG6, _⟩ := hwand hP6 ⟨hA6, hN6⟩
            clear hP6 hA6 hN6
            have HW6 := Lib.hid (HW5.out.stepA (A' := fun u F => PP u F p g ((sPut mk x.nm x.b).1) qk) (hK.thing _ _ _ _) (D18_thing _ _ _ _) hPP6 hG6.apt hG6.new)
            obtain ⟨vy, hDy, hBz, hzy, hvz, hGy⟩ := HW6.out.b
            have hD7 := hDo w6 vy hDy
            have hx := HW6.out.x.2
            have k0 := hx.cell 0
            have k1 := hx.cell 1
            have k2 := hx.cell 2
            have k3 := hx.cell 3
            simp at k0 k1 k2 k3
            have hst := strOf (HBU.out w6 HW6.out.below)
            have HDD := Lib.hid (And.intro hBz (And.intro hzy (And.intro hvz hGy)))
            clear hx hPr hDo hwand hPs hsub hPP6 hG6 hDy hBz hzy hvz hGy
            go_wp2_with fail
            refine hD7.mono ?_
            rintro e w7 ⟨rfl, v8, hD8, hA8, hN8⟩
            obtain ⟨G7, hW7⟩ := W2.doc18 HW6.out (hK.thing _ _ _ _) HDD.out.1 HDD.out.2.1 HDD.out.2.2.1 HDD.out.2.2.2 hD8 hA8 hN8
            have HW7 := Lib.hid hW7.say1
            clear hD7 hD8 hA8 hW7 HW6 HDD
            go_wp2_with fail
            go_meet
            case rel => exact ⟨F6, G7, _, qk, rl, rk, lv, mr, gl, gks, Lib.hid ⟨HW7.out, HRES.out.1, HRES.out.2, hm3, by omega⟩⟩
        · as_aux_lemma =>
            have hx := HW5.out.x.2
            have k0 := hx.cell 0
            have k1 := hx.cell 1
            have k2 := hx.cell 2
            have k3 := hx.cell 3
            simp at k0 k1 k2 k3
            obtain ⟨Fs, hPs, hsub, hwand⟩ := hK.store HW5.out.a
            have hPr := stDel_any (n := x.nm) hPs hm1 (by omega) hnm
            have HRES : Hid ((sDel mk x.nm).1.fine (100 + (k + 1)) ∧ Nms (sDel mk x.nm).1) := Lib.hid ⟨hm1.del _, hm2.del _⟩
            have hDo := fun (u : World) (vy : Value) (h1 : DS u gy gy vy mk) => DDelete_any gy gy vy mk x.nm u h1 (hm1.ok (by omega)) (by have := hm1.calls1; omega)
            clear hx
            go_wp2_with fail
            refine hPr.mono ?_
            rintro e w6 ⟨rfl, F6s, hP6, hA6, hN6⟩
            obtain ⟨F6, hPP6, hG6, _⟩ := hwand hP6 ⟨hA6, hN6⟩
            clear hP6 hA6 hN6
            have HW6 := Lib.hid (HW5.out.stepA (A' := fun u F => PP u F p g ((sDel mk x.nm).1) qk) (hK.thing _ _ _ _) (D18_thing _ _ _ _) hPP6 hG6.apt hG6.new)
            obtain ⟨vy, hDy, hBz, hzy, hvz, hGy⟩ := HW6.out.b
            have hD7 := hDo w6 vy hDy
            have hx := HW6.out.x.2
            have k0 := hx.cell 0
            have k1 := hx.cell 1
            have k2 := hx.cell 2
            have k3 := hx.cell 3
            simp at k0 k1 k2 k3
            have hst := strOf (HBU.out w6 HW6.out.below)
            have HDD := Lib.hid (And.intro hBz (And.intro hzy (And.intro hvz hGy)))
            clear hx hPr hDo hwand hPs hsub hPP6 hG6 hDy hBz hzy hvz hGy
            go_wp2_with fail
            refine hD7.mono ?_
            rintro e w7 ⟨rfl, v8, hD8, hA8, hN8⟩
            obtain ⟨G7, hW7⟩ := W2.doc18 HW6.out (hK.thing _ _ _ _) HDD.out.1 HDD.out.2.1 HDD.out.2.2.1 HDD.out.2.2.2 hD8 (Apt.of_grown hA8 fun t ht => by injection ht with ht; exact .inl ht.symm) hN8
            have HW7 := Lib.hid hW7.say1
            clear hD7 hD8 hA8 hW7 HW6 HDD
            go_wp2_with fail
            go_meet
            case rel => exact ⟨F6, G7, _, qk, rl, rk, lv, mr, gl, gks, Lib.hid ⟨HW7.out, HRES.out.1, HRES.out.2, hm3, by omega⟩⟩
        · as_aux_lemma =>
            have hx := HW5.out.x.2
            have k0 := hx.cell 0
            have k1 := hx.cell 1
            have k2 := hx.cell 2
            have k3 := hx.cell 3
            simp at k0 k1 k2 k3
            obtain ⟨Fs, hPs, hsub, hwand⟩ := hK.store HW5.out.a
            have hPr := sfail_any (n := x.n) hPs hw2.1 hw2.2
            have HRES : Hid ((failS mk x.n).fine (100 + (k + 1)) ∧ Nms (failS mk x.n)) := Lib.hid ⟨(hm1.fail _ hw2.2).more (by omega), hm2⟩
            have hDo := fun (u : World) (vy : Value) (h1 : DS u gy gy vy mk) => Fail_any gy gy vy mk x.n u h1
            clear hx
            have hgF := hPs.Fg
            go_wp2_with fail
            refine hPr.mono ?_
            rintro e w6 ⟨rfl, hP6, hgr6⟩
            obtain ⟨F6, hPP6, hG6, _⟩ := hwand hP6 ⟨Apt.of_grown hgr6 fun t ht => (by injection ht with ht; subst ht; exact hgF), fun t ht => .inl ht⟩
            clear hP6 hgr6 hgF
            have HW6 := Lib.hid (HW5.out.stepA (A' := fun u F => PP u F p g (failS mk x.n) qk) (hK.thing _ _ _ _) (D18_thing _ _ _ _) hPP6 hG6.apt hG6.new)
            obtain ⟨vy, hDy, hBz, hzy, hvz, hGy⟩ := HW6.out.b
            have hD7 := hDo w6 vy hDy
            have hx := HW6.out.x.2
            have k0 := hx.cell 0
            have k1 := hx.cell 1
            have k2 := hx.cell 2
            have k3 := hx.cell 3
            simp at k0 k1 k2 k3
            have hst := strOf (HBU.out w6 HW6.out.below)
            have HDD := Lib.hid (And.intro hBz (And.intro hzy (And.intro hvz hGy)))
            clear hx hPr hDo hwand hPs hsub hPP6 hG6 hDy hBz hzy hvz hGy
            go_wp2_with fail
            refine hD7.mono ?_
            rintro e w7 ⟨rfl, hD8, hA8⟩
            obtain ⟨G7, hW7⟩ := W2.doc18 HW6.out (hK.thing _ _ _ _) HDD.out.1 HDD.out.2.1 HDD.out.2.2.1 HDD.out.2.2.2 hD8 (Apt.of_grown hA8 fun t ht => by injection ht with ht; exact .inl ht.symm) (fun t ht => .inl ht)
            have HW7 := Lib.hid hW7.say1
            clear hD7 hD8 hA8 hW7 HW6 HDD
            go_wp2_with fail
            go_meet
            case rel => exact ⟨F6, G7, _, qk, rl, rk, lv, mr, gl, gks, Lib.hid ⟨HW7.out, HRES.out.1, HRES.out.2, hm3, by omega⟩⟩
      case rest =>
        obtain ⟨F6, G6, m6, q6, rl6, rk6, lv6, mr6, gl6, gks6, HC⟩ := hcut
        have HD8 := Lib.hid (fun u Gu (hu : D18 gy z m6 (plCs gy q6 rl6 rk6 lv6 mr6 gl6 gks6) u Gu) => (show u.cell? ⟨z, 1, none⟩ = some rl6 ∧ u.cell? ⟨z, 2, none⟩ = some rk6 ∧ u.cell? ⟨z, 3, none⟩ = some (.int .i64 (q6.runs : Int)) ∧ u.cell? ⟨gy, 2, none⟩ = some (.int .i64 m6.calls) from by
          obtain ⟨vy, hDy, hBz, _⟩ := hu
          exact ⟨(hBz.cell 1).trans rfl, (hBz.cell 2).trans rfl, (hBz.cell 3).trans rfl, (hDy.blk.cell 2).trans rfl⟩))
        have HW7 := Lib.hid (HC.out.1.later (hK.thing _ _ _ _) (D18_thing _ _ _ _) (Below.refl wc.heap.size wc).drew)
        have HF6 := Lib.hid HC.out.2
        obtain ⟨Ra, ca, rfl, _, _⟩ := HW7.out.x.rl.form
        obtain ⟨Rb, cb6, rfl, _, _⟩ := HW7.out.x.rk.form
        clear HC HW5 HBU HOLD HF
        go_wp2_with fail
        have hS7 := HD8.out _ _ HW7.out.b
        have hRo := hK.ros HW7.out.a HF6.out.2.2.1
        refine wp_region_mix [(0, false), (3, false), (4, false), (5, false), (6, false), (1, true), (2, true), (7, true), (8, false), (9, false), (10, false), (12, false), (13, false), (14, false), (15, false), (11, true), (16, false), (17, false), (18, false), (19, false), (21, false), (22, false), (23, false), (24, false), (20, true), (25, false), (26, false)] (fun u => u.cell? ⟨z, 1, none⟩ = some (.slice Ra q6.rl.length ca) ∧ u.cell? ⟨z, 2, none⟩ = some (.slice Rb q6.rk.length cb6) ∧ u.cell? ⟨z, 3, none⟩ = some (.int .i64 (q6.runs : Int)) ∧ u.cell? ⟨gy, 2, none⟩ = some (.int .i64 m6.calls)) (by kernel_rfl) (by kernel_rfl) (by decide +kernel) rfl hS7 ?_
        repeat
          (refine mix_read (o := ⟨_, _, _, _, _, _⟩) (v := ?_) rfl (by rfl) (fun w' hU => ?_) ?_
           rotate_left
           obtain ⟨j0, j1, j2, j3⟩ := hU
           go_simp
           with_reducible rfl
           try simp only [Act.put, List.setIfInBounds_toArray, List.set_cons_zero, List.set_cons_succ])
        refine mix_step (o := ⟨_, _, _, _, _, _⟩) rfl (fun K hK2 => ?_)
        go_simp
        refine hRo.mono ?_
        rintro e w8 ⟨a, b, F8, rfl, hP8, hG8, hX8⟩
        have HW8 : Hid (W2 (fun u => PlV q6 (.slice Ra q6.rl.length ca) (.slice Rb q6.rk.length cb6) lv6 mr6 gl6 gks6 u ∧ Mes u a q6.rl ∧ Mks u b q6.rk) w1 w8 (fun u F => PP u F p g m6 q6) F8 (D18 gy z m6 (plCs gy q6 (.slice Ra q6.rl.length ca) (.slice Rb q6.rk.length cb6) lv6 mr6 gl6 gks6)) G6) := Lib.hid (by
          have h1 := HW7.out.stepA (A' := fun u F => PP u F p g m6 q6) (hK.thing _ _ _ _) (D18_thing _ _ _ _) hP8 hG8.apt hG8.new
          exact h1.say (Keep.and h1.kx (hX8.less fun t ht => by
            rcases ht with h | h
            · exact .inl (.inr h)
            · exact .inl (.inl ((D18_thing _ _ _ _).lt HW7.out.b t h)))))
        refine hK2.out _ _ (HD8.out _ _ HW8.out.b) ?_
        clear hK2 K
        try simp only [Act.put, List.setIfInBounds_toArray, List.set_cons_zero, List.set_cons_succ]
        clear hRo hP8 hG8 hX8 HW7 hS7
        have hma := HW8.out.x.2.1
        have hkb := HW8.out.x.2.2
        have hmr := HW8.out.x.1.rl
        have hkr := HW8.out.x.1.rk
        refine mix_step (o := ⟨_, _, _, _, _, _⟩) rfl (fun K hK2 => ?_)
        go_simp
        refine (as18_any a b q6.rl q6.rk _ hma hkb).mono ?_
        rintro e w9 ⟨rfl, hb9⟩
        have HW9 := Lib.hid (HW8.out.later (hK.thing _ _ _ _) (D18_thing _ _ _ _) hb9)
        refine hK2.out _ _ (HD8.out _ _ HW9.out.b) ?_
        clear hK2 K
        try simp only [Act.put, List.setIfInBounds_toArray, List.set_cons_zero, List.set_cons_succ]
        refine mix_step (o := ⟨_, _, _, _, _, _⟩) rfl (fun K hK2 => ?_)
        go_simp
        refine (Same_same _ _ _ _ q6.rl q6.rk _ (hma.below hb9) (hmr.below hb9) (hkb.below hb9) (hkr.below hb9)).mono ?_
        rintro e w10 ⟨rfl, hb10⟩
        have HW10 := Lib.hid ((HW9.out.later (hK.thing _ _ _ _) (D18_thing _ _ _ _) hb10).say1)
        refine hK2.out _ _ (HD8.out _ _ HW10.out.b) ?_
        clear hK2 K
        try simp only [Act.put, List.setIfInBounds_toArray, List.set_cons_zero, List.set_cons_succ]
        clear hma hkb hmr hkr hb9 hb10 HW8 HW9
        have hRu := hK.runs HW10.out.a
        repeat
          (refine mix_read (o := ⟨_, _, _, _, _, _⟩) (v := ?_) rfl (by rfl) (fun w' hU => ?_) ?_
           rotate_left
           obtain ⟨j0, j1, j2, j3⟩ := hU
           go_simp
           with_reducible rfl
           try simp only [Act.put, List.setIfInBounds_toArray, List.set_cons_zero, List.set_cons_succ])
        refine mix_step (o := ⟨_, _, _, _, _, _⟩) rfl (fun K hK2 => ?_)
        go_simp
        refine hRu.mono ?_
        rintro e w11 ⟨F11, rfl, hP11, hG11⟩
        have HW11 := Lib.hid (HW10.out.stepA (A' := fun u F => PP u F p g m6 q6) (hK.thing _ _ _ _) (D18_thing _ _ _ _) hP11 hG11.apt hG11.new)
        refine hK2.out _ _ (HD8.out _ _ HW11.out.b) ?_
        clear hK2 K
        try simp only [Act.put, List.setIfInBounds_toArray, List.set_cons_zero, List.set_cons_succ]
        clear hRu hP11 hG11 HW10
        obtain ⟨Fs, hPs, _, _⟩ := hK.store HW11.out.a
        have hCa := scalls_any hPs
        repeat
          (refine mix_read (o := ⟨_, _, _, _, _, _⟩) (v := ?_) rfl (by rfl) (fun w' hU => ?_) ?_
           rotate_left
           obtain ⟨j0, j1, j2, j3⟩ := hU
           go_simp
           with_reducible rfl
           try simp only [Act.put, List.setIfInBounds_toArray, List.set_cons_zero, List.set_cons_succ])
        refine mix_step (o := ⟨_, _, _, _, _, _⟩) rfl (fun K hK2 => ?_)
        go_simp
        refine hCa.mono ?_
        rintro e w12 ⟨rfl, rfl⟩
        refine hK2.out _ _ (HD8.out _ _ HW11.out.b) ?_
        clear hK2 K
        try simp only [Act.put, List.setIfInBounds_toArray, List.set_cons_zero, List.set_cons_succ]
        clear hCa hPs
        repeat
          (refine mix_read (o := ⟨_, _, _, _, _, _⟩) (v := ?_) rfl (by rfl) (fun w' hU => ?_) ?_
           rotate_left
           obtain ⟨j0, j1, j2, j3⟩ := hU
           go_simp
           with_reducible rfl
           try simp only [Act.put, List.setIfInBounds_toArray, List.set_cons_zero, List.set_cons_succ])
        refine mix_done ?_
        go_wp2_with fail
        go_roundg gk1
        case measure => omega
        case rel => exact ⟨k + 1, F11, G6, m6, q6, _, _, _, _, _, _, by omega, by go_num, Lib.hid ⟨HW11.out, HF6.out⟩⟩
    · have hkl : k = d.length := by omega
      subst hkl
      clear hlt
      go_wp2_with fail
      go_ret
      exact ⟨rfl, HFIN.out _ HW.out.1.below⟩

end Go.Proofs.YtgafidnbmoomiaaGreatDoor
