/-
  tankardlaw08.WalKeeps, walked over whatever keeps what a tape and a log are to keep ('TapeK', 'LogK'). Conditions: what the theorem says.
-/
import Derived.Test.YtdfjicjlmejonaaWlD
import Derived.Test.YtdfjicjlmejonaaRowDe8
import Derived.Deep.DeepCutAuto
namespace Go.Proofs.Ytdfjicjlmejonaa
open Go.RowKit
set_option maxRecDepth 100000

/-- one of n -/
def pick8 (c n : Int) : Int := (if c < 0 then -(c + 1) else c) % n
set_option maxHeartbeats 800000 in
theorem pick8_any (c n : Int) (w : World) (h0 : -9223372036854775808 ≤ c) (h1 : c ≤ 9223372036854775807) (hn : 0 < n) (hn1 : n ≤ 1000) :
    Calls Try.prog 16 #[.int .i64 c, .int .i64 n] w fun e w' => e = .returned (.int .i64 (pick8 c n)) ∧ w = w' := by
  by_cases hc : c < 0
  · have hp : Hid (pick8 c n = -((c + 1).tmod n)) := Lib.hid (by rw [pick8, if_pos hc, ← Int.neg_tmod, Int.tmod_eq_emod_of_nonneg (by omega)])
    go_enter Try.func16, Try.ntmps16
    go_wp2_with fail
    go_ret
    exact ⟨ret_int hp.out.symm, rfl⟩
  · have hp : Hid (pick8 c n = c % n) := Lib.hid (by rw [pick8, if_neg hc])
    go_enter Try.func16, Try.ntmps16
    go_wp2_with fail
    go_ret
    exact ⟨ret_int hp.out.symm, rfl⟩

/-- a row of the call's own, in its one block -/
def Rw (base : Nat) (v : Value) (xs : List (List Value)) (w : World) (G : Nat → Prop) : Prop := OwnL 1 w base 9 v xs ∧ ∀ q, G q ↔ v.ownBlock = some q
theorem Rw.thing (base : Nat) (v : Value) (xs : List (List Value)) : Thing (Rw base v xs) where
  keep h ha := ⟨h.1.apt ha fun q hq hn => hn ((h.2 q).2 hq), h.2⟩
  lt h q hq := h.1.lt q ((h.2 q).1 hq)
theorem recs_empty {t : List (List UInt8)} {q : Nat} (hR : Recs [] t 0 q) : t = [] ∧ q = 0 := by
  obtain ⟨h1, h2, h3, h4⟩ := hR.1.flat
  have h5 := h3 (Nat.zero_le _)
  simp at h5
  subst h5
  refine ⟨?_, rfl⟩
  rcases t with _ | ⟨s, t⟩
  · rfl
  · rw [recsB_cons, List.length_append, recB_length] at h2
    omega
/-- what a tape's call does to the log over it -/
theorem LogK.on {PT : World → (Nat → Prop) → Nat → Tm → Prop} {LK : World → (Nat → Prop) → Nat → Nat → Tm → List (List UInt8) → Prop} (hK : LogK PT LK) {w : World} {F : Nat → Prop} {g gt : Nat} {m m' : Tm} {rs : List (List UInt8)} {f : FuncId} {args : Array Value} {v : Value} (h : LK w F g gt m rs)
    (hc : ∀ Ft, PT w Ft gt m → Calls Try.prog f args w fun e w' => e = .returned v ∧ ∃ F', PT w' F' gt m' ∧ Apt Ft w w' ∧ ∀ q, F' q → Ft q ∨ w.heap.size ≤ q) :
    Calls Try.prog f args w fun e w' => e = .returned v ∧ ∃ F', LK w' F' g gt m' rs ∧ Apt F w w' ∧ ∀ q, F' q → F q ∨ w.heap.size ≤ q := by
  obtain ⟨Ft, h1, h2, h3⟩ := hK.tape h
  refine (hc Ft h1).mono ?_
  rintro e w' ⟨he, F', h4, h5, h6⟩
  obtain ⟨F'', h7, h8⟩ := h3 w' F' m' h4 h5 h6
  exact ⟨he, F'', h7, h5.mono fun q _ hq => h2 q hq, fun q hq => (h8 q hq).elim .inl fun h => (h6 q h).imp (h2 q) id⟩

set_option maxHeartbeats 6400000 in
theorem walKeeps_any {PT : World → (Nat → Prop) → Nat → Tm → Prop} {LK : World → (Nat → Prop) → Nat → Nat → Tm → List (List UInt8) → Prop} (hT : TapeK PT) (hK : LogK PT LK) (vl : Value) (l : List De8) (keep : Int) (w : World) (hl : Ds8 w vl l) (hk0 : -9223372036854775808 ≤ keep) (hk1 : keep ≤ 9223372036854775807) :
    Calls Try.prog 5 #[vl, .int .i64 keep] w fun e w' => e = .returned (.bool true) ∧ Below w.heap.size w w' := by
  have HT := Lib.hid hT
  have HK := Lib.hid hK
  have HL := Lib.hid hl
  have eqc := eqCode
  have neq_ := neCode
  obtain ⟨Al, cl, rfl, hcl1, hcl2⟩ := hl.form
  clear hl hK hT
  go_enter Try.func5, Try.ntmps5
  go_wp2_with fail
  refine (up8_any HT.out HK.out _).mono ?_
  rintro e w1 ⟨rfl, hb1⟩
  go_wp2_with fail
  refine (HT.out.new_ok 100000 _ (by omega) (by omega)).mono ?_
  rintro e w2 ⟨gt, F, rfl, hP2, hb2, hF⟩
  have hB2 := hb1.trans (hb2.mono hb1.size)
  have hF2 : ∀ q, F q → w.heap.size ≤ q := fun q hq => Nat.le_trans hb1.size (hF q hq)
  clear hb1 hb2 hF
  by_cases hll : 30 < l.length
  · go_wp2_with fail
    go_ret
    exact ⟨rfl, hB2⟩
  have hf0 : (⟨100000, 0, -1, [], false⟩ : Tm).fine := ⟨by decide, by decide, by decide, by decide, by decide, by decide⟩
  have hO := HK.out.open_ok hP2 hf0
  go_wp2_with fail
  refine hO.mono ?_
  rintro e w3 ⟨g, F3, t, q, rfl, hR, hL3, hA3, hN3⟩
  obtain ⟨hW3, _⟩ := whole_open hf0 hR
  obtain ⟨rfl, rfl⟩ := recs_empty hR
  have hB3 := below_apt hB2 hA3 hF2 hB2.size
  have hF3 : ∀ z, F3 z → w.heap.size ≤ z := fun z hz => (hN3 z hz).elim (hF2 z) fun h => Nat.le_trans hB2.size h
  have HW0 : Hid (W2 (fun _ => True) w w3 (fun w F => LK w F g gt (tCut (tUp ⟨100000, 0, -1, [], false⟩) ((0 : Nat) : Int)).1 []) F3 (Rw w.heap.size (.slice none 0 0) []) (fun _ => False)) :=
    Lib.hid ⟨hB3, hL3, ⟨OwnL.nil _ _ _ _, fun q => by simp [Value.ownBlock]⟩, hF3, fun q hq => hq.elim, fun q _ hq => hq, fun _ _ => trivial⟩
  have HWh0 := Lib.hid hW3
  clear hO hP2 hB2 hF2 hf0 hR hL3 hA3 hN3 hB3 hF3 hW3
  generalize (tCut (tUp ⟨100000, 0, -1, [], false⟩) ((0 : Nat) : Int)).1 = m0 at *
  go_wp2_with fail
  go_loopg [10, 11] l.length (fun gk xv iv wr => ∃ (k : Nat) (F : Nat → Prop) (G : Nat → Prop) (m : Tm) (rs : List (List UInt8)) (A : Option Addr) (c : Nat), k + gk = l.length ∧ iv = .int .i64 (k : Int) ∧ xv = .slice A rs.length c ∧ Hid (W2 (fun _ => True) w wr (fun w F => LK w F g gt m rs) F (Rw w.heap.size xv (rs.map stC)) G ∧ Whole m rs))
  case atStart => exact ⟨0, F3, _, m0, [], none, 0, by omega, rfl, rfl, Lib.hid ⟨HW0.out, HWh0.out⟩⟩
  case round =>
    obtain ⟨k, F, G, m, rs, Ax, cx, hk, rfl, rfl, HM⟩ := hrel
    by_cases hlt : k < l.length
    · obtain ⟨gk1, hgk1⟩ : ∃ x, gk = x + 1 := ⟨gk - 1, by omega⟩
      have HGK := Lib.hid hgk1
      have HKG : Hid (k + (gk1 + 1) = l.length) := Lib.hid (by omega)
      clear hgk1 hk
      obtain ⟨d, hkd⟩ : ∃ d, l[k]? = some d := ⟨_, List.getElem?_eq_getElem hlt⟩
      obtain ⟨q, o, dv, rfl, hq, x0, x1, x2, hdb, hw1, hw2⟩ := HL.out.cells hkd
      have hB := HM.out.1.below
      have c0 := (hB.cell (p := ⟨q, o + k * 3, none⟩) hq).trans x0
      have c1 := (hB.cell (p := ⟨q, o + k * 3 + 1, none⟩) hq).trans x1
      have c2 := (hB.cell (p := ⟨q, o + k * 3 + 2, none⟩) hq).trans x2
      have HDB0 := Lib.hid hdb
      obtain ⟨Ad, cd, rfl, hd1, hd2, _⟩ := hdb
      clear hkd hB
      by_cases hbl : 1000 < d.b.length
      · as_aux_lemma =>
          go_wp2_with fail
          go_ret
          exact ⟨rfl, HM.out.1.below⟩
      have hPk := fun u => pick8_any d.what 3 u hw1.1 hw1.2 (by omega) (by omega)
      have HX : Hid (w.cell? ⟨q, o + k * 3 + 1, none⟩ = some (.int .i64 d.n) ∧ w.cell? ⟨q, o + k * 3 + 2, none⟩ = some (.slice Ad d.b.length cd) ∧ q < w.heap.size) := Lib.hid ⟨x1, x2, hq⟩
      generalize pick8 d.what 3 = pk at *
      clear x0 x1 x2
      have key : ∀ (u : World) (F6 : Nat → Prop) (m6 : Tm), W2 (fun _ => True) w u (fun w F => LK w F g gt m6 rs) F6 (Rw w.heap.size (.slice Ax rs.length cx) (rs.map stC)) G → Whole m6 rs →
          (Hid (u.cell? ⟨q, o + k * 3 + 2, none⟩ = some (.slice Ad d.b.length cd)) ∧ Calls Try.prog 18 #[.pointer (some ⟨g, 0, none⟩), .slice Ad d.b.length cd] u fun e w' => ∃ (c : Int) (F7 : Nat → Prop) (m7 : Tm) (rs7 : List (List UInt8)), e = .returned (errV c) ∧
            W2 (fun _ => True) w w' (fun w F => LK w F g gt m7 rs7) F7 (Rw w.heap.size (.slice Ax rs.length cx) (rs.map stC)) G ∧ Whole m7 rs7 ∧ rs7 = if c = 0 then rs ++ [d.b] else rs) := by
        intro u F6 m6 hW hWh
        refine ⟨Lib.hid ((hW.below.cell (p := ⟨q, o + k * 3 + 2, none⟩) HX.out.2.2).trans HX.out.2.1), ?_⟩
        obtain ⟨a1, _, a3, a4⟩ := hWh.append d.b
        have hApp := HK.out.append hW.a hWh (HDB0.out.below hW.below) (fun hne z hz hF => by
          have h1 := hW.fge z hF
          obtain ⟨y, hy, hy'⟩ := HDB0.out.block hne
          rw [hy] at hz
          injection hz with hz
          omega) (by omega)
        refine hApp.mono ?_
        rintro e w7 ⟨rfl, F7, hL7, hA7, hN7⟩
        exact ⟨_, F7, _, _, rfl, hW.stepA (A' := fun w F => LK w F g gt (wApp m6 rs d.b).1 (wApp m6 rs d.b).2.1) (HK.out.thing _ _ _ _) (Rw.thing _ _ _) hL7 hA7 hN7, a1, a4⟩
      have KEY := Lib.hid key
      clear key
      by_cases hpk : pk = 0
      · subst hpk
        as_aux_lemma =>
          have hFl := HK.out.on (m' := tFail m d.n) HM.out.1.a fun Ft hF => HT.out.fail (n := d.n) hF HM.out.2.fine hw2.1 hw2.2
          go_wp2_with fail
          refine (hPk _).mono ?_
          rintro e w5 ⟨rfl, rfl⟩
          go_wp2_with fail
          refine hFl.mono ?_
          rintro e w6 ⟨rfl, F6, hL6, hA6, hN6⟩
          have HW6 := Lib.hid (HM.out.1.stepA (A' := fun w F => LK w F g gt (tFail m d.n) rs) (HK.out.thing _ _ _ _) (Rw.thing _ _ _) hL6 hA6 hN6)
          have HWh6 := Lib.hid (HM.out.2.fail d.n hw2.2)
          clear hFl hPk hL6 hA6 hN6
          obtain ⟨hc2u, hApp⟩ := KEY.out _ _ _ HW6.out HWh6.out
          have c2u := hc2u.out
          go_wp2_with fail
          refine hApp.mono ?_
          rintro e w7 ⟨c, F7, m7, rs7, rfl, hW7, hWh7, hrs7⟩
          have hc27 := (hW7.below.cell (p := ⟨q, o + k * 3 + 2, none⟩) HX.out.2.2).trans HX.out.2.1
          clear hApp c2u c0 c1 c2
          by_cases hc : c = 0
          · subst hc
            rw [if_pos rfl] at hrs7
            subst hrs7
            have HW7 := Lib.hid hW7
            have HWh7 := Lib.hid hWh7
            have hst := strOf (HDB0.out.below hW7.below)
            have hlen := hWh7.small.2
            rw [List.length_append, List.length_singleton] at hlen
            have ha7 : Below w7.heap.size w7 (w7.alloc (.cells #[.string (Bstr d.b)] 9)) := (Below.refl _ _).alloc (Nat.le_refl _) _
            have HRow := Lib.hid (hW7.b.1.below ha7)
            have HLV := Lib.hid (Lv.lit1 w7 [.string (Bstr d.b)] 9)
            have HSZ := Lib.hid (Nat.le_trans hW7.below.size ha7.size)
            have HA7 := Lib.hid ha7
            rw [errV_zero]
            clear hW7 hWh7 ha7
            go_wp2_with (at_builtin; refine wpList_append_elems _ strT1 rfl _ _ rfl w.heap.size _ _ rfl HRow.out _ _ rfl HLV.out (by simp [Value.oneCell']) (by simp only [maxLen, List.length_map, List.length_singleton]; omega) (by simp only [List.length_map, List.length_singleton]; omega) HSZ.out ?_)
            intro v8 w8 ho8 hg8 hbk8
            have ho8' : OwnL 1 w8 w.heap.size 9 v8 ((rs ++ [d.b]).map stC) := by
              rw [List.map_append]
              exact ho8
            have hW8 := HW7.out.stepB (B' := Rw w.heap.size v8 ((rs ++ [d.b]).map stC)) (G' := fun q => v8.ownBlock = some q) (HK.out.thing _ _ _ _) ⟨ho8', fun q => Iff.rfl⟩ ((Apt.of_below HA7.out).trans (Apt.of_grown hg8 fun z hz => (HW7.out.b.2 z).2 hz)) (fun z hz => by
              rcases hbk8 with h1 | h1
              · exact .inl ((HW7.out.b.2 z).2 (h1 ▸ hz))
              · rw [h1] at hz
                injection hz with hz
                have := HA7.out.size
                exact .inr (by omega))
            obtain ⟨A8, c8, hv8, _⟩ := ho8'.lv.form
            rw [List.length_map, List.length_append, List.length_singleton] at hv8
            subst hv8
            have HW8 := Lib.hid hW8
            clear ho8 ho8' hg8 hbk8 hW8 hst hc27
            go_wp2_with fail
            go_roundg gk1
            case measure => have := HGK.out; omega
            case rel => exact ⟨k + 1, F7, _, m7, rs ++ [d.b], A8, c8, by have := HKG.out; omega, by go_num, by rw [List.length_append, List.length_singleton], Lib.hid ⟨HW8.out, HWh7.out⟩⟩
          · rw [if_neg hc] at hrs7
            subst hrs7
            have HW7 := Lib.hid hW7
            have HWh7 := Lib.hid hWh7
            rw [errV_code hc]
            clear hW7 hWh7
            go_wp2_with fail
            go_roundg gk1
            case measure => have := HGK.out; omega
            case rel => exact ⟨k + 1, F7, _, m7, rs7, Ax, cx, by have := HKG.out; omega, by go_num, rfl, Lib.hid ⟨HW7.out, HWh7.out⟩⟩
      · have hpb : (pk == 0) = false := by simp [hpk]
        as_aux_lemma =>
          go_wp2_with fail
          refine (hPk _).mono ?_
          rintro e w5 ⟨rfl, rfl⟩
          have HW6 := Lib.hid HM.out.1
          have HWh6 := Lib.hid HM.out.2
          clear hPk
          obtain ⟨hc2u, hApp⟩ := KEY.out _ _ _ HW6.out HWh6.out
          have c2u := hc2u.out
          go_wp2_with fail
          refine hApp.mono ?_
          rintro e w7 ⟨c, F7, m7, rs7, rfl, hW7, hWh7, hrs7⟩
          have hc27 := (hW7.below.cell (p := ⟨q, o + k * 3 + 2, none⟩) HX.out.2.2).trans HX.out.2.1
          clear hApp c2u c0 c1 c2
          by_cases hc : c = 0
          · subst hc
            rw [if_pos rfl] at hrs7
            subst hrs7
            have HW7 := Lib.hid hW7
            have HWh7 := Lib.hid hWh7
            have hst := strOf (HDB0.out.below hW7.below)
            have hlen := hWh7.small.2
            rw [List.length_append, List.length_singleton] at hlen
            have ha7 : Below w7.heap.size w7 (w7.alloc (.cells #[.string (Bstr d.b)] 9)) := (Below.refl _ _).alloc (Nat.le_refl _) _
            have HRow := Lib.hid (hW7.b.1.below ha7)
            have HLV := Lib.hid (Lv.lit1 w7 [.string (Bstr d.b)] 9)
            have HSZ := Lib.hid (Nat.le_trans hW7.below.size ha7.size)
            have HA7 := Lib.hid ha7
            rw [errV_zero]
            clear hW7 hWh7 ha7
            go_wp2_with (at_builtin; refine wpList_append_elems _ strT1 rfl _ _ rfl w.heap.size _ _ rfl HRow.out _ _ rfl HLV.out (by simp [Value.oneCell']) (by simp only [maxLen, List.length_map, List.length_singleton]; omega) (by simp only [List.length_map, List.length_singleton]; omega) HSZ.out ?_)
            intro v8 w8 ho8 hg8 hbk8
            have ho8' : OwnL 1 w8 w.heap.size 9 v8 ((rs ++ [d.b]).map stC) := by
              rw [List.map_append]
              exact ho8
            have hW8 := HW7.out.stepB (B' := Rw w.heap.size v8 ((rs ++ [d.b]).map stC)) (G' := fun q => v8.ownBlock = some q) (HK.out.thing _ _ _ _) ⟨ho8', fun q => Iff.rfl⟩ ((Apt.of_below HA7.out).trans (Apt.of_grown hg8 fun z hz => (HW7.out.b.2 z).2 hz)) (fun z hz => by
              rcases hbk8 with h1 | h1
              · exact .inl ((HW7.out.b.2 z).2 (h1 ▸ hz))
              · rw [h1] at hz
                injection hz with hz
                have := HA7.out.size
                exact .inr (by omega))
            obtain ⟨A8, c8, hv8, _⟩ := ho8'.lv.form
            rw [List.length_map, List.length_append, List.length_singleton] at hv8
            subst hv8
            have HW8 := Lib.hid hW8
            clear ho8 ho8' hg8 hbk8 hW8 hst hc27
            go_wp2_with fail
            go_roundg gk1
            case measure => have := HGK.out; omega
            case rel => exact ⟨k + 1, F7, _, m7, rs ++ [d.b], A8, c8, by have := HKG.out; omega, by go_num, by rw [List.length_append, List.length_singleton], Lib.hid ⟨HW8.out, HWh7.out⟩⟩
          · rw [if_neg hc] at hrs7
            subst hrs7
            have HW7 := Lib.hid hW7
            have HWh7 := Lib.hid hWh7
            rw [errV_code hc]
            clear hW7 hWh7
            go_wp2_with fail
            go_roundg gk1
            case measure => have := HGK.out; omega
            case rel => exact ⟨k + 1, F7, _, m7, rs7, Ax, cx, by have := HKG.out; omega, by go_num, rfl, Lib.hid ⟨HW7.out, HWh7.out⟩⟩
    · as_aux_lemma =>
        obtain ⟨Ft, hPT, hsub, _⟩ := HK.out.tape HM.out.1.a
        have hCr := HT.out.crash (n := keep) hPT HM.out.2.fine hk0 hk1
        obtain ⟨hfc, hRc⟩ := HM.out.2.crash keep
        have HFC := Lib.hid hfc
        have HRC := Lib.hid hRc
        clear hPT hfc hRc hk
        go_wp2_with fail
        refine hCr.mono ?_
        rintro e w6 ⟨rfl, F6, hP6, hA6, hN6⟩
        have hW6 := HM.out.1.stepA (A' := fun w F => PT w F gt (tCrash m keep)) (HK.out.thing _ _ _ _) (Rw.thing _ _ _) hP6 (hA6.mono fun q _ hq => hsub q hq) (fun q hq => (hN6 q hq).imp (hsub q) id)
        have HW6 := Lib.hid hW6
        have hO := HK.out.open_ok hW6.a HFC.out
        clear hCr hP6 hA6 hN6 hW6 hsub
        go_wp2_with fail
        refine hO.mono ?_
        rintro e w7 ⟨g2, F7, t, q, rfl, hR, hL7, hA7, hN7⟩
        obtain ⟨hW7, _⟩ := whole_open HFC.out hR
        obtain ⟨rfl, _⟩ := hR.one HRC.out
        have hS7 := HW6.out.stepA (A' := fun w F => LK w F g2 gt (tCut (tUp (tCrash m keep)) (q : Int)).1 t) (HT.out.thing _ _) (Rw.thing _ _ _) hL7 hA7 hN7
        have HS7 := Lib.hid hS7
        have hAll := HK.out.all hS7.a hW7.fine hW7.b
        clear hO hL7 hA7 hN7 hS7 hW7 hR HRC
        go_wp2_with fail
        refine hAll.mono ?_
        rintro e w8 ⟨x, F8, rfl, hx, hL8, hA8, hN8⟩
        have hS8 := HS7.out.stepA (A' := fun w F => LK w F g2 gt (tCut (tUp (tCrash m keep)) (q : Int)).1 t) (HK.out.thing _ _ _ _) (Rw.thing _ _ _) hL8 hA8 hN8
        have HS8 := Lib.hid hS8
        have hAl := alike_any x _ t _ hx hS8.b.1.lv
        obtain ⟨A8, c8, rfl, _⟩ := hx.form
        clear hAll hx hL8 hA8 hN8 hS8
        go_wp2_with fail
        refine hAl.mono ?_
        rintro e w9 ⟨rfl, hb9⟩
        clear hAl
        go_wp2_with fail
        go_ret
        exact ⟨rfl, HS8.out.below.trans (hb9.mono HS8.out.below.size)⟩
end Go.Proofs.Ytdfjicjlmejonaa
