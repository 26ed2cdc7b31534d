/-
  THE PROGRAM's TAPE IN MEMORY ('PTt'); CONTRACTS of New, call, leave, Append, Sync, Read, Cut, Fail, Crash, Up: 'tapeK : TapeK PTt'. No condition but what each theorem says.
-/
import Derived.Test.YtdfjicjlmejonaaTpB
import Derived.Test.YtdfjicjlmejonaaBcl
import Derived.Lib.MinMax
namespace Go.Proofs.Ytdfjicjlmejonaa
open Go.RowKit
set_option maxRecDepth 100000

theorem BV_take (l : List UInt8) (k : Nat) : BV (l.take k) = (BV l).take k := by simp [BV, List.map_take]
/-- s[:k] of a slice of the call's own -/
theorem Own.upto {w : World} {base n c : Nat} {e : TypeId} {A : Option Addr} {l : List UInt8} (h : Own w base e (.slice A n c) l) (k : Nat) (hk : k ≤ l.length) : Own w base e (.slice A k c) (l.take k) := by
  have hlen : (l.take k).length = k := by rw [List.length_take]; omega
  have h1 := h.1
  unfold Own
  rw [hlen, BV_take]
  rcases h.2 with ⟨e0, hl⟩ | ⟨g, cap, cur, e0, hb, hg, hnc, hcm, hsz, htk⟩
  · injection e0 with e1 e2 e3
    subst e1 e3
    have : k = 0 := by omega
    subst this
    exact World.ownsRow_nil w base e 1
  · injection e0 with e1 e2 e3
    subst e1 e3
    refine ⟨by rw [List.length_take, BV_length]; omega, .inr ⟨g, _, cur, rfl, hb, hg, by omega, hcm, hsz, ?_⟩⟩
    rw [← htk, List.take_take]
    congr 1
    omega

/-- in the world w the tape in block g is m; it lies in the blocks F -/
structure PTt (w : World) (F : Nat → Prop) (g : Nat) (m : Tm) : Prop where
  lt : ∀ q, F q → q < w.heap.size
  Fg : F g
  ex : ∃ (v : Value) (W : Int), Blk w g 70 #[.int .i64 m.room, v, .int .i64 (m.synced : Int), .bool m.down, .int .i64 W] ∧ Own w 0 5 v m.b ∧ (∀ q, v.ownBlock = some q → F q ∧ q ≠ g) ∧
    (-9223372036854775808 ≤ W ∧ W ≤ 9223372036854775807) ∧ m.left = if W < 0 then -1 else W

theorem PTt.keep {w w' : World} {F : Nat → Prop} {g : Nat} {m : Tm} (h : PTt w F g m) (ha : Apt (fun q => ¬ F q) w w') : PTt w' F g m := by
  obtain ⟨v, W, hB, hv, hF, h2, h3⟩ := h.ex
  exact ⟨fun q hq => Nat.lt_of_lt_of_le (h.lt q hq) ha.size, h.Fg, v, W, (ha.block g hB.lt fun hn => hn h.Fg).trans hB, hv.apt ha fun q hq hn => hn (hF q hq).1, hF, h2, h3⟩
/-- its cells turn, but for the bytes -/
theorem PTt.turn {w w' : World} {F : Nat → Prop} {g : Nat} {m m' : Tm} {v : Value} {W' : Int} (h : PTt w F g m) (hv : Own w 0 5 v m.b) (hF : ∀ q, v.ownBlock = some q → F q ∧ q ≠ g) (hg : w.grownBy w' (some g))
    (hb : Blk w' g 70 #[.int .i64 m'.room, v, .int .i64 (m'.synced : Int), .bool m'.down, .int .i64 W']) (hm : m'.b = m.b) (hW : -9223372036854775808 ≤ W' ∧ W' ≤ 9223372036854775807) (hl : m'.left = if W' < 0 then -1 else W') : PTt w' F g m' :=
  ⟨fun q hq => Nat.lt_of_lt_of_le (h.lt q hq) hg.size, h.Fg, v, W', hb, by
    rw [hm]
    refine hv.kept hg ?_
    cases hq : v.ownBlock with
    | none => exact .inl rfl
    | some q => exact .inr fun e => (hF q hq).2 (by injection e), hF, hW, hl⟩
theorem apt_own {w w' : World} {F : Nat → Prop} {g : Nat} (hF : F g) (hg : w.grownBy w' (some g)) : Apt F w w' := Apt.of_grown hg fun q hq => by injection hq with hq; subst hq; exact hF

section
variable {w : World} {g : Nat} {x0 x1 x2 x3 x4 : Value}
theorem tset1 (h : Blk w g 70 #[x0, x1, x2, x3, x4]) (u : Value) : Blk (w.setCell ⟨g, 1, none⟩ u) g 70 #[x0, u, x2, x3, x4] := by
  have := Blk.set_ h 1 u
  simp only [List.setIfInBounds_toArray, List.set_cons_succ, List.set_cons_zero] at this
  exact this
theorem tset2 (h : Blk w g 70 #[x0, x1, x2, x3, x4]) (u : Value) : Blk (w.setCell ⟨g, 2, none⟩ u) g 70 #[x0, x1, u, x3, x4] := by
  have := Blk.set_ h 2 u
  simp only [List.setIfInBounds_toArray, List.set_cons_succ, List.set_cons_zero] at this
  exact this
theorem tset3 (h : Blk w g 70 #[x0, x1, x2, x3, x4]) (u : Value) : Blk (w.setCell ⟨g, 3, none⟩ u) g 70 #[x0, x1, x2, u, x4] := by
  have := Blk.set_ h 3 u
  simp only [List.setIfInBounds_toArray, List.set_cons_succ, List.set_cons_zero] at this
  exact this
theorem tset4 (h : Blk w g 70 #[x0, x1, x2, x3, x4]) (u : Value) : Blk (w.setCell ⟨g, 4, none⟩ u) g 70 #[x0, x1, x2, x3, u] := by
  have := Blk.set_ h 4 u
  simp only [List.setIfInBounds_toArray, List.set_cons_succ, List.set_cons_zero] at this
  exact this
end

theorem tnew_no (room : Int) (w : World) (h : room < 1 ∨ 1048576 < room) : Calls Try.prog 10 #[.int .i64 room] w fun e w' => e = .returned (.tuple #[.pointer none, code 1]) ∧ Below w.heap.size w w' := by
  by_cases h1 : room < 1
  · go_enter Try.func10, Try.ntmps10
    go_wp2_with fail
    go_ret2
    exact ⟨rfl, Below.refl _ _⟩
  · have h2 : 1048576 < room := by omega
    clear h
    go_enter Try.func10, Try.ntmps10
    go_wp2_with fail
    go_ret2
    exact ⟨rfl, Below.refl _ _⟩
theorem tnew_ok (room : Int) (w : World) (h0 : 1 ≤ room) (h1 : room ≤ 1048576) :
    Calls Try.prog 10 #[.int .i64 room] w fun e w' => ∃ (g : Nat) (F : Nat → Prop), e = .returned (.tuple #[.pointer (some ⟨g, 0, none⟩), .nilIface]) ∧ PTt w' F g ⟨room, 0, -1, [], false⟩ ∧ Below w.heap.size w w' ∧ ∀ q, F q → w.heap.size ≤ q := by
  go_enter Try.func10, Try.ntmps10
  go_wp2_with fail
  go_ret2
  refine ⟨w.heap.size, fun q => q = w.heap.size, rfl, ⟨fun q hq => by simp; omega, rfl, .slice none 0 0, -1, Blk.new _ _ _, Own.nil _ _ _, fun q hq => by simp [Value.ownBlock] at hq, by omega, by simp⟩, (Below.refl _ w).alloc (Nat.le_refl _) _, fun q hq => by omega⟩

set_option maxHeartbeats 800000 in
theorem tcall_any {w : World} {F : Nat → Prop} {g : Nat} {m : Tm} (h : PTt w F g m) :
    Calls Try.prog 29 #[.pointer (some ⟨g, 0, none⟩)] w fun e w' => e = .returned (errV (tCall m).2) ∧ PTt w' F g (tCall m).1 ∧ w.grownBy w' (some g) := by
  obtain ⟨v, W, hB, hv, hF, hW, hl⟩ := h.ex
  have k3 := hB.cell 3
  have k4 := hB.cell 4
  have f4 := hB.frozen 4
  simp at k3 k4
  have HB := Lib.hid hB
  have HL := Lib.hid hl
  have H := Lib.hid h
  have HV := Lib.hid hv
  have HF := Lib.hid hF
  have hg := fun x => grown_set w g 4 x
  clear h hB hl hv hF
  cases hd : m.down with
  | true =>
    have HG := Lib.hid (tCall_down hd)
    rw [hd] at k3
    clear hd
    go_enter Try.func29, Try.ntmps29
    go_wp2_with fail
    go_ret
    rw [HG.out]
    exact ⟨rfl, H.out, World.grownBy.refl _ _⟩
  | false =>
    rw [hd] at k3
    rcases Int.lt_trichotomy W 0 with hw | hw | hw
    · have hlm : m.left = -1 := by rw [HL.out, if_pos hw]
      have HG : Hid (tCall m = (m, 0)) := Lib.hid (by rw [tCall_ok hd (by omega), if_neg (by omega)])
      have hz : (W == 0) = false := by simp; omega
      clear hlm hd
      go_enter Try.func29, Try.ntmps29
      go_wp2_with fail
      go_ret
      rw [HG.out]
      exact ⟨rfl, H.out, World.grownBy.refl _ _⟩
    · subst hw
      have hlm : m.left = 0 := by rw [HL.out]; rfl
      have HG : Hid (tCall m = ({ m with left := -1 }, 8)) := Lib.hid (tCall_fail hd hlm)
      have HT : Hid (PTt (w.setCell ⟨g, 4, none⟩ (.int .i64 (-1))) F g { m with left := -1 }) := Lib.hid (H.out.turn (m' := { m with left := -1 }) HV.out HF.out (hg _) (tset4 HB.out _) rfl (by omega) rfl)
      clear hlm hd
      go_enter Try.func29, Try.ntmps29
      go_wp2_with fail
      go_ret
      rw [HG.out]
      exact ⟨rfl, HT.out, hg _⟩
    · have hlm : m.left = W := by rw [HL.out, if_neg (by omega)]
      have HG : Hid (tCall m = ({ m with left := W - 1 }, 0)) := Lib.hid (by rw [tCall_ok hd (by omega), if_pos (by omega), hlm])
      have HT : Hid (PTt (w.setCell ⟨g, 4, none⟩ (.int .i64 (W - 1))) F g { m with left := W - 1 }) := Lib.hid (H.out.turn (m' := { m with left := W - 1 }) HV.out HF.out (hg _) (tset4 HB.out _) rfl (by omega) (by rw [if_neg (by omega)]))
      have hz : (W == 0) = false := by simp; omega
      clear hlm hd
      go_enter Try.func29, Try.ntmps29
      go_wp2_with fail
      go_ret
      rw [HG.out]
      exact ⟨rfl, HT.out, hg _⟩

set_option maxHeartbeats 800000 in
theorem tleave_any {w : World} {F : Nat → Prop} {g : Nat} {m : Tm} (k : Nat) (h : PTt w F g m) (hk : k ≤ m.b.length) :
    Calls Try.prog 41 #[.pointer (some ⟨g, 0, none⟩), .int .i64 (k : Int)] w fun e w' => e = .returned (.tuple #[]) ∧ PTt w' F g { m with b := m.b.take k, synced := k } ∧ w.grownBy w' (some g) := by
  obtain ⟨v, W, hB, hv, hF, hW, hl⟩ := h.ex
  obtain ⟨A, c, rfl, hc1, hc2, hr, _⟩ := hv.form
  have k1 := hB.cell 1
  have f1 := hB.frozen 1
  have f2 := hB.frozen 2
  have k2 := hB.cell 2
  simp at k1 k2
  have hs := (slice_bytes_upto byteT elemB hr hc1 hc2 k hk k rfl).1
  have hg : w.grownBy ((w.setCell ⟨g, 1, none⟩ (.slice A k c)).setCell ⟨g, 2, none⟩ (.int .i64 (k : Int))) (some g) := grown_trans (grown_set _ _ _ _) (grown_set _ _ _ _)
  have eob : (Value.slice A k c).ownBlock = (Value.slice A m.b.length c).ownBlock := by cases A <;> rfl
  have HT : Hid (PTt ((w.setCell ⟨g, 1, none⟩ (.slice A k c)).setCell ⟨g, 2, none⟩ (.int .i64 (k : Int))) F g { m with b := m.b.take k, synced := k }) := Lib.hid
    ⟨fun q hq => Nat.lt_of_lt_of_le (h.lt q hq) hg.size, h.Fg, _, W, tset2 (tset1 hB _) _, (hv.upto k hk).kept hg (by
      cases hq : (Value.slice A k c).ownBlock with
      | none => exact .inl rfl
      | some q => exact .inr fun e => (hF q (eob ▸ hq)).2 (by injection e)), fun q hq => hF q (eob ▸ hq), hW, hl⟩
  clear h hB hv hF hl hr
  go_enter Try.func41, Try.ntmps41
  go_wp2_with fail
  refine bodyPost_end (results_none rfl _ _ _) rfl ?_
  exact ⟨rfl, HT.out, hg⟩

set_option maxHeartbeats 1600000 in
theorem tappend_any {w : World} {F : Nat → Prop} {g : Nat} {m : Tm} {b : List UInt8} {bv : Value} (h : PTt w F g m) (hm : m.fine) (hb : Bs w bv b) (hsep : b ≠ [] → ∀ q, bv.ownBlock = some q → ¬ F q) (hbl : b.length ≤ 1000000000) :
    Calls Try.prog 11 #[.pointer (some ⟨g, 0, none⟩), bv] w fun e w' => e = .returned (errV (tAppend m b).2) ∧ ∃ F', PTt w' F' g (tAppend m b).1 ∧ Apt F w w' ∧ ∀ q, F' q → F q ∨ w.heap.size ≤ q := by
  have hc := tcall_any h
  have hFg := h.Fg
  have hlen := hm.len
  have hr0 := hm.room0
  have hr1 := hm.room1
  obtain ⟨e1, e2, e3, e4⟩ := tCall_same m
  have hcode := tCall_code m
  have HA : Hid (tAppend m b = if (tCall m).2 = 0 then (if m.room < (m.b.length : Int) + b.length then ((tCall m).1, 6) else ({ (tCall m).1 with b := m.b ++ b }, 0)) else tCall m) := Lib.hid rfl
  have neq_ := neCode
  generalize tAppend m b = R at *
  generalize tCall m = r at *
  obtain ⟨m1, c⟩ := r
  simp only at hc e1 e2 e3 e4 hcode HA
  have HBs := Lib.hid hb
  have HSEP := Lib.hid hsep
  obtain ⟨Ab, cb, rfl, hcb1, hcb2, _⟩ := hb
  clear h hm hsep
  go_enter Try.func11, Try.ntmps11
  go_wp2_with fail
  refine hc.mono ?_
  rintro e w1 ⟨rfl, h1, hg1⟩
  have H1 := Lib.hid h1
  have HG1 := Lib.hid (apt_own hFg hg1)
  have HB1 : Hid (Bs w1 (.slice Ab b.length cb) b) := Lib.hid (HBs.out.grown hg1 fun hne e => HSEP.out hne g e hFg)
  obtain ⟨v, W, hB, hv, hF, hW, hl⟩ := h1.ex
  clear hc h1 e2 e4 hg1
  by_cases hc0 : c = 0
  · subst hc0
    rw [errV_zero]
    rw [e1] at hB
    rw [e3] at hv
    have HV := Lib.hid hv
    have HF := Lib.hid hF
    have HB := Lib.hid hB
    obtain ⟨A, cp, rfl, hc1, hc2, hr, _⟩ := hv.form
    have k0 := hB.cell 0
    have k1 := hB.cell 1
    have f1 := hB.frozen 1
    simp at k0 k1
    clear hB hF hr
    by_cases hfull : m.room < (m.b.length : Int) + b.length
    · have HR : Hid (R = (m1, 6)) := Lib.hid (by rw [HA.out, if_pos rfl, if_pos hfull])
      clear HA hcode
      go_wp2_with fail
      go_quiet (fail)
      go_wp2_with fail
      go_ret
      rw [HR.out]
      have hb := below_drewN (Below.refl w1.heap.size w1) nq
      exact ⟨rfl, F, H1.out.keep (Apt.of_below hb), HG1.out.trans (Apt.of_below hb), fun q hq => .inl hq⟩
    · have HR : Hid (R = ({ m1 with b := m.b ++ b }, 0)) := Lib.hid (by rw [HA.out, if_pos rfl, if_neg hfull])
      clear HA hcode
      go_wp2_with fail
      go_quiet (fail)
      have hb2 := below_drewN (Below.refl w1.heap.size w1) nq
      generalize w1.drewN nq = w2 at *
      have HB2 : Hid (Below w1.heap.size w1 w2) := Lib.hid hb2
      have hlt1 : g < w1.heap.size := HB.out.lt
      have hB2 := HB.out.below hb2 hlt1
      have j1 := hB2.cell 1
      have jf1 := hB2.frozen 1
      simp at j1
      clear k0 k1 f1
      go_wp2_with (at_builtin; refine wpList_append_v _ byteT rfl _ _ rfl 0 _ _ rfl (HV.out.below HB2.out) _ b rfl (HB1.out.below HB2.out) (by omega) (Nat.zero_le _) ?_)
      intro v3 w3 hv3 hg3 hn3
      have hne : some g ≠ (Value.slice A m.b.length cp).ownBlock := fun e => (HF.out g e.symm).2 rfl
      have hB3 := hB2.grown hg3 hne
      have i1 := hB3.cell 1
      have if1 := hB3.frozen 1
      simp at i1
      have HV3 := Lib.hid hv3
      have HB3 := Lib.hid hB3
      obtain ⟨A3, c3, e3v, _⟩ := hv3.form
      rw [List.length_append] at e3v
      have hF3 : ∀ q, v3.ownBlock = some q → (F q ∨ v3.ownBlock = some q) ∧ q ≠ g := fun q hq => ⟨.inr hq, fun e => by
        subst e
        rcases hn3 with h | h
        · exact hne (hq.symm.trans h)
        · rw [hq] at h
          injection h with h
          have := hB2.lt
          omega⟩
      have hlt3 : ∀ q, v3.ownBlock = some q → F q ∨ w2.heap.size ≤ q := fun q hq => by
        rcases hn3 with h | h
        · exact .inl (HF.out q (h.symm.trans hq)).1
        · rw [hq] at h
          injection h with h
          exact .inr (by omega)
      have HA3 : Hid (Apt F w w3) := Lib.hid ((HG1.out.trans (Apt.of_below HB2.out)).trans (Apt.of_grown hg3 fun q hq => (HF.out q hq).1))
      have hgs := grown_set w3 g 1 v3
      have HAS : Hid (Apt F w (w3.setCell ⟨g, 1, none⟩ v3)) := Lib.hid (HA3.out.trans (apt_own hFg hgs))
      have hsz : w.heap.size ≤ w2.heap.size := Nat.le_trans HG1.out.size HB2.out.size
      have HT : Hid (PTt (w3.setCell ⟨g, 1, none⟩ v3) (fun q => F q ∨ v3.ownBlock = some q) g { m1 with b := m.b ++ b }) := Lib.hid
        ⟨fun q hq => Nat.lt_of_lt_of_le (hq.elim (fun h => Nat.lt_of_lt_of_le (H1.out.lt q h) (Nat.le_trans HB2.out.size hg3.size)) fun h => HV3.out.blk_lt q h) hgs.size, .inl hFg, v3, W, by
          have := tset1 HB3.out v3
          rw [e1]
          exact this, HV3.out.kept hgs (by
            cases hq : v3.ownBlock with
            | none => exact .inl rfl
            | some q => exact .inr fun e => (hF3 q hq).2 (by injection e)), hF3, hW, hl⟩
      have HN : Hid (∀ q, (F q ∨ v3.ownBlock = some q) → F q ∨ w.heap.size ≤ q) := Lib.hid fun q hq => hq.elim .inl fun h => (hlt3 q h).imp id fun h => Nat.le_trans hsz h
      clear hv3 hB3 hg3 hn3 hF3 hlt3 hgs hB2 j1 jf1
      generalize hgen : (fun q => F q ∨ v3.ownBlock = some q) = F' at HT
      subst e3v
      go_wp2_with fail
      go_ret
      rw [HR.out]
      subst hgen
      exact ⟨rfl, _, HT.out, HAS.out, HN.out⟩
  · have hcb : (c == 0) = false := by simp [hc0]
    have HR : Hid (R = (m1, c)) := Lib.hid (by rw [HA.out, if_neg hc0])
    rw [errV_code hc0]
    clear HA hcode
    go_wp2_with fail
    go_ret
    rw [HR.out]
    refine ⟨?_, F, H1.out, HG1.out, fun q hq => .inl hq⟩
    show _ = Ending.returned (errV c)
    rw [errV_code hc0]
    rfl

set_option maxHeartbeats 800000 in
theorem tsync_any {w : World} {F : Nat → Prop} {g : Nat} {m : Tm} (h : PTt w F g m) :
    Calls Try.prog 37 #[.pointer (some ⟨g, 0, none⟩)] w fun e w' => e = .returned (errV (tSync m).2) ∧ PTt w' F g (tSync m).1 ∧ w.grownBy w' (some g) := by
  have hc := tcall_any h
  obtain ⟨e1, e2, e3, e4⟩ := tCall_same m
  have HA : Hid (tSync m = if (tCall m).2 = 0 then ({ (tCall m).1 with synced := m.b.length }, 0) else tCall m) := Lib.hid rfl
  have neq_ := neCode
  generalize tSync m = R at *
  generalize tCall m = r at *
  obtain ⟨m1, c⟩ := r
  simp only at hc e1 e2 e3 e4 HA
  clear h
  go_enter Try.func37, Try.ntmps37
  go_wp2_with fail
  refine hc.mono ?_
  rintro e w1 ⟨rfl, h1, hg1⟩
  have H1 := Lib.hid h1
  have HG1 := Lib.hid hg1
  obtain ⟨v, W, hB, hv, hF, hW, hl⟩ := h1.ex
  clear hc h1 hg1 e1 e2 e4
  by_cases hc0 : c = 0
  · subst hc0
    rw [errV_zero]
    have hgs := grown_set w1 g 2 (.int .i64 (m.b.length : Int))
    have HT : Hid (PTt (w1.setCell ⟨g, 2, none⟩ (.int .i64 (m.b.length : Int))) F g { m1 with synced := m.b.length }) := Lib.hid (H1.out.turn (m' := { m1 with synced := m.b.length }) hv hF hgs (tset2 hB _) rfl hW hl)
    rw [e3] at hv
    have HR : Hid (R = ({ m1 with synced := m.b.length }, 0)) := Lib.hid (by rw [HA.out, if_pos rfl])
    obtain ⟨A, cp, rfl, hc1, hc2, hr, _⟩ := hv.form
    have k1 := hB.cell 1
    have f2 := hB.frozen 2
    have k2 := hB.cell 2
    simp at k1 k2
    clear HA hB hF hv hr
    go_wp2_with fail
    go_ret
    rw [HR.out]
    exact ⟨rfl, HT.out, grown_trans HG1.out hgs⟩
  · have hcb : (c == 0) = false := by simp [hc0]
    have HR : Hid (R = (m1, c)) := Lib.hid (by rw [HA.out, if_neg hc0])
    rw [errV_code hc0]
    clear HA hB hv hF
    go_wp2_with fail
    go_ret
    rw [HR.out]
    refine ⟨?_, H1.out, HG1.out⟩
    show _ = Ending.returned (errV c)
    rw [errV_code hc0]
    rfl

set_option maxHeartbeats 800000 in
theorem tread_any {w : World} {F : Nat → Prop} {g : Nat} {m : Tm} (h : PTt w F g m) (hm : m.fine) :
    Calls Try.prog 25 #[.pointer (some ⟨g, 0, none⟩)] w fun e w' => ∃ x, e = .returned (.tuple #[x, errV (tRead m).2]) ∧ Own w' w.heap.size 5 x (tRead m).1 ∧ Below w.heap.size w w' := by
  obtain ⟨v, W, hB, hv, hF, hW, hl⟩ := h.ex
  have hlen := hm.len
  have hr1 := hm.room1
  have k1 := hB.cell 1
  have k3 := hB.cell 3
  simp at k1 k3
  have HV := Lib.hid hv.bs
  obtain ⟨A, cp, rfl, hc1, hc2, hr, _⟩ := hv.form
  clear h hm hB hv hF hl hr
  cases hd : m.down with
  | true =>
    have HG : Hid (tRead m = ([], 9)) := Lib.hid (by rw [tRead, if_pos hd])
    rw [hd] at k3
    clear hd
    go_enter Try.func25, Try.ntmps25
    go_wp2_with fail
    go_ret2
    rw [HG.out]
    exact ⟨_, rfl, Own.nil _ _ _, Below.refl _ _⟩
  | false =>
    have HG : Hid (tRead m = (m.b, 0)) := Lib.hid (by rw [tRead, if_neg (by rw [hd]; simp)])
    rw [hd] at k3
    clear hd
    go_enter Try.func25, Try.ntmps25
    go_wp2_with fail
    refine (bclone_any m.b _ _ (by omega) HV.out).mono ?_
    rintro e w1 ⟨x, rfl, hx, hb⟩
    go_wp2_with fail
    go_ret2
    rw [HG.out]
    exact ⟨_, rfl, hx, hb⟩

set_option maxHeartbeats 800000 in
theorem tcut_any {w : World} {F : Nat → Prop} {g : Nat} {m : Tm} (n : Int) (h : PTt w F g m) (hn0 : -9223372036854775808 ≤ n) (hn1 : n ≤ 9223372036854775807) :
    Calls Try.prog 32 #[.pointer (some ⟨g, 0, none⟩), .int .i64 n] w fun e w' => e = .returned (errV (tCut m n).2) ∧ PTt w' F g (tCut m n).1 ∧ w.grownBy w' (some g) := by
  obtain ⟨v, W, hB, hv, hF, hW, hl⟩ := h.ex
  have k1 := hB.cell 1
  have k3 := hB.cell 3
  simp at k1 k3
  obtain ⟨A, cp, rfl, hc1, hc2, hr, _⟩ := hv.form
  have H := Lib.hid h
  clear h hB hv hF hl hr
  cases hd : m.down with
  | true =>
    have HG : Hid (tCut m n = (m, 9)) := Lib.hid (by rw [tCut, if_pos hd])
    rw [hd] at k3
    clear hd
    go_enter Try.func32, Try.ntmps32
    go_wp2_with fail
    go_ret
    rw [HG.out]
    exact ⟨rfl, H.out, World.grownBy.refl _ _⟩
  | false =>
    rw [hd] at k3
    by_cases hbad : n < 0 ∨ (m.b.length : Int) < n
    · have HG : Hid (tCut m n = (m, 1)) := Lib.hid (by rw [tCut, if_neg (by rw [hd]; simp), if_pos hbad])
      clear hd
      rcases hbad with h1 | h1
      · go_enter Try.func32, Try.ntmps32
        go_wp2_with fail
        go_ret
        rw [HG.out]
        exact ⟨rfl, H.out, World.grownBy.refl _ _⟩
      · go_enter Try.func32, Try.ntmps32
        go_wp2_with fail
        go_ret
        rw [HG.out]
        exact ⟨rfl, H.out, World.grownBy.refl _ _⟩
    · obtain ⟨k, rfl⟩ : ∃ k : Nat, n = (k : Int) := ⟨n.toNat, by omega⟩
      have HG : Hid (tCut m (k : Int) = ({ m with b := m.b.take k, synced := k }, 0)) := Lib.hid (by rw [tCut, if_neg (by rw [hd]; simp), if_neg hbad, Int.toNat_natCast])
      have hkl : k ≤ m.b.length := by omega
      clear hd hbad
      go_enter Try.func32, Try.ntmps32
      go_wp2_with fail
      refine (tleave_any k H.out hkl).mono ?_
      rintro e w1 ⟨rfl, h1, hg1⟩
      go_wp2_with fail
      go_ret
      rw [HG.out]
      exact ⟨rfl, h1, hg1⟩

theorem tfail_any {w : World} {F : Nat → Prop} {g : Nat} {m : Tm} {n : Int} (h : PTt w F g m) (h0 : -9223372036854775808 ≤ n) (h1 : n ≤ 9223372036854775807) :
    Calls Try.prog 20 #[.pointer (some ⟨g, 0, none⟩), .int .i64 n] w fun e w' => e = .returned (.tuple #[]) ∧ PTt w' F g (tFail m n) ∧ w.grownBy w' (some g) := by
  obtain ⟨v, W, hB, hv, hF, hW, hl⟩ := h.ex
  have f4 := hB.frozen 4
  have k4 := hB.cell 4
  simp at k4
  have hg := grown_set w g 4 (.int .i64 n)
  have HP : Hid (PTt (w.setCell ⟨g, 4, none⟩ (.int .i64 n)) F g (tFail m n)) := Lib.hid (h.turn (m' := tFail m n) hv hF hg (tset4 hB _) rfl ⟨h0, h1⟩ rfl)
  clear hB h hv hF hl
  go_enter Try.func20, Try.ntmps20
  go_wp2_with fail
  refine bodyPost_end (results_none rfl _ _ _) rfl ?_
  exact ⟨rfl, HP.out, hg⟩
theorem tup_any {w : World} {F : Nat → Prop} {g : Nat} {m : Tm} (h : PTt w F g m) :
    Calls Try.prog 31 #[.pointer (some ⟨g, 0, none⟩)] w fun e w' => e = .returned (.tuple #[]) ∧ PTt w' F g (tUp m) ∧ w.grownBy w' (some g) := by
  obtain ⟨v, W, hB, hv, hF, hW, hl⟩ := h.ex
  have f3 := hB.frozen 3
  have k3 := hB.cell 3
  simp at k3
  have hg := grown_set w g 3 (.bool false)
  have HP : Hid (PTt (w.setCell ⟨g, 3, none⟩ (.bool false)) F g (tUp m)) := Lib.hid (h.turn (m' := tUp m) hv hF hg (tset3 hB _) rfl hW hl)
  clear hB h hv hF hl
  go_enter Try.func31, Try.ntmps31
  go_wp2_with fail
  refine bodyPost_end (results_none rfl _ _ _) rfl ?_
  exact ⟨rfl, HP.out, hg⟩

set_option maxHeartbeats 1600000 in
theorem tcrash_any {w : World} {F : Nat → Prop} {g : Nat} {m : Tm} (n : Int) (h : PTt w F g m) (hm : m.fine) (hn0 : -9223372036854775808 ≤ n) (hn1 : n ≤ 9223372036854775807) :
    Calls Try.prog 21 #[.pointer (some ⟨g, 0, none⟩), .int .i64 n] w fun e w' => e = .returned (.tuple #[]) ∧ PTt w' F g (tCrash m n) ∧ w.grownBy w' (some g) := by
  obtain ⟨v, W, hB, hv, hF, hW, hl⟩ := h.ex
  have hlen := hm.len
  have hr1 := hm.room1
  have hsy := hm.sync
  have k1 := hB.cell 1
  have k2 := hB.cell 2
  have k3 := hB.cell 3
  simp at k1 k2 k3
  obtain ⟨A, cp, rfl, hc1, hc2, hr, _⟩ := hv.form
  have H := Lib.hid h
  clear h hm hB hv hF hl hr
  cases hd : m.down with
  | true =>
    have HG : Hid (tCrash m n = m) := Lib.hid (by rw [tCrash, if_pos hd])
    rw [hd] at k3
    clear hd
    go_enter Try.func21, Try.ntmps21
    go_wp2_with fail
    refine bodyPost_ret (results_none rfl _ _ _) rfl ?_
    rw [HG.out]
    exact ⟨rfl, H.out, World.grownBy.refl _ _⟩
  | false =>
    have hle := tMore_le hsy n
    obtain ⟨t, ht⟩ : ∃ t, t = tMore m n := ⟨_, rfl⟩
    rw [← ht] at hle
    have HG : Hid (tCrash m n = { m with synced := m.synced + t, b := m.b.take (m.synced + t), down := true, left := -1 }) := Lib.hid (by rw [tCrash, if_neg (by rw [hd]; simp), ht])
    have hmm : min (max n 0) ((m.b.length : Int) - (m.synced : Int)) = (t : Int) := by
      rw [ht]
      unfold tMore
      split <;> omega
    rw [hd] at k3
    clear hd ht
    go_enter Try.func21, Try.ntmps21
    go_wp2_with fail
    go_quiet (fail)
    go_wp2_with fail
    have hb1 := below_drewN (Below.refl w.heap.size w) nq
    generalize w.drewN nq = w1 at *
    have h1 : PTt w1 F g m := H.out.keep (Apt.of_below hb1)
    have hcall := tleave_any (m.synced + t) h1 hle
    rw [Int.natCast_add] at hcall
    refine hcall.mono ?_
    rintro e w2 ⟨rfl, h2, hg2⟩
    obtain ⟨v2, W2, hB2, hv2, hF2, hW2, hl2⟩ := h2.ex
    have f3 := hB2.frozen 3
    have j3 := hB2.cell 3
    have f4 := hB2.frozen 4
    have j4 := hB2.cell 4
    simp at j3 j4
    have hg3 := grown_set w2 g 3 (.bool true)
    have hg4 := grown_set (w2.setCell ⟨g, 3, none⟩ (.bool true)) g 4 (.int .i64 (-1))
    have HT : Hid (PTt ((w2.setCell ⟨g, 3, none⟩ (.bool true)).setCell ⟨g, 4, none⟩ (.int .i64 (-1))) F g { m with synced := m.synced + t, b := m.b.take (m.synced + t), down := true, left := -1 }) := Lib.hid
      (h2.turn (m' := { m with synced := m.synced + t, b := m.b.take (m.synced + t), down := true, left := -1 }) hv2 hF2 (grown_trans hg3 hg4) (tset4 (tset3 hB2 _) _) rfl (by omega) rfl)
    have HGR : Hid (w.grownBy ((w2.setCell ⟨g, 3, none⟩ (.bool true)).setCell ⟨g, 4, none⟩ (.int .i64 (-1))) (some g)) := Lib.hid (grown_trans (grown_trans (grown_of_below hb1 _) hg2) (grown_trans hg3 hg4))
    clear hcall h1 h2 hB2 hv2 hF2 hl2 hmm k1 k2 k3
    go_wp2_with fail
    refine bodyPost_end (results_none rfl _ _ _) rfl ?_
    rw [HG.out]
    exact ⟨rfl, HT.out, HGR.out⟩

theorem thingT (g : Nat) (m : Tm) : Thing fun w F => PTt w F g m := ⟨fun h ha => h.keep ha, fun h => h.lt⟩
theorem tapeK : TapeK PTt where
  thing := thingT
  new_ok room w h0 h1 := tnew_ok room w h0 h1
  new_no room w h := tnew_no room w h
  append h hm hb hs hl := tappend_any h hm hb hs hl
  sync h _ := (tsync_any h).mono fun _ _ ⟨h1, h2, h3⟩ => ⟨h1, _, h2, apt_own h.Fg h3, fun _ => .inl⟩
  read {_ F _ _} h hm := (tread_any h hm).mono fun _ _ ⟨x, h1, h2, h3⟩ => ⟨x, F, h1, h2, h.keep (Apt.of_below h3), Apt.of_below h3, fun _ => .inl, fun q hq hn => by
    have h4 := h2.ge q hq
    have h5 := h.lt q hn
    omega⟩
  cut {_ _ _ _ n} h _ h0 h1 := (tcut_any n h h0 h1).mono fun _ _ ⟨h1, h2, h3⟩ => ⟨h1, _, h2, apt_own h.Fg h3, fun _ => .inl⟩
  fail h _ h0 h1 := (tfail_any h h0 h1).mono fun _ _ ⟨h1, h2, h3⟩ => ⟨h1, _, h2, apt_own h.Fg h3, fun _ => .inl⟩
  crash {_ _ _ _ n} h hm h0 h1 := (tcrash_any n h hm h0 h1).mono fun _ _ ⟨h1, h2, h3⟩ => ⟨h1, _, h2, apt_own h.Fg h3, fun _ => .inl⟩
  up h _ := (tup_any h).mono fun _ _ ⟨h1, h2, h3⟩ => ⟨h1, _, h2, apt_own h.Fg h3, fun _ => .inl⟩
end Go.Proofs.Ytdfjicjlmejonaa
