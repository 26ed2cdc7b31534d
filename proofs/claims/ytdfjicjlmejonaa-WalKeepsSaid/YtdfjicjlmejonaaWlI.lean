/-
  THE PROGRAM's LOG IN MEMORY ('LKt'), over whatever keeps what a tape is to keep; CONTRACTS of Open, cutOff, Append, All, Clear: 'logK'. No condition but what each theorem says.
-/
import Derived.Test.YtdfjicjlmejonaaWlH
import Derived.Test.YtdfjicjlmejonaaGoes
import Derived.Test.YtdfjicjlmejonaaMix3
import Derived.Test.YtdfjicjlmejonaaBcl
namespace Go.Proofs.Ytdfjicjlmejonaa
open Go.RowKit
set_option maxRecDepth 100000

/-- in the world w the log in block g has the records rs, in the row v, over the tape in block gt, which is m and lies in the blocks Ft; all of it lies in the blocks F -/
structure LKp (PT : World → (Nat → Prop) → Nat → Tm → Prop) (w : World) (F Ft : Nat → Prop) (g gt : Nat) (v : Value) (m : Tm) (rs : List (List UInt8)) : Prop where
  lt : ∀ q, F q → q < w.heap.size
  tape : PT w Ft gt m
  blk : Blk w g 73 #[.pointer (some ⟨gt, 0, none⟩), v]
  row : OwnK 1 w 0 22 (fun q => ¬ F q ∨ Ft q ∨ q = g) BsC v rs
  Fg : F g
  ng : ¬ Ft g
  sub : ∀ q, Ft q → F q
  vF : ∀ q, v.ownBlock = some q → F q ∧ ¬ Ft q ∧ q ≠ g
def LKt (PT : World → (Nat → Prop) → Nat → Tm → Prop) (w : World) (F : Nat → Prop) (g gt : Nat) (m : Tm) (rs : List (List UInt8)) : Prop := ∃ Ft v, LKp PT w F Ft g gt v m rs

section
variable {PT : World → (Nat → Prop) → Nat → Tm → Prop} {w w' : World} {F Ft Ft' : Nat → Prop} {g gt : Nat} {v v' : Value} {m m' : Tm} {rs rs' : List (List UInt8)}
theorem LKp.keep (hT : TapeK PT) (h : LKp PT w F Ft g gt v m rs) (ha : Apt (fun q => ¬ F q) w w') : LKp PT w' F Ft g gt v m rs :=
  ⟨fun q hq => Nat.lt_of_lt_of_le (h.lt q hq) ha.size, (hT.thing gt m).keep h.tape (ha.mono fun q _ hn hf => hn (h.sub q hf)), (ha.block g h.blk.lt fun hn => hn h.Fg).trans h.blk,
    h.row.apt ha (fun _ _ hq => .inl hq) (fun q hq hn => hn (h.vF q hq).1) (fun _ => .inl), h.Fg, h.ng, h.sub, h.vF⟩
theorem LKp.later (hT : TapeK PT) (h : LKp PT w F Ft g gt v m rs) (hb : Below w.heap.size w w') : LKp PT w' F Ft g gt v m rs := h.keep hT (Apt.of_below hb)
/-- what its tape does -/
theorem LKp.onTape (hT : TapeK PT) (h : LKp PT w F Ft g gt v m rs) (hp : PT w' Ft' gt m') (ha : Apt Ft w w') (hn : ∀ q, Ft' q → Ft q ∨ w.heap.size ≤ q) : LKp PT w' (fun q => F q ∨ Ft' q) Ft' g gt v m' rs ∧ Goes w F w' (fun q => F q ∨ Ft' q) := by
  refine ⟨⟨fun q hq => ?_, hp, (ha.block g h.blk.lt h.ng).trans h.blk, ?_, .inl h.Fg, fun hq => ?_, fun _ => .inr, fun q hq => ⟨.inl (h.vF q hq).1, fun hf => ?_, (h.vF q hq).2.2⟩⟩, ha.mono fun q _ hq => h.sub q hq, fun q hq => ?_⟩
  · rcases hq with hq | hq
    · exact Nat.lt_of_lt_of_le (h.lt q hq) ha.size
    · exact (hT.thing gt m').lt hp q hq
  · refine h.row.apt ha (fun _ _ hq => .inr (.inl hq)) (fun q hq => (h.vF q hq).2.1) fun q hq => ?_
    rcases hq with hq | hq | hq
    · exact .inl (.inl fun hF => hq (.inl hF))
    · rcases hn q hq with h1 | h1
      · exact .inl (.inr (.inl h1))
      · exact .inr h1
    · exact .inl (.inr (.inr hq))
  · rcases hn g hq with h1 | h1
    · exact h.ng h1
    · have := h.blk.lt
      omega
  · rcases hn q hf with h1 | h1
    · exact (h.vF q hq).2.1 h1
    · have := h.lt q (h.vF q hq).1
      omega
  · rcases hq with hq | hq
    · exact .inl hq
    · exact (hn q hq).imp (h.sub q) id
/-- another row is put -/
theorem LKp.put_ (hT : TapeK PT) (h : LKp PT w F Ft g gt v m rs) (hb : Apt (fun q => v.ownBlock = some q) w w') (hr : OwnK 1 w' 0 22 (fun q => ¬ (F q ∨ w.heap.size ≤ q) ∨ Ft q ∨ q = g) BsC v' rs') (hv : ∀ q, v'.ownBlock = some q → v.ownBlock = some q ∨ w.heap.size ≤ q)
    (hlt : ∀ q, v'.ownBlock = some q → q < w'.heap.size) :
    LKp PT (w'.setCell ⟨g, 1, none⟩ v') (fun q => F q ∨ (w.heap.size ≤ q ∧ q < w'.heap.size)) Ft g gt v' m rs' ∧ Goes w F (w'.setCell ⟨g, 1, none⟩ v') (fun q => F q ∨ (w.heap.size ≤ q ∧ q < w'.heap.size)) := by
  have hg := grown_set w' g 1 v'
  have hsz : (w'.setCell ⟨g, 1, none⟩ v').heap.size = w'.heap.size := by simp [World.setCell]
  have hgl := h.blk.lt
  have hbl := Blk.set_ (w := w') ((hb.block g hgl fun e => (h.vF g e).2.2 rfl).trans h.blk) 1 v'
  simp only [List.setIfInBounds_toArray, List.set_cons_succ, List.set_cons_zero] at hbl
  have hap : Apt F w (w'.setCell ⟨g, 1, none⟩ v') := (hb.mono fun q _ hq => (h.vF q hq).1).trans (Apt.of_grown hg fun q hq => by injection hq with hq; subst hq; exact h.Fg)
  refine ⟨⟨fun q hq => ?_, (hT.thing gt m).keep h.tape ((hb.mono fun q _ hq => (h.vF q hq).2.1).trans (Apt.of_grown hg fun q hq => by injection hq with hq; subst hq; exact h.ng)), hbl, ?_, .inl h.Fg, h.ng, fun q hq => .inl (h.sub q hq), fun q hq => ?_⟩, hap, fun q hq => hq.imp id fun h => h.1⟩
  · rw [hsz]
    rcases hq with hq | hq
    · exact Nat.lt_of_lt_of_le (h.lt q hq) hb.size
    · exact hq.2
  · refine hr.apt (bad0 := fun q => q = g) (Apt.of_grown hg fun q hq => by injection hq with hq; exact hq.symm) (fun q _ hq => .inr (.inr hq)) (fun q hq e => ?_) fun q hq => ?_
    · subst e
      rcases hv _ hq with h1 | h1
      · exact (h.vF _ h1).2.2 rfl
      · omega
    · rcases hq with hq | hq
      · by_cases h1 : w'.heap.size ≤ q
        · exact .inr h1
        · exact .inl (.inl fun h2 => hq (h2.imp id fun h3 => ⟨h3, by omega⟩))
      · exact .inl (.inr hq)
  · rcases hv q hq with h1 | h1
    · exact ⟨.inl (h.vF q h1).1, (h.vF q h1).2⟩
    · refine ⟨.inr ⟨h1, hlt q hq⟩, fun hf => ?_, fun e => by omega⟩
      have := h.lt q (h.sub q hf)
      omega
theorem LKp.cell0 (h : LKp PT w F Ft g gt v m rs) : w.cell? ⟨g, 0, none⟩ = some (.pointer (some ⟨gt, 0, none⟩)) := by
  have := h.blk.cell 0
  simpa using this
theorem LKp.cell1 (h : LKp PT w F Ft g gt v m rs) : w.cell? ⟨g, 1, none⟩ = some v := by
  have := h.blk.cell 1
  simpa using this
end

theorem logThing {PT : World → (Nat → Prop) → Nat → Tm → Prop} (hT : TapeK PT) (g gt : Nat) (m : Tm) (rs : List (List UInt8)) : Thing fun w F => LKt PT w F g gt m rs :=
  ⟨fun ⟨Ft, v, h⟩ ha => ⟨Ft, v, h.keep hT ha⟩, fun ⟨_, _, h⟩ => h.lt⟩

theorem wopen_nil (w : World) : Calls Try.prog 13 #[.pointer none] w fun e w' => e = .returned (.tuple #[.pointer none, code 1]) ∧ Below w.heap.size w w' := by
  go_enter Try.func13, Try.ntmps13
  go_wp2_with fail
  go_ret2
  exact ⟨rfl, Below.refl _ _⟩

set_option maxHeartbeats 1600000 in
theorem wopen_ok {PT : World → (Nat → Prop) → Nat → Tm → Prop} (hT : TapeK PT) {w : World} {F : Nat → Prop} {gt : Nat} {m : Tm} (hp : PT w F gt m) (hm : m.fine) :
    Calls Try.prog 13 #[.pointer (some ⟨gt, 0, none⟩)] w fun e w' => ∃ (g : Nat) (F' : Nat → Prop) (t : List (List UInt8)) (q : Nat), e = .returned (.tuple #[.pointer (some ⟨g, 0, none⟩), .nilIface]) ∧ Recs m.b t 0 q ∧ LKt PT w' F' g gt (tCut (tUp m) (q : Int)).1 t ∧ Apt F w w' ∧ ∀ q, F' q → F q ∨ w.heap.size ≤ q := by
  have HT := Lib.hid hT
  have neq_ := neCode
  have hU := hT.up hp hm
  have hf1 := hm.up
  have hlen := hm.len
  have hr1 := hm.room1
  have hlt := (hT.thing gt m).lt hp
  have HLT := Lib.hid hlt
  clear hp hT hlt
  go_enter Try.func13, Try.ntmps13
  go_wp2_with fail
  refine hU.mono ?_
  rintro e w1 ⟨rfl, F1, hP1, hA1, hN1⟩
  have hG1 : Goes w F w1 F1 := ⟨hA1, hN1⟩
  have hR := HT.out.read hP1 hf1
  rw [show tRead (tUp m) = (m.b, 0) from rfl, errV_zero] at hR
  clear hU hP1 hA1 hN1
  go_wp2_with fail
  refine hR.mono ?_
  rintro e w2 ⟨x, F2, rfl, hx, hP2, hA2, hN2, hx2⟩
  have hG2 : Goes w F w2 F2 := hG1.trans ⟨hA2, hN2⟩
  have hRec := wrecords_any m.b x w2 (by omega) hx.bs
  obtain ⟨Ax, cx, rfl, _⟩ := hx.form
  have hlt2 := (HT.out.thing _ _).lt hP2
  clear hR hx hx2 hA2 hN2 hG1
  go_wp2_with fail
  refine hRec.mono ?_
  rintro e w3 ⟨y, t, q, rfl, hRs, hrow, hb3⟩
  have hqb := hRs.1.flat.2.2.1 (Nat.zero_le _)
  have hP3 := HT.out.later hP2 hb3
  have hC := HT.out.cut (n := (q : Int)) hP3 hf1 (by omega) (by omega)
  have e2 : (tCut (tUp m) (q : Int)).2 = 0 := by rw [tCut_up rfl (by show q ≤ m.b.length; omega)]
  rw [e2, errV_zero] at hC
  have HRS := Lib.hid hRs
  have HROW := Lib.hid hrow
  have HG2 := Lib.hid hG2
  have HL2 := Lib.hid hlt2
  have HB3 := Lib.hid hb3
  obtain ⟨Ay, cy, hyv, _⟩ := hrow.form
  obtain ⟨m4, hm4⟩ : ∃ m4, m4 = (tCut (tUp m) (q : Int)).1 := ⟨_, rfl⟩
  rw [← hm4] at hC
  have HM4 := Lib.hid hm4
  clear hRec hRs hrow hP2 hP3 hG2 hlt2 hb3 e2 hm4
  subst hyv
  go_wp2_with fail
  refine hC.mono ?_
  rintro e w4 ⟨rfl, F4, hP4, hA4, hN4⟩
  have hG4 := (HG2.out.later HB3.out).trans ⟨hA4, hN4⟩
  have HG4 := Lib.hid hG4
  have HROW4 : Hid (OwnK 1 w4 0 22 (fun z => z < w2.heap.size ∨ w3.heap.size ≤ z) BsC (.slice Ay t.length cy) t) := Lib.hid ((HROW.out.apt hA4 (fun z _ hz => HL2.out z hz) (fun z hz hf => by
    have h1 := (HROW.out.lt z hz).1
    have h2 := HL2.out z hf
    omega) fun _ => id).lower (Nat.zero_le _))
  have hN4' : ∀ z, F4 z → z < w2.heap.size ∨ w3.heap.size ≤ z := fun z hz => (hN4 z hz).imp (HL2.out z) id
  have HN4 := Lib.hid hN4'
  have HP4 := Lib.hid hP4
  have HA4S := Lib.hid hA4.size
  have hyb : ∀ z, (Value.slice Ay t.length cy).ownBlock = some z → w2.heap.size ≤ z ∧ z < w3.heap.size := fun z hz => HROW.out.lt z hz
  have HYB := Lib.hid hyb
  clear hC hG4 hA4 hN4 hN4' hP4 hyb
  go_wp2_with fail
  go_ret2
  have hsz : w.heap.size ≤ w2.heap.size := HG2.out.apt.size
  have hsz3 : w2.heap.size ≤ w3.heap.size := HB3.out.size
  have hsz4 := HA4S.out
  have hba : Below w4.heap.size w4 (w4.alloc (.cells #[.pointer (some ⟨gt, 0, none⟩), .slice Ay t.length cy] 73)) := (Below.refl _ _).alloc (Nat.le_refl _) _
  have hlt4 := (HT.out.thing _ _).lt HP4.out
  have hszA : (w4.alloc (.cells #[.pointer (some ⟨gt, 0, none⟩), .slice Ay t.length cy] 73)).heap.size = w4.heap.size + 1 := by simp
  rw [HM4.out] at HP4
  refine ⟨w4.heap.size, fun z => F4 z ∨ (w.heap.size ≤ z ∧ z ≤ w4.heap.size), t, q, rfl, HRS.out, ⟨F4, .slice Ay t.length cy, ⟨fun z hz => ?_, HT.out.later HP4.out hba, Blk.new _ _ _, ?_, .inr ⟨by omega, Nat.le_refl _⟩, fun h => by have := hlt4 _ h; omega, fun _ => .inl, fun z hz => ?_⟩⟩, (HG4.out.later hba).apt, fun z hz => ?_⟩
  · rw [hszA]
    rcases hz with hz | hz
    · have := hlt4 z hz
      omega
    · omega
  · refine HROW4.out.apt (Apt.of_below (bad := fun _ => False) hba) (fun z _ h => h.elim) (fun z _ h => h) fun z hz => ?_
    rcases hz with hz | hz | hz
    · by_cases h1 : z < w2.heap.size
      · exact .inl (.inl h1)
      · by_cases h2 : z ≤ w4.heap.size
        · exact absurd (.inr ⟨by omega, h2⟩) hz
        · exact .inr (by omega)
    · exact .inl (HN4.out z hz)
    · exact .inr (by omega)
  · obtain ⟨h1, h2⟩ := HYB.out z hz
    refine ⟨.inr ⟨by omega, by omega⟩, fun hf => ?_, by omega⟩
    rcases HN4.out z hf with h3 | h3
    · omega
    · omega
  · rcases hz with hz | hz
    · exact HG4.out.new z hz
    · exact .inr hz.1
end Go.Proofs.Ytdfjicjlmejonaa
