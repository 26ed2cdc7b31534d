/-
  THE PROGRAM's FILTER: the CONTRACT of Get. Conditions: what each says.
-/
import Derived.Test.YtdbgmobgbnfdbaaBlF
import Derived.Test.YtdbgmobgbnfdbaaBlG
import Derived.Test.YtdbgmobgbnfdbaaBlH
import Derived.StillTailTactics
namespace Go.Proofs.Ytdbgmobgbnfdbaa
open Go.RowKit
set_option maxRecDepth 100000

theorem fill_all (l : List UInt8) (n : Nat) (h : l.length = n) : l.take (List.replicate n (0 : UInt8)).length ++ (List.replicate n (0 : UInt8)).drop l.length = l := by
  subst h
  simp

theorem bget_short {x : List UInt8} {v : Value} (w : World) (hv : Bs w v x) (hl : x.length < 4) :
    Calls Try.prog 16 #[v] w fun e w' => e = .returned (.tuple #[.pointer none, code 2]) ∧ Below w.heap.size w w' := by
  go_enter Try.func16, Try.ntmps16
  go_wp2_with fail
  refine (open_short x v w hl hv).mono ?_
  rintro e w1 ⟨rfl, rfl⟩
  go_wp2_with fail
  go_ret2
  exact ⟨rfl, Below.refl _ _⟩

set_option maxHeartbeats 800000 in
theorem bget_sum {x : List UInt8} {v : Value} (w : World) (hv : Bs w v x) (h4 : 4 ≤ x.length) (hl : x.length ≤ 140737488355320) (hs : tailOf x ≠ crcOf (bodyOf x)) :
    Calls Try.prog 16 #[v] w fun e w' => e = .returned (.tuple #[.pointer none, code 7]) ∧ Below w.heap.size w w' := by
  have HS := Lib.hid hs
  have hO := open_long x v w h4 (by omega) hv
  clear hs hl h4
  go_enter Try.func16, Try.ntmps16
  go_wp2_with fail
  refine hO.mono ?_
  rintro e w1 ⟨y, f, rfl, hOp, hb1⟩
  obtain ⟨rfl, rfl⟩ := hOp.no HS.out
  have HB1 := Lib.hid hb1
  clear hO hOp hb1
  go_wp2_with fail
  go_ret2
  exact ⟨rfl, HB1.out⟩

set_option maxHeartbeats 1600000 in
theorem bget_body {x : List UInt8} {v : Value} (w : World) (hv : Bs w v x) (h4 : 4 ≤ x.length) (hl : x.length ≤ 140737488355320) (hs : tailOf x = crcOf (bodyOf x)) :
    Calls Try.prog 16 #[v] w fun e w' => Below w.heap.size w w' ∧ ((getB (bodyOf x) = none ∧ e = .returned (.tuple #[.pointer none, code 2])) ∨
      ∃ (g : Nat) (F : Nat → Prop) (b : Bl), getB (bodyOf x) = some b ∧ e = .returned (.tuple #[.pointer (some ⟨g, 0, none⟩), .nilIface]) ∧ PBt w' F g b ∧ ∀ q, F q → w.heap.size ≤ q) := by
  have HS := Lib.hid hs
  have hO := open_long x v w h4 (by omega) hv
  have hcl := bodyOf_length x
  clear hs
  obtain ⟨c, hcb⟩ : ∃ c, bodyOf x = c := ⟨_, rfl⟩
  have HC := Lib.hid hcb
  rw [hcb] at hcl ⊢
  have hcle : c.length ≤ 140737488355320 := by omega
  clear hcb h4 hcl
  obtain ⟨p1, hp1⟩ : ∃ p, p = wNext c 0 false 1 := ⟨_, rfl⟩
  obtain ⟨b1, hb1⟩ : ∃ b, b = !wordOk c 0 false 1 := ⟨_, rfl⟩
  obtain ⟨p2, hp2⟩ : ∃ p, p = wNext c p1 b1 1 := ⟨_, rfl⟩
  obtain ⟨b2, hb2⟩ : ∃ b, b = !wordOk c p1 b1 1 := ⟨_, rfl⟩
  obtain ⟨p3, hp3⟩ : ∃ p, p = wNext c p2 b2 2 := ⟨_, rfl⟩
  obtain ⟨b3, hb3⟩ : ∃ b, b = !wordOk c p2 b2 2 := ⟨_, rfl⟩
  have hw := words3 c p1 p2 b1 b2 hp1 hb1 hp2 hb2
  have hW1 := fun (g : Nat) (y : Value) (u : World) (h : WR u g y c 0 false) => word_all g y c 0 false 1 u h
  have hW2 := fun (g : Nat) (y : Value) (u : World) (h : WR u g y c p1 b1) => word_all g y c p1 b1 1 u h
  have hW3 := fun (g : Nat) (y : Value) (u : World) (h : WR u g y c p2 b2) => word_all g y c p2 b2 2 u h
  rw [← hp1, ← hb1] at hW1
  rw [← hp2, ← hb2] at hW2
  rw [← hp3, ← hb3] at hW3
  rw [← hp3] at hw
  generalize wOut c 0 false 1 = o1 at *
  generalize wOut c p1 b1 1 = o2 at *
  generalize wOut c p2 b2 2 = o3 at *
  obtain ⟨hshort, hlong, ho1, ho2, ho3⟩ := hw
  have HW1 := Lib.hid hW1
  have HW2 := Lib.hid hW2
  have HW3 := Lib.hid hW3
  have HSh := Lib.hid hshort
  have HLo := Lib.hid hlong
  clear hW1 hW2 hW3 hp1 hp2 hp3 hb1 hb2 hb3 hshort hlong
  go_enter Try.func16, Try.ntmps16
  go_wp2_with fail
  refine hO.mono ?_
  rintro e w1 ⟨y, f, rfl, hOp, hb1⟩
  obtain ⟨rfl, hoy⟩ := hOp.yes HS.out
  rw [HC.out] at hoy
  have HB1 := Lib.hid hb1
  have HOy := Lib.hid hoy
  have hbs := hoy.bs
  clear hO hOp hb1 hoy
  go_wp2_with fail
  refine (read_any y c w1 hbs).mono ?_
  rintro e w2 ⟨rfl, hR2, hb2⟩
  have HB2 := Lib.hid (HB1.out.trans (hb2.mono HB1.out.size))
  have HOy2 := Lib.hid (HOy.out.below hb2)
  have HZ := Lib.hid HB1.out.size
  generalize hr : w1.heap.size = r at *
  have HR : Hid (w.heap.size ≤ r) := Lib.hid (hr ▸ HB1.out.size)
  have HRne : Hid (∀ z, y.ownBlock = some z → z ≠ r) := Lib.hid fun z hz e => by
    have := HOy.out.blk_lt z hz
    omega
  clear hr HB1 HOy hb2 HZ hbs
  have hC := HW1.out r y w2 hR2
  clear hR2
  go_wp2_with fail
  refine hC.mono ?_
  rintro e w3 ⟨rfl, hR3, hg3⟩
  have HB3 := Lib.hid (HB2.out.grown hg3 HB2.out.size (by intro k hk; injection hk with hk; rw [← hk]; exact HR.out))
  have HOy3 := Lib.hid (HOy2.out.kept hg3 (.inr fun e => HRne.out r e rfl))
  clear hC hg3 HB2 HOy2
  have hC := HW2.out r y w3 hR3
  clear hR3
  go_wp2_with fail
  refine hC.mono ?_
  rintro e w4 ⟨rfl, hR4, hg4⟩
  have HB4 := Lib.hid (HB3.out.grown hg4 HB3.out.size (by intro k hk; injection hk with hk; rw [← hk]; exact HR.out))
  have HOy4 := Lib.hid (HOy3.out.kept hg4 (.inr fun e => HRne.out r e rfl))
  clear hC hg4 HB3 HOy3
  have hC := HW3.out r y w4 hR4
  clear hR4
  go_wp2_with fail
  refine hC.mono ?_
  rintro e w5 ⟨rfl, hR5, hg5⟩
  have HB5 := Lib.hid (HB4.out.grown hg5 HB4.out.size (by intro k hk; injection hk with hk; rw [← hk]; exact HR.out))
  have HOy5 := Lib.hid (HOy4.out.kept hg5 (.inr fun e => HRne.out r e rfl))
  have HR5 := Lib.hid hR5
  clear hC hg5 HB4 HOy4 hR5
  cases hr : rightI o1 o3 o2 with
  | false =>
    have HN : Hid (getB c = none) := Lib.hid (by
      unfold getB
      split
      · rfl
      · rename_i h
        obtain ⟨e1, e2, e3, _⟩ := HLo.out (by omega)
        simp only
        rw [← e1, ← e2, ← e3, hr]
        rfl)
    have hC := bnew_bad w5 hr
    clear hr
    go_wp2_with fail
    refine hC.mono ?_
    rintro e w6 ⟨rfl, hb6⟩
    have HB6 := Lib.hid (HB5.out.trans (hb6.mono HB5.out.size))
    clear hC hb6
    go_wp2_with fail
    go_quiet (fail)
    go_wp2_with fail
    go_ret2
    exact ⟨below_drewN HB6.out _, .inl ⟨HN.out, rfl⟩⟩
  | true =>
    have h4 : 4 ≤ c.length := by
      rcases Nat.lt_or_ge c.length 4 with h | h
      · have h1 := HSh.out h
        have h2 := rightI_iff.1 hr
        omega
      · exact h
    obtain ⟨e1, e2, e3, e4⟩ := HLo.out h4
    subst e4
    have HE := Lib.hid (And.intro e1 (And.intro e2 e3))
    have hC := bnew_ok w5 hr
    have HRt := Lib.hid hr
    have hm : o1 * o3 ≤ 65536 := (Bl.new_ok hr).most
    obtain ⟨m, hm0⟩ : ∃ m, o1 * o3 = m := ⟨_, rfl⟩
    obtain ⟨n, hn0⟩ : ∃ n, m / 8 = n := ⟨_, rfl⟩
    have HN : Hid (Bl.new o1 o3 o2 = ⟨o1, o3, o2, List.replicate n 0⟩) := Lib.hid (by rw [Bl.new, hm0, hn0])
    have HMN := Lib.hid (And.intro hm0 hn0)
    rw [hm0] at hm hC
    rw [hn0] at hC
    clear e1 e2 e3 hr hn0 hm0
    go_wp2_with fail
    refine hC.mono ?_
    rintro e w6 ⟨g, F, rfl, hP6, hb6, hF6⟩
    rw [HN.out] at hP6
    have HB6 := Lib.hid (HB5.out.trans (hb6.mono HB5.out.size))
    have HF := Lib.hid hF6
    have HP6 := Lib.hid hP6
    have hR6 := HR5.out.below hb6
    have HOy6 := Lib.hid (HOy5.out.below hb6)
    have k3 := hP6.blk.cell 3
    have hl3 : (List.replicate n (0 : UInt8)).length = n := List.length_replicate
    simp only [hl3] at k3
    simp at k3
    clear hC hb6 hF6 hP6
    by_cases hln : c.length = 4 + n
    · have HG : Hid (getB c = some ⟨o1, o3, o2, c.drop 4⟩) := Lib.hid (by
        unfold getB
        obtain ⟨e1, e2, e3⟩ := HE.out
        obtain ⟨m1, m2⟩ := HMN.out
        rw [if_neg (by omega)]
        simp only
        rw [← e1, ← e2, ← e3, HRt.out, m1, m2, hln]
        simp)
      obtain ⟨A, cy, rfl, hc1, hc2, hr, _⟩ := HOy6.out.form
      obtain ⟨V, hsl, hV, hVb⟩ := slice_bytes_from (P := Try.prog) w6 byteT elemB hr hc1 hc2 4 (by omega) 4 rfl
      have hne : ((c.length : Int) - ((4 : Nat) : Int) != (n : Int)) = false := by
        rw [bne_eq_false_iff_eq]
        omega
      have HLN := Lib.hid hln
      clear hln
      go_wp2_with fail
      go_quiet ((go_at_call 31; exact Calls.quiet_of (left_any _ _ _ _ _ _ (hR6.drewN _))))
      have hb7 := below_drewN (Below.refl w6.heap.size w6) nq
      have hV7 := hV.below hb7
      generalize w6.drewN nq = w7 at *
      have HB7 := Lib.hid (HB6.out.trans (hb7.mono HB6.out.size))
      have HP7 := Lib.hid (HP6.out.later hb7)
      have k3' := HP7.out.blk.cell 3
      simp only [hl3] at k3'
      simp at k3'
      have HV := Lib.hid hV7
      clear hb7 hV hV7 k3 hR6 hr hVb
      go_wp2_with fail
      clear hne
      go_still_tail 6, (by kernel_rfl)
      change wpList _ _ _ _ _ w7.drew
      have ho7 : Own w7.drew 0 5 (.slice (some ⟨g + 1, 0, none⟩) n n) (List.replicate n 0) := by
        have := HP7.out.own
        simp only [hl3] at this
        exact this
      refine wpList_copy_bytes _ byteT rfl _ _ rfl 0 (.slice (some ⟨g + 1, 0, none⟩) n n) _ rfl ho7 V _ rfl (show Bs w7.drew _ _ from HV.out) ?_
      intro nv w8 hown8 hg8
      have hdl : (c.drop 4).length = n := by rw [List.length_drop]; have := HLN.out; omega
      have he := fill_all (c.drop 4) n hdl
      rw [he] at hown8
      have hg8' : w7.grownBy w8 (some (g + 1)) := grown_drew_left hg8
      have hB8 : Below w.heap.size w w8 := HB7.out.grown hg8' HB7.out.size (by
        intro k hk
        injection hk with hk
        have := HF.out (g + 1) ((HP7.out.F _).2 (.inr rfl))
        have := HB5.out.size
        omega)
      have hP8 : PBq w8 F g (g + 1) n ⟨o1, o3, o2, c.drop 4⟩ := by
        have hok := HP7.out.ok
        refine ⟨⟨hok.s1, hok.s2, hok.b1, hok.b2, hok.b8, hok.h1, hok.h2, hdl.trans (hl3.symm.trans hok.len)⟩, ?_, ?_, HP7.out.ne, HP7.out.F⟩
        · have hk := HP7.out.blk
          simp only [hl3] at hk
          simp only [hdl]
          exact hk.grown hg8' (fun e => by injection e with e; omega)
        · simp only [hdl]
          exact hown8
      have HB8 := Lib.hid hB8
      have HP8 := Lib.hid hP8
      clear hg8 hg8' hown8 ho7 hB8 hP8 he hdl
      go_wp2_with fail
      go_ret2
      exact ⟨HB8.out, .inr ⟨g, F, _, HG.out, rfl, ⟨_, _, HP8.out⟩, fun q hq => Nat.le_trans HB5.out.size (HF.out q hq)⟩⟩
    · have HG : Hid (getB c = none) := Lib.hid (by
        unfold getB
        obtain ⟨e1, e2, e3⟩ := HE.out
        obtain ⟨m1, m2⟩ := HMN.out
        rw [if_neg (by omega)]
        simp only
        rw [← e1, ← e2, ← e3, m1, m2, decide_eq_false hln, Bool.and_false]
        rfl)
      have hne : ((c.length : Int) - ((4 : Nat) : Int) != (n : Int)) = true := by
        rw [bne_iff_ne]
        omega
      go_wp2_with fail
      go_quiet ((go_at_call 31; exact Calls.quiet_of (left_any _ _ _ _ _ _ (hR6.drewN _))))
      go_wp2_with fail
      go_ret2
      exact ⟨below_drewN HB6.out _, .inl ⟨HG.out, rfl⟩⟩

theorem bget_any {x : List UInt8} {v : Value} (w : World) (hv : Bs w v x) (hl : x.length ≤ 140737488355320) :
    Calls Try.prog 16 #[v] w fun e w' => Below w.heap.size w w' ∧ ((∃ n : Nat, getX x = .error n ∧ e = .returned (.tuple #[.pointer none, code n])) ∨
      ∃ (g : Nat) (F : Nat → Prop) (b : Bl), getX x = .ok b ∧ e = .returned (.tuple #[.pointer (some ⟨g, 0, none⟩), .nilIface]) ∧ PBt w' F g b ∧ ∀ q, F q → w.heap.size ≤ q) := by
  rcases Nat.lt_or_ge x.length 4 with h4 | h4
  · exact (bget_short w hv h4).mono fun e w' h => ⟨h.2, .inl ⟨2, getX_short h4, h.1⟩⟩
  · by_cases hs : tailOf x = crcOf (bodyOf x)
    · refine (bget_body w hv h4 hl hs).mono ?_
      rintro e w' ⟨hb, ⟨hg, he⟩ | ⟨g, F, b, hg, he, hp, hF⟩⟩
      · exact ⟨hb, .inl ⟨2, getX_form h4 hs hg, he⟩⟩
      · exact ⟨hb, .inr ⟨g, F, b, getX_ok h4 hs hg, he, hp, hF⟩⟩
    · exact (bget_sum w hv h4 hl hs).mono fun e w' h => ⟨h.2, .inl ⟨7, getX_sum h4 hs, h.1⟩⟩

/-- what the program's filter is to keep, it keeps -/
theorem bloomK : BloomK PBt where
  thing := PBt.thing
  ok := fun ⟨_, _, h⟩ => h.ok
  new_bad := bnew_bad
  new_ok w hr := (bnew_ok w hr).mono fun _ _ ⟨g, F, he, hp, hb, hF⟩ => ⟨g, F, he, ⟨_, _, hp⟩, hb, hF⟩
  add := badd_any
  has := bhas_any
  bytes := bbytes_any
  get := bget_any
end Go.Proofs.Ytdbgmobgbnfdbaa
