/-
  LISTS OF LISTS OF TRACES, as slices; CONTRACT of the document's own Cut. Conditions: what each says.
  CUTTING, trace by trace, as plain lists; CONTRACTS of page.apart and page.Cut. Conditions: what each says.
-/
import Derived.Test.YtfccfnbmmgfgcaaGreatDoorPgA
namespace Go.Proofs.YtfccfnbmmgfgcaaGreatDoor
open Go.RowKit Go.Maps
set_option maxRecDepth 100000

def PaC (w : World) (l : List Tn) (x : List Value) : Prop := ∃ d, x = [d] ∧ Ts w d l
theorem PaC.below {w w' : World} {l : List Tn} {x : List Value} (h : PaC w l x) (hb : Below w.heap.size w w') : PaC w' l x := by
  obtain ⟨d, hx, hd⟩ := h
  exact ⟨d, hx, hd.below hb⟩
theorem PaC.one {w : World} {l : List Tn} {x : List Value} (h : PaC w l x) : ∀ u ∈ x, u.oneCell' = true := by
  obtain ⟨d, rfl, hd⟩ := h
  obtain ⟨A, c, rfl, _⟩ := hd.form
  intro u hu
  simp at hu
  subst hu
  rfl
def Ps (w : World) (v : Value) (p : List (List Tn)) : Prop := ∃ xs, Lv 1 w v xs ∧ Two (PaC w) p xs
theorem Ps.below {w w' : World} {v : Value} {p : List (List Tn)} (h : Ps w v p) (hb : Below w.heap.size w w') : Ps w' v p := by
  obtain ⟨xs, h1, h2⟩ := h
  exact ⟨xs, h1.below hb, h2.mono fun _ _ h => h.below hb⟩
theorem Ps.nil (w : World) : Ps w (.slice none 0 0) [] := ⟨[], Lv.nil 1 w, Two.nil⟩
theorem Ps.form {w : World} {v : Value} {p : List (List Tn)} (h : Ps w v p) : ∃ A c, v = .slice A p.length c ∧ p.length ≤ c ∧ c ≤ 9223372036854775807 := by
  obtain ⟨xs, h1, h2⟩ := h
  obtain ⟨A, c, hv, h3, h4⟩ := h1.form
  rw [← h2.len] at hv h3
  exact ⟨A, c, hv, h3, h4⟩
theorem Ps.cells {w : World} {A : Option Addr} {n c : Nat} {p : List (List Tn)} (h : Ps w (.slice A n c) p) {i : Nat} {l : List Tn} (hi : p[i]? = some l) :
    ∃ g o d, A = some ⟨g, o, none⟩ ∧ g < w.heap.size ∧ w.cell? ⟨g, o + i, none⟩ = some d ∧ Ts w d l := by
  obtain ⟨xs, h1, h2⟩ := h
  obtain ⟨x, hx, d, rfl, hd⟩ := h2.right hi
  obtain ⟨g, o, hA, hg, hc⟩ := h1.cells (by omega) hx
  exact ⟨g, o, d, hA, hg, by simpa using hc 0 _ rfl, hd⟩

theorem paT : ElemT Tryz.prog 122 23 1 24 := ⟨Tryz.underlying122, by omega, by
  refine ⟨_, _, rfl, rfl, rfl, rfl, ?_⟩
  rfl⟩

theorem IsT.take {l : List Tn} (h : IsT l) (n : Nat) : IsT (l.take n) := IsT.infix (a := []) (c := l.drop n) (by rw [List.nil_append, List.take_append_drop]; exact h)
theorem IsT.drop {l : List Tn} (h : IsT l) (n : Nat) : IsT (l.drop n) := IsT.infix (a := l.take n) (c := []) (by rw [List.append_nil, List.take_append_drop]; exact h)

theorem OwnL.lit1 (w : World) (base : Nat) (e : TypeId) (u : Value) (hb : base ≤ w.heap.size) : OwnL 1 (w.alloc (.cells #[u] e)) base e (.slice (some ⟨w.heap.size, 0, none⟩) 1 1) [[u]] :=
  ⟨by simpa using World.ownsRow_lit (base := base) (e := e) (size := 1) w #[u] 1 hb (by simp [maxLen]) rfl, flat_one [u] rfl⟩

theorem cutL_len (most : Int) : ∀ (f : Nat) (l : List Tn), (cutL most f l).length ≤ f
  | 0, l => by simp [cutL]
  | f + 1, [] => by simp [cutL]
  | f + 1, t :: l => by
    rw [cutL, List.length_cons]
    have := cutL_len most f ((t :: l).drop (cutK most (t :: l)))
    omega
theorem cutN_stop {most : Int} {l : List Tn} {f n : Nat} (h : ¬ (n < l.length ∧ n < 64 ∧ ((pgOf (l.take (n + 1))).length : Int) ≤ most)) : cutN most l f n = n := by
  cases f with
  | zero => rfl
  | succ f => rw [cutN, if_neg h]
theorem cutN_go {most : Int} {l : List Tn} {f n : Nat} (h : n < l.length ∧ n < 64 ∧ ((pgOf (l.take (n + 1))).length : Int) ≤ most) : cutN most l (f + 1) n = cutN most l f (n + 1) := by
  rw [cutN, if_pos h]

set_option maxHeartbeats 3200000 in
theorem Cut_nat (most : Int) : ∀ (f : Nat) (v : Value) (l : List Tn) (w0 w : World), Ts w0 v l → Below w0.heap.size w0 w → IsT l → l.length ≤ f → f ≤ 1000000 →
    Calls Tryz.prog 67 #[v, .int .i64 most] w fun e w' => ∃ x xs, e = .returned x ∧ Lv 1 w' x xs ∧ Two (PaC w0) (cutL most f l) xs ∧ Below w.heap.size w w' := by
  intro f
  induction f with
  | zero =>
    intro v l w0 w h _ _ hl _
    have : l = [] := List.eq_nil_of_length_eq_zero (by omega)
    subst this
    obtain ⟨A, c, rfl, _⟩ := h.form
    go_enter Tryz.func67, Tryz.ntmps67
    go_wp2_with fail
    go_ret
    exact ⟨_, _, rfl, Lv.nil 1 w, Two.nil, Below.refl _ _⟩
  | succ f ih =>
    intro v l w0 w h hB0 hIs hl hf
    have IH := Lib.hid ih
    clear ih
    rcases l with _ | ⟨t0, l0⟩
    · obtain ⟨A, c, rfl, _⟩ := h.form
      go_enter Tryz.func67, Tryz.ntmps67
      go_wp2_with fail
      go_ret
      exact ⟨_, _, rfl, Lv.nil 1 w, Two.nil, Below.refl _ _⟩
    · obtain ⟨l, hle⟩ : ∃ l, l = t0 :: l0 := ⟨_, rfl⟩
      have hcut : cutL most (f + 1) (t0 :: l0) = l.take (cutK most l) :: cutL most f (l.drop (cutK most l)) := by rw [hle]; rfl
      have hl1 : 1 ≤ l.length := by rw [hle]; simp
      rw [hcut]
      rw [← hle] at h hIs hl
      clear hcut hle
      have H := Lib.hid h
      have HIS := Lib.hid hIs
      obtain ⟨A, c, rfl, hc1, hc2⟩ := h.form
      clear h hIs
      have hz : ((l.length : Int) == 0) = false := beq_eq_false_iff_ne.2 (by omega)
      go_enter Tryz.func67, Tryz.ntmps67
      go_wp2_with fail
      go_loopw [5] (fun nv wr => ∃ n : Nat, nv = .int .i64 (n : Int) ∧ 1 ≤ n ∧ n ≤ l.length ∧ n ≤ 64 ∧ Below w.heap.size w wr ∧ Hid (cutK most l = cutN most l (65 - n) n)) (fun nv _ => 64 - (intOf nv).toNat)
      case atStart => exact ⟨1, rfl, Nat.le_refl _, hl1, by omega, Below.refl _ _, Lib.hid rfl⟩
      case round =>
        obtain ⟨n, rfl, hn1, hnl, hn64, hB, HC⟩ := hrel
        by_cases h1 : n < l.length
        · by_cases h2 : n < 64
          · obtain ⟨V, _, hsV, _, hV, _⟩ := ts_cut H.out (n + 1) (by omega)
            have hPg := Page_any V (l.take (n + 1)) wr ((hV.below hB0).below hB) (HIS.out.take _) (by rw [List.length_take]; omega)
            have hsV' : ∀ u, (Instr.slice 23 (.slice A l.length c) none (some (.int .i64 ((n : Int) + 1))) none).run Tryz.prog u = .ok V u := fun u => by have := hsV u; simpa using this
            have hpl : (pgOf (l.take (n + 1))).length ≤ 1000000 := by
              have h5 := one_le (l := l) HIS.out (n + 1)
              rw [pgOf_length]
              omega
            have HPL := Lib.hid hpl
            clear hsV hV hpl
            go_wp2_with fail
            refine hPg.mono ?_
            rintro e w3 ⟨x3, rfl, hown3, hb3⟩
            have hB3 := hB.trans (hb3.mono hB.size)
            obtain ⟨A3, c3, rfl, _⟩ := hown3.form
            have hpl := HPL.out
            obtain ⟨pl, hple⟩ : ∃ pl, pl = (pgOf (l.take (n + 1))).length := ⟨_, rfl⟩
            rw [← hple] at hpl ⊢
            have HPLE := Lib.hid hple
            clear hown3 hb3 hPg hple hsV'
            by_cases h3 : (pl : Int) ≤ most
            · go_wp2_with fail
              refine ⟨⟨n + 1, by go_num, by omega, by omega, by omega, hB3, Lib.hid ?_⟩, by simp [intOf]; omega⟩
              rw [HC.out, show 65 - n = (65 - (n + 1)) + 1 by omega, cutN_go ⟨h1, h2, by rw [← HPLE.out]; exact h3⟩]
            · have HK : Hid (cutK most l = n) := Lib.hid (by rw [HC.out]; exact cutN_stop fun hh => h3 (by rw [HPLE.out]; exact hh.2.2))
              clear hB
              obtain ⟨V, U, hsV, hsU, hV, hU⟩ := ts_cut H.out n hnl
              obtain ⟨Av, nv, cv, hVv⟩ : ∃ a n c, V = .slice a n c := by
                obtain ⟨a, c, h, _⟩ := hV.form
                exact ⟨_, _, _, h⟩
              subst hVv
              have HV := Lib.hid hV
              have hUB : Ts w3 U (l.drop n) := (hU.below hB0).below hB3
              have hdl : (l.drop n).length ≤ f := by rw [List.length_drop]; omega
              have hBW : Below w0.heap.size w0 w3 := hB0.trans (hB3.mono hB0.size)
              have HBW := Lib.hid hBW
              have HB := Lib.hid hB3
              have hcl : (cutL most f (l.drop n)).length ≤ 1000000 := by
                have := cutL_len most f (l.drop n)
                omega
              have HCL := Lib.hid hcl
              clear hV hcl hB3 hBW
              go_wp2_with fail
              refine wp_region_mix2 [(0, 0), (1, 0), (2, 0), (4, 0), (5, 0), (6, 0), (7, 0), (3, 10), (9, 1), (10, 1)] (fun u => Below w3.heap.size w3 u) (by kernel_rfl) (by kernel_rfl) (by decide +kernel) rfl (Below.refl _ _).drew ?_
              repeat
                (refine mix2_read (o := ⟨_, _, _, _, _, _⟩) (v := ?_) rfl (by rfl) (fun w' hS => ?_) ?_
                 rotate_left
                 go_simp
                 with_reducible rfl
                 try simp only [Act.put, List.setIfInBounds_toArray, List.set_cons_zero, List.set_cons_succ])
              refine mix2_fork (oi := ⟨_, _, _, _, _, _⟩) (oj := ⟨_, _, _, _, _, _⟩) rfl rfl (fun K hK => ?_) (fun K hK => ?_)
              · go_simp
                have b1 : Below w3.heap.size w3 (w3.drew.alloc (.cells #[.slice Av nv cv] 23)) := (Below.refl _ _).drew.alloc (Nat.le_refl _) _
                refine hK.out _ _ b1 ?_
                clear hK K
                try simp only [Act.put, List.setIfInBounds_toArray, List.set_cons_zero, List.set_cons_succ]
                refine then_step (o := ⟨_, _, _, _, _, _⟩) rfl (fun K hK => ?_)
                go_simp
                refine (IH.out U (l.drop n) w0 _ hU (HBW.out.trans (b1.mono HBW.out.size)) (HIS.out.drop n) hdl (by omega)).mono ?_
                rintro e u2 ⟨x2, xs2, rfl, hx2, hT2, hb2⟩
                have b2 := b1.trans (hb2.mono b1.size)
                refine hK.out _ _ b2 ?_
                clear hK K
                try simp only [Act.put, List.setIfInBounds_toArray, List.set_cons_zero, List.set_cons_succ]
                have hlit := (OwnL.lit1 w3.drew w3.heap.size 23 (.slice Av nv cv) (Nat.le_refl _)).below hb2
                have hx2l := hT2.len
                refine mix2_step (o := ⟨_, _, _, _, _, _⟩) rfl (fun K hK => ?_)
                refine step_append_elems paT rfl _ _ rfl rfl hlit rfl hx2 (fun y hy => by
                  obtain ⟨a, _, ha⟩ := hT2.right_mem hy
                  exact ha.one) (by have := HCL.out; simp only [maxLen, List.length_singleton]; omega) (by have := HCL.out; simp only [List.length_singleton]; omega) b2.size ?_
                intro v3 w3' ho3 hg3 hv3
                have b3 := b2.grown hg3 b2.size (fun q hq => (hlit.ge q hq))
                refine hK.out _ _ b3 ?_
                clear hK K
                try simp only [Act.put, List.setIfInBounds_toArray, List.set_cons_zero, List.set_cons_succ]
                refine mix2_step (o := ⟨_, _, _, _, _, _⟩) rfl (fun K hK => ?_)
                go_simp
                refine hK.out _ _ b3 ?_
                clear hK K
                refine mix2_done ?_
                go_wp2_with fail
                go_ret
                refine ⟨_, _, rfl, ho3.lv, ?_, HB.out.trans (b3.mono HB.out.size)⟩
                rw [HK.out]
                exact (Two.nil.snoc (a := l.take n) ⟨_, rfl, HV.out⟩).append hT2
              · go_simp
                refine (IH.out U (l.drop n) w0 _ hU (HBW.out.trans ((Below.refl _ _).drew.mono HBW.out.size)) (HIS.out.drop n) hdl (by omega)).mono ?_
                rintro e u2 ⟨x2, xs2, rfl, hx2, hT2, hb2⟩
                have b2 : Below w3.heap.size w3 u2 := (Below.refl _ _).drew.trans hb2
                refine hK.out _ _ b2 ?_
                clear hK K
                try simp only [Act.put, List.setIfInBounds_toArray, List.set_cons_zero, List.set_cons_succ]
                refine then_step (o := ⟨_, _, _, _, _, _⟩) rfl (fun K hK => ?_)
                go_simp
                have b4 : Below w3.heap.size w3 (u2.alloc (.cells #[.slice Av nv cv] 23)) := b2.alloc b2.size _
                refine hK.out _ _ b4 ?_
                clear hK K
                try simp only [Act.put, List.setIfInBounds_toArray, List.set_cons_zero, List.set_cons_succ]
                have hlit := OwnL.lit1 u2 w3.heap.size 23 (.slice Av nv cv) b2.size
                have hx3 := hx2.alloc (.cells #[.slice Av nv cv] 23)
                have hx2l := hT2.len
                refine mix2_step (o := ⟨_, _, _, _, _, _⟩) rfl (fun K hK => ?_)
                refine step_append_elems paT rfl _ _ rfl rfl hlit rfl hx3 (fun y hy => by
                  obtain ⟨a, _, ha⟩ := hT2.right_mem hy
                  exact ha.one) (by have := HCL.out; simp only [maxLen, List.length_singleton]; omega) (by have := HCL.out; simp only [List.length_singleton]; omega) b4.size ?_
                intro v3 w3' ho3 hg3 hv3
                have b3 := b4.grown hg3 b4.size (fun q hq => (hlit.ge q hq))
                refine hK.out _ _ b3 ?_
                clear hK K
                try simp only [Act.put, List.setIfInBounds_toArray, List.set_cons_zero, List.set_cons_succ]
                refine mix2_step (o := ⟨_, _, _, _, _, _⟩) rfl (fun K hK => ?_)
                go_simp
                refine hK.out _ _ b3 ?_
                clear hK K
                refine mix2_done ?_
                go_wp2_with fail
                go_ret
                refine ⟨_, _, rfl, ho3.lv, ?_, HB.out.trans (b3.mono HB.out.size)⟩
                rw [HK.out]
                exact (Two.nil.snoc (a := l.take n) ⟨_, rfl, HV.out⟩).append hT2
          · have HK : Hid (cutK most l = n) := Lib.hid (by rw [HC.out]; exact cutN_stop fun hh => h2 hh.2.1)
            obtain ⟨V, U, hsV, hsU, hV, hU⟩ := ts_cut H.out n hnl
            obtain ⟨Av, nv, cv, hVv⟩ : ∃ a n c, V = .slice a n c := by
              obtain ⟨a, c, h, _⟩ := hV.form
              exact ⟨_, _, _, h⟩
            subst hVv
            have HV := Lib.hid hV
            have hUB : Ts wr U (l.drop n) := (hU.below hB0).below hB
            have hdl : (l.drop n).length ≤ f := by rw [List.length_drop]; omega
            have hBW : Below w0.heap.size w0 wr := hB0.trans (hB.mono hB0.size)
            have HBW := Lib.hid hBW
            have HB := Lib.hid hB
            have hcl : (cutL most f (l.drop n)).length ≤ 1000000 := by
              have := cutL_len most f (l.drop n)
              omega
            have HCL := Lib.hid hcl
            clear hV hcl hB hBW
            go_wp2_with fail
            refine wp_region_mix2 [(0, 0), (1, 0), (2, 0), (4, 0), (5, 0), (6, 0), (7, 0), (3, 10), (9, 1), (10, 1)] (fun u => Below wr.heap.size wr u) (by kernel_rfl) (by kernel_rfl) (by decide +kernel) rfl (Below.refl _ _).drew ?_
            repeat
              (refine mix2_read (o := ⟨_, _, _, _, _, _⟩) (v := ?_) rfl (by rfl) (fun w' hS => ?_) ?_
               rotate_left
               go_simp
               with_reducible rfl
               try simp only [Act.put, List.setIfInBounds_toArray, List.set_cons_zero, List.set_cons_succ])
            refine mix2_fork (oi := ⟨_, _, _, _, _, _⟩) (oj := ⟨_, _, _, _, _, _⟩) rfl rfl (fun K hK => ?_) (fun K hK => ?_)
            · go_simp
              have b1 : Below wr.heap.size wr (wr.drew.alloc (.cells #[.slice Av nv cv] 23)) := (Below.refl _ _).drew.alloc (Nat.le_refl _) _
              refine hK.out _ _ b1 ?_
              clear hK K
              try simp only [Act.put, List.setIfInBounds_toArray, List.set_cons_zero, List.set_cons_succ]
              refine then_step (o := ⟨_, _, _, _, _, _⟩) rfl (fun K hK => ?_)
              go_simp
              refine (IH.out U (l.drop n) w0 _ hU (HBW.out.trans (b1.mono HBW.out.size)) (HIS.out.drop n) hdl (by omega)).mono ?_
              rintro e u2 ⟨x2, xs2, rfl, hx2, hT2, hb2⟩
              have b2 := b1.trans (hb2.mono b1.size)
              refine hK.out _ _ b2 ?_
              clear hK K
              try simp only [Act.put, List.setIfInBounds_toArray, List.set_cons_zero, List.set_cons_succ]
              have hlit := (OwnL.lit1 wr.drew wr.heap.size 23 (.slice Av nv cv) (Nat.le_refl _)).below hb2
              have hx2l := hT2.len
              refine mix2_step (o := ⟨_, _, _, _, _, _⟩) rfl (fun K hK => ?_)
              refine step_append_elems paT rfl _ _ rfl rfl hlit rfl hx2 (fun y hy => by
                obtain ⟨a, _, ha⟩ := hT2.right_mem hy
                exact ha.one) (by have := HCL.out; simp only [maxLen, List.length_singleton]; omega) (by have := HCL.out; simp only [List.length_singleton]; omega) b2.size ?_
              intro v3 w3' ho3 hg3 hv3
              have b3 := b2.grown hg3 b2.size (fun q hq => (hlit.ge q hq))
              refine hK.out _ _ b3 ?_
              clear hK K
              try simp only [Act.put, List.setIfInBounds_toArray, List.set_cons_zero, List.set_cons_succ]
              refine mix2_step (o := ⟨_, _, _, _, _, _⟩) rfl (fun K hK => ?_)
              go_simp
              refine hK.out _ _ b3 ?_
              clear hK K
              refine mix2_done ?_
              go_wp2_with fail
              go_ret
              refine ⟨_, _, rfl, ho3.lv, ?_, HB.out.trans (b3.mono HB.out.size)⟩
              rw [HK.out]
              exact (Two.nil.snoc (a := l.take n) ⟨_, rfl, HV.out⟩).append hT2
            · go_simp
              refine (IH.out U (l.drop n) w0 _ hU (HBW.out.trans ((Below.refl _ _).drew.mono HBW.out.size)) (HIS.out.drop n) hdl (by omega)).mono ?_
              rintro e u2 ⟨x2, xs2, rfl, hx2, hT2, hb2⟩
              have b2 : Below wr.heap.size wr u2 := (Below.refl _ _).drew.trans hb2
              refine hK.out _ _ b2 ?_
              clear hK K
              try simp only [Act.put, List.setIfInBounds_toArray, List.set_cons_zero, List.set_cons_succ]
              refine then_step (o := ⟨_, _, _, _, _, _⟩) rfl (fun K hK => ?_)
              go_simp
              have b4 : Below wr.heap.size wr (u2.alloc (.cells #[.slice Av nv cv] 23)) := b2.alloc b2.size _
              refine hK.out _ _ b4 ?_
              clear hK K
              try simp only [Act.put, List.setIfInBounds_toArray, List.set_cons_zero, List.set_cons_succ]
              have hlit := OwnL.lit1 u2 wr.heap.size 23 (.slice Av nv cv) b2.size
              have hx3 := hx2.alloc (.cells #[.slice Av nv cv] 23)
              have hx2l := hT2.len
              refine mix2_step (o := ⟨_, _, _, _, _, _⟩) rfl (fun K hK => ?_)
              refine step_append_elems paT rfl _ _ rfl rfl hlit rfl hx3 (fun y hy => by
                obtain ⟨a, _, ha⟩ := hT2.right_mem hy
                exact ha.one) (by have := HCL.out; simp only [maxLen, List.length_singleton]; omega) (by have := HCL.out; simp only [List.length_singleton]; omega) b4.size ?_
              intro v3 w3' ho3 hg3 hv3
              have b3 := b4.grown hg3 b4.size (fun q hq => (hlit.ge q hq))
              refine hK.out _ _ b3 ?_
              clear hK K
              try simp only [Act.put, List.setIfInBounds_toArray, List.set_cons_zero, List.set_cons_succ]
              refine mix2_step (o := ⟨_, _, _, _, _, _⟩) rfl (fun K hK => ?_)
              go_simp
              refine hK.out _ _ b3 ?_
              clear hK K
              refine mix2_done ?_
              go_wp2_with fail
              go_ret
              refine ⟨_, _, rfl, ho3.lv, ?_, HB.out.trans (b3.mono HB.out.size)⟩
              rw [HK.out]
              exact (Two.nil.snoc (a := l.take n) ⟨_, rfl, HV.out⟩).append hT2
        · have HK : Hid (cutK most l = n) := Lib.hid (by rw [HC.out]; exact cutN_stop fun hh => h1 hh.1)
          obtain ⟨V, U, hsV, hsU, hV, hU⟩ := ts_cut H.out n hnl
          obtain ⟨Av, nv, cv, hVv⟩ : ∃ a n c, V = .slice a n c := by
            obtain ⟨a, c, h, _⟩ := hV.form
            exact ⟨_, _, _, h⟩
          subst hVv
          have HV := Lib.hid hV
          have hUB : Ts wr U (l.drop n) := (hU.below hB0).below hB
          have hdl : (l.drop n).length ≤ f := by rw [List.length_drop]; omega
          have hBW : Below w0.heap.size w0 wr := hB0.trans (hB.mono hB0.size)
          have HBW := Lib.hid hBW
          have HB := Lib.hid hB
          have hcl : (cutL most f (l.drop n)).length ≤ 1000000 := by
            have := cutL_len most f (l.drop n)
            omega
          have HCL := Lib.hid hcl
          clear hV hcl hB hBW
          go_wp2_with fail
          refine wp_region_mix2 [(0, 0), (1, 0), (2, 0), (4, 0), (5, 0), (6, 0), (7, 0), (3, 10), (9, 1), (10, 1)] (fun u => Below wr.heap.size wr u) (by kernel_rfl) (by kernel_rfl) (by decide +kernel) rfl (Below.refl _ _).drew ?_
          repeat
            (refine mix2_read (o := ⟨_, _, _, _, _, _⟩) (v := ?_) rfl (by rfl) (fun w' hS => ?_) ?_
             rotate_left
             go_simp
             with_reducible rfl
             try simp only [Act.put, List.setIfInBounds_toArray, List.set_cons_zero, List.set_cons_succ])
          refine mix2_fork (oi := ⟨_, _, _, _, _, _⟩) (oj := ⟨_, _, _, _, _, _⟩) rfl rfl (fun K hK => ?_) (fun K hK => ?_)
          · go_simp
            have b1 : Below wr.heap.size wr (wr.drew.alloc (.cells #[.slice Av nv cv] 23)) := (Below.refl _ _).drew.alloc (Nat.le_refl _) _
            refine hK.out _ _ b1 ?_
            clear hK K
            try simp only [Act.put, List.setIfInBounds_toArray, List.set_cons_zero, List.set_cons_succ]
            refine then_step (o := ⟨_, _, _, _, _, _⟩) rfl (fun K hK => ?_)
            go_simp
            refine (IH.out U (l.drop n) w0 _ hU (HBW.out.trans (b1.mono HBW.out.size)) (HIS.out.drop n) hdl (by omega)).mono ?_
            rintro e u2 ⟨x2, xs2, rfl, hx2, hT2, hb2⟩
            have b2 := b1.trans (hb2.mono b1.size)
            refine hK.out _ _ b2 ?_
            clear hK K
            try simp only [Act.put, List.setIfInBounds_toArray, List.set_cons_zero, List.set_cons_succ]
            have hlit := (OwnL.lit1 wr.drew wr.heap.size 23 (.slice Av nv cv) (Nat.le_refl _)).below hb2
            have hx2l := hT2.len
            refine mix2_step (o := ⟨_, _, _, _, _, _⟩) rfl (fun K hK => ?_)
            refine step_append_elems paT rfl _ _ rfl rfl hlit rfl hx2 (fun y hy => by
              obtain ⟨a, _, ha⟩ := hT2.right_mem hy
              exact ha.one) (by have := HCL.out; simp only [maxLen, List.length_singleton]; omega) (by have := HCL.out; simp only [List.length_singleton]; omega) b2.size ?_
            intro v3 w3' ho3 hg3 hv3
            have b3 := b2.grown hg3 b2.size (fun q hq => (hlit.ge q hq))
            refine hK.out _ _ b3 ?_
            clear hK K
            try simp only [Act.put, List.setIfInBounds_toArray, List.set_cons_zero, List.set_cons_succ]
            refine mix2_step (o := ⟨_, _, _, _, _, _⟩) rfl (fun K hK => ?_)
            go_simp
            refine hK.out _ _ b3 ?_
            clear hK K
            refine mix2_done ?_
            go_wp2_with fail
            go_ret
            refine ⟨_, _, rfl, ho3.lv, ?_, HB.out.trans (b3.mono HB.out.size)⟩
            rw [HK.out]
            exact (Two.nil.snoc (a := l.take n) ⟨_, rfl, HV.out⟩).append hT2
          · go_simp
            refine (IH.out U (l.drop n) w0 _ hU (HBW.out.trans ((Below.refl _ _).drew.mono HBW.out.size)) (HIS.out.drop n) hdl (by omega)).mono ?_
            rintro e u2 ⟨x2, xs2, rfl, hx2, hT2, hb2⟩
            have b2 : Below wr.heap.size wr u2 := (Below.refl _ _).drew.trans hb2
            refine hK.out _ _ b2 ?_
            clear hK K
            try simp only [Act.put, List.setIfInBounds_toArray, List.set_cons_zero, List.set_cons_succ]
            refine then_step (o := ⟨_, _, _, _, _, _⟩) rfl (fun K hK => ?_)
            go_simp
            have b4 : Below wr.heap.size wr (u2.alloc (.cells #[.slice Av nv cv] 23)) := b2.alloc b2.size _
            refine hK.out _ _ b4 ?_
            clear hK K
            try simp only [Act.put, List.setIfInBounds_toArray, List.set_cons_zero, List.set_cons_succ]
            have hlit := OwnL.lit1 u2 wr.heap.size 23 (.slice Av nv cv) b2.size
            have hx3 := hx2.alloc (.cells #[.slice Av nv cv] 23)
            have hx2l := hT2.len
            refine mix2_step (o := ⟨_, _, _, _, _, _⟩) rfl (fun K hK => ?_)
            refine step_append_elems paT rfl _ _ rfl rfl hlit rfl hx3 (fun y hy => by
              obtain ⟨a, _, ha⟩ := hT2.right_mem hy
              exact ha.one) (by have := HCL.out; simp only [maxLen, List.length_singleton]; omega) (by have := HCL.out; simp only [List.length_singleton]; omega) b4.size ?_
            intro v3 w3' ho3 hg3 hv3
            have b3 := b4.grown hg3 b4.size (fun q hq => (hlit.ge q hq))
            refine hK.out _ _ b3 ?_
            clear hK K
            try simp only [Act.put, List.setIfInBounds_toArray, List.set_cons_zero, List.set_cons_succ]
            refine mix2_step (o := ⟨_, _, _, _, _, _⟩) rfl (fun K hK => ?_)
            go_simp
            refine hK.out _ _ b3 ?_
            clear hK K
            refine mix2_done ?_
            go_wp2_with fail
            go_ret
            refine ⟨_, _, rfl, ho3.lv, ?_, HB.out.trans (b3.mono HB.out.size)⟩
            rw [HK.out]
            exact (Two.nil.snoc (a := l.take n) ⟨_, rfl, HV.out⟩).append hT2

theorem cutL_cons (most : Int) (f : Nat) {l : List Tn} (h : l ≠ []) : cutL most (f + 1) l = l.take (cutK most l) :: cutL most f (l.drop (cutK most l)) := by
  cases l with
  | nil => exact absurd rfl h
  | cons t l => rfl
theorem pgOf_snoc (p : List Tn) (t : Tn) : (pgOf (p ++ [t])).length = 6 + (p.flatMap pgOne).length + (pgOne t).length := by
  rw [pgOf_length, List.flatMap_append, List.length_append]
  simp only [List.flatMap_cons, List.flatMap_nil, List.append_nil]
  omega

structure CutAt (most : Int) (f : Nat) (l : List Tn) (k : Nat) (ps : List (List Tn)) (p : List Tn) (size : Nat) : Prop where
  all : ∃ f', (p ++ l.drop k).length ≤ f' ∧ cutL most f l = ps ++ cutL most f' (p ++ l.drop k)
  fit : p ≠ [] → cutK most (p ++ l.drop k) = cutN most (p ++ l.drop k) (65 - p.length) p.length
  le : p.length ≤ 64
  size : size = 6 + (p.flatMap pgOne).length
section
variable {most : Int} {f : Nat} {l : List Tn} {k : Nat} {ps : List (List Tn)} {p : List Tn} {size : Nat} {t : Tn}
theorem CutAt.start (most : Int) (f : Nat) (l : List Tn) (h : l.length ≤ f) : CutAt most f l 0 [] [] 6 := ⟨⟨f, by simpa using h, by simp⟩, fun h => absurd rfl h, by simp, by simp⟩
theorem drop_at (ht : l[k]? = some t) : l.drop k = t :: l.drop (k + 1) := by
  obtain ⟨hk, rfl⟩ := List.getElem?_eq_some_iff.1 ht
  exact List.drop_eq_getElem_cons hk
theorem CutAt.add (h : CutAt most f l k ps p size) (ht : l[k]? = some t) (hp : p = [] ∨ (p.length < 64 ∧ ((size + (pgOne t).length : Nat) : Int) ≤ most)) : CutAt most f l (k + 1) ps (p ++ [t]) (size + (pgOne t).length) := by
  have e : p ++ l.drop k = (p ++ [t]) ++ l.drop (k + 1) := by rw [drop_at ht]; simp
  refine ⟨by rw [← e]; exact h.all, fun _ => ?_, ?_, ?_⟩
  · rw [← e]
    rcases hp with rfl | ⟨h1, h2⟩
    · rfl
    · by_cases hn : p = []
      · subst hn
        rfl
      · rw [h.fit hn, show 65 - p.length = (65 - (p ++ [t]).length) + 1 by simp; omega, cutN_go ⟨?_, h1, ?_⟩]
        · simp
        · rw [e]
          simp
        · rw [e, List.take_append_of_le_length (by simp), List.take_of_length_le (by simp), pgOf_snoc, ← h.size]
          exact h2
  · rcases hp with rfl | ⟨h1, _⟩
    · simp
    · simp
      omega
  · rw [List.flatMap_append, List.length_append, h.size]
    simp only [List.flatMap_cons, List.flatMap_nil, List.append_nil]
    omega
theorem CutAt.flush (h : CutAt most f l k ps p size) (ht : l[k]? = some t) (hn : p ≠ []) (hp : p.length = 64 ∨ most < ((size + (pgOne t).length : Nat) : Int)) : CutAt most f l k (ps ++ [p]) [] 6 := by
  have e : p ++ l.drop k = (p ++ [t]) ++ l.drop (k + 1) := by rw [drop_at ht]; simp
  have hk : cutK most (p ++ l.drop k) = p.length := by
    rw [h.fit hn]
    refine cutN_stop fun hh => ?_
    rcases hp with h1 | h1
    · omega
    · have h2 := hh.2.2
      rw [e, List.take_append_of_le_length (by simp), List.take_of_length_le (by simp), pgOf_snoc, ← h.size] at h2
      omega
  obtain ⟨f', hf, ha⟩ := h.all
  have hpl : 0 < p.length := List.length_pos_iff.2 hn
  obtain ⟨f'', rfl⟩ : ∃ f'', f' = f'' + 1 := ⟨f' - 1, by rw [List.length_append] at hf; omega⟩
  rw [cutL_cons most f'' (by intro e; rw [List.append_eq_nil_iff] at e; exact hn e.1), hk, List.take_left' rfl, List.drop_left' rfl] at ha
  refine ⟨⟨f'', ?_, by rw [ha]; simp⟩, fun h => absurd rfl h, by simp, by simp⟩
  rw [List.length_append] at hf
  simp only [List.nil_append]
  omega
theorem CutAt.done (h : CutAt most f l k ps p size) (hk : l.length ≤ k) : cutL most f l = if p = [] then ps else ps ++ [p] := by
  have e : p ++ l.drop k = p := by rw [List.drop_eq_nil_of_le hk, List.append_nil]
  obtain ⟨f', hf, ha⟩ := h.all
  rw [e] at hf ha
  rw [ha]
  split
  · rename_i hn
    subst hn
    cases f' <;> simp [cutL]
  · rename_i hn
    have hc := h.fit hn
    rw [e] at hc
    have hc2 : cutK most p = p.length := by
      rw [hc]
      exact cutN_stop fun hh => by omega
    have hpl : 0 < p.length := List.length_pos_iff.2 hn
    obtain ⟨f'', rfl⟩ : ∃ f'', f' = f'' + 1 := ⟨f' - 1, by omega⟩
    rw [cutL_cons most f'' hn, hc2, List.take_length, List.drop_length]
    cases f'' <;> simp [cutL]
end

theorem CanS.data {i : Int} {l : List Sn} (h : CanS i l) : ∀ s ∈ l, s.data.length ≤ 64 := fun s hs => by
  have := h.may
  rw [List.all_eq_true] at this
  exact (may_bounds (this s hs)).2.2.2

set_option maxHeartbeats 1600000 in
theorem papart_any (v : Value) (t : Tn) (w : World) (h : TV w v t) (hc : CanS t.id t.sp) :
    Calls Tryz.prog 96 #[v] w fun e w' => ∃ d, e = .returned (.agg #[.int .u64 t.id, d]) ∧ Acc w' w.heap.size d t.sp ∧ Below w.heap.size w w' := by
  obtain ⟨⟨i0, i1⟩, d, rfl, hd⟩ := h
  have hf1 : (flatT [t]).length ≤ 10000000 := by
    have := hc.hi
    simp [flatT]
    omega
  have hf2 : ∀ s ∈ flatT [t], s.data.length ≤ 1000000 := fun s hs => by
    have := hc.data s (by simpa [flatT] using hs)
    omega
  have hft : flatT [t] = t.sp := by simp [flatT]
  have HF1 := Lib.hid hf1
  have HF2 := Lib.hid hf2
  have HFT := Lib.hid hft
  obtain ⟨Ad, cd, hdv, _⟩ := hd.form
  subst hdv
  have HD := Lib.hid hd
  clear hf1 hf2 hft hc hd
  go_enter Tryz.func96, Tryz.ntmps96
  go_wp2_with fail
  have hb0 : Below w.heap.size w ((w.alloc (.cells #[.int .u64 t.id, .slice Ad t.sp.length cd] 43)).alloc (.cells #[.int .u64 0, .slice none 0 0] 43)) := ((Below.refl _ _).alloc (Nat.le_refl _) _).alloc (by simp) _
  have hC0 := (Blk.new w 43 #[.int .u64 t.id, .slice Ad t.sp.length cd]).alloc (.cells #[.int .u64 0, .slice none 0 0] 43)
  have hC1 := Blk.new (w.alloc (.cells #[.int .u64 t.id, .slice Ad t.sp.length cd] 43)) 43 #[.int .u64 0, .slice none 0 0]
  rw [show (w.alloc (.cells #[.int .u64 t.id, .slice Ad t.sp.length cd] 43)).heap.size = w.heap.size + 1 by simp] at hC1
  generalize (w.alloc (.cells #[.int .u64 t.id, .slice Ad t.sp.length cd] 43)).alloc (.cells #[.int .u64 0, .slice none 0 0] 43) = W at *
  have r0 : ∀ u, Blk u w.heap.size 43 #[.int .u64 t.id, .slice Ad t.sp.length cd] → u.cell? ⟨w.heap.size, 0, none⟩ = some (.int .u64 t.id) := fun u h => h.cell 0
  have r1 : ∀ u, Blk u w.heap.size 43 #[.int .u64 t.id, .slice Ad t.sp.length cd] → u.cell? ⟨w.heap.size, 1, none⟩ = some (.slice Ad t.sp.length cd) := fun u h => h.cell 1
  refine wp_region_mix [(0, false), (1, false), (2, false), (3, true), (4, true), (5, false), (6, true)] (fun u => Blk u w.heap.size 43 #[.int .u64 t.id, .slice Ad t.sp.length cd]) (by kernel_rfl) (by kernel_rfl) (by decide +kernel) rfl (hC0.drewN 1) ?_
  repeat
    (refine mix_read (o := ⟨_, _, _, _, _, _⟩) (v := ?_) rfl (by rfl) (fun w' hS => ?_) ?_
     rotate_left
     go_simp
     with_reducible rfl
     try simp only [Act.put, List.setIfInBounds_toArray, List.set_cons_zero, List.set_cons_succ])
  refine mix_step (o := ⟨_, _, _, _, _, _⟩) rfl (fun K hK => ?_)
  go_simp
  refine hK.out _ _ ((hC0.drewN 1).alloc _) ?_
  clear hK K
  try simp only [Act.put, List.setIfInBounds_toArray, List.set_cons_zero, List.set_cons_succ]
  have b1 : Below w.heap.size w (W.drew.alloc (.cells #[.int .u64 t.id, .slice Ad t.sp.length cd] 43)) := hb0.drew.alloc hb0.size _
  have hTs : Ts (W.drew.alloc (.cells #[.int .u64 t.id, .slice Ad t.sp.length cd] 43)) (.slice (some ⟨W.heap.size, 0, none⟩) 1 1) [t] :=
    ⟨_, Lv.lit1 W.drew [.int .u64 t.id, .slice Ad t.sp.length cd] 43, Two.nil.snoc (a := t) ⟨⟨i0, i1⟩, _, rfl, HD.out.below b1⟩⟩
  refine mix_step (o := ⟨_, _, _, _, _, _⟩) rfl (fun K hK => ?_)
  go_simp
  refine (flat_new _ [t] _ hTs HF1.out (by simp) HF2.out).mono ?_
  rintro e u2 ⟨v2, rfl, hA2, hb2⟩
  rw [HFT.out] at hA2
  have b2 := b1.trans (hb2.mono b1.size)
  have hD0 := ((hC0.drewN 1).alloc (.cells #[.int .u64 t.id, .slice Ad t.sp.length cd] 43)).below hb2 (((hC0.drewN 1).alloc (.cells #[.int .u64 t.id, .slice Ad t.sp.length cd] 43)).lt)
  have hD1 := ((hC1.drewN 1).alloc (.cells #[.int .u64 t.id, .slice Ad t.sp.length cd] 43)).below hb2 (((hC1.drewN 1).alloc (.cells #[.int .u64 t.id, .slice Ad t.sp.length cd] 43)).lt)
  refine hK.out _ _ hD0 ?_
  clear hK K
  try simp only [Act.put, List.setIfInBounds_toArray, List.set_cons_zero, List.set_cons_succ]
  obtain ⟨A2, c2, hv2, _⟩ := hA2.ss.form
  subst hv2
  refine mix_read (o := ⟨_, _, _, _, _, _⟩) (v := ?_) rfl (by rfl) (fun w' hS => ?_) ?_
  rotate_left
  go_simp
  with_reducible rfl
  try simp only [Act.put, List.setIfInBounds_toArray, List.set_cons_zero, List.set_cons_succ]
  have e0 := hD1.cell 0
  have e1 := hD1.cell 1
  have f0 := hD1.frozen 0
  have f1 := hD1.frozen 1
  simp at e0 e1
  refine mix_step (o := ⟨_, _, _, _, _, _⟩) rfl (fun K hK => ?_)
  go_simp
  refine hK.out _ _ ((hD0.far (p := ⟨w.heap.size + 1, 0, none⟩) (by simp) _).far (p := ⟨w.heap.size + 1, 1, none⟩) (by simp) _) ?_
  clear hK K
  refine mix_done ?_
  obtain ⟨c0, c1, hB6, hgr⟩ := spot2 hD1 b2 b2.size (Nat.le_succ _) (.int .u64 t.id) (.slice A2 t.sp.length c2)
  have hsz : w.heap.size + 1 < (W.drew.alloc (.cells #[.int .u64 t.id, .slice Ad t.sp.length cd] 43)).heap.size := Nat.lt_of_lt_of_le hC1.lt (by simp)
  have hA6 := (hA2.grown hgr hsz).lower b1.size
  generalize ((u2.setCell ⟨w.heap.size + 1, 0, none⟩ (.int .u64 t.id)).setCell ⟨w.heap.size + 1, 1, none⟩ (.slice A2 t.sp.length c2)) = w6 at *
  clear r0 r1 hTs hb2 hD0 hD1 e0 e1 f0 f1 hgr
  go_wp2_with fail
  refine bodyPost_ret (v := .agg #[.int .u64 t.id, .slice A2 t.sp.length c2]) (by simp [results, Tryz.results96, go_sem, c0, c1]; try rfl) rfl ?_
  exact ⟨_, rfl, hA6, hB6⟩

structure CutP (w : World) (l : List Tn) (most : Int) (x e : Value) : Prop where
  no : ¬ (IsT l ∧ 64 ≤ most ∧ most ≤ 8192) → x = .slice none 0 0 ∧ e = code 1
  yes : IsT l → 64 ≤ most → most ≤ 8192 → e = .nilIface ∧ Ps w x (cutL most l.length l)

structure CutM (w0 w : World) (pv qv : Value) (ps : List (List Tn)) (p : List Tn) : Prop where
  parts : OwnK 1 w w0.heap.size 23 (fun g => qv.ownBlock = some g) PaC pv ps
  part : OwnK 2 w w0.heap.size 43 (fun g => pv.ownBlock = some g) TnC qv p
  sep : ∀ g, pv.ownBlock = some g → qv.ownBlock ≠ some g
  bel : Below w0.heap.size w0 w
section
variable {w0 w w' : World} {pv qv : Value} {ps : List (List Tn)} {p : List Tn}
theorem CutM.start (w0 w : World) (h : Below w0.heap.size w0 w) : CutM w0 w (.slice none 0 0) (.slice none 0 0) [] [] := ⟨OwnK.nil _ _ _ _ _ _, OwnK.nil _ _ _ _ _ _, fun g h => (by cases h), h⟩
theorem CutM.below (h : CutM w0 w pv qv ps p) (hb : Below w.heap.size w w') : CutM w0 w' pv qv ps p := ⟨h.parts.below hb, h.part.below hb, h.sep, h.bel.trans (hb.mono h.bel.size)⟩
theorem CutM.partK (h : CutM w0 w pv qv ps p) : Keep (fun g => pv.ownBlock = some g) (fun u => Ts u qv p) w := h.part.keep fun g hg hb => h.sep g hb hg
theorem CutM.add (h : CutM w0 w pv qv ps p) {qv' : Value} {t : Tn} (ho : OwnK 2 w' w0.heap.size 43 (fun g => pv.ownBlock = some g) TnC qv' (p ++ [t])) (hg : w.grownBy w' qv.ownBlock) (hv : qv'.ownBlock = qv.ownBlock ∨ qv'.ownBlock = some w.heap.size) : CutM w0 w' pv qv' ps (p ++ [t]) := by
  refine ⟨h.parts.kept hg ?_ (fun _ h => h) ?_, ho, ?_, h.bel.grown hg h.bel.size fun g hg => (h.part.lt g hg).1⟩
  · cases hq : pv.ownBlock with
    | none => exact .inl rfl
    | some g => exact .inr fun e => h.sep g hq e.symm
  · intro g hg'
    rcases hv with e | e
    · exact .inl (by rw [← e]; exact hg')
    · rw [e] at hg'
      injection hg' with hg'
      exact .inr (by omega)
  · intro g hp hq
    rcases hv with e | e
    · exact h.sep g hp (by rw [← e]; exact hq)
    · rw [e] at hq
      injection hq with hq
      have := (h.parts.lt g hp).2
      omega
theorem CutM.flush (h : CutM w0 w pv qv ps p) {pv' : Value} (ho : OwnK 1 w' w0.heap.size 23 (fun _ => False) PaC pv' (ps ++ [p])) (hg : w.grownBy w' pv.ownBlock) : CutM w0 w' pv' (.slice none 0 0) (ps ++ [p]) [] :=
  ⟨ho.less fun g hg => (by cases hg), OwnK.nil _ _ _ _ _ _, fun g _ h => (by cases h), h.bel.grown hg h.bel.size fun g hg => (h.parts.lt g hg).1⟩
theorem CutM.partsF (h : CutM w0 w pv qv ps p) : OwnK 1 w w0.heap.size 23 (fun _ => False) PaC pv ps := h.parts.less fun _ h => h.elim
theorem CutM.partC (h : CutM w0 w pv qv ps p) : Keep (fun g => False ∨ pv.ownBlock = some g) (fun u => PaC u p [qv]) w := fun u ha =>
  ⟨qv, rfl, h.partK u ⟨ha.os, ha.tape, ha.output, ha.size, fun g hg hb => ha.block g hg fun e => e.elim (fun h => h) hb⟩⟩
end

set_option maxHeartbeats 6400000 in
theorem pcut_any (v : Value) (l : List Tn) (most : Int) (w : World) (h : Ts w v l) (hll : l.length ≤ 1000000) :
    Calls Tryz.prog 62 #[v, .int .i64 most] w fun e w' => ∃ x er, e = .returned (.tuple #[x, er]) ∧ CutP w' l most x er ∧ Below w.heap.size w w' := by
  have H := Lib.hid h
  obtain ⟨A, c, rfl, hc1, hc2⟩ := h.form
  clear h
  go_enter Tryz.func62, Tryz.ntmps62
  go_wp2_with fail
  refine (is_any _ l _ H.out).mono ?_
  rintro e w1 ⟨rfl, hb1⟩
  cases hi : isB l with
  | false =>
    have HN : Hid (¬ IsT l) := Lib.hid fun h => by rw [isB_true h] at hi; cases hi
    clear hi
    go_wp2_with fail
    go_ret2
    exact ⟨_, _, rfl, ⟨fun _ => ⟨rfl, rfl⟩, fun h => absurd h HN.out⟩, hb1⟩
  | true =>
    have HIS : Hid (IsT l) := Lib.hid (by
      rcases Classical.em (IsT l) with h | h
      · exact h
      · rw [isB_false h] at hi; cases hi)
    clear hi
    by_cases hm1 : most < 64
    · go_wp2_with fail
      go_ret2
      exact ⟨_, _, rfl, ⟨fun _ => ⟨rfl, rfl⟩, fun _ h => absurd h (by omega)⟩, hb1⟩
    by_cases hm2 : 8192 < most
    · go_wp2_with fail
      go_ret2
      exact ⟨_, _, rfl, ⟨fun _ => ⟨rfl, rfl⟩, fun _ _ h => absurd h (by omega)⟩, hb1⟩
    · go_wp2_with fail
      go_loopw [6, 7, 8, 26] (fun pv qv sv iv wr => ∃ (k : Nat) (ps : List (List Tn)) (p : List Tn) (sz : Nat), k ≤ l.length ∧ iv = .int .i64 (k : Int) ∧ sv = .int .i64 (sz : Int) ∧ sz ≤ 6 + 9814 * p.length ∧ Hid (CutAt most l.length l k ps p sz) ∧ Hid (CutM w wr pv qv ps p) ∧ p.length ≤ 64 ∧ ps.length ≤ k) (fun _ _ _ iv _ => l.length - (intOf iv).toNat)
      case atStart => exact ⟨0, [], [], 6, Nat.zero_le _, rfl, rfl, by omega, Lib.hid (CutAt.start most _ l (Nat.le_refl _)), Lib.hid (CutM.start w w1 hb1), by simp, by simp⟩
      case round =>
        obtain ⟨k, ps, p, sz, hk, rfl, rfl, hsz, HC, HM, hpl, hps⟩ := hrel
        by_cases hlt : k < l.length
        · obtain ⟨t, hkt⟩ : ∃ t, l[k]? = some t := ⟨_, List.getElem?_eq_getElem hlt⟩
          obtain ⟨g, o, d, rfl, hg, x0, x1, hd, hid⟩ := H.out.cells hkt
          have c0 := (HM.out.bel.cell hg).trans x0
          have c1 := (HM.out.bel.cell hg).trans x1
          have hgr := Nat.lt_of_lt_of_le hg HM.out.bel.size
          obtain ⟨Ad, cd, hdv, _⟩ := hd.form
          subst hdv
          have HKT := Lib.hid hkt
          have HID := Lib.hid hid
          have HD := Lib.hid hd
          have HCAN := Lib.hid (HIS.out.each k t hkt)
          have ha : Below wr.heap.size wr (wr.alloc (.cells #[.int .u64 t.id, .slice Ad t.sp.length cd] 43)) := (Below.refl _ _).alloc (Nat.le_refl _) _
          have HBl := Lib.hid (Blk.new wr 43 #[.int .u64 t.id, .slice Ad t.sp.length cd])
          have HM2 := Lib.hid (HM.out.below ha)
          have HPV : Hid (∀ q, u6.ownBlock = some q → q < wr.heap.size) := Lib.hid fun q hq => (HM.out.parts.lt q hq).2
          clear hkt hd ha HM x0 x1 hid
          go_wp2_with fail
          refine (pone_any _ t _ (show TV (wr.alloc (.cells #[.int .u64 t.id, .slice Ad t.sp.length cd] 43)) _ t from ⟨HID.out, _, rfl, HD.out.below HM2.out.bel⟩) HCAN.out).mono ?_
          rintro e w3 ⟨x3, rfl, hown3, hb3⟩
          have HM3 := Lib.hid (HM2.out.below hb3)
          have HBl3 := Lib.hid (HBl.out.below hb3 HBl.out.lt)
          have c0 := HBl3.out.cell 0
          have c1 := HBl3.out.cell 1
          simp at c0 c1
          obtain ⟨A3, c3, hx3, _⟩ := hown3.form
          subst hx3
          have hnl : (pgOne t).length ≤ 9814 := by
            have h1 := encS_le HCAN.out
            have h2 := pgOne_length t
            omega
          obtain ⟨n, hn⟩ : ∃ n, n = (pgOne t).length := ⟨_, rfl⟩
          rw [← hn] at hnl ⊢
          have HNE := Lib.hid hn
          clear hown3 hb3 hn HM2 HBl
          obtain ⟨Aq, cq, hqv, hq1, hq2⟩ := HM3.out.part.form
          subst hqv
          by_cases hp0 : p = []
          · subst hp0
            go_wp2_with fail
            refine (papart_any _ t _ (show TV w3 _ t from ⟨HID.out, _, rfl, HD.out.below HM3.out.bel⟩) HCAN.out).mono ?_
            rintro e w5 ⟨d5, rfl, hA5, hb5⟩
            have hM5 := HM3.out.below hb5
            have hbd : ∀ q, (u6.ownBlock = some q ∨ (Value.slice Aq ([] : List Tn).length cq).ownBlock = some q) → q < w3.heap.size := fun q hq => by
              rcases hq with hq | hq
              · exact (HM3.out.parts.lt q hq).2
              · exact (HM3.out.part.lt q hq).2
            have hKd : Keep (fun q => u6.ownBlock = some q ∨ (Value.slice Aq ([] : List Tn).length cq).ownBlock = some q) (fun u => TnC u t [.int .u64 t.id, d5]) w5 := fun u ha => ⟨HID.out, d5, rfl, (hA5.keep hbd) u ha⟩
            obtain ⟨A5, c5, hv5, _⟩ := hA5.ss.form
            subst hv5
            have ha5 : Below w5.heap.size w5 (w5.alloc (.cells #[.int .u64 t.id, .slice A5 t.sp.length c5] 43)) := (Below.refl _ _).alloc (Nat.le_refl _) _
            have HM6 := Lib.hid (hM5.below ha5)
            have HK6 := Lib.hid (hKd.below ha5)
            have HLV := Lib.hid (Lv.lit1 w5 [.int .u64 t.id, .slice A5 t.sp.length c5] 43)
            have HAC : Hid (CutAt most l.length l (k + 1) ps (([] : List Tn) ++ [t]) (sz + n)) := Lib.hid (by rw [HNE.out]; exact HC.out.add HKT.out (by rw [← HNE.out]; exact .inl rfl))
            clear hM5 hKd hA5 hb5 ha5 hbd
            go_wp2_with (at_builtin; refine wpList_append_K trT rfl _ _ rfl rfl HM6.out.part rfl HLV.out HK6.out (by simp [Value.oneCell']) (by first | omega | simp) (by decide) HM6.out.bel.size ?_)
            intro v7 w7 hO7 hg7 hv7
            have hv7' : v7.ownBlock = (Value.slice Aq ([] : List Tn).length cq).ownBlock ∨ v7.ownBlock = some (w5.alloc (.cells #[.int .u64 t.id, .slice A5 t.sp.length c5] 43)).heap.size := by simpa using hv7
            have HM7 := Lib.hid (HM6.out.add hO7 hg7 hv7')
            have hpl7 := HAC.out.le
            have hpp1 : (([] : List Tn) ++ [t]).length = (([] : List Tn)).length + 1 := by simp
            have hszb : sz + n ≤ 6 + 9814 * (([] : List Tn) ++ [t]).length := by
              rw [hpp1]
              omega
            clear hO7 hg7 hv7 hv7'
            go_wp2_with fail
            refine ⟨⟨k + 1, ps, ([] : List Tn) ++ [t], sz + n, by omega, by go_num, by go_num, by omega, HAC, HM7, hpl7, by first | omega | (simp; omega)⟩, by simp [intOf]; omega⟩
          · have hpp : 0 < p.length := List.length_pos_iff.2 hp0
            have HP0 := Lib.hid hp0
            clear hp0
            by_cases h64 : p.length = 64
            · have k64 : ((p.length : Int) == 64) = true := by simp [h64]
              have HFL := Lib.hid (HC.out.flush HKT.out HP0.out (.inl h64))
              clear h64
              have ha3 : Below w3.heap.size w3 (w3.alloc (.cells #[.slice Aq p.length cq] 23)) := (Below.refl _ _).alloc (Nat.le_refl _) _
              have HMa := Lib.hid (HM3.out.below ha3)
              have HLa := Lib.hid (Lv.lit1 w3 [.slice Aq p.length cq] 23)
              have HBa := Lib.hid (HBl3.out.alloc (.cells #[.slice Aq p.length cq] 23))
              clear ha3 HM3
              go_wp2_with (at_builtin; refine wpList_append_K paT rfl _ _ rfl rfl HMa.out.partsF rfl HLa.out HMa.out.partC (by simp [Value.oneCell']) (by omega) (by decide) HMa.out.bel.size ?_)
              intro v8 w8 hO8 hg8 _
              have HM8 := Lib.hid (HMa.out.flush hO8 hg8)
              have HBl8 := Lib.hid (HBa.out.grown hg8 fun e => by have := HPV.out _ e.symm; omega)
              have c0 := HBl8.out.cell 0
              have c1 := HBl8.out.cell 1
              simp at c0 c1
              clear hO8 hg8 HMa HLa HBa
              go_wp2_with fail
              refine (papart_any _ t _ (show TV w8 _ t from ⟨HID.out, _, rfl, HD.out.below HM8.out.bel⟩) HCAN.out).mono ?_
              rintro e w5 ⟨d5, rfl, hA5, hb5⟩
              have hM5 := HM8.out.below hb5
              have hbd : ∀ q, (v8.ownBlock = some q ∨ (Value.slice none 0 0).ownBlock = some q) → q < w8.heap.size := fun q hq => by
                rcases hq with hq | hq
                · exact (HM8.out.parts.lt q hq).2
                · exact (HM8.out.part.lt q hq).2
              have hKd : Keep (fun q => v8.ownBlock = some q ∨ (Value.slice none 0 0).ownBlock = some q) (fun u => TnC u t [.int .u64 t.id, d5]) w5 := fun u ha => ⟨HID.out, d5, rfl, (hA5.keep hbd) u ha⟩
              obtain ⟨A5, c5, hv5, _⟩ := hA5.ss.form
              subst hv5
              have ha5 : Below w5.heap.size w5 (w5.alloc (.cells #[.int .u64 t.id, .slice A5 t.sp.length c5] 43)) := (Below.refl _ _).alloc (Nat.le_refl _) _
              have HM6 := Lib.hid (hM5.below ha5)
              have HK6 := Lib.hid (hKd.below ha5)
              have HLV := Lib.hid (Lv.lit1 w5 [.int .u64 t.id, .slice A5 t.sp.length c5] 43)
              have HAC : Hid (CutAt most l.length l (k + 1) (ps ++ [p]) (([] : List Tn) ++ [t]) (6 + n)) := Lib.hid (by rw [HNE.out]; exact HFL.out.add HKT.out (by rw [← HNE.out]; exact .inl rfl))
              clear hM5 hKd hA5 hb5 ha5 hbd
              go_wp2_with (at_builtin; refine wpList_append_K trT rfl _ _ rfl rfl HM6.out.part rfl HLV.out HK6.out (by simp [Value.oneCell']) (by first | omega | simp) (by decide) HM6.out.bel.size ?_)
              intro v7 w7 hO7 hg7 hv7
              have hv7' : v7.ownBlock = (Value.slice none 0 0).ownBlock ∨ v7.ownBlock = some (w5.alloc (.cells #[.int .u64 t.id, .slice A5 t.sp.length c5] 43)).heap.size := by simpa using hv7
              have HM7 := Lib.hid (HM6.out.add hO7 hg7 hv7')
              have hpl7 := HAC.out.le
              have hpp1 : (([] : List Tn) ++ [t]).length = (([] : List Tn)).length + 1 := by simp
              have hszb : 6 + n ≤ 6 + 9814 * (([] : List Tn) ++ [t]).length := by
                rw [hpp1]
                omega
              clear hO7 hg7 hv7 hv7'
              go_wp2_with fail
              refine ⟨⟨k + 1, (ps ++ [p]), ([] : List Tn) ++ [t], 6 + n, by omega, by go_num, by go_num, by omega, HAC, HM7, hpl7, by first | omega | (simp; omega)⟩, by simp [intOf]; omega⟩
            · have k64 : ((p.length : Int) == 64) = false := beq_eq_false_iff_ne.2 (by omega)
              by_cases hfit : most < ((sz + n : Nat) : Int)
              · have HFL := Lib.hid (HC.out.flush HKT.out HP0.out (.inr (by rw [← HNE.out]; exact hfit)))
                have hfit2 : most < (sz : Int) + (n : Int) := by omega
                have ha3 : Below w3.heap.size w3 (w3.alloc (.cells #[.slice Aq p.length cq] 23)) := (Below.refl _ _).alloc (Nat.le_refl _) _
                have HMa := Lib.hid (HM3.out.below ha3)
                have HLa := Lib.hid (Lv.lit1 w3 [.slice Aq p.length cq] 23)
                have HBa := Lib.hid (HBl3.out.alloc (.cells #[.slice Aq p.length cq] 23))
                clear ha3 HM3
                go_wp2_with (at_builtin; refine wpList_append_K paT rfl _ _ rfl rfl HMa.out.partsF rfl HLa.out HMa.out.partC (by simp [Value.oneCell']) (by omega) (by decide) HMa.out.bel.size ?_)
                intro v8 w8 hO8 hg8 _
                have HM8 := Lib.hid (HMa.out.flush hO8 hg8)
                have HBl8 := Lib.hid (HBa.out.grown hg8 fun e => by have := HPV.out _ e.symm; omega)
                have c0 := HBl8.out.cell 0
                have c1 := HBl8.out.cell 1
                simp at c0 c1
                clear hO8 hg8 HMa HLa HBa
                go_wp2_with fail
                refine (papart_any _ t _ (show TV w8 _ t from ⟨HID.out, _, rfl, HD.out.below HM8.out.bel⟩) HCAN.out).mono ?_
                rintro e w5 ⟨d5, rfl, hA5, hb5⟩
                have hM5 := HM8.out.below hb5
                have hbd : ∀ q, (v8.ownBlock = some q ∨ (Value.slice none 0 0).ownBlock = some q) → q < w8.heap.size := fun q hq => by
                  rcases hq with hq | hq
                  · exact (HM8.out.parts.lt q hq).2
                  · exact (HM8.out.part.lt q hq).2
                have hKd : Keep (fun q => v8.ownBlock = some q ∨ (Value.slice none 0 0).ownBlock = some q) (fun u => TnC u t [.int .u64 t.id, d5]) w5 := fun u ha => ⟨HID.out, d5, rfl, (hA5.keep hbd) u ha⟩
                obtain ⟨A5, c5, hv5, _⟩ := hA5.ss.form
                subst hv5
                have ha5 : Below w5.heap.size w5 (w5.alloc (.cells #[.int .u64 t.id, .slice A5 t.sp.length c5] 43)) := (Below.refl _ _).alloc (Nat.le_refl _) _
                have HM6 := Lib.hid (hM5.below ha5)
                have HK6 := Lib.hid (hKd.below ha5)
                have HLV := Lib.hid (Lv.lit1 w5 [.int .u64 t.id, .slice A5 t.sp.length c5] 43)
                have HAC : Hid (CutAt most l.length l (k + 1) (ps ++ [p]) (([] : List Tn) ++ [t]) (6 + n)) := Lib.hid (by rw [HNE.out]; exact HFL.out.add HKT.out (by rw [← HNE.out]; exact .inl rfl))
                clear hM5 hKd hA5 hb5 ha5 hbd
                go_wp2_with (at_builtin; refine wpList_append_K trT rfl _ _ rfl rfl HM6.out.part rfl HLV.out HK6.out (by simp [Value.oneCell']) (by first | omega | simp) (by decide) HM6.out.bel.size ?_)
                intro v7 w7 hO7 hg7 hv7
                have hv7' : v7.ownBlock = (Value.slice none 0 0).ownBlock ∨ v7.ownBlock = some (w5.alloc (.cells #[.int .u64 t.id, .slice A5 t.sp.length c5] 43)).heap.size := by simpa using hv7
                have HM7 := Lib.hid (HM6.out.add hO7 hg7 hv7')
                have hpl7 := HAC.out.le
                have hpp1 : (([] : List Tn) ++ [t]).length = (([] : List Tn)).length + 1 := by simp
                have hszb : 6 + n ≤ 6 + 9814 * (([] : List Tn) ++ [t]).length := by
                  rw [hpp1]
                  omega
                clear hO7 hg7 hv7 hv7'
                go_wp2_with fail
                refine ⟨⟨k + 1, (ps ++ [p]), ([] : List Tn) ++ [t], 6 + n, by omega, by go_num, by go_num, by omega, HAC, HM7, hpl7, by first | omega | (simp; omega)⟩, by simp [intOf]; omega⟩
              · have hfit2 : ¬ (most < (sz : Int) + (n : Int)) := by omega
                have HWHY : Hid (p = [] ∨ (p.length < 64 ∧ ((sz + n : Nat) : Int) ≤ most)) := Lib.hid (.inr ⟨by omega, by omega⟩)
                go_wp2_with fail
                refine (papart_any _ t _ (show TV w3 _ t from ⟨HID.out, _, rfl, HD.out.below HM3.out.bel⟩) HCAN.out).mono ?_
                rintro e w5 ⟨d5, rfl, hA5, hb5⟩
                have hM5 := HM3.out.below hb5
                have hbd : ∀ q, (u6.ownBlock = some q ∨ (Value.slice Aq p.length cq).ownBlock = some q) → q < w3.heap.size := fun q hq => by
                  rcases hq with hq | hq
                  · exact (HM3.out.parts.lt q hq).2
                  · exact (HM3.out.part.lt q hq).2
                have hKd : Keep (fun q => u6.ownBlock = some q ∨ (Value.slice Aq p.length cq).ownBlock = some q) (fun u => TnC u t [.int .u64 t.id, d5]) w5 := fun u ha => ⟨HID.out, d5, rfl, (hA5.keep hbd) u ha⟩
                obtain ⟨A5, c5, hv5, _⟩ := hA5.ss.form
                subst hv5
                have ha5 : Below w5.heap.size w5 (w5.alloc (.cells #[.int .u64 t.id, .slice A5 t.sp.length c5] 43)) := (Below.refl _ _).alloc (Nat.le_refl _) _
                have HM6 := Lib.hid (hM5.below ha5)
                have HK6 := Lib.hid (hKd.below ha5)
                have HLV := Lib.hid (Lv.lit1 w5 [.int .u64 t.id, .slice A5 t.sp.length c5] 43)
                have HAC : Hid (CutAt most l.length l (k + 1) ps (p ++ [t]) (sz + n)) := Lib.hid (by rw [HNE.out]; exact HC.out.add HKT.out (by rw [← HNE.out]; exact HWHY.out))
                clear hM5 hKd hA5 hb5 ha5 hbd
                go_wp2_with (at_builtin; refine wpList_append_K trT rfl _ _ rfl rfl HM6.out.part rfl HLV.out HK6.out (by simp [Value.oneCell']) (by first | omega | simp) (by decide) HM6.out.bel.size ?_)
                intro v7 w7 hO7 hg7 hv7
                have hv7' : v7.ownBlock = (Value.slice Aq p.length cq).ownBlock ∨ v7.ownBlock = some (w5.alloc (.cells #[.int .u64 t.id, .slice A5 t.sp.length c5] 43)).heap.size := by simpa using hv7
                have HM7 := Lib.hid (HM6.out.add hO7 hg7 hv7')
                have hpl7 := HAC.out.le
                have hpp1 : (p ++ [t]).length = (p).length + 1 := by simp
                have hszb : sz + n ≤ 6 + 9814 * (p ++ [t]).length := by
                  rw [hpp1]
                  omega
                clear hO7 hg7 hv7 hv7'
                go_wp2_with fail
                refine ⟨⟨k + 1, ps, p ++ [t], sz + n, by omega, by go_num, by go_num, by omega, HAC, HM7, hpl7, by first | omega | (simp; omega)⟩, by simp [intOf]; omega⟩
        · have hkn : k = l.length := by omega
          subst hkn
          have HD := Lib.hid (HC.out.done (Nat.le_refl _))
          obtain ⟨Aq, cq, hqv, hq1, hq2⟩ := HM.out.part.form
          subst hqv
          by_cases hp0 : p = []
          · have HP : Hid (Ps wr u6 (cutL most l.length l)) := Lib.hid (by rw [HD.out, if_pos hp0]; exact HM.out.parts.lv)
            subst hp0
            go_wp2_with fail
            go_ret2
            exact ⟨_, _, rfl, ⟨fun h => absurd ⟨HIS.out, by omega, by omega⟩ h, fun _ _ _ => ⟨rfl, HP.out⟩⟩, HM.out.bel⟩
          · have hpp : 0 < p.length := List.length_pos_iff.2 hp0
            have HE : Hid (cutL most l.length l = ps ++ [p]) := Lib.hid (by rw [HD.out, if_neg hp0])
            clear hp0
            have ha3 : Below wr.heap.size wr (wr.alloc (.cells #[.slice Aq p.length cq] 23)) := (Below.refl _ _).alloc (Nat.le_refl _) _
            have HMa := Lib.hid (HM.out.below ha3)
            have HLa := Lib.hid (Lv.lit1 wr [.slice Aq p.length cq] 23)
            clear ha3 HM
            go_wp2_with (at_builtin; refine wpList_append_K paT rfl _ _ rfl rfl HMa.out.partsF rfl HLa.out HMa.out.partC (by simp [Value.oneCell']) (by omega) (by decide) HMa.out.bel.size ?_)
            intro v8 w8 hO8 hg8 _
            have HM8 := Lib.hid (HMa.out.flush hO8 hg8)
            clear hO8 hg8
            go_wp2_with fail
            go_ret2
            exact ⟨_, _, rfl, ⟨fun h => absurd ⟨HIS.out, by omega, by omega⟩ h, fun _ _ _ => ⟨rfl, by rw [HE.out]; exact HM8.out.parts.lv⟩⟩, HM8.out.bel⟩

end Go.Proofs.YtfccfnbmmgfgcaaGreatDoor
