/-
  CONTRACTS of the program's log: cutOff, Append, All, Clear; 'logK'. Conditions: what each says.
-/
import Derived.Test.YtdfjicjlmejonaaWlI
namespace Go.Proofs.Ytdfjicjlmejonaa
open Go.RowKit
set_option maxRecDepth 100000

section
variable {PT : World → (Nat → Prop) → Nat → Tm → Prop} {w : World} {F Ft : Nat → Prop} {g gt : Nat} {v : Value} {m : Tm} {rs : List (List UInt8)}
set_option maxHeartbeats 800000 in
theorem wclear_any (hT : TapeK PT) (h : LKp PT w F Ft g gt v m rs) (hm : m.fine) :
    Calls Try.prog 23 #[.pointer (some ⟨g, 0, none⟩)] w fun e w' => e = .returned (errV (tCut m 0).2) ∧ ∃ F', LKt PT w' F' g gt (tCut m 0).1 (if (tCut m 0).2 = 0 then [] else rs) ∧ Goes w F w' F' := by
  have neq_ := neCode
  have k0 := h.cell0
  have hC := hT.cut (n := 0) h.tape hm (by omega) (by omega)
  have HT := Lib.hid hT
  have H := Lib.hid h
  generalize tCut m 0 = r at *
  obtain ⟨m', c⟩ := r
  simp only at hC ⊢
  clear h hT
  go_enter Try.func23, Try.ntmps23
  go_wp2_with fail
  refine hC.mono ?_
  rintro e w1 ⟨rfl, F1, hP1, hA1, hN1⟩
  obtain ⟨h1, hg1⟩ := H.out.onTape HT.out hP1 hA1 hN1
  have H1 := Lib.hid h1
  have HG1 := Lib.hid hg1
  have f1 := h1.blk.frozen 1
  have k1 := h1.cell1
  clear hC hP1 hA1 hN1 h1 hg1
  by_cases hc : c = 0
  · subst hc
    rw [errV_zero]
    obtain ⟨hp, hgp⟩ := H1.out.put_ HT.out (v' := .slice none 0 0) (rs' := []) (Apt.refl _ _) (OwnK.nil _ _ _ _ _ _) (fun q hq => by simp [Value.ownBlock] at hq) (fun q hq => by simp [Value.ownBlock] at hq)
    have HP := Lib.hid hp
    have HGP := Lib.hid hgp
    clear hp hgp
    go_wp2_with fail
    go_ret
    exact ⟨rfl, _, ⟨_, _, HP.out⟩, HG1.out.trans HGP.out⟩
  · have HR := Lib.hid (errV_code hc)
    rw [errV_code hc]
    go_wp2_with fail
    go_ret
    exact ⟨by rw [HR.out]; rfl, _, ⟨_, _, H1.out⟩, HG1.out⟩

set_option maxHeartbeats 800000 in
theorem wcutOff_any (hT : TapeK PT) (h : LKp PT w F Ft g gt v m rs) (hm : m.fine) (hup : m.down = false) (n k : Nat) (hk : m.b.length = k + n) :
    Calls Try.prog 38 #[.pointer (some ⟨g, 0, none⟩), .int .i64 (n : Int)] w fun e w' => e = .returned (.tuple #[]) ∧ ∃ F' Ft', LKp PT w' F' Ft' g gt v (tCut m (k : Int)).1 rs ∧ Goes w F w' F' := by
  have k0 := h.cell0
  have hlen := hm.len
  have hr1 := hm.room1
  have hR := hT.read h.tape hm
  rw [show tRead m = (m.b, 0) by rw [tRead, if_neg (by rw [hup]; simp)], errV_zero] at hR
  have HT := Lib.hid hT
  have H := Lib.hid h
  clear h hT hup
  go_enter Try.func38, Try.ntmps38
  go_wp2_with fail
  refine hR.mono ?_
  rintro e w1 ⟨x, F1, rfl, hx, hP1, hA1, hN1, _⟩
  obtain ⟨h1, hg1⟩ := H.out.onTape HT.out hP1 hA1 hN1
  have hC := HT.out.cut (n := (k : Int)) h1.tape hm (by omega) (by omega)
  have H1 := Lib.hid h1
  have HG1 := Lib.hid hg1
  have k01 := h1.cell0
  obtain ⟨Ax, cx, rfl, _⟩ := hx.form
  have hsub : (m.b.length : Int) - (n : Int) = (k : Int) := by omega
  clear hR hx hP1 hA1 hN1 h1 hg1 k0 hm
  go_wp2_with fail
  refine hC.mono ?_
  rintro e w2 ⟨rfl, F2, hP2, hA2, hN2⟩
  obtain ⟨h2, hg2⟩ := H1.out.onTape HT.out hP2 hA2 hN2
  have H2 := Lib.hid h2
  have HG2 := Lib.hid (HG1.out.trans hg2)
  clear hC hP2 hA2 hN2 h2 hg2
  generalize errV (tCut m (k : Int)).2 = ev
  go_wp2_with fail
  refine bodyPost_end (results_none rfl _ _ _) rfl ?_
  exact ⟨rfl, _, _, H2.out, HG2.out⟩

set_option maxHeartbeats 3200000 in
theorem wall_any (h : LKp PT w F Ft g gt v m rs) (hn : rs.length ≤ 1000000) (hs : ∀ s ∈ rs, s.length ≤ 1048576) :
    Calls Try.prog 15 #[.pointer (some ⟨g, 0, none⟩)] w fun e w' => ∃ x, e = .returned x ∧ Bss w' x rs ∧ Below w.heap.size w w' := by
  obtain ⟨xn, hmk⟩ := run_make_elems (P := Try.prog) bssT rs.length (by omega) (by omega)
  have k1 := h.cell1
  have HB := Lib.hid h.row.bss
  have hgl := h.blk.lt
  obtain ⟨A, c, rfl, hc1, hc2⟩ := h.row.form
  have hmk1 := fun u => (hmk u).1
  have HO := Lib.hid (hmk w).2
  have hb1 : Below w.heap.size w (w.alloc (.cells (madeCells #[xn] rs.length) 22)) := (Below.refl _ _).alloc (Nat.le_refl _) _
  have k1' := (hb1.cell (p := ⟨g, 1, none⟩) hgl).trans k1
  have HB1 := Lib.hid hb1
  clear h hmk hb1
  go_enter Try.func15, Try.ntmps15
  go_wp2_with fail
  go_loopw [17] (fun iv wr => ∃ k : Nat, k ≤ rs.length ∧ iv = .int .i64 (k : Int) ∧ Below w.heap.size w wr ∧ w.heap.size < wr.heap.size ∧ ∃ xs, OwnL 1 wr w.heap.size 22 (.slice (some ⟨w.heap.size, 0, none⟩) rs.length rs.length) xs ∧ xs.length = rs.length ∧ Two (fun s x => Keep (fun q => q = w.heap.size) (fun u => BsC u s x) wr) (rs.take k) (xs.take k)) (fun iv _ => rs.length - (intOf iv).toNat)
  case atStart => exact ⟨0, Nat.zero_le _, rfl, HB1.out, by simp, _, HO.out, by simp, by simpa using Two.nil⟩
  case round =>
    obtain ⟨k, hk, rfl, hB, hsz, xs, hO, hxl, h2⟩ := hrel
    by_cases hlt : k < rs.length
    · obtain ⟨s, hks⟩ : ∃ s, rs[k]? = some s := ⟨_, List.getElem?_eq_getElem hlt⟩
      obtain ⟨q, p, d, rfl, hq, c0, hd⟩ := HB.out.cells hks
      have c0' := (hB.cell (p := ⟨q, p + k, none⟩) hq).trans c0
      have hd' := hd.below hB
      have hsl := hs s (List.mem_of_getElem? hks)
      have hcl := bclone_any s d wr (by omega) hd'
      obtain ⟨Ad, cd, rfl, _⟩ := hd
      have HBB := Lib.hid hB
      have HOO := Lib.hid hO
      have H2 := Lib.hid h2
      have HKS := Lib.hid hks
      have HXL := Lib.hid hxl
      clear hB hO h2 hd' c0 hks hxl
      go_wp2_with fail
      refine hcl.mono ?_
      rintro e w1 ⟨y, rfl, hy, hby⟩
      obtain ⟨x, hx⟩ : ∃ x, xs[k]? = some x := ⟨_, List.getElem?_eq_getElem (by have := HXL.out; omega)⟩
      have hO1 := HOO.out.below hby
      have hxk : x.length = 1 := hO1.2 x (List.mem_of_getElem? hx)
      obtain ⟨hput, hgp⟩ := hO1.put_ hx (show 0 < 1 by omega) y
      rw [Nat.mul_one, Nat.add_zero] at hput hgp
      have hxy : x.set 0 y = [y] := by
        match x, hxk with
        | [z], _ => rfl
      rw [hxy] at hput
      have hfr : w1.frozen? ⟨w.heap.size, k, none⟩ = false := by
        rcases hO1.at_ with ⟨h1, _⟩ | ⟨g', c', h1, _, _, _, _, h6⟩
        · cases h1
        · injection h1 with h1
          injection h1 with h1
          injection h1 with h1
          subst h1
          exact h6 k
      obtain ⟨z0, hz0⟩ : ∃ z, w1.cell? ⟨w.heap.size, k, none⟩ = some z := by
        obtain ⟨g1, o1, hA, _, hc⟩ := hO1.lv.cells (by omega) hx
        injection hA with hA
        injection hA with hA1 hA2
        subst hA1 hA2
        exact ⟨x[0], by simpa using hc 0 x[0] (by simp)⟩
      have hyk : Keep (fun q => q = w.heap.size) (fun u => BsC u s [y]) (w1.setCell ⟨w.heap.size, k, none⟩ y) := fun u hu => ⟨_, rfl, by
        have h1 : Own (w1.setCell ⟨w.heap.size, k, none⟩ y) wr.heap.size 5 y s := hy.kept hgp (by
          cases hq : y.ownBlock with
          | none => exact .inl rfl
          | some z => exact .inr fun e => by injection e with e; have := hy.ge z hq; omega)
        exact h1.bs.apt hu fun _ z hz e => by have := hy.ge z hz; omega⟩
      have HB2 : Hid (Below w.heap.size w (w1.setCell ⟨w.heap.size, k, none⟩ y)) := Lib.hid ((HBB.out.trans (hby.mono HBB.out.size)).grown hgp (Nat.le_trans HBB.out.size hby.size) fun z hz => by injection hz with hz; omega)
      have HS2 : Hid (w.heap.size < (w1.setCell ⟨w.heap.size, k, none⟩ y).heap.size) := Lib.hid (Nat.lt_of_lt_of_le hsz (Nat.le_trans hby.size hgp.size))
      have H22 : Hid (Two (fun s x => Keep (fun q => q = w.heap.size) (fun u => BsC u s x) (w1.setCell ⟨w.heap.size, k, none⟩ y)) (rs.take (k + 1)) ((xs.set k [y]).take (k + 1))) := Lib.hid (by
        have hkx : k < xs.length := by have := HXL.out; omega
        have e1 : (xs.set k [y]).take (k + 1) = xs.take k ++ [[y]] := by
          rw [List.take_succ_eq_append_getElem (by simpa using hkx), List.getElem_set_self, List.take_set_of_le (Nat.le_refl _)]
        rw [e1, take_snoc_wl HKS.out]
        exact (H2.out.mono fun _ _ hk => (hk.below hby).go (Apt.of_grown hgp fun z hz => by injection hz with hz; exact hz.symm) fun _ => .inl).snoc hyk)
      have HPUT := Lib.hid hput
      obtain ⟨Ay, cy, rfl, _⟩ := hy.form
      have i0 : (0 : Int) ≤ (k : Int) := by omega
      have i1 : (k : Int) < (rs.length : Int) := by omega
      clear hcl hput hgp hxy hyk hO1 hy hby hx hxk
      go_wp2_with fail
      exact ⟨⟨k + 1, by omega, by go_num, HB2.out, HS2.out, _, HPUT.out, by simp [HXL.out], H22.out⟩, by simp [intOf]; omega⟩
    · have hkn : k = rs.length := by omega
      subst hkn
      have HBB := Lib.hid hB
      have HR : Hid (Bss wr (.slice (some ⟨w.heap.size, 0, none⟩) rs.length rs.length) rs) := Lib.hid ⟨xs, hO.lv, by
        have h3 := h2.mono fun _ _ hk => hk.here
        rw [List.take_length, ← hxl, List.take_length] at h3
        exact h3⟩
      clear hB hO h2
      go_wp2_with fail
      go_ret
      exact ⟨_, rfl, HR.out, HBB.out⟩

set_option maxHeartbeats 3200000 in
theorem wappend_any (hT : TapeK PT) {b : List UInt8} {bv : Value} (h : LKp PT w F Ft g gt v m rs) (hW : Whole m rs) (hb : Bs w bv b) (hbs : b ≠ [] → ∀ q, bv.ownBlock = some q → ¬ F q) (hl : b.length ≤ 1000000) :
    Calls Try.prog 18 #[.pointer (some ⟨g, 0, none⟩), bv] w fun e w' => e = .returned (errV (wApp m rs b).2.2) ∧ ∃ F', LKt PT w' F' g gt (wApp m rs b).1 (wApp m rs b).2.1 ∧ Goes w F w' F' := by
  have neq_ := neCode
  have hI := isRec_any b bv w hb
  have HT := Lib.hid hT
  have H := Lib.hid h
  have HB := Lib.hid hb
  cases hok : isRec b.length with
  | false =>
    have HR : Hid (wApp m rs b = (m, rs, 1)) := Lib.hid (by
      rw [wApp, if_pos]
      simp [isRec] at hok
      omega)
    rw [hok] at hI
    clear h hW hb hok hT
    go_enter Try.func18, Try.ntmps18
    go_wp2_with fail
    refine hI.mono ?_
    rintro e w1 ⟨rfl, rfl⟩
    go_wp2_with fail
    go_ret
    rw [HR.out]
    exact ⟨rfl, F, ⟨_, _, H.out⟩, Goes.refl _ _⟩
  | true =>
    simp [isRec] at hok
    have HR : Hid (wApp m rs b = if (tAppend m (recB b)).2 = 0 ∧ (tSync (tAppend m (recB b)).1).2 = 0 then ((tSync (tAppend m (recB b)).1).1, rs ++ [b], 0) else
      if (tAppend m (recB b)).2 = 0 then ((tCut (tSync (tAppend m (recB b)).1).1 ((recsB rs).length : Int)).1, rs, (tSync (tAppend m (recB b)).1).2) else
      ((tCut (tAppend m (recB b)).1 ((recsB rs).length : Int)).1, rs, (tAppend m (recB b)).2)) := Lib.hid (by rw [wApp, if_neg (by omega)])
    have e1 : isRec b.length = true := by simp [isRec, hok]
    rw [e1] at hI
    have hsl := hW.small
    have hrl := recB_length b
    have hSe := wsealed_any b bv w (by omega) hb
    have HBS := Lib.hid hbs
    have hA := fun (u : World) (hu : LKp PT u F Ft g gt v m rs) (x : Value) (hx : Own u w.heap.size 5 x (recB b)) => HT.out.append hu.tape hW.fine hx.bs (fun _ q hq hf => by
      have h1 := hx.ge q hq
      have h2 := H.out.lt q (H.out.sub q hf)
      omega) (by omega)
    have hf1 := hW.fine.append (recB b)
    obtain ⟨a1, a2, a3, a4⟩ := tAppend_same m (recB b)
    have HC : Hid ((tAppend m (recB b)).2 ≠ 0 → (tCut (tAppend m (recB b)).1 ((recsB rs).length : Int)).1 = (tAppend m (recB b)).1) := Lib.hid fun hne => by
      rw [if_neg hne, hW.b] at a3
      have e := tCut_up (m := (tAppend m (recB b)).1) (n := (recsB rs).length) (by rw [a2]; exact hW.up) (by rw [a3]; exact Nat.le_refl _)
      have e2 : ((tAppend m (recB b)).1).b.take (recsB rs).length = ((tAppend m (recB b)).1).b := by rw [a3, List.take_length]
      have e3 : ((tAppend m (recB b)).1).synced = (recsB rs).length := by rw [a4, hW.sync, hW.b]
      rw [e, e2]
      show ({ (tAppend m (recB b)).1 with b := ((tAppend m (recB b)).1).b, synced := (recsB rs).length } : Tm) = _
      rw [← e3]
    have hup1 : ((tAppend m (recB b)).1).down = false := by rw [a2]; exact hW.up
    have HWB := Lib.hid hW.b
    generalize wApp m rs b = R at *
    generalize tAppend m (recB b) = r1 at *
    obtain ⟨m1, c1⟩ := r1
    simp only at hA hf1 HR HC hup1 a1 a2 a3 a4
    clear h hW hb hT hok e1 a1 a2 a4
    go_enter Try.func18, Try.ntmps18
    go_wp2_with fail
    refine hI.mono ?_
    rintro e w1 ⟨rfl, rfl⟩
    go_wp2_with fail
    refine hSe.mono ?_
    rintro e w1 ⟨x, rfl, hx, hb1⟩
    have h1 := H.out.later HT.out hb1
    have hA1 := hA _ h1 x hx
    have k01 := h1.cell0
    obtain ⟨Ax, cx, rfl, _⟩ := hx.form
    have H1 := Lib.hid h1
    have HB1 := Lib.hid hb1
    rw [hrl] at hA1
    rw [hrl]
    clear hI hSe hA hx h1 hb1 hbs
    go_wp2_with fail
    refine hA1.mono ?_
    rintro e w2 ⟨rfl, F2, hP2, hA2, hN2⟩
    obtain ⟨h2, hg2⟩ := H1.out.onTape HT.out hP2 hA2 hN2
    have H2 := Lib.hid h2
    have HG2 := Lib.hid ((Goes.of_below HB1.out).trans hg2)
    have k02 := h2.cell0
    by_cases hc1 : c1 = 0
    · subst hc1
      rw [errV_zero]
      have hS := HT.out.sync h2.tape hf1
      have hf2 := hf1.syn
      obtain ⟨s1, s2, s3, s4⟩ := tSync_same m1
      generalize tSync m1 = r2 at *
      obtain ⟨m2, c2⟩ := r2
      simp only at hS hf2 HR s1 s2 s3 s4
      rw [if_pos rfl, HWB.out] at a3
      rw [hup1] at s2
      rw [a3] at s3
      clear hA1 hP2 hA2 hN2 h2 hg2 s1 s4
      go_wp2_with fail
      refine hS.mono ?_
      rintro e w3 ⟨rfl, F3, hP3, hA3, hN3⟩
      obtain ⟨h3, hg3⟩ := H2.out.onTape HT.out hP3 hA3 hN3
      have H3 := Lib.hid h3
      have HG3 := Lib.hid (HG2.out.trans hg3)
      by_cases hc2 : c2 = 0
      · subst hc2
        rw [errV_zero]
        have HR2 : Hid (R = (m2, rs ++ [b], 0)) := Lib.hid (by rw [HR.out, if_pos ⟨trivial, rfl⟩])
        have hb3 := HB.out.apt HG3.out.apt HBS.out
        have HB3 := Lib.hid hb3
        have k13 := h3.cell1
        have hgl := h3.blk.lt
        obtain ⟨A, c, rfl, hcc1, hcc2⟩ := h3.row.form
        generalize hF' : (fun q => (F q ∨ F2 q) ∨ F3 q) = F' at *
        have hcl := bclone_any b bv w3.drew (by omega) hb3.drew
        have kk : ∀ u, Below w3.heap.size w3 u → u.cell? ⟨g, 1, none⟩ = some (.slice A rs.length c) := fun u hu => (hu.cell (p := ⟨g, 1, none⟩) hgl).trans k13
        clear hS hP3 hA3 hN3 h3 hg3 k02 k01 hb3
        go_wp2_with fail
        refine wp_region_mix3 11 [(0, 0), (1, 0), (2, 0), (3, 0), (4, 0), (5, 0), (6, 1), (7, 1), (8, 1), (9, 0), (10, 0), (11, 2)] (fun u => u.cell? ⟨g, 1, none⟩ = some (.slice A rs.length c)) (by kernel_rfl) (by kernel_rfl) (by decide +kernel) rfl k13 ?_
        repeat
          (refine mix3_read (o := ⟨_, _, _, _, _, _⟩) (v := ?_) rfl (by rfl) (fun w' hS => ?_) ?_
           rotate_left
           go_simp
           with_reducible rfl
           try simp only [Act.put, List.setIfInBounds_toArray, List.set_cons_zero, List.set_cons_succ])
        refine mix3_step (o := ⟨_, _, _, _, _, _⟩) rfl (fun K hK => ?_)
        go_simp
        refine hcl.mono ?_
        rintro e w4 ⟨y, rfl, hy, hb4'⟩
        have hb4 : Below w3.heap.size w3 w4 := (Below.refl w3.heap.size w3).drew.trans hb4'
        refine hK.out _ _ (kk _ hb4) ?_
        clear hK K
        try simp only [Act.put, List.setIfInBounds_toArray, List.set_cons_zero, List.set_cons_succ]
        have hyg : ∀ q, y.ownBlock = some q → w3.heap.size ≤ q ∧ q < w4.heap.size := fun q hq => ⟨hy.ge q hq, hy.blk_lt q hq⟩
        have hys := hy.bs
        obtain ⟨Ay, cy, rfl, hcy1, hcy2, _⟩ := hy.form
        have ha : Below w4.heap.size w4 (w4.alloc (.cells #[.slice Ay b.length cy] 22)) := (Below.refl _ _).alloc (Nat.le_refl _) _
        have hb5 := hb4.trans (ha.mono hb4.size)
        refine mix3_step (o := ⟨_, _, _, _, _, _⟩) rfl (fun K hK => ?_)
        go_simp
        refine hK.out _ _ (kk _ hb5) ?_
        clear hK K
        try simp only [Act.put, List.setIfInBounds_toArray, List.set_cons_zero, List.set_cons_succ]
        have hLV := Lv.lit1 w4 [.slice Ay b.length cy] 22
        have hrow : OwnK 1 (w4.alloc (.cells #[.slice Ay b.length cy] 22)) 0 22 (fun q => ¬ (F' q ∨ w3.heap.size ≤ q) ∨ F3 q ∨ q = g) BsC (.slice A rs.length c) rs := H3.out.row.apt (bad0 := fun _ => False) (Apt.of_below hb5) (fun _ _ h => h.elim) (fun _ _ h => h) fun q hq => .inl (hq.imp (fun h h' => h (.inl h')) id)
        have hkeep : Keep (fun q => (¬ (F' q ∨ w3.heap.size ≤ q) ∨ F3 q ∨ q = g) ∨ (Value.slice A rs.length c).ownBlock = some q) (fun u => BsC u b [.slice Ay b.length cy]) (w4.alloc (.cells #[.slice Ay b.length cy] 22)) := fun u hu => ⟨_, rfl, (hys.alloc _).apt hu fun _ q hq hbad => by
          have h1 := (hyg q hq).1
          rcases hbad with (h | h | h) | h
          · exact h (.inr h1)
          · have := H3.out.lt q (H3.out.sub q h)
            omega
          · omega
          · have := H3.out.lt q (H3.out.vF q h).1
            omega⟩
        refine mix3_step (o := ⟨_, _, _, _, _, _⟩) rfl (fun K hK => ?_)
        refine step_append_K bssT rfl _ _ rfl rfl hrow rfl hLV hkeep (by simp [Value.oneCell']) (by omega) (by decide) (Nat.zero_le _) ?_
        intro v6 w6 ho6 hg6 hv6
        replace hv6 : v6.ownBlock = (Value.slice A rs.length c).ownBlock ∨ v6.ownBlock = some (w4.alloc (.cells #[.slice Ay b.length cy] 22)).heap.size := hv6
        have hap6 : Apt (fun q => (Value.slice A rs.length c).ownBlock = some q) w3 w6 := (Apt.of_below hb5).trans (Apt.of_grown hg6 fun q hq => hq)
        have k16 : w6.cell? ⟨g, 1, none⟩ = some (.slice A rs.length c) := (World.cell?_of_block (hap6.block g hgl fun e => (H3.out.vF g e).2.2 rfl)).trans k13
        have f16 : w6.frozen? ⟨g, 1, none⟩ = false := Blk.frozen (Eq.trans (hap6.block g hgl fun e => (H3.out.vF g e).2.2 rfl) H3.out.blk) 1
        refine hK.out _ _ k16 ?_
        clear hK K
        try simp only [Act.put, List.setIfInBounds_toArray, List.set_cons_zero, List.set_cons_succ]
        repeat
          (refine mix3_read (o := ⟨_, _, _, _, _, _⟩) (v := ?_) rfl (by rfl) (fun w' hS => ?_) ?_
           rotate_left
           go_simp
           with_reducible rfl
           try simp only [Act.put, List.setIfInBounds_toArray, List.set_cons_zero, List.set_cons_succ])
        have hv6n : ∀ q, v6.ownBlock = some q → (Value.slice A rs.length c).ownBlock = some q ∨ w3.heap.size ≤ q := fun q hq => by
          rcases hv6 with e | e
          · exact .inl (e.symm.trans hq)
          · rw [e] at hq
            injection hq with hq
            exact .inr (by rw [← hq]; exact hb5.size)
        obtain ⟨hp, hgp⟩ := H3.out.put_ HT.out hap6 ho6 hv6n fun q hq => (ho6.lt q hq).2
        have HP := Lib.hid hp
        have HGP := Lib.hid hgp
        obtain ⟨A6, c6, h6v, _⟩ := ho6.form
        generalize (rs ++ [b]).length = n6 at h6v
        subst h6v
        clear hp hgp hv6n hap6 hv6 hg6 ho6 hkeep hrow hLV hb5 ha hys hyg hb4 hb4' hy
        refine mix3_store (o := ⟨_, _, _, _, _, _⟩) rfl (fun K hK => ?_)
        go_simp
        refine hK.out _ _ ?_
        clear hK K
        refine mix3_done ?_
        go_wp2_with fail
        go_ret
        rw [HR2.out]
        exact ⟨rfl, _, ⟨_, _, HP.out⟩, HG3.out.trans HGP.out⟩
      · have HE := Lib.hid (errV_code hc2)
        have HR2 : Hid (R = ((tCut m2 ((recsB rs).length : Int)).1, rs, c2)) := Lib.hid (by rw [HR.out, if_neg (fun h => hc2 h.2), if_pos trivial])
        have hcut := wcutOff_any HT.out h3 hf2 s2 (b.length + 6) (recsB rs).length (by rw [s3, List.length_append, hrl])
        rw [errV_code hc2]
        clear hS hP3 hA3 hN3 h3 hg3
        go_wp2_with fail
        refine hcut.mono ?_
        rintro e w4 ⟨rfl, F4, Ft4, h4, hg4⟩
        go_wp2_with fail
        go_ret
        rw [HR2.out]
        exact ⟨by rw [HE.out]; rfl, _, ⟨_, _, h4⟩, HG3.out.trans hg4⟩
    · have HE := Lib.hid (errV_code hc1)
      have HR2 : Hid (R = (m1, rs, c1)) := Lib.hid (by rw [HR.out, if_neg (fun h => hc1 h.1), if_neg hc1, HC.out hc1])
      rw [errV_code hc1]
      clear hA1 hP2 hA2 hN2 h2 hg2
      go_wp2_with fail
      go_ret
      rw [HR2.out]
      exact ⟨by rw [HE.out]; rfl, _, ⟨_, _, H2.out⟩, HG2.out⟩
end

theorem recs_len {m : Tm} {rs : List (List UInt8)} (hm : m.fine) (hb : m.b = recsB rs) : rs.length ≤ 1000000 ∧ ∀ s ∈ rs, s.length ≤ 1048576 := by
  have h1 := hm.len
  have h2 := hm.room1
  rw [hb] at h1
  have h3 : ∀ t : List (List UInt8), t.length ≤ (recsB t).length ∧ ∀ s ∈ t, s.length ≤ (recsB t).length := fun t => by
    induction t with
    | nil => exact ⟨Nat.zero_le _, fun s hs => by cases hs⟩
    | cons x t ih =>
      rw [recsB_cons, List.length_append, recB_length, List.length_cons]
      refine ⟨by omega, fun s hs => ?_⟩
      rcases List.mem_cons.1 hs with rfl | hs
      · omega
      · have := ih.2 s hs
        omega
  have h4 := h3 rs
  have h5 : 6 * rs.length ≤ (recsB rs).length := by
    clear h1 h2 h3 h4 hb hm
    induction rs with
    | nil => exact Nat.zero_le _
    | cons x t ih =>
      rw [recsB_cons, List.length_append, recB_length, List.length_cons]
      omega
  exact ⟨by omega, fun s hs => by have := h4.2 s hs; omega⟩

theorem logK {PT : World → (Nat → Prop) → Nat → Tm → Prop} (hT : TapeK PT) : LogK PT (LKt PT) where
  thing g gt m rs := logThing hT g gt m rs
  tape := fun ⟨Ft, _, h⟩ => ⟨Ft, h.tape, h.sub, fun _ Ft' _ hp ha hn => ⟨_, ⟨Ft', _, (h.onTape hT hp ha hn).1⟩, fun _ => id⟩⟩
  records hb hl := (wrecords_any _ _ _ hl hb).mono fun _ _ ⟨x, t, q, h1, h2, h3, h4⟩ => ⟨x, t, q, h1, h2, h3.bss, h4⟩
  open_nil := wopen_nil
  open_ok hp hm := wopen_ok hT hp hm
  append := fun ⟨_, _, h⟩ hW hb hbs hl => (wappend_any hT h hW hb hbs hl).mono fun _ _ ⟨h1, F', h2, h3⟩ => ⟨h1, F', h2, h3.apt, h3.new⟩
  all := fun {_ F _ _ _ _} ⟨Ft, v, h⟩ hm hb => (wall_any h (recs_len hm hb).1 (recs_len hm hb).2).mono fun _ _ ⟨x, h1, h2, h3⟩ => ⟨x, F, h1, h2, ⟨Ft, v, h.later hT h3⟩, Apt.of_below h3, fun _ => .inl⟩
  clear := fun ⟨_, _, h⟩ hm _ => (wclear_any hT h hm).mono fun _ _ ⟨h1, F', h2, h3⟩ => ⟨h1, F', h2, h3.apt, h3.new⟩
end Go.Proofs.Ytdfjicjlmejonaa
