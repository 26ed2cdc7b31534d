/-
  CONTRACTS of the document's log: Size, Open, Append, Clear. Conditions: what each says.
-/
import Derived.Test.YtdfjicjlmejonaaWlB
namespace Go.Proofs.Ytdfjicjlmejonaa
open Go.RowKit
set_option maxRecDepth 100000

/-- the document's log in block gl over the tape in block gt, its records in the row v, of the call's own from 'base' on -/
structure DL (w : World) (base gl gt : Nat) (v : Value) (m : Tm) (rs : List (List UInt8)) : Prop where
  blk : Blk w gl 43 #[.pointer (some ⟨gt, 0, none⟩), v]
  row : OwnL 1 w base 9 v (rs.map stC)
  tape : DT w gt m
  ne : gl ≠ gt
  nl : v.ownBlock ≠ some gl
  nt : v.ownBlock ≠ some gt
  gel : base ≤ gl
  get : base ≤ gt
section
variable {w w' : World} {base gl gt n c : Nat} {A : Option Addr} {v : Value} {m m' : Tm} {rs : List (List UInt8)}
theorem DL.below (h : DL w base gl gt v m rs) (hb : Below w.heap.size w w') : DL w' base gl gt v m rs := ⟨h.blk.below hb h.blk.lt, h.row.below hb, Blk.below h.tape hb (Blk.lt h.tape), h.ne, h.nl, h.nt, h.gel, h.get⟩
/-- the tape turns -/
theorem DL.onTape (h : DL w base gl gt v m rs) (hd : DT w' gt m') (hg : w.grownBy w' (some gt)) : DL w' base gl gt v m' rs := ⟨h.blk.grown hg (fun e => h.ne (by injection e)), h.row.kept hg (.inr h.nt), hd, h.ne, h.nl, h.nt, h.gel, h.get⟩
/-- the records turn -/
theorem DL.put_ {v' : Value} {rs' : List (List UInt8)} (h : DL w base gl gt v m rs) (hr : OwnL 1 w base 9 v' (rs'.map stC)) (h1 : v'.ownBlock ≠ some gl) (h2 : v'.ownBlock ≠ some gt) : DL (w.setCell ⟨gl, 1, none⟩ v') base gl gt v' m rs' ∧ w.grownBy (w.setCell ⟨gl, 1, none⟩ v') (some gl) := by
  have hg := grown_set w gl 1 v'
  have hb := h.blk.set_ 1 v'
  simp only [List.setIfInBounds_toArray, List.set_cons_succ, List.set_cons_zero] at hb
  exact ⟨⟨hb, hr.kept hg (.inr h1), Blk.grown h.tape hg (fun e => h.ne (by injection e with e; exact e.symm)), h.ne, h1, h2, h.gel, h.get⟩, hg⟩
theorem DL.form (h : DL w base gl gt v m rs) : ∃ A c, v = .slice A rs.length c ∧ rs.length ≤ c ∧ c ≤ 9223372036854775807 := by
  obtain ⟨A, c, hv, h1, h2⟩ := h.row.lv.form
  rw [List.length_map] at hv h1
  exact ⟨A, c, hv, h1, h2⟩
theorem DL.cell (h : DL w base gl gt (.slice A n c) m rs) {i : Nat} {s : List UInt8} (hi : rs[i]? = some s) : ∃ q p, A = some ⟨q, p, none⟩ ∧ q < w.heap.size ∧ w.cell? ⟨q, p + i, none⟩ = some (.string (Bstr s)) := by
  obtain ⟨q, p, hA, hq, hc⟩ := h.row.lv.cells (by omega) (i := i) (x := stC s) (by rw [List.getElem?_map, hi]; rfl)
  exact ⟨q, p, hA, hq, by simpa using hc 0 _ rfl⟩
end

theorem ownL_made (w : World) (k base : Nat) (e : TypeId) (hb : base ≤ w.heap.size) : OwnL k (w.alloc (.cells #[] e)) base e (.slice (some ⟨w.heap.size, 0, none⟩) 0 0) [] :=
  ⟨World.ownsRow_made (size := k) w #[] 0 hb (by simp [maxLen]) (by simp), fun x hx => by cases hx⟩
theorem take_snoc_wl {α : Type} {l : List α} {k : Nat} {s : α} (h : l[k]? = some s) : l.take (k + 1) = l.take k ++ [s] := by
  obtain ⟨hk, rfl⟩ := List.getElem?_eq_some_iff.1 h
  exact List.take_succ_eq_append_getElem hk
theorem recsB_take (rs : List (List UInt8)) (k : Nat) {s : List UInt8} (h : rs[k]? = some s) : (recsB (rs.take (k + 1))).length = (recsB (rs.take k)).length + 6 + s.length := by
  rw [take_snoc_wl h, recsB_snoc, List.length_append, recB_length]
  omega
theorem recsB_take_le (rs : List (List UInt8)) (k : Nat) : (recsB (rs.take k)).length ≤ (recsB rs).length := by
  have : recsB rs = recsB (rs.take k) ++ recsB (rs.drop k) := by rw [← recsB_append, List.take_append_drop]
  rw [this, List.length_append]
  omega

set_option maxHeartbeats 800000 in
theorem Size_any (base gl gt : Nat) (v : Value) (m : Tm) (rs : List (List UInt8)) (w : World) (h : DL w base gl gt v m rs) (hs : (recsB rs).length ≤ 1000000000) :
    Calls Try.prog 40 #[.pointer (some ⟨gl, 0, none⟩)] w fun e w' => e = .returned (.int .i64 ((recsB rs).length : Int)) ∧ w = w' := by
  have H := Lib.hid h
  have k1 := h.blk.cell 1
  simp at k1
  obtain ⟨A, c, rfl, hc1, hc2⟩ := h.form
  clear h
  go_enter Try.func40, Try.ntmps40
  go_wp2_with fail
  go_loop [3, 4] (fun nv iv => ∃ k n : Nat, k ≤ rs.length ∧ iv = .int .i64 (k : Int) ∧ nv = .int .i64 (n : Int) ∧ n ≤ 1000000000 ∧ Hid (n = (recsB (rs.take k)).length)) (fun _ iv => rs.length - (intOf iv).toNat)
  case atStart => exact ⟨0, 0, Nat.zero_le _, rfl, rfl, by omega, Lib.hid (by simp [recsB])⟩
  case round =>
    obtain ⟨k, n, hk, rfl, rfl, hn, HN⟩ := hrel
    by_cases hlt : k < rs.length
    · obtain ⟨s, hks⟩ : ∃ s, rs[k]? = some s := ⟨_, List.getElem?_eq_getElem hlt⟩
      obtain ⟨q, p, rfl, hq, c0⟩ := H.out.cell hks
      have hz : (Bstr s).size = s.length := Bstr_size _
      have hsum : n + 6 + s.length ≤ 1000000000 := by
        have h1 := recsB_take_le rs (k + 1)
        rw [recsB_take rs k hks, ← HN.out] at h1
        omega
      have HN2 : Hid (n + 6 + s.length = (recsB (rs.take (k + 1))).length) := Lib.hid (by rw [recsB_take rs k hks, HN.out])
      clear hks
      go_wp2_with fail
      exact ⟨⟨k + 1, n + 6 + s.length, by omega, by go_num, by go_num, hsum, HN2⟩, by simp [intOf]; omega⟩
    · have hkn : k = rs.length := by omega
      subst hkn
      have e := HN.out
      rw [List.take_length] at e
      have HE := Lib.hid e
      clear e
      go_wp2_with fail
      go_ret
      exact ⟨ret_int (by rw [HE.out]), rfl⟩

set_option maxHeartbeats 1600000 in
theorem lclear_any (base gl gt : Nat) (v : Value) (m : Tm) (rs : List (List UInt8)) (w : World) (h : DL w base gl gt v m rs) :
    Calls Try.prog 24 #[.pointer (some ⟨gl, 0, none⟩)] w fun e w' => e = .returned (.int .i64 (tCut m 0).2) ∧ ∃ v', DL w' base gl gt v' (tCut m 0).1 (if (tCut m 0).2 = 0 then [] else rs) ∧ Apt (fun q => q = gl ∨ q = gt) w w' ∧ ∀ q, v'.ownBlock = some q → v.ownBlock = some q := by
  have H := Lib.hid h
  have k0 := h.blk.cell 0
  simp at k0
  have hC := dcut_any 0 h.tape (by omega) (by omega)
  generalize tCut m 0 = r at *
  obtain ⟨m', c⟩ := r
  simp only at hC ⊢
  clear h
  go_enter Try.func24, Try.ntmps24
  go_wp2_with fail
  refine hC.mono ?_
  rintro e w1 ⟨rfl, hd1, hg1⟩
  have h1 := H.out.onTape hd1 hg1
  have H1 := Lib.hid h1
  have k1 := h1.blk.cell 1
  have f1 := h1.blk.frozen 1
  simp at k1
  have HA1 : Hid (Apt (fun q => q = gl ∨ q = gt) w w1) := Lib.hid (Apt.of_grown hg1 fun q hq => by injection hq with hq; exact .inr hq.symm)
  clear hC hd1 hg1 h1
  by_cases hc : c = 0
  · subst hc
    obtain ⟨hput, hgp⟩ := H1.out.put_ (v' := .slice none 0 0) (rs' := []) (OwnL.nil _ _ _ _) (by simp [Value.ownBlock]) (by simp [Value.ownBlock])
    have HP := Lib.hid hput
    clear hput
    go_wp2_with fail
    go_ret
    exact ⟨rfl, _, HP.out, HA1.out.trans (Apt.of_grown hgp fun q hq => by injection hq with hq; exact .inl hq.symm), fun q hq => by simp [Value.ownBlock] at hq⟩
  · have hcb : (c == 0) = false := by simp [hc]
    go_wp2_with fail
    go_ret
    exact ⟨rfl, v, H1.out, HA1.out, fun q hq => hq⟩

set_option maxHeartbeats 1600000 in
theorem lopen_any (base gl gt : Nat) (v : Value) (m : Tm) (rs : List (List UInt8)) (w : World) (h : DL w base gl gt v m rs) (hm : m.fine) :
    Calls Try.prog 14 #[.pointer (some ⟨gl, 0, none⟩)] w fun e w' => e = .returned (.tuple #[]) ∧ ∃ (v' : Value) (t : List (List UInt8)) (q : Nat), Recs m.b t 0 q ∧ DL w' base gl gt v' (tCut (tUp m) (q : Int)).1 t ∧ Apt (fun q => q = gl ∨ q = gt) w w' ∧ ∀ q, v'.ownBlock = some q → w.heap.size ≤ q := by
  have H := Lib.hid h
  have k0 := h.blk.cell 0
  have t4 := Blk.cell h.tape 4
  have f4 := Blk.frozen h.tape 4
  simp at k0 t4
  have hl := hm.len
  have hr := hm.room1
  have h1 := H.out.onTape (h.tape.down_ false) (grown_set w gt 4 (.bool false))
  have hg1 := grown_set w gt 4 (.bool false)
  have H1 := Lib.hid h1
  have k0' := h1.blk.cell 0
  have t3' := Blk.cell h1.tape 3
  simp at k0' t3'
  clear h h1
  go_enter Try.func14, Try.ntmps14
  go_wp2_with fail
  refine (Records_any m.b _ (by omega)).mono ?_
  rintro e w2 ⟨t, q, x, rfl, hR, hx, hb2⟩
  have hqb := hR.1.flat.2.2.1 (Nat.zero_le _)
  have h2 := H1.out.below hb2
  have HR := Lib.hid hR
  have hbs : base ≤ w.heap.size := by have := H.out.gel; have := H.out.blk.lt; omega
  have hszb : w.heap.size ≤ (w.setCell ⟨gt, 4, none⟩ (.bool false)).heap.size := hg1.size
  have hx2 : OwnL 1 w2 base 9 x (t.map stC) := by
    refine ⟨⟨hx.1.1, ?_⟩, hx.2⟩
    rcases hx.1.2 with h0 | ⟨g, cap, cur, hv, hg, hr, hrest⟩
    · exact .inl h0
    · exact .inr ⟨g, cap, cur, hv, by omega, hr, hrest⟩
  have hxn : ∀ z, x.ownBlock = some z → w.heap.size ≤ z := fun z hz => Nat.le_trans hszb (hx.ge z hz)
  obtain ⟨hput, hgp⟩ := h2.put_ (v' := x) (rs' := t) hx2 (fun e => by have := hxn gl e; have := H.out.blk.lt; omega) (fun e => by have := hxn gt e; have := Blk.lt H.out.tape; omega)
  have HP := Lib.hid hput
  have k1'' := h2.blk.cell 1
  have f1'' := h2.blk.frozen 1
  have k0'' := hput.blk.cell 0
  simp at k0'' k1''
  have hC := dcut_any (q : Int) hput.tape (by omega) (by omega)
  have HXN := Lib.hid hxn
  have HA2 : Hid (Apt (fun q => q = gl ∨ q = gt) w (w2.setCell ⟨gl, 1, none⟩ x)) := Lib.hid (((Apt.of_grown hg1 fun q hq => by injection hq with hq; exact .inr hq.symm).trans (Apt.of_below hb2)).trans (Apt.of_grown hgp fun q hq => by injection hq with hq; exact .inl hq.symm))
  obtain ⟨Ax, cx, hxv, _⟩ := hx.lv.form
  rw [List.length_map] at hxv
  subst hxv
  clear hR hx hx2 hxn hput h2 hgp hb2 hg1 t3' k0' t4 f4 k0
  go_wp2_with fail
  refine hC.mono ?_
  rintro e w3 ⟨rfl, hd3, hg3⟩
  have h3 := HP.out.onTape hd3 hg3
  have H3 := Lib.hid h3
  have HA3 := Lib.hid (HA2.out.trans (Apt.of_grown hg3 fun q hq => by injection hq with hq; exact .inr hq.symm))
  clear hC hd3 hg3 h3
  go_wp2_with fail
  refine bodyPost_end (results_none rfl _ _ _) rfl ?_
  exact ⟨rfl, _, t, q, HR.out, H3.out, HA3.out, HXN.out⟩

/-- Append of the document's log: the tape, the records, an error's number -/
def wApp (m : Tm) (rs : List (List UInt8)) (b : List UInt8) : Tm × List (List UInt8) × Int :=
  if b.length < 1 ∨ 16384 < b.length then (m, rs, 1) else
  if (tAppend m (recB b)).2 = 0 ∧ (tSync (tAppend m (recB b)).1).2 = 0 then ((tSync (tAppend m (recB b)).1).1, rs ++ [b], 0) else
  if (tAppend m (recB b)).2 = 0 then ((tCut (tSync (tAppend m (recB b)).1).1 ((recsB rs).length : Int)).1, rs, (tSync (tAppend m (recB b)).1).2) else
  ((tCut (tAppend m (recB b)).1 ((recsB rs).length : Int)).1, rs, (tAppend m (recB b)).2)

set_option maxHeartbeats 3200000 in
theorem lappend_any (base gl gt : Nat) (v : Value) (m : Tm) (rs : List (List UInt8)) (b : List UInt8) (w : World) (h : DL w base gl gt v m rs) (hm : m.fine) (hb : b.length ≤ 1000000) (hs : (recsB rs).length ≤ 1000000000) (hrl : rs.length ≤ 1000000) :
    Calls Try.prog 19 #[.pointer (some ⟨gl, 0, none⟩), .string (Bstr b)] w fun e w' => e = .returned (.int .i64 (wApp m rs b).2.2) ∧ ∃ v', DL w' base gl gt v' (wApp m rs b).1 (wApp m rs b).2.1 ∧ Apt (fun q => q = gl ∨ q = gt) w w' ∧ ∀ q, v'.ownBlock = some q → v.ownBlock = some q ∨ w.heap.size ≤ q := by
  have H := Lib.hid h
  have zb : (Bstr b).size = b.length := Bstr_size _
  by_cases hbad : b.length < 1 ∨ 16384 < b.length
  · have HG : Hid (wApp m rs b = (m, rs, 1)) := Lib.hid (by rw [wApp, if_pos hbad])
    clear h
    rcases hbad with h1 | h1
    · go_enter Try.func19, Try.ntmps19
      go_wp2_with fail
      go_ret
      rw [HG.out]
      exact ⟨rfl, v, H.out, Apt.refl _ _, fun q hq => .inl hq⟩
    · go_enter Try.func19, Try.ntmps19
      go_wp2_with fail
      go_ret
      rw [HG.out]
      exact ⟨rfl, v, H.out, Apt.refl _ _, fun q hq => .inl hq⟩
  have hb1 : ¬ b.length < 1 := fun h => hbad (.inl h)
  have hb2 : ¬ 16384 < b.length := fun h => hbad (.inr h)
  have HG : Hid (wApp m rs b = if (tAppend m (recB b)).2 = 0 ∧ (tSync (tAppend m (recB b)).1).2 = 0 then ((tSync (tAppend m (recB b)).1).1, rs ++ [b], 0) else
      if (tAppend m (recB b)).2 = 0 then ((tCut (tSync (tAppend m (recB b)).1).1 ((recsB rs).length : Int)).1, rs, (tSync (tAppend m (recB b)).1).2) else
      ((tCut (tAppend m (recB b)).1 ((recsB rs).length : Int)).1, rs, (tAppend m (recB b)).2)) := Lib.hid (by rw [wApp, if_neg hbad])
  have k0 := h.blk.cell 0
  simp at k0
  have hgl := h.blk.lt
  have hR := fun u => Record_any b u (by omega)
  have hA := fun (u : World) (hu : DT u gt m) => dappend_any (recB b) hu hm (by rw [recB_length]; omega)
  have hf1 := hm.append (recB b)
  clear h hbad
  generalize wApp m rs b = R at *
  generalize tAppend m (recB b) = r1 at *
  obtain ⟨m1, c1⟩ := r1
  simp only at hA hf1 HG
  go_enter Try.func19, Try.ntmps19
  go_wp2_with fail
  refine wp_region_mix [(0, false), (1, false), (2, false), (3, false), (4, false), (5, true), (6, true), (7, true)] (fun u => u.cell? ⟨gl, 0, none⟩ = some (.pointer (some ⟨gt, 0, none⟩))) (by kernel_rfl) (by kernel_rfl) (by decide +kernel) rfl k0 ?_
  repeat
    (refine mix_read (o := ⟨_, _, _, _, _, _⟩) (v := ?_) rfl (by rfl) (fun w' hS => ?_) ?_
     rotate_left
     go_simp
     with_reducible rfl
     try simp only [Act.put, List.setIfInBounds_toArray, List.set_cons_zero, List.set_cons_succ])
  refine mix_step (o := ⟨_, _, _, _, _, _⟩) rfl (fun K hK => ?_)
  go_simp
  refine (hR _).mono ?_
  rintro e w1 ⟨rfl, hb1'⟩
  have hbw1 : Below w.heap.size w w1 := (Below.refl w.heap.size w).drew.trans hb1'
  refine hK.out _ _ ((hbw1.cell (p := ⟨gl, 0, none⟩) hgl).trans k0) ?_
  clear hK K
  try simp only [Act.put, List.setIfInBounds_toArray, List.set_cons_zero, List.set_cons_succ]
  have h1 := H.out.below hbw1
  refine mix_step (o := ⟨_, _, _, _, _, _⟩) rfl (fun K hK => ?_)
  go_simp
  refine (hA _ h1.tape).mono ?_
  rintro e w2 ⟨rfl, hd2, hg2⟩
  have h2 := h1.onTape hd2 hg2
  have k02 := h2.blk.cell 0
  simp at k02
  refine hK.out _ _ k02 ?_
  clear hK K
  try simp only [Act.put, List.setIfInBounds_toArray, List.set_cons_zero, List.set_cons_succ]
  refine mix_step (o := ⟨_, _, _, _, _, _⟩) rfl (fun K hK => ?_)
  go_simp
  refine hK.out _ _ k02 ?_
  clear hK K
  refine mix_done ?_
  have HA2 : Hid (Apt (fun q => q = gl ∨ q = gt) w w2) := Lib.hid ((Apt.of_below hbw1).trans (Apt.of_grown hg2 fun q hq => by injection hq with hq; exact .inr hq.symm))
  have H2 := Lib.hid h2
  clear hR hA k0 h1 hd2 hg2 hb1' hbw1 h2
  by_cases hc1 : c1 = 0
  · subst hc1
    have hS := fun (u : World) (hu : DT u gt m1) => dsync_any hu hf1
    have hf2 := hf1.syn
    generalize tSync m1 = r2 at *
    obtain ⟨m2, c2⟩ := r2
    simp only at hS hf2 HG
    go_wp2_with fail
    refine (hS _ H2.out.tape).mono ?_
    rintro e w3 ⟨rfl, hd3, hg3⟩
    have h3 := H2.out.onTape hd3 hg3
    have H3 := Lib.hid h3
    have HA3 := Lib.hid (HA2.out.trans (Apt.of_grown hg3 fun q hq => by injection hq with hq; exact .inr hq.symm))
    have k03 := h3.blk.cell 0
    have k13 := h3.blk.cell 1
    have f13 := h3.blk.frozen 1
    simp at k03 k13
    clear hS hd3 hg3 h3 k02
    by_cases hc2 : c2 = 0
    · subst hc2
      have HR : Hid (R = (m2, rs ++ [b], 0)) := Lib.hid (by rw [HG.out, if_pos (by simp)])
      have hmade : OwnL 1 (w3.alloc (.cells #[] 9)) w3.heap.size 9 (.slice (some ⟨w3.heap.size, 0, none⟩) 0 0) [] := ownL_made w3 1 w3.heap.size 9 (Nat.le_refl _)
      have HMade := Lib.hid hmade
      have ha3 : Below w3.heap.size w3 (w3.alloc (.cells #[] 9)) := (Below.refl _ _).alloc (Nat.le_refl _) _
      have HLV3 := Lib.hid (H3.out.row.lv.below ha3)
      obtain ⟨Av, cv, rfl, hcv1, hcv2⟩ := H3.out.form
      have k13a := (H3.out.below ha3).blk.cell 1
      simp at k13a
      clear HG hmade k13
      go_wp2_with (at_builtin; refine wpList_append_elems _ strT1 rfl _ _ rfl w3.heap.size _ _ rfl HMade.out _ _ rfl HLV3.out (by simp [stC, Value.oneCell']) (by simp only [maxLen, List.length_map, List.length_nil]; omega) (by simp only [List.length_map, List.length_nil]; omega) (by simp) ?_)
      intro v4 w4 ho4 hg4 _
      have hb34 : Below w3.heap.size w3 w4 := ha3.grown hg4 ha3.size (fun z hz => by simp [Value.ownBlock] at hz; omega)
      have ha4 : Below w4.heap.size w4 (w4.alloc (.cells #[.string (Bstr b)] 9)) := (Below.refl _ _).alloc (Nat.le_refl _) _
      have hb3a := hb34.trans (ha4.mono hb34.size)
      have ho4' : OwnL 1 w4 w3.heap.size 9 v4 (rs.map stC) := by simpa using ho4
      have HO4 := Lib.hid (ho4'.below ha4)
      obtain ⟨Aw, cw, hv4, _, hcw⟩ := ho4'.lv.form
      rw [List.length_map] at hv4
      subst hv4
      have HLV4 := Lib.hid (Lv.lit1 w4 [.string (Bstr b)] 9)
      have HSZ := Lib.hid hb3a.size
      have HB3a := Lib.hid hb3a
      clear ho4 ho4' hg4 ha3 ha4 hb34 hb3a k13a
      go_wp2_with (at_builtin; refine wpList_append_elems _ strT1 rfl _ _ rfl w3.heap.size _ _ rfl HO4.out _ _ rfl HLV4.out (by simp [Value.oneCell']) (by simp only [maxLen, List.length_map, List.length_singleton]; omega) (by simp only [List.length_map, List.length_singleton]; omega) HSZ.out ?_)
      intro v5 w5 ho5 hg5 _
      have hb35 : Below w3.heap.size w3 w5 := HB3a.out.grown hg5 HB3a.out.size HO4.out.ge
      have h5 := H3.out.below hb35
      have hbs : base ≤ w3.heap.size := by have := h5.gel; have := H3.out.blk.lt; omega
      have ho5' : OwnL 1 w5 base 9 v5 ((rs ++ [b]).map stC) := by
        have e : (rs.map stC ++ [[Value.string (Bstr b)]]) = (rs ++ [b]).map stC := by simp [stC]
        rw [← e]
        refine ⟨⟨ho5.1.1, ?_⟩, ho5.2⟩
        rcases ho5.1.2 with h0 | ⟨g, cap, cur, hv, hg, hr, hrest⟩
        · exact .inl h0
        · exact .inr ⟨g, cap, cur, hv, by omega, hr, hrest⟩
      have hn5 : ∀ z, v5.ownBlock = some z → w3.heap.size ≤ z := ho5.ge
      obtain ⟨hput, hgp⟩ := h5.put_ ho5' (fun e => by have := hn5 gl e; have := H3.out.blk.lt; omega) (fun e => by have := hn5 gt e; have := Blk.lt H3.out.tape; omega)
      have HP := Lib.hid hput
      have k15 := h5.blk.cell 1
      have f15 := h5.blk.frozen 1
      simp at k15
      have HA5 := Lib.hid ((HA3.out.trans (Apt.of_below hb35)).trans (Apt.of_grown hgp fun q hq => by injection hq with hq; exact .inl hq.symm))
      have HN5 := Lib.hid hn5
      obtain ⟨A5, c5, hv5, _⟩ := ho5'.lv.form
      rw [List.length_map, List.length_append, List.length_singleton] at hv5
      subst hv5
      clear ho5 ho5' hg5 hb35 h5 hput hgp hn5
      go_wp2_with fail
      go_ret
      rw [HR.out]
      refine ⟨rfl, _, HP.out, HA5.out, fun q hq => ?_⟩
      have := HN5.out q hq
      have := HA3.out.size
      exact .inr (by omega)
    · have hcb : (c2 == 0) = false := by simp [hc2]
      have HR : Hid (R = ((tCut m2 ((recsB rs).length : Int)).1, rs, c2)) := Lib.hid (by rw [HG.out, if_neg (by simp [hc2]), if_pos trivial])
      have hCut := fun (u : World) (hu : DT u gt m2) => dcut_any ((recsB rs).length : Int) hu (by omega) (by omega)
      have hSz := fun (u : World) (hu : DL u base gl gt v m2 rs) => Size_any base gl gt v m2 rs u hu hs
      clear HG k13
      generalize tCut m2 ((recsB rs).length : Int) = r3 at *
      obtain ⟨m3, c3⟩ := r3
      simp only at hCut HR
      go_wp2_with fail
      refine wp_region_mix [(0, false), (1, false), (2, false), (3, false), (4, false), (5, true), (6, true)] (fun u => u.cell? ⟨gl, 0, none⟩ = some (.pointer (some ⟨gt, 0, none⟩))) (by kernel_rfl) (by kernel_rfl) (by decide +kernel) rfl k03 ?_
      repeat
        (refine mix_read (o := ⟨_, _, _, _, _, _⟩) (v := ?_) rfl (by rfl) (fun w' hS => ?_) ?_
         rotate_left
         go_simp
         with_reducible rfl
         try simp only [Act.put, List.setIfInBounds_toArray, List.set_cons_zero, List.set_cons_succ])
      have h3d : DL w3.drew base gl gt v m2 rs := H3.out.below (Below.refl _ _).drew
      refine mix_step (o := ⟨_, _, _, _, _, _⟩) rfl (fun K hK => ?_)
      go_simp
      refine (hSz _ h3d).mono ?_
      rintro e w4 ⟨rfl, rfl⟩
      refine hK.out _ _ k03 ?_
      clear hK K
      try simp only [Act.put, List.setIfInBounds_toArray, List.set_cons_zero, List.set_cons_succ]
      refine mix_step (o := ⟨_, _, _, _, _, _⟩) rfl (fun K hK => ?_)
      go_simp
      refine (hCut _ h3d.tape).mono ?_
      rintro e w5 ⟨rfl, hd5, hg5⟩
      have h5 := h3d.onTape hd5 hg5
      have k05 := h5.blk.cell 0
      simp at k05
      refine hK.out _ _ k05 ?_
      clear hK K
      refine mix_done ?_
      have H5 := Lib.hid h5
      have HA5 := Lib.hid (HA3.out.trans ((Apt.of_below (Below.refl w3.heap.size w3).drew).trans (Apt.of_grown hg5 fun q hq => by injection hq with hq; exact .inr hq.symm)))
      clear hSz hCut h3d hd5 hg5 h5 k05
      go_wp2_with fail
      go_ret
      rw [HR.out]
      exact ⟨rfl, v, H5.out, HA5.out, fun q hq => .inl hq⟩
  · have hcb : (c1 == 0) = false := by simp [hc1]
    have HR : Hid (R = ((tCut m1 ((recsB rs).length : Int)).1, rs, c1)) := Lib.hid (by rw [HG.out, if_neg (by simp [hc1]), if_neg hc1])
    have hCut := fun (u : World) (hu : DT u gt m1) => dcut_any ((recsB rs).length : Int) hu (by omega) (by omega)
    have hSz := fun (u : World) (hu : DL u base gl gt v m1 rs) => Size_any base gl gt v m1 rs u hu hs
    clear HG
    generalize tCut m1 ((recsB rs).length : Int) = r3 at *
    obtain ⟨m3, c3⟩ := r3
    simp only at hCut HR
    go_wp2_with fail
    refine wp_region_mix [(0, false), (1, false), (2, false), (3, false), (4, false), (5, true), (6, true)] (fun u => u.cell? ⟨gl, 0, none⟩ = some (.pointer (some ⟨gt, 0, none⟩))) (by kernel_rfl) (by kernel_rfl) (by decide +kernel) rfl k02 ?_
    repeat
      (refine mix_read (o := ⟨_, _, _, _, _, _⟩) (v := ?_) rfl (by rfl) (fun w' hS => ?_) ?_
       rotate_left
       go_simp
       with_reducible rfl
       try simp only [Act.put, List.setIfInBounds_toArray, List.set_cons_zero, List.set_cons_succ])
    have h2d : DL w2.drew base gl gt v m1 rs := H2.out.below (Below.refl _ _).drew
    refine mix_step (o := ⟨_, _, _, _, _, _⟩) rfl (fun K hK => ?_)
    go_simp
    refine (hSz _ h2d).mono ?_
    rintro e w4 ⟨rfl, rfl⟩
    refine hK.out _ _ k02 ?_
    clear hK K
    try simp only [Act.put, List.setIfInBounds_toArray, List.set_cons_zero, List.set_cons_succ]
    refine mix_step (o := ⟨_, _, _, _, _, _⟩) rfl (fun K hK => ?_)
    go_simp
    refine (hCut _ h2d.tape).mono ?_
    rintro e w5 ⟨rfl, hd5, hg5⟩
    have h5 := h2d.onTape hd5 hg5
    have k05 := h5.blk.cell 0
    simp at k05
    refine hK.out _ _ k05 ?_
    clear hK K
    refine mix_done ?_
    have H5 := Lib.hid h5
    have HA5 := Lib.hid (HA2.out.trans ((Apt.of_below (Below.refl w2.heap.size w2).drew).trans (Apt.of_grown hg5 fun q hq => by injection hq with hq; exact .inr hq.symm)))
    clear hSz hCut h2d hd5 hg5 h5 k05
    go_wp2_with fail
    go_ret
    rw [HR.out]
    exact ⟨rfl, v, H5.out, HA5.out, fun q hq => .inl hq⟩
end Go.Proofs.Ytdfjicjlmejonaa
