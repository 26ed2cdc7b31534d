/-
  WHAT IS READ APART FROM SOME BLOCKS ('Keep'), over any program; spans all of the call's own ('Acc'): CONTRACTS of trace.apart, trace.Flat and trace.Gather, told so. Conditions: at most 10000000 spans, Data of at most 1000000 bytes.
-/
import Derived.Test.YtfccfnbmmgfgcaaGreatDoorTrF
import Derived.Test.YtfccfnbmmgfgcaaGreatDoorKee
import Derived.Test.YtfccfnbmmgfgcaaGreatDoorSpanB
namespace Go.Proofs.YtfccfnbmmgfgcaaGreatDoor
open Go.RowKit
set_option maxRecDepth 100000

theorem Ss.keep {w : World} {bad : Nat → Prop} {v : Value} {l : List Sn} {xs : List (List Value)} (h : Lv 5 w v xs) (hb : xs ≠ [] → ∀ q, v.ownBlock = some q → ¬ bad q) (h2 : Two (fun s x => Keep bad (fun u => SpC u s x) w) l xs) : Keep bad (fun u => Ss u v l) w :=
  fun _ ha => ⟨xs, h.apt ha hb, h2.mono fun _ _ hk => hk _ ha⟩

section
variable {w w' : World} {base : Nat} {v : Value} {l : List Sn}
theorem Acc.lower {base' : Nat} (h : Acc w base v l) (hb : base' ≤ base) : Acc w base' v l := by
  obtain ⟨xs, ⟨h1, hk⟩, h2⟩ := h
  refine ⟨xs, ⟨?_, hk⟩, h2.mono fun s x hs => ?_⟩
  · refine ⟨h1.1, ?_⟩
    rcases h1.2 with h0 | ⟨g, cap, cur, hv, hg, hr⟩
    · exact .inl h0
    · exact .inr ⟨g, cap, cur, hv, by omega, hr⟩
  · obtain ⟨ho, d, hx, hd, hn⟩ := hs
    exact ⟨ho, d, hx, hd.lower hb, hn⟩
theorem Acc.keep (h : Acc w base v l) {bad : Nat → Prop} (hb : ∀ q, bad q → q < base) : Keep bad (fun u => Ss u v l) w := by
  obtain ⟨xs, h1, h2⟩ := h
  refine Ss.keep h1.lv (fun _ q hq hbq => ?_) (h2.mono fun s x hs u ha => ?_)
  · have := h1.ge q hq
    have := hb q hbq
    omega
  · obtain ⟨ho, d, hx, hd, hn⟩ := hs
    refine ⟨ho, d, hx, hd.bs.apt ha fun _ q hq hbq => ?_⟩
    have := hd.ge q hq
    have := hb q hbq
    omega
end

structure AccK (w : World) (base nb k : Nat) (v : Value) (l : List Sn) (xs : List (List Value)) : Prop where
  own : OwnL 5 w base 87 v xs
  two : Two (SpF w v.ownBlock) l xs
  new : ∀ (j : Nat) (s : Sn) (x : List Value), j < k → l[j]? = some s → xs[j]? = some x → SpO w nb v.ownBlock s x
theorem SpO.grown {w w' : World} {base : Nat} {row r : Option Nat} {s : Sn} {x : List Value} (h : SpO w base row s x) (hg : w.grownBy w' r) (hr : r = row) : SpO w' base row s x := by
  obtain ⟨ho, d, hx, hd, hn⟩ := h
  subst hr
  exact ⟨ho, d, hx, hd.kept hg hn, hn⟩
theorem AccK.data {w w1 : World} {base nb g n c k : Nat} {l : List Sn} {xs : List (List Value)} (h : AccK w base nb k (.slice (some ⟨g, 0, none⟩) n c) l xs) {s : Sn} (hi : l[k]? = some s) (hb : Below w.heap.size w w1) {d : Value} (hd : Own w1 w.heap.size 5 d s.data) (hnb : nb ≤ w.heap.size) :
    ∃ ys, AccK (w1.setCell ⟨g, k * 5 + 4, none⟩ d) base nb (k + 1) (.slice (some ⟨g, 0, none⟩) n c) l ys := by
  have hlt := h.own.lt g rfl
  obtain ⟨h1', h2', h3'⟩ := h
  have h1 := h1'.below hb
  have h2 := h2'.mono fun s x hs => hs.grown (grown_of_below hb (some g)) 
  obtain ⟨h1, hk⟩ := h1
  have hnx : xs.length = n := by
    rcases h1.2 with ⟨hv, _⟩ | ⟨g', cap, cur, hv, _⟩
    · cases hv
    · injection hv with e1 e2 e3
      exact e2.symm
  obtain ⟨x, hx, hsx⟩ := h2.right hi
  obtain ⟨hok, d0, rfl, hd0, hn0⟩ := hsx
  rw [hnx] at h1
  obtain ⟨h3, h4⟩ := h1.stored (k * 5 + 4) d
  have e := flat_set1 hk d hx (show 4 < 5 by omega)
  rw [e] at h3
  have hdg : ∀ q, d.ownBlock = some q → q ≠ g := fun q hq e => by have := hd.ge q hq; omega
  have hdk : Own (w1.setCell ⟨g, k * 5 + 4, none⟩ d) w.heap.size 5 d s.data := hd.kept h4 (by
    cases hq : d.ownBlock with
    | none => exact .inl rfl
    | some q => exact .inr fun e => by injection e with e; exact hdg q hq e)
  refine ⟨xs.set k (spCells s d), ⟨?_, ?_⟩, ?_, fun j t y hj ht hy => ?_⟩
  · rw [List.length_set, hnx]
    exact h3
  · intro y hy
    rcases List.mem_or_eq_of_mem_set hy with hy | rfl
    · exact hk y hy
    · rfl
  · exact (h2.mono fun s x hs => hs.grown h4).setR hi ⟨hok, d, rfl, hdk.bs, fun _ e => hdg g e rfl⟩
  · rw [List.getElem?_set] at hy
    split at hy
    · rename_i hjk
      subst hjk
      split at hy
      · injection hy with hy
        subst hy
        rw [hi] at ht
        injection ht with ht
        subst ht
        refine ⟨hok, d, rfl, hdk.lower hnb, ?_⟩
        cases hq : d.ownBlock with
        | none => exact .inl rfl
        | some q => exact .inr fun e => by injection e with e; exact hdg q hq e
      · cases hy
    · exact ((h3' j t y (by omega) ht hy).grown (grown_of_below hb (some g)) rfl).grown h4 rfl

set_option maxRecDepth 100000 in
set_option maxHeartbeats 1600000 in
theorem apart_new (v : Value) (l : List Sn) (base nb : Nat) (w : World) (h : Own5 w base v l) (hn : nb ≤ base) (hnw : nb ≤ w.heap.size) (hl : l.length ≤ 1000000000) (hdl : ∀ s ∈ l, s.data.length ≤ 1000000) :
    Calls Tryz.prog 156 #[v] w fun e w' => e = .returned v ∧ Acc w' nb v l ∧ w.grownBy w' v.ownBlock := by
  rcases h.form with ⟨rfl, rfl⟩ | ⟨g, c, rfl, hc1, hc2, hbg, hgw⟩
  · go_enter Tryz.func156, Tryz.ntmps156
    go_wp2_with fail
    refine wp_loop_rounds 1 ?_
    rw [rounds_succ]
    go_wp2_with fail
    go_ret
    exact ⟨rfl, Acc.nil _ _, World.grownBy.refl _ _⟩
  · have HO := Lib.hid h
    have HL := Lib.hid hdl
    clear h hdl
    go_enter Tryz.func156, Tryz.ntmps156
    go_wp2_with fail
    go_loopw [3, 6] (fun _ i wr => ∃ k : Nat, k ≤ l.length ∧ i = .int .i64 k ∧ Hid (∃ xs, AccK wr base nb k (.slice (some ⟨g, 0, none⟩) l.length c) l xs) ∧ w.grownBy wr (some g)) (fun _ i _ => l.length - (intOf i).toNat)
    case atStart =>
      obtain ⟨xs, x1, x2⟩ := HO.out
      exact ⟨0, Nat.zero_le _, rfl, Lib.hid ⟨xs, x1, x2, fun j s x hj => absurd hj (Nat.not_lt_zero _)⟩, World.grownBy.refl _ _⟩
    case round =>
      obtain ⟨k, hk, rfl, HX, hG⟩ := hrel
      have hO : Own5 wr base (.slice (some ⟨g, 0, none⟩) l.length c) l := by
        obtain ⟨xs, hX⟩ := HX.out
        exact ⟨xs, hX.own, hX.two⟩
      by_cases hlt : k < l.length
      · obtain ⟨s, hks⟩ : ∃ s, l[k]? = some s := ⟨_, List.getElem?_eq_getElem hlt⟩
        have hsd : s.data.length ≤ 140737488355328 := by
          have := HL.out s (List.mem_of_getElem? hks)
          omega
        obtain ⟨d, c0, c1, c2, c3, c4, hd, hn, hok⟩ := hO.cells hks
        have HO2 := Lib.hid hO
        have HKS := Lib.hid hks
        have HSD := Lib.hid hsd
        have HD := Lib.hid hd
        obtain ⟨A', c', hdv, _⟩ := hd
        subst hdv
        clear hO hks hsd hn c0 c1 c2 c3
        go_wp2_with fail
        refine (bclone_any s.data _ _ HSD.out HD.out).mono ?_
        rintro e w1 ⟨d1, rfl, hown1, hb1⟩
        have h6 := (HO2.out.data HKS.out hb1 hown1).2
        have H5 : Hid (∃ ys, AccK (w1.setCell ⟨g, k * 5 + 4, none⟩ d1) base nb (k + 1) (.slice (some ⟨g, 0, none⟩) l.length c) l ys) := Lib.hid (by
          obtain ⟨xs, hX⟩ := HX.out
          exact hX.data HKS.out hb1 hown1 (Nat.le_trans hnw hG.size))
        have hf := (HO2.out.below hb1).frozen (k * 5 + 4)
        have hcc := ((HO2.out.below hb1).cells HKS.out)
        obtain ⟨d2, x0, x1, x2, x3, x4, _⟩ := hcc
        obtain ⟨A1, cc1, hdv1, _⟩ := hown1.form
        subst hdv1
        have H6 := Lib.hid h6
        clear h6 hown1 x0 x1 x2 x3 c4
        go_wp2_with fail
        exact ⟨⟨k + 1, by omega, by go_num, H5, grown_trans hG H6.out⟩, by simp [intOf]; omega⟩
      · go_wp2_with fail
        go_ret
        refine ⟨rfl, ?_, hG⟩
        obtain ⟨xs, hX⟩ := HX.out
        have hkl : k = l.length := by omega
        subst hkl
        have e1 := hX.two.len
        refine Acc.lower (base := nb) ⟨xs, ?_, e1, fun i s x hs hx => hX.new i s x (List.getElem?_eq_some_iff.1 hs).1 hs hx⟩ (Nat.le_refl _)
        obtain ⟨o1, o2⟩ := hX.own
        refine ⟨⟨o1.1, ?_⟩, o2⟩
        rcases o1.2 with h0 | ⟨g, cap, cur, hv, hg, hr⟩
        · exact .inl h0
        · exact .inr ⟨g, cap, cur, hv, by omega, hr⟩

set_option maxRecDepth 100000 in
set_option maxHeartbeats 1600000 in
theorem flat_new (v : Value) (l : List Tn) (w : World) (h : Ts w v l) (hl : (flatT l).length ≤ 10000000) (hll : l.length ≤ 1000000) (hd : ∀ s ∈ flatT l, s.data.length ≤ 1000000) :
    Calls Tryz.prog 128 #[v] w fun e w' => ∃ v', e = .returned v' ∧ Acc w' w.heap.size v' (flatT l) ∧ Below w.heap.size w w' := by
  obtain ⟨A, c, rfl, hc1, hc2⟩ := h.form
  have H := Lib.hid h
  clear h
  go_enter Tryz.func128, Tryz.ntmps128
  go_wp2_with fail
  go_loopw [3, 8] (fun ov kv wr => ∃ k : Nat, k ≤ l.length ∧ kv = .int .i64 (k : Int) ∧ Own5 wr w.heap.size ov (flatT (l.take k)) ∧ Below w.heap.size w wr) (fun _ kv _ => l.length - (intOf kv).toNat)
  case atStart => exact ⟨0, Nat.zero_le _, rfl, Own5.nil _ _, Below.refl _ _⟩
  case round =>
    obtain ⟨k, hk, rfl, hO, hB⟩ := hrel
    by_cases hlt : k < l.length
    · obtain ⟨t, hkt⟩ : ∃ t, l[k]? = some t := ⟨_, List.getElem?_eq_getElem hlt⟩
      obtain ⟨g, o, d, rfl, hg, c0, c1, hd, _⟩ := H.out.cells hkt
      replace c0 := (hB.cell (p := ⟨g, o + k * 2, none⟩) hg).trans c0
      replace c1 := (hB.cell (p := ⟨g, o + k * 2 + 1, none⟩) hg).trans c1
      have HT := Lib.hid (take_snoc_at hkt)
      have hfl : (flatT (l.take k)).length + t.sp.length ≤ 10000000 := by
        have h1 : l = l.take k ++ ([t] ++ l.drop (k + 1)) := by
          rw [← List.append_assoc, ← take_snoc_at hkt, List.take_append_drop]
        have h2 := congrArg (fun z => (flatT z).length) h1
        simp only [flatT, List.flatMap_append, List.length_append, List.flatMap_cons, List.flatMap_nil, List.append_nil] at h2
        simp only [flatT] at hl ⊢
        omega
      have hb1 : Below w.heap.size w (wr.alloc (.cells #[.int .u64 t.id, d] 43)) := hB.alloc hB.size _
      have HO := Lib.hid (hO.below ((Below.refl wr.heap.size wr).alloc (Nat.le_refl _) (.cells #[.int .u64 t.id, d] 43)))
      have HFL := Lib.hid hfl
      have HSF : Hid (Sf (wr.alloc (.cells #[.int .u64 t.id, d] 43)) u3.ownBlock d t.sp) := Lib.hid (Sf.of_ss hd hb1 (fun q hq => (hO.lt q hq).1))
      obtain ⟨A2, cc2, hdv, _⟩ := hd.form
      subst hdv
      have hgr := Nat.lt_of_lt_of_le hg hB.size
      clear hO hkt hfl hd
      go_wp2_with (at_builtin; refine wpList_append_own5 _ rfl _ _ rfl rfl HO.out rfl HSF.out (by have := HFL.out; omega) hb1.size ?_)
      intro v5 w5 ho5 hg5 _
      go_wp2_with fail
      refine ⟨⟨k + 1, by omega, by go_num, ?_, hb1.grown hg5 hb1.size (fun q hq => (HO.out.lt q hq).1)⟩, by simp [intOf]; omega⟩
      rw [HT.out, flatT, List.flatMap_append]
      simpa [flatT] using ho5
    · have hkk : k = l.length := by omega
      subst hkk
      rw [List.take_length] at hO
      go_wp2_with fail
      refine (apart_new _ _ _ w.heap.size _ hO (Nat.le_refl _) hB.size (by omega) hd).mono ?_
      rintro e w2 ⟨rfl, ho2, hg2⟩
      have hB2 := hB.grown hg2 hB.size (fun q hq => (hO.lt q hq).1)
      go_wp2_with fail
      go_ret
      exact ⟨_, rfl, ho2, hB2⟩

theorem OwnK.ts {w : World} {base : Nat} {bad : Nat → Prop} {v : Value} {l : List Tn} (h : OwnK 2 w base 43 bad TnC v l) : Ts w v l := h.lv

end Go.Proofs.YtfccfnbmmgfgcaaGreatDoor
