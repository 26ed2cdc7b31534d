/-
  CONTRACTS of strings.HasPrefix and the program's List: the names that were collected, in whatever order the map gave them, sorted. Conditions: what each says.
-/
import Derived.Test.YtihpnkhkbbakbaaStI
namespace Go.Proofs.Ytihpnkhkbbakbaa
open Go.RowKit Go.Maps
set_option maxRecDepth 100000

theorem hasPrefixL_any (s p : List UInt8) (w : World) (_ : s.length ≤ 9223372036854775807) (hp : p.length ≤ 9223372036854775807) :
    Calls Try.prog 37 #[.string (Bstr s), .string (Bstr p)] w fun e w' => e = .returned (.bool (begB s p)) ∧ w = w' := by
  have z1 : (Bstr s).size = s.length := Bstr_size _
  have z2 : (Bstr p).size = p.length := Bstr_size _
  by_cases hl : p.length ≤ s.length
  · have hsl : ∀ u : World, (Instr.slice 9 (.string (Bstr s)) none (some (.int .i64 (p.length : Int))) none).run Try.prog u = .ok (.string (Bstr (s.take p.length))) u := fun u => by
      rw [run_slice_string_h u _ _ strT .i64 (p.length : Int) (by omega) (by omega), Int.toNat_natCast, Bstr_take]
    have HE : Hid (begB s p = ((Bstr (s.take p.length)).toList == (Bstr p).toList)) := Lib.hid (by
      rw [Bstr_toList, Bstr_toList, begB, decide_eq_true hl]
      by_cases he : s.take p.length = p <;> simp [he])
    rw [HE.out]
    go_enter Try.func37, Try.ntmps37
    go_wp2_with fail
    go_ret
    exact ⟨rfl, rfl⟩
  · go_enter Try.func37, Try.ntmps37
    go_wp2_with fail
    go_ret
    exact ⟨ret_bool (by simp [begB, hl]), rfl⟩
theorem hasPrefix_any (s p : List UInt8) (w : World) (hs : s.length ≤ 9223372036854775807) (hp : p.length ≤ 9223372036854775807) :
    Calls Try.prog 32 #[.string (Bstr s), .string (Bstr p)] w fun e w' => e = .returned (.bool (begB s p)) ∧ w = w' := by
  go_enter Try.func32, Try.ntmps32
  go_wp2_with fail
  refine (hasPrefixL_any s p _ hs hp).mono ?_
  rintro e w1 ⟨rfl, rfl⟩
  go_wp2_with fail
  go_ret
  exact ⟨rfl, rfl⟩

/-- the names met so far that begin so -/
def Met (D : DataW Value) (left : Lit → Bool) (p : List UInt8) (ss : List (List UInt8)) : Prop := ss.Nodup ∧ (∀ s ∈ ss, s.length ≤ 9223372036854775807) ∧ ∀ s, s ∈ ss ↔ (Maps.has D (.string s) = true ∧ left (.string s) = false) ∧ begB s p = true
theorem Met.start (D : DataW Value) (p : List UInt8) : Met D (Maps.has D) p [] := ⟨List.nodup_nil, by simp, fun s => by cases Maps.has D (.string s) <;> simp⟩
theorem Met.step {D : DataW Value} {left : Lit → Bool} {p x : List UInt8} {ss : List (List UInt8)} {y : DataW Value} (h : Met D left p ss) (hl : left (.string x) = true) (hat : ∀ zd, D.atKey (.string x) zd = y) (hx : x.length ≤ 9223372036854775807) :
    Met D (fun z => left z && !z.sameKey (.string x)) p (ss ++ if begB x p = true then [x] else []) := by
  have hhas : Maps.has D (.string x) = true := has_true_of_atKey hat
  have hnew : x ∉ ss := fun hx => by have := ((h.2.2 x).1 hx).1.2; rw [hl] at this; cases this
  cases hb : begB x p with
  | true =>
    rw [if_pos rfl]
    refine ⟨List.nodup_append.2 ⟨h.1, by simp, fun a ha b hb => by simp at hb; subst hb; exact fun e => hnew (e ▸ ha)⟩, fun s hs => ?_, fun y => ?_⟩
    · rcases List.mem_append.1 hs with h1 | h1
      · exact h.2.1 s h1
      · simp at h1
        subst h1
        exact hx
    · by_cases hy : y = x
      · subst hy; simp [hhas, Lit.sameKey, hb]
      · simp [h.2.2 y, hy, Lit.sameKey]
  | false =>
    rw [if_neg (by simp), List.append_nil]
    refine ⟨h.1, h.2.1, fun y => ?_⟩
    by_cases hy : y = x
    · subst hy; simp [hnew, hb]
    · simp [h.2.2 y, hy, Lit.sameKey]

theorem stC_flat (ss : List (List UInt8)) : (ss.map stC).flatten = ss.map encStr := by
  induction ss with
  | nil => rfl
  | cons x ss ih => rw [List.map_cons, List.flatten_cons, ih]; rfl

theorem met_sorted {D : DataW Value} {left : Lit → Bool} {p : List UInt8} {ss : List (List UInt8)} {l : List Ob} (h : Met D left p ss) (hr : Rise l) (hhas : ∀ s, Maps.has D (.string s) = (fnd s l).isSome) (hl : ∀ kl, left kl = false) : ss.mergeSort (fun x y => decide (x ≤ y)) = sNames l p :=
  names_sorted hr h.1 fun s => by rw [h.2.2 s, hhas s, hl]; simp

set_option maxHeartbeats 3200000 in
theorem stList_any {w : World} {F : Nat → Prop} {g : Nat} {m : Sm} {N : Nat} {p : List UInt8} (h : PSt w F g m) (hm : m.fine N) (hN : N ≤ 100000) (hp : p.length ≤ 9223372036854775807) :
    Calls Try.prog 12 #[.pointer (some ⟨g, 0, none⟩), .string (Bstr p)] w fun e w' => ∃ x F', e = .returned (.tuple #[x, errV (sList m p).2]) ∧ Keep (fun q => q < w.heap.size ∨ F' q) (fun u => StL u x (sList m p).1) w' ∧ PSt w' F' g (callS m) ∧ Apt F w w' ∧ ∀ q, F' q → F q ∨ w.heap.size ≤ q := by
  have hfg := h.Fg
  have hgw := gw_any h hm.calls0 (by have := hm.calls1; omega)
  have hmc := hm.calls1
  clear h
  go_enter Try.func12, Try.ntmps12
  go_wp2_with fail
  refine hgw.mono ?_
  rintro e w1 ⟨rfl, h1, hg1⟩
  have HA1 : Hid (Apt F w w1) := Lib.hid (Apt.of_grown hg1 fun q hq => by injection hq with hq; subst hq; exact hfg)
  have H1 := Lib.hid h1
  clear hgw
  cases hcb : callB m with
  | false =>
    have HG : Hid (sList m p = ([], 8)) := Lib.hid (by rw [sList, if_pos hcb])
    clear hcb h1
    go_wp2_with fail
    go_ret2
    rw [HG.out]
    exact ⟨_, F, rfl, fun u _ => Lv.nil _ _, H1.out.plain (by omega), HA1.out, fun q hq => .inl hq⟩
  | true =>
    have HG : Hid (sList m p = (sNames m.l p, 0)) := Lib.hid (by rw [sList, if_neg (by rw [hcb]; simp)])
    obtain ⟨mb, D, M, W, hBk, hM, hMc, hW, hlf⟩ := h1.ex
    have hl : (callS m).l = m.l := rfl
    have hcl : (callS m).calls = m.calls + 1 := rfl
    rw [hl] at hM
    have k1 := hBk.cell 1
    simp at k1
    have HM := Lib.hid hM
    have hszM : Maps.size D ≤ M := hM.own.size_le
    clear hcb h1 hM hBk
    go_wp2_with (first | (at_range; refine wpList_range_own _ rfl _ 60 rfl 9 34 lawS Try.underlying60 pR mb M D rfl HM.out.own ?_; intro w2 hrg2 hg2 hs2) | fail)
    go_frame
    have hb2 : Below w1.heap.size w1 w2 := (Below.refl _ w1).grown hg2 (Nat.le_refl _) (fun j hj => by cases hj)
    go_loopw [6, 7] (fun ov _ wr => ∃ (left : Lit → Bool) (cnt : Nat) (ss : List (List UInt8)), wr.ranges Try.prog 9 pR mb w1.heap.size M D left cnt ∧ Hid (Met D left p ss) ∧ ss.length + cnt ≤ M ∧ OwnL 1 wr w1.heap.size 9 ov (ss.map stC) ∧ Below w1.heap.size w1 wr ∧ w1.heap.size + 1 ≤ wr.heap.size)
      (fun _ _ wr => wr.rangeLeft mb w1.heap.size)
    case atStart => exact ⟨Maps.has D, Maps.size D, [], hrg2, Lib.hid (Met.start _ _), by simpa using hszM, OwnL.nil _ _ _ _, hb2, by omega⟩
    case round =>
      obtain ⟨left, cnt, ss, hrg, HMet, hcnt, hO, hB, hsz⟩ := hrel
      have HO := Lib.hid hO
      clear hO
      go_wp2_with (first
        | (at_next; refine wpList_next_ranges _ rfl _ rfl 9 lawS pR (fun l : List UInt8 => Value.string (Bstr l)) (fun v : Value => v) (fun key kl hk => by obtain ⟨x, hx, _⟩ := Maps.keyOf_str Try.underlying9 hk; exact ⟨x, hx⟩) (fun v y hv => ⟨v, rfl⟩) mb w1.heap.size M _ _ _ rfl hrg ?_ ?_)
        | fail)
      · intro hc0 hl0
        have hts := met_sorted HMet.out HM.out.rise HM.out.has hl0
        have hfl := stC_flat ss
        obtain ⟨hrow, _⟩ := HO.out
        rw [List.length_map, hfl] at hrow
        have hsl : ss.length ≤ 100001 := by omega
        rcases hrow.2 with ⟨rfl, h0⟩ | ⟨q, cap, cur, rfl, hbase, hbq, q1, q2, q3, q4⟩
        · have hss : ss = [] := List.eq_nil_of_length_eq_zero h0
          subst hss
          have HN : Hid (sNames m.l p = []) := Lib.hid (by rw [← hts]; simp)
          clear hts hfl hrow h0 hrg hszM hrg2
          go_wp2_with fail
          refine (sortS_none none 0 _).mono ?_
          rintro e w4 ⟨rfl, rfl⟩
          go_wp2_with fail
          go_ret2
          rw [HG.out, HN.out]
          exact ⟨_, F, rfl, fun u _ => Lv.nil _ _, (H1.out.plain (by omega)).below hB, HA1.out.trans (Apt.of_below hB), fun q hq => .inl hq⟩
        · have hql := (Array.getElem?_eq_some_iff.1 hbq).1
          have hc := sortS_any q cap ss wr (holds_of_block hbq (by simpa using q4)) hql (by omega)
          have HTS : Hid (ss.mergeSort (fun x y => decide (x ≤ y)) = sNames m.l p) := Lib.hid hts
          have hend : ∀ (w4 : World) (nn : Nat) (os : Array Obj), w4 = Go.Sort.grow (Go.Sort.putRow encStr (Go.Sort.ahead wr nn) q 0 (ss.mergeSort fun x y => decide (x ≤ y)).toArray) os →
              OwnL 1 w4 w1.heap.size 9 (.slice (some ⟨q, 0, none⟩) ss.length cap) ((sNames m.l p).map stC) ∧ wr.grownBy w4 (some q) := by
            rintro w4 nn os rfl
            have hle : (ss.mergeSort fun x y => decide (x ≤ y)).length = ss.length := by simp
            have h1 := ownsRow_sorted (n := nn) (os := os) hle hbase hbq q1 q2 q3
            refine ⟨⟨?_, fun x hx => ?_⟩, grownBy_sorted _⟩
            · rw [List.length_map, stC_flat, ← HTS.out, hle]
              exact h1
            · obtain ⟨y, _, rfl⟩ := List.mem_map.1 hx
              rfl
          have HEND := Lib.hid hend
          clear hts hfl hrow hrg hszM hrg2 hend hbq q1 q2 q3 q4 HO
          go_wp2_with fail
          refine hc.mono ?_
          rintro e w4 ⟨rfl, nn, os, hw4⟩
          obtain ⟨ho4, hg4⟩ := HEND.out w4 nn os hw4
          have HO4 := Lib.hid ho4
          clear hw4 ho4 hc
          go_wp2_with fail
          go_ret2
          have hB4 := hB.grown hg4 hB.size (fun j hj => by injection hj with hj; subst hj; exact hbase)
          rw [HG.out]
          refine ⟨_, F, rfl, fun u hu => HO4.out.lv.apt hu fun _ z hz hbad => ?_, (H1.out.plain (by omega)).below hB4, HA1.out.trans (Apt.of_below hB4), fun q hq => .inl hq⟩
          simp [Value.ownBlock] at hz
          subst hz
          have h2 := hg1.size
          rcases hbad with hbad | hbad
          · omega
          · have := H1.out.lt _ hbad
            omega
      · intro x c kl yd yp w3 cnt3 hkey hlk hv hat hrg3 hlt hg3 hs3 hen
        obtain ⟨x', ex, rfl, _⟩ := Maps.keyOf_str Try.underlying9 hkey
        obtain rfl : x = x' := encStr_inj ex
        have hx32 : x.length ≤ 32 := by
          have h1 := has_true_of_atKey hat
          rw [HM.out.has x] at h1
          obtain ⟨o, ho⟩ := Option.isSome_iff_exists.1 h1
          exact HM.out.nm x o ho
        have HMet' := Lib.hid (HMet.out.step hlk hat (by omega))
        have hne3 := row_ne_iter HO.out.1 hrg
        have HO3 := Lib.hid (HO.out.kept hg3 (.inr fun e => hne3 e.symm))
        have hB3 : Below w1.heap.size w1 w3 := hB.grown hg3 hB.size (fun j hj => by injection hj with hj; omega)
        have hsz3 : w1.heap.size + 1 ≤ w3.heap.size := by omega
        have hmlt := HM.out.own.lt
        have hP := hasPrefix_any x p w3 (by omega) hp
        have HLE : Hid (wr.rangeLeft mb w1.heap.size = cnt) := Lib.hid hrg.left_eq
        have HRG3 := Lib.hid hrg3
        have hszn : (Bstr x).size ≤ 281474976710656 := by rw [Bstr_size]; omega
        have hssl : ss.length ≤ 100001 := by omega
        clear hkey hv hat hs3 hne3 HO hlk ex hrg hrg3 hszM hrg2
        cases hb : begB x p with
        | false =>
          rw [hb] at hP
          rw [hb, if_neg (by simp), List.append_nil] at HMet'
          clear hb
          go_wp2_with fail
          refine hP.mono ?_
          rintro e w4 ⟨rfl, rfl⟩
          go_wp2_with fail
          exact ⟨⟨_, cnt3, ss, HRG3.out, HMet', by omega, HO3.out, hB3, hsz3⟩, by rw [HRG3.out.left_eq, HLE.out]; exact hlt⟩
        | true =>
          rw [hb] at hP
          rw [hb, if_pos rfl] at HMet'
          clear hb
          go_wp2_with fail
          refine hP.mono ?_
          rintro e w4 ⟨rfl, rfl⟩
          go_wp2_with fail
          refine (cloneS_any (Bstr x) _ hszn).mono ?_
          rintro e w4 ⟨rfl, hb4⟩
          have ha : Below w4.heap.size w4 (w4.alloc (.cells #[.string (Bstr x)] 9)) := (Below.refl _ _).alloc (Nat.le_refl _) _
          have hb34 := hb4.trans (ha.mono hb4.size)
          have HOa := Lib.hid (HO3.out.below hb34)
          have hBa := hB3.trans (hb34.mono hB3.size)
          have HRGa := Lib.hid (HRG3.out.kept (row := none) (grown_of_below hb34 none) (by simp) (by simp))
          have HLV := Lib.hid (Lv.lit1 w4 [.string (Bstr x)] 9)
          have hsza : w1.heap.size + 1 ≤ (w4.alloc (.cells #[.string (Bstr x)] 9)).heap.size := Nat.le_trans hsz3 hb34.size
          go_wp2_with (at_builtin; refine wpList_append_elems _ strT1 rfl _ _ rfl w1.heap.size _ _ rfl HOa.out _ _ rfl HLV.out (by simp [Value.oneCell']) (by simp only [maxLen, List.length_map, List.length_singleton]; omega) (by simp only [List.length_map, List.length_singleton]; omega) hBa.size ?_)
          intro v5 w5 ho5 hg5 _
          have HO5 : Hid (OwnL 1 w5 w1.heap.size 9 v5 ((ss ++ [x]).map stC)) := Lib.hid (by simpa [stC] using ho5)
          have hB5 := hBa.grown hg5 hBa.size HOa.out.ge
          have HRG5 := Lib.hid (HRGa.out.kept hg5 (row_ne_low HOa.out.1 hmlt) (row_ne_iter HOa.out.1 HRGa.out))
          have hsz5 := Nat.le_trans hsza hg5.size
          clear ho5 hg5 hsza
          go_wp2_with fail
          exact ⟨⟨_, cnt3, _, HRG5.out, HMet', by simp; omega, HO5.out, hB5, hsz5⟩, by rw [HRG5.out.left_eq, HLE.out]; exact hlt⟩
end Go.Proofs.Ytihpnkhkbbakbaa
