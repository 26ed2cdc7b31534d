/-
  CONTRACTS of the program's Get, Delete, Alter. Conditions: what each says.
-/
import Derived.Test.YtihpnkhkbbakbaaStH
import Derived.Laws.BitsAllLaws
namespace Go.Proofs.Ytihpnkhkbbakbaa
open Go.RowKit Go.Maps
set_option maxRecDepth 100000

set_option maxHeartbeats 3200000 in
theorem stGet_any {w : World} {F : Nat → Prop} {g : Nat} {m : Sm} {N : Nat} {n : List UInt8} (h : PSt w F g m) (hm : m.fine N) (hN : N ≤ 100000) (hn : n.length ≤ 9223372036854775807) :
    Calls Try.prog 10 #[.pointer (some ⟨g, 0, none⟩), .string (Bstr n)] w fun e w' => ∃ x F', e = .returned (.tuple #[x, errV (sGet m n).2]) ∧ Own w' w.heap.size 5 x (sGet m n).1 ∧ PSt w' F' g (callS m) ∧ Apt F w w' ∧ (∀ q, F' q → F q ∨ w.heap.size ≤ q) ∧ ∀ q, x.ownBlock = some q → ¬ F' q := by
  have hfg := h.Fg
  have hgw := gw_any h hm.calls0 (by have := hm.calls1; omega)
  have hmu := hm.used
  clear h hm
  go_enter Try.func10, Try.ntmps10
  go_wp2_with fail
  refine hgw.mono ?_
  rintro e w1 ⟨rfl, h1, hg1⟩
  have HA1 : Hid (Apt F w w1) := Lib.hid (Apt.of_grown hg1 fun q hq => by injection hq with hq; subst hq; exact hfg)
  have H1 := Lib.hid h1
  clear hgw
  cases hcb : callB m with
  | false =>
    have HG : Hid (sGet m n = ([], 8)) := Lib.hid (sGet_fail hcb)
    clear hcb h1
    go_wp2_with fail
    go_ret2
    rw [HG.out]
    exact ⟨_, F, rfl, Own.nil _ _ _, H1.out.plain (by omega), HA1.out, fun q hq => .inl hq, fun q hq => by simp [Value.ownBlock] at hq⟩
  | true =>
    have HCB := Lib.hid hcb
    obtain ⟨mb, D, M, W, hBk, hM, hMc, hW, hlf⟩ := h1.ex
    have hl : (callS m).l = m.l := rfl
    rw [hl] at hM
    have k1 := hBk.cell 1
    simp at k1
    obtain ⟨v, hat, hlook⟩ := hM.look_ok hn
    obtain ⟨Av, kv, cv, rfl, hkc, hcm, hkv⟩ := hM.len hat
    have HM := Lib.hid hM
    have HAT := Lib.hid hat
    have HKV := Lib.hid hkv
    clear hcb h1 hkv hat hM hBk
    cases hf : fnd n m.l with
    | none =>
      have HG : Hid (sGet m n = ([], 4)) := Lib.hid (sGet_no HCB.out hf)
      rw [hf, Option.isSome_none] at hlook
      clear hf
      go_wp2_with fail
      go_ret2
      rw [HG.out]
      exact ⟨_, F, rfl, Own.nil _ _ _, H1.out.plain (by omega), HA1.out, fun q hq => .inl hq, fun q hq => by simp [Value.ownBlock] at hq⟩
    | some o =>
      have HG : Hid (sGet m n = (o.b, 0)) := Lib.hid (sGet_fnd HCB.out hf)
      rw [hf, Option.isSome_some] at hlook
      have hol := usedL_fnd hf
      have hbs : Bs w1 (.slice Av kv cv) o.b := by
        obtain ⟨v', h1, h2, _⟩ := HM.out.val n o hf
        rw [HAT.out] at h1
        injection h1 with h1
        subst h1
        exact h2.bs
      have HBS := Lib.hid hbs
      clear hf hbs
      go_wp2_with fail
      refine (bclone_any o.b _ _ (by omega) HBS.out).mono ?_
      rintro e w2 ⟨x, rfl, hx, hb2⟩
      have HX := Lib.hid hx
      clear hx hlook
      go_wp2_with fail
      go_ret2
      rw [HG.out]
      refine ⟨x, F, rfl, HX.out.lower hg1.size, (H1.out.plain (by omega)).below hb2, HA1.out.trans (Apt.of_below hb2), fun q hq => .inl hq, fun q hq hFq => ?_⟩
      have h1 := HX.out.ge q hq
      have h2 := H1.out.lt q hFq
      omega

set_option maxHeartbeats 3200000 in
theorem stDel_any {w : World} {F : Nat → Prop} {g : Nat} {m : Sm} {N : Nat} {n : List UInt8} (h : PSt w F g m) (hm : m.fine N) (hN : N ≤ 100000) (hn : n.length ≤ 9223372036854775807) :
    Calls Try.prog 15 #[.pointer (some ⟨g, 0, none⟩), .string (Bstr n)] w fun e w' => e = .returned (errV (sDel m n).2) ∧ ∃ F', PSt w' F' g (sDel m n).1 ∧ Apt F w w' ∧ ∀ q, F' q → F q ∨ w.heap.size ≤ q := by
  have hfg := h.Fg
  have hgw := gw_any h hm.calls0 (by have := hm.calls1; omega)
  have hmu := hm.used
  clear h hm
  go_enter Try.func15, Try.ntmps15
  go_wp2_with fail
  refine hgw.mono ?_
  rintro e w1 ⟨rfl, h1, hg1⟩
  have HA1 : Hid (Apt F w w1) := Lib.hid (Apt.of_grown hg1 fun q hq => by injection hq with hq; subst hq; exact hfg)
  have H1 := Lib.hid h1
  clear hgw
  cases hcb : callB m with
  | false =>
    have HG : Hid (sDel m n = (callS m, 8)) := Lib.hid (sDel_fail hcb)
    clear hcb h1
    go_wp2_with fail
    go_ret
    rw [HG.out]
    exact ⟨rfl, F, H1.out.plain (by omega), HA1.out, fun q hq => .inl hq⟩
  | true =>
    have HCB := Lib.hid hcb
    obtain ⟨mb, D, M, W, hBk, hM, hMc, hW, hlf⟩ := h1.ex
    have hl : (callS m).l = m.l := rfl
    have hrm : (callS m).room = m.room := rfl
    rw [hl] at hM
    rw [hl, hrm] at hBk
    have k1 := hBk.cell 1
    simp at k1
    obtain ⟨v, hat, hlook⟩ := hM.look_ok hn
    obtain ⟨Av, kv, cv, rfl, hkc, hcm, hkv⟩ := hM.len hat
    have HM := Lib.hid hM
    have HBK := Lib.hid hBk
    have HKV := Lib.hid hkv
    clear hcb h1 hkv hat hM hBk
    cases hf : fnd n m.l with
    | none =>
      have HG : Hid (sDel m n = (callS m, 4)) := Lib.hid (sDel_no HCB.out hf)
      rw [hf, Option.isSome_none] at hlook
      clear hf
      go_wp2_with fail
      go_ret
      rw [HG.out]
      exact ⟨rfl, F, H1.out.plain (by omega), HA1.out, fun q hq => .inl hq⟩
    | some o =>
      obtain ⟨l', hp, hr', hu', hfn, hfo⟩ := sDel_ok HCB.out hf HM.out.rise
      have HP := Lib.hid hp
      have hko : (kv : Int) = o.b.length := by rw [HKV.out, hf]; rfl
      obtain ⟨U, hU⟩ : ∃ U : Nat, U = usedL m.l := ⟨_, rfl⟩
      have HU' : Hid ((usedL l' : Int) = (U : Int) - (kv : Int)) := Lib.hid (by omega)
      have hkU : kv ≤ U := by omega
      rw [hf, Option.isSome_some] at hlook
      rw [← hU] at HBK hmu
      have hmg : mb ≠ g := HM.out.mg
      have HFO := Lib.hid hfo
      clear hf hp hu' hfo hU hko
      go_wp2_with (at_delete; refine wpList_delete_own _ rfl _ _ 60 9 rfl 34 lawS Try.underlying60 pR mb M D rfl HM.out.own _ _ rfl (keyS n hn) ?_)
      intro w2 hown2 hturn
      have hg2 := hturn.grown
      have HM2 := Lib.hid (HM.out.del hown2 hg2 hr' hfn HFO.out)
      have hBk2 := HBK.out.grown hg2 (fun e => hmg (by injection e with e; exact e.symm))
      have i2 := hBk2.cell 2
      have f2 := hBk2.frozen 2
      simp at i2
      have HBK2 := Lib.hid hBk2
      have hA2 : Apt F w w2 := HA1.out.trans (Apt.of_grown hg2 fun q hq => by injection hq with hq; subst hq; exact HM.out.Fm)
      clear hown2 hturn k1 hlook hBk2
      go_wp2_with fail
      go_ret
      have hgs := grown_set w2 g 2 (.int .i64 ((U : Int) - (kv : Int)))
      have hbk6 := HBK2.out.set_ 2 (.int .i64 ((U : Int) - (kv : Int)))
      simp only [List.setIfInBounds_toArray, List.set_cons_succ, List.set_cons_zero] at hbk6
      rw [HP.out]
      refine ⟨rfl, F, ⟨fun q hq => Nat.lt_of_lt_of_le (Nat.lt_of_lt_of_le (H1.out.lt q hq) hg2.size) hgs.size, hfg, mb, _, M, W, ?_, HM2.out.set _ _, ?_, hW, hlf⟩, hA2.trans (Apt.of_grown hgs fun q hq => by injection hq with hq; subst hq; exact hfg), fun q hq => .inl hq⟩
      · show Blk _ _ _ #[.int .i64 m.room, .map (some mb), .int .i64 ((usedL l' : Nat) : Int), .int .i64 (callS m).calls, .int .i64 W]
        rw [HU'.out]
        exact hbk6
      · show (M : Int) + 0 ≤ (callS m).calls
        omega

set_option maxHeartbeats 3200000 in
theorem stAlt_any {w : World} {F : Nat → Prop} {g : Nat} {m : Sm} {N : Nat} {n : List UInt8} {at_ x : Int} (h : PSt w F g m) (hm : m.fine N) (hn : n.length ≤ 9223372036854775807) (ha0 : -9223372036854775808 ≤ at_) (ha1 : at_ ≤ 9223372036854775807) (hx0 : 0 ≤ x) (hx1 : x ≤ 255) :
    Calls Try.prog 19 #[.pointer (some ⟨g, 0, none⟩), .string (Bstr n), .int .i64 at_, .int .u8 x] w fun e w' => e = .returned (.bool (sAlt m n at_ (UInt8.ofNat x.toNat)).2) ∧ ∃ F', PSt w' F' g (sAlt m n at_ (UInt8.ofNat x.toNat)).1 ∧ Apt F w w' ∧ ∀ q, F' q → F q ∨ w.heap.size ≤ q := by
  have H := Lib.hid h
  have hfg := h.Fg
  have hmu := hm.used
  have hxz : UInt8.ofNat x.toNat = 0 ↔ x = 0 := by
    constructor
    · intro e
      have := congrArg UInt8.toNat e
      rw [UInt8.toNat_ofNat'] at this
      simp at this
      omega
    · intro e
      subst e
      rfl
  obtain ⟨mb, D, M, W, hBk, hM, hMc, hW, hlf⟩ := h.ex
  have k1 := hBk.cell 1
  simp at k1
  obtain ⟨v, hat, hlook⟩ := hM.look hn
  obtain ⟨Av, kv, cv, rfl, hkc, hcm, hkv⟩ := hM.len hat
  have hno : sAlt m n at_ (UInt8.ofNat x.toNat) = (m, false) → (∃ F', PSt w F' g (sAlt m n at_ (UInt8.ofNat x.toNat)).1 ∧ Apt F w w ∧ ∀ q, F' q → F q ∨ w.heap.size ≤ q) := fun e => by
    rw [e]
    exact ⟨F, H.out, Apt.refl _ _, fun q hq => .inl hq⟩
  have HNO := Lib.hid hno
  have HM := Lib.hid hM
  have HBK := Lib.hid hBk
  have HAT := Lib.hid hat
  have HKV := Lib.hid hkv
  clear hno hM hBk hat hkv h hm hlf
  by_cases hneg : at_ < 0
  · have HG : Hid (sAlt m n at_ (UInt8.ofNat x.toNat) = (m, false)) := Lib.hid (sAlt_no' (.inr (.inr hneg)))
    clear hxz
    go_enter Try.func19, Try.ntmps19
    go_wp2_with fail
    go_ret
    exact ⟨ret_bool (by rw [HG.out]), HNO.out HG.out⟩
  by_cases hout : (kv : Int) ≤ at_
  · have HG : Hid (sAlt m n at_ (UInt8.ofNat x.toNat) = (m, false)) := Lib.hid (by
      cases hf : fnd n m.l with
      | none => exact sAlt_no' (.inl hf)
      | some o =>
        have := HKV.out
        rw [hf, obLen] at this
        exact sAlt_out' hf (by omega))
    clear hxz
    go_enter Try.func19, Try.ntmps19
    go_wp2_with fail
    go_ret
    exact ⟨ret_bool (by rw [HG.out]), HNO.out HG.out⟩
  by_cases hx : x = 0
  · have HG : Hid (sAlt m n at_ (UInt8.ofNat x.toNat) = (m, false)) := Lib.hid (sAlt_no' (.inr (.inl (hxz.2 hx))))
    have kx : (x == 0) = true := by simp [hx]
    clear hxz hx
    go_enter Try.func19, Try.ntmps19
    go_wp2_with fail
    go_ret
    exact ⟨ret_bool (by rw [HG.out]), HNO.out HG.out⟩
  cases hf : fnd n m.l with
  | none =>
    exfalso
    have := HKV.out
    rw [hf, obLen] at this
    omega
  | some o =>
    have hko := HKV.out
    rw [hf, obLen] at hko
    obtain ⟨k, rfl⟩ : ∃ k : Nat, at_ = (k : Int) := ⟨at_.toNat, by omega⟩
    obtain ⟨y, hy⟩ : ∃ y, o.b[k]? = some y := ⟨_, List.getElem?_eq_getElem (by omega)⟩
    obtain ⟨z, hz⟩ : ∃ z, z = y ^^^ UInt8.ofNat x.toNat := ⟨_, rfl⟩
    obtain ⟨l', hp, hr', hu', hfn, hfo⟩ := sAlt_ok hf (fun e => hx (hxz.1 e)) hy HM.out.rise
    rw [← hz] at hfn
    obtain ⟨xn, rfl⟩ : ∃ xn : Nat, x = (xn : Int) := ⟨x.toNat, by omega⟩
    have hxor : bits .xor .u8 (y.toNat : Int) (xn : Int) = (z.toNat : Int) := by
      have hyl := y.toNat_lt
      have h := u8_xor_nat y.toNat xn (by omega) (by omega)
      rw [h, hz, UInt8.toNat_xor, Int.toNat_natCast, UInt8.toNat_ofNat', Nat.mod_eq_of_lt (by omega)]
    have kx : ((xn : Int) == 0) = false := by simp; omega
    obtain ⟨v', h1, h2, h3⟩ := HM.out.val n o hf
    rw [HAT.out] at h1
    injection h1 with h1
    subst h1
    rcases h2.2 with ⟨e0, _⟩ | ⟨q, cap, cur, e0, _, hq, _⟩
    · injection e0 with _ e1
      omega
    · injection e0 with ea eb ec
      subst ea
      have hkv' : kv = o.b.length := by omega
      subst hkv'
      have hcell : w.cell? ⟨q, k, none⟩ = some (.int .u8 (y.toNat : Int)) := by
        have := h2.rd.cells k (.int .u8 (y.toNat : Int)) (by rw [BV_getElem?, hy]; rfl)
        rw [Addr.add_lit, Nat.zero_add] at this
        exact this
      have hfz : w.frozen? ⟨q, k, none⟩ = false := by simp [World.frozen?, hq]
      obtain ⟨hst, hgs⟩ := World.ownsRow.stored h2 k (.int .u8 (z.toNat : Int))
      have hst' : Own (w.setCell ⟨q, k, none⟩ (.int .u8 (z.toNat : Int))) 0 5 (.slice (some ⟨q, 0, none⟩) o.b.length cv) (o.b.set k z) := by
        have e : BV (o.b.set k z) = (BV o.b).set k (.int .u8 (z.toNat : Int)) := by simp [BV, List.map_set]
        unfold Own
        rw [List.length_set, e]
        exact hst
      have hM2 := HM.out.alt HAT.out (q0 := q) rfl hgs hst' hr' hfn (by rw [hf]; rfl) hfo
      obtain ⟨hqF, hqg, hqm⟩ := h3 q rfl
      have HP := Lib.hid hp
      have HR : Hid (∃ F', PSt (w.setCell ⟨q, k, none⟩ (.int .u8 (z.toNat : Int))) F' g { m with l := l' } ∧ Apt F w (w.setCell ⟨q, k, none⟩ (.int .u8 (z.toNat : Int))) ∧ ∀ q, F' q → F q ∨ w.heap.size ≤ q) := Lib.hid
        ⟨F, ⟨fun q hq => Nat.lt_of_lt_of_le (H.out.lt q hq) hgs.size, hfg, mb, D, M, W, by
          show Blk _ _ _ #[.int .i64 m.room, .map (some mb), .int .i64 ((usedL l' : Nat) : Int), .int .i64 m.calls, .int .i64 W]
          rw [hu']
          exact HBK.out.grown hgs (fun e => hqg (by injection e with e; exact e.symm)), hM2, hMc, hW, by
          obtain ⟨_, _, _, W', hB', _, _, _, h'⟩ := H.out.ex
          have e := hB'.cell 4
          rw [HBK.out.cell 4] at e
          simp at e
          rw [e]
          exact h'⟩, Apt.of_grown hgs fun z hz => by injection hz with hz; subst hz; exact hqF, fun q hq => .inl hq⟩
      clear hxz hp hu' hfn hfo hst hst' hM2 h2 h3 hq hf hy hz
      go_enter Try.func19, Try.ntmps19
      go_wp2_with fail
      go_ret
      rw [show sAlt m n (k : Int) (UInt8.ofNat xn) = ({ m with l := l' }, true) from HP.out]
      exact ⟨rfl, HR.out⟩
end Go.Proofs.Ytihpnkhkbbakbaa
