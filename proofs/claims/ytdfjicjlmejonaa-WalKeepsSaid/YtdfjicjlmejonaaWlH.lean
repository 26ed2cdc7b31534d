/-
  CONTRACT of the program's Records: the records that bytes begin with, in a row of the call's own. Condition: bytes of at most 1048576.
-/
import Derived.Test.YtdfjicjlmejonaaWlG
namespace Go.Proofs.Ytdfjicjlmejonaa
open Go.RowKit
set_option maxRecDepth 100000

theorem bssT : ElemT Try.prog 24 22 1 24 := ⟨Try.underlying24, by omega, by
  refine ⟨_, _, rfl, rfl, rfl, rfl, ?_⟩
  rfl⟩
theorem recAt_drop {l s : List UInt8} {p : Nat} : RecAt (l.drop p) 0 s ↔ RecAt l p s := by simp [RecAt]
theorem OwnK.bss {w : World} {base : Nat} {e : TypeId} {bad : Nat → Prop} {v : Value} {t : List (List UInt8)} (h : OwnK 1 w base e bad BsC v t) : Bss w v t := h.lv

set_option maxHeartbeats 3200000 in
theorem wrecords_any (b : List UInt8) (v : Value) (w : World) (hl : b.length ≤ 1048576) (hv : Bs w v b) :
    Calls Try.prog 7 #[v] w fun e w' => ∃ (x : Value) (t : List (List UInt8)) (q : Nat), e = .returned (.tuple #[x, .int .i64 (q : Int)]) ∧ Recs b t 0 q ∧ OwnK 1 w' w.heap.size 22 (fun z => z < w.heap.size) BsC x t ∧ Below w.heap.size w w' := by
  obtain ⟨A, c, rfl, hc1, hc2, hr⟩ := hv
  have HR := Lib.hid hr
  clear hr
  go_enter Try.func7, Try.ntmps7
  go_wp2_with fail
  go_loopw [4, 5] (fun xv iv wr => ∃ (t : List (List UInt8)) (p : Nat), OwnK 1 wr w.heap.size 22 (fun z => z < w.heap.size) BsC xv t ∧ iv = .int .i64 (p : Int) ∧ Hid (Pre b t 0 p) ∧ p ≤ b.length ∧ t.length ≤ p ∧ Below w.heap.size w wr) (fun _ iv _ => b.length - (intOf iv).toNat)
  case atStart => exact ⟨[], 0, OwnK.nil _ _ _ _ _ _, rfl, Lib.hid rfl, Nat.zero_le _, Nat.zero_le _, Below.refl _ _⟩
  case round =>
    obtain ⟨t, p, hO, rfl, HP, hp, htp, hB⟩ := hrel
    obtain ⟨V, hsl, hV, hVb⟩ := slice_bytes_from (P := Try.prog) (w := w) byteT elemB HR.out hc1 hc2 p hp (p : Int) rfl
    have hF := wfirst_any (b.drop p) V wr (by rw [List.length_drop]; omega) (hV.below hB)
    have HO := Lib.hid hO
    have HBB := Lib.hid hB
    obtain ⟨Ao, co, hov, hco1, hco2⟩ := hO.form
    clear hV hVb hO hB
    subst hov
    go_wp2_with fail
    refine hF.mono ?_
    rintro e w1 ⟨x, ok, rfl, hf, hb1⟩
    have HB1 := Lib.hid (HBB.out.trans (hb1.mono HBB.out.size))
    have HO1 := Lib.hid (HO.out.below hb1)
    cases ok with
    | false =>
      have HE : Hid (Recs b t 0 p) := Lib.hid ⟨HP.out, fun s hs => hf.no rfl s (recAt_drop.2 hs)⟩
      clear hF hf hb1 hsl
      go_wp2_with fail
      go_ret2
      exact ⟨_, t, p, rfl, HE.out, HO1.out, HB1.out⟩
    | true =>
      obtain ⟨s, hs, hxs, hxg⟩ := hf.yes rfl
      have hat := recAt_drop.1 hs
      have hal := hat.len
      have h16 := hat.2.1
      have HP2 : Hid (Pre b (t ++ [s]) 0 (p + s.length + 6)) := Lib.hid (HP.out.snoc hat)
      have HXS := Lib.hid hxs
      have HXG := Lib.hid hxg
      obtain ⟨Ax, cx, rfl, hcx1, hcx2, _⟩ := hxs
      have HLV := Lib.hid (Lv.lit1 w1 [.slice Ax s.length cx] 22)
      have ha : Below w1.heap.size w1 (w1.alloc (.cells #[.slice Ax s.length cx] 22)) := (Below.refl _ _).alloc (Nat.le_refl _) _
      have HBa := Lib.hid (HB1.out.trans (ha.mono HB1.out.size))
      have HOa := Lib.hid (HO1.out.below ha)
      have HSZ : Hid (w.heap.size ≤ (w1.alloc (.cells #[.slice Ax s.length cx] 22)).heap.size) := Lib.hid HBa.out.size
      have HK : Hid (Keep (fun q => q < w.heap.size ∨ (Value.slice Ao t.length co).ownBlock = some q) (fun u => BsC u s [.slice Ax s.length cx]) (w1.alloc (.cells #[.slice Ax s.length cx] 22))) := Lib.hid fun u hu => ⟨_, rfl, (HXS.out.alloc _).apt hu fun _ q hq hbad => by
        have h1 := HXG.out q hq
        have h2 := HBB.out.size
        rcases hbad with h | h
        · omega
        · have := (HO.out.lt q h).2
          omega⟩
      have htl : t.length ≤ 1000000000 := by omega
      clear hF hf hb1 hsl hs hat hxg ha
      go_wp2_with (at_builtin; refine wpList_append_K bssT rfl _ _ rfl rfl HOa.out rfl HLV.out HK.out (by simp [Value.oneCell']) htl (by decide) HSZ.out ?_)
      intro v3 w3 ho3 hg3 _
      have HO3 := Lib.hid ho3
      have HB3 := Lib.hid (HBa.out.grown hg3 HSZ.out fun q hq => (HOa.out.lt q hq).1)
      clear ho3 hg3
      go_wp2_with fail
      exact ⟨⟨t ++ [s], p + s.length + 6, HO3.out, by go_num, HP2, by omega, by simp; omega, HB3.out⟩, by simp [intOf]; omega⟩
end Go.Proofs.Ytdfjicjlmejonaa
