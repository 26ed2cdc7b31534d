/-
  SpanGets: its walk, for all bytes that the program and the document read alike ('hq'). Condition: errors.errorType holds the handle of 'error' (Hd).
-/
import Derived.Test.YtncbbhbeaangjaaDoorSpanG
import Derived.Test.YtncbbhbeaangjaaDoorSpanI
namespace Go.Proofs.YtncbbhbeaangjaaDoor
open Go.RowKit

set_option maxRecDepth 100000 in
set_option maxHeartbeats 3200000 in
theorem spanGets_any (v : Value) (b : List UInt8) (w : World) (h : Bs w v b) (hd : Hd w) (hq : getS nextMost b = getS 65535 b) :
    Calls Tryd.prog 5 #[v] w fun e w' => e = .returned (.bool true) ∧ Below w.heap.size w w' := by
  have HB := Lib.hid h
  have HQ := Lib.hid hq
  obtain ⟨A, c, rfl, hc1, hc2, hr⟩ := h
  clear hr hq
  go_enter Tryd.func5, Tryd.ntmps5
  go_wp2_with fail
  refine (up3_any _ hd).mono ?_
  rintro e w1 ⟨rfl, hW⟩
  by_cases hbl : b.length ≤ 20000
  · go_wp2_with fail
    refine (sget_any _ b _ (HB.out.below hW) (by omega)).mono ?_
    rintro e w2 ⟨x, er, rfl, hG, hb2⟩
    replace hW := hW.trans (hb2.mono hW.size)
    go_wp2_with fail
    refine (SRead_any _ b _ (HB.out.below hW) (by omega)).mono ?_
    rintro e w3 ⟨y, at_, rfl, hR, hb3⟩
    replace hW := hW.trans (hb3.mono hW.size)
    cases hr : getS 65535 b with
    | error p =>
      obtain ⟨rfl, hsp⟩ := hG.no p (HQ.out.trans hr)
      obtain rfl := hR.no p hr
      have HSP := Lib.hid (hsp.below hb3)
      have HD := Lib.hid (hd.below hW)
      clear hr hG hR hsp hb2 hb3 hd
      go_wp2_with fail
      refine (Is_hit _ _ _ _ HD.out HSP.out).mono ?_
      rintro e w4 ⟨rfl, hb4⟩
      replace hW := hW.trans (hb4.mono hW.size)
      go_wp2_with fail
      go_ret
      exact ⟨rfl, hW⟩
    | ok l =>
      obtain ⟨rfl, hS⟩ := hG.yes l (HQ.out.trans hr)
      obtain ⟨rfl, hS'⟩ := hR.yes l hr
      have HS := Lib.hid (hS.below hb3)
      have HS' := Lib.hid hS'
      clear hr hG hR hS hS' hb2 hb3 hd
      go_wp2_with fail
      refine (Spans_same _ _ l _ HS.out HS'.out).mono ?_
      rintro e w4 ⟨rfl, hb4⟩
      replace hW := hW.trans (hb4.mono hW.size)
      go_wp2_with fail
      go_ret
      exact ⟨rfl, hW⟩
  · go_wp2_with fail
    go_ret
    exact ⟨rfl, hW⟩

end Go.Proofs.YtncbbhbeaangjaaDoor
