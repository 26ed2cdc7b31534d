/-
  tankardlaw05.PageGets, walked: it returns true at all bytes; nothing that was there has turned.
-/
import Derived.Test.YtcpbikogccdknaaPgF
import Derived.Test.YtcpbikogccdknaaPgG
namespace Go.Proofs.Ytcpbikogccdknaa
open Go.RowKit Go.Maps
set_option maxRecDepth 100000

theorem gets_two {w w' : World} {x : List UInt8} {l er l' : Value} {n : Int} (hG : GetP w x l er) (hP : PagedP w' x l' n) :
    (∃ c : Int, (c = 2 ∨ c = 7) ∧ l = .slice none 0 0 ∧ er = code c ∧ l' = .slice none 0 0 ∧ n = c) ∨ ∃ m, er = .nilIface ∧ n = 0 ∧ Ts w l m ∧ Ts w' l' m := by
  by_cases h4 : x.length < 4
  · exact .inl ⟨2, .inl rfl, (hG.short h4).1, (hG.short h4).2, (hP.short h4).1, (hP.short h4).2⟩
  · have h4' : 4 ≤ x.length := by omega
    by_cases he : tailOf x = crcOf (bodyOf x)
    · by_cases hm : ∃ m, ValP m ∧ pgBody m = bodyOf x
      · obtain ⟨m, hv, hb⟩ := hm
        obtain ⟨h1, h2⟩ := hG.yes m h4' he hv hb
        obtain ⟨h3, h5⟩ := hP.yes m h4' he hv hb
        exact .inr ⟨m, h1, h3, h2, h5⟩
      · have hn : ∀ m, ValP m → pgBody m ≠ bodyOf x := fun m hv e => hm ⟨m, hv, e⟩
        obtain ⟨h1, h2⟩ := hG.form h4' he hn
        obtain ⟨h3, h5⟩ := hP.form h4' he hn
        exact .inl ⟨2, .inl rfl, h1, h2, h3, h5⟩
    · obtain ⟨h1, h2⟩ := hG.sum h4' he
      obtain ⟨h3, h5⟩ := hP.sum h4' he
      exact .inl ⟨7, .inr rfl, h1, h2, h3, h5⟩

set_option maxHeartbeats 1600000 in
theorem pageGets_any (v : Value) (x : List UInt8) (w : World) (h : Bs w v x) :
    Calls Try.prog 4 #[v] w fun e w' => e = .returned (.bool true) ∧ Below w.heap.size w w' := by
  have H := Lib.hid h
  obtain ⟨A, c, rfl, hc1, hc2, hr⟩ := h
  clear hr
  go_enter Try.func4, Try.ntmps4
  go_wp2_with fail
  refine (up5_any _).mono ?_
  rintro e w1 ⟨rfl, hb1⟩
  by_cases hl : 20000 < x.length
  · go_wp2_with fail
    go_ret
    exact ⟨rfl, hb1⟩
  · have hl1 : Hid (x.length ≤ 20000) := Lib.hid (by omega)
    go_wp2_with fail
    refine (pget_any _ x _ (H.out.below hb1) (by have := hl1.out; omega)).mono ?_
    rintro e w2 ⟨l, er, rfl, hG, hb2⟩
    have hB2 := hb1.trans (hb2.mono hb1.size)
    go_wp2_with fail
    refine (Paged_any _ x _ (H.out.below hB2) (by have := hl1.out; omega)).mono ?_
    rintro e w3 ⟨l', n, rfl, hP, hb3⟩
    have hB3 := hB2.trans (hb3.mono hB2.size)
    rcases gets_two hG hP with ⟨c, hc, rfl, rfl, rfl, rfl⟩ | ⟨m, rfl, rfl, hT, hT'⟩
    · clear hG hP
      have hbe : (n == n) = true := by simp
      go_wp2_with fail
      refine (Code_any n _ (by omega) (by omega)).mono ?_
      rintro e w4 ⟨rfl, rfl⟩
      go_wp2_with fail
      refine (Traces_same _ _ [] _ (Ts.nil _) (Ts.nil _)).mono ?_
      rintro e w5 ⟨rfl, hb5⟩
      go_wp2_with fail
      go_ret
      exact ⟨rfl, hB3.trans (hb5.mono hB3.size)⟩
    · have T1 := Lib.hid (hT.below hb3)
      have T2 := Lib.hid hT'
      obtain ⟨A1, c1, hv1, _⟩ := hT.form
      obtain ⟨A2, c2, hv2, _⟩ := hT'.form
      subst hv1 hv2
      clear hG hP hT hT'
      go_wp2_with fail
      refine (Code_nil _).mono ?_
      rintro e w4 ⟨rfl, rfl⟩
      go_wp2_with fail
      refine (Traces_same _ _ m _ T1.out T2.out).mono ?_
      rintro e w5 ⟨rfl, hb5⟩
      go_wp2_with fail
      go_ret
      exact ⟨rfl, hB3.trans (hb5.mono hB3.size)⟩

end Go.Proofs.Ytcpbikogccdknaa
