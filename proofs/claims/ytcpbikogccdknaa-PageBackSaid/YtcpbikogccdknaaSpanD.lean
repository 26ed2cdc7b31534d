/-
  CONTRACTS of span.Put and of the document's Bytes of spans.
-/
import Derived.Test.YtcpbikogccdknaaSpanC
namespace Go.Proofs.Ytcpbikogccdknaa
open Go.RowKit

/-- spans' bytes -/
def encS (l : List Sn) : List UInt8 := bet l.length 2 ++ l.flatMap encOne
theorem enc_length (l : List Sn) (h : l.all mayB = true) : (l.flatMap encOne).length ≤ 98 * l.length := by
  induction l with
  | nil => simp
  | cons s l ih =>
    simp only [List.all_cons, Bool.and_eq_true] at h
    have h1 := ih h.2
    have h2 := may_bounds h.1
    have h3 := encOne_length s
    rw [List.flatMap_cons, List.length_append, List.length_cons]
    omega
theorem putOk2 (n : Nat) (h : n ≤ 65535) : putOk 2 (n : Int) = true := by
  have h2 : (n : Int).toNat < 256 ^ (2 : Int).toNat := by
    show (n : Int).toNat < 65536
    omega
  simp only [putOk, Bool.and_eq_true, decide_eq_true_iff]
  exact ⟨by decide, h2⟩

theorem take_snoc_of {α : Type} {l : List α} {k : Nat} {s : α} (h : l[k]? = some s) : l.take (k + 1) = l.take k ++ [s] := by
  obtain ⟨hk, rfl⟩ := List.getElem?_eq_some_iff.1 h
  exact List.take_succ_eq_append_getElem hk

/-- what Put tells -/
structure PutS (w : World) (base : Nat) (l : List Sn) (x e : Value) : Prop where
  no : l.all mayB = false → x = .slice none 0 0 ∧ e = code 1
  yes : l.all mayB = true → e = .nilIface ∧ Own w base 5 x (encS l)

set_option maxRecDepth 100000 in
set_option maxHeartbeats 1600000 in
theorem sput_any (v : Value) (l : List Sn) (w : World) (h : Ss w v l) (hl : l.length ≤ 65535) :
    Calls Try.prog 40 #[v] w fun e w' => ∃ x er, e = .returned (.tuple #[x, er]) ∧ PutS w' w.heap.size l x er ∧ Below w.heap.size w w' := by
  obtain ⟨A, c, rfl, hc1, hc2⟩ := h.form
  have H := Lib.hid h
  have P := Lib.hid (putOk2 l.length hl)
  clear h
  go_enter Try.func40, Try.ntmps40
  go_wp2_with fail
  refine (put_ok [] _ _ _ _ (by omega) P.out (by simp) (Bs.nil _)).mono ?_
  rintro e w1 ⟨v1, rfl, hown1, hb1⟩
  have ho1 : Own w1 w.heap.size 5 v1 (bet l.length 2) := by simpa using hown1
  have HO := Lib.hid ho1
  clear hown1 ho1
  go_wp2_with fail
  go_loopw [4, 21] (fun bv i wr => ∃ k : Nat, k ≤ l.length ∧ i = .int .i64 k ∧ Own wr w.heap.size 5 bv (bet l.length 2 ++ (l.take k).flatMap encOne) ∧ Below w.heap.size w wr ∧ Hid ((l.take k).all mayB = true)) (fun _ i _ => l.length - (intOf i).toNat)
  case atStart => exact ⟨0, Nat.zero_le _, rfl, by simpa using HO.out, hb1, Lib.hid (by simp)⟩
  case round =>
    obtain ⟨k, hk, rfl, hown, hB, HM⟩ := hrel
    have hSs := H.out.below hB
    by_cases hlt : k < l.length
    · obtain ⟨s, hks⟩ : ∃ s, l[k]? = some s := ⟨_, List.getElem?_eq_getElem hlt⟩
      obtain ⟨g, o, d, rfl, hg, c0, c1, c2, c3, c4, hd, hok⟩ := hSs.cells hks
      obtain ⟨A', c', rfl, hd1, hd2, hdr⟩ := hd
      have HSs := Lib.hid hSs
      have HOw := Lib.hid hown
      have HKS := Lib.hid hks
      have HT := Lib.hid (take_snoc_of hks)
      clear hSs hown hks
      have hWB : Below w.heap.size w (wr.alloc (.cells #[.int .u64 s.tr, .int .u64 s.id, .int .i64 s.st, .int .i64 s.en, .slice A' s.data.length c'] 55)) := hB.alloc hB.size _
      have hV : SV (wr.alloc (.cells #[.int .u64 s.tr, .int .u64 s.id, .int .i64 s.st, .int .i64 s.en, .slice A' s.data.length c'] 55)) (.agg #[.int .u64 s.tr, .int .u64 s.id, .int .i64 s.st, .int .i64 s.en, .slice A' s.data.length c']) s := ⟨hok, _, rfl, A', c', rfl, hd1, hd2, hdr.alloc _⟩
      have hBl := Blk.new wr 55 #[.int .u64 s.tr, .int .u64 s.id, .int .i64 s.st, .int .i64 s.en, .slice A' s.data.length c']
      have HOw1 := Lib.hid (HOw.out.alloc (.cells #[.int .u64 s.tr, .int .u64 s.id, .int .i64 s.st, .int .i64 s.en, .slice A' s.data.length c'] 55))
      have HBl := Lib.hid hBl
      clear hBl HOw
      cases hm : mayB s with
      | false =>
        have HMS := Lib.hid hm
        clear hm
        go_wp2_with fail
        refine (may_any _ s _ hV).mono ?_
        rintro e w2 ⟨rfl, hb2⟩
        rw [HMS.out]
        go_wp2_with fail
        go_ret2
        refine ⟨_, _, rfl, ⟨fun _ => ⟨rfl, rfl⟩, fun h => ?_⟩, hWB.trans (hb2.mono hWB.size)⟩
        rw [List.all_eq_true] at h
        have := h s (List.mem_of_getElem? HKS.out)
        rw [HMS.out] at this
        cases this
      | true =>
        have HMS := Lib.hid hm
        clear hm
        go_wp2_with fail
        refine (may_any _ s _ hV).mono ?_
        rintro e w2 ⟨rfl, hb2⟩
        rw [HMS.out]
        have hV2 := hV.below hb2
        have hBl2 := HBl.out.below hb2 HBl.out.lt
        have d0 := hBl2.cell 0
        have d1 := hBl2.cell 1
        have d2 := hBl2.cell 2
        have d3 := hBl2.cell 3
        have d4 := hBl2.cell 4
        simp at d0 d1 d2 d3 d4
        have hW2 := hWB.trans (hb2.mono hWB.size)
        have HOw2 := Lib.hid (HOw1.out.below hb2)
        clear hb2 hV hBl2 HBl HOw1 c0 c1 c2 c3 c4
        go_wp2_with fail
        refine (one_any _ s _ hV2 HMS.out).mono ?_
        rintro e w3 ⟨v3, rfl, hown3, hb3⟩
        have hW3 := hW2.trans (hb3.mono hW2.size)
        have hown := HOw2.out.below hb3
        have hle : ((l.take k).flatMap encOne).length ≤ 6422430 := by
          have h1 := enc_length _ HM.out
          have h2 : (l.take k).length ≤ 65535 := by rw [List.length_take]; omega
          omega
        have hle2 : (encOne s).length ≤ 98 := by
          have h1 := encOne_length s
          have h2 := may_bounds HMS.out
          omega
        go_wp2_with (at_builtin; refine wpList_append_v _ byteT rfl _ _ rfl w.heap.size _ _ rfl hown v3 _ rfl hown3.bs ?c1 hW3.size ?_)
        case c1 =>
          rw [List.length_append, bet_length]
          omega
        intro v4 w4 hown4 hg4 _
        go_wp2_with fail
        refine ⟨⟨k + 1, by omega, by go_num, ?_, hW3.grown hg4 hW3.size hown.ge, Lib.hid ?_⟩, by simp [intOf]; omega⟩
        · rw [HT.out, List.flatMap_append, ← List.append_assoc]
          simpa using hown4
        · rw [HT.out, List.all_append, HM.out]
          simp [HMS.out]
    · have hkk : k = l.length := by omega
      subst hkk
      rw [List.take_length] at hown HM
      have HOw := Lib.hid hown
      clear hown hSs hlt
      go_wp2_with fail
      go_ret2
      refine ⟨_, _, rfl, ⟨fun h => ?_, fun _ => ⟨rfl, HOw.out⟩⟩, hB⟩
      rw [HM.out] at h
      cases h

/-- bytes of the call's own that grow, beside a block that stays -/
structure Grow (w0 W : World) (base gb : Nat) (t : TypeId) (cs : Array Value) (V : Value) (L : List UInt8) : Prop where
  own : Own W base 5 V L
  blk : Blk W gb t cs
  bel : Below base w0 W
  le : base ≤ W.heap.size
  sep : V.ownBlock ≠ some gb
section
variable {w0 W W' : World} {base gb : Nat} {t : TypeId} {cs : Array Value} {V V' : Value} {L L' : List UInt8}
theorem Grow.next (h : Grow w0 W base gb t cs V L) (hb : Below W.heap.size W W') : Grow w0 W' base gb t cs V L :=
  ⟨h.own.below hb, h.blk.below hb h.blk.lt, h.bel.trans (hb.mono h.le), Nat.le_trans h.le hb.size, h.sep⟩
theorem Grow.app (h : Grow w0 W base gb t cs V L) (ho : Own W' base 5 V' L') (hg : W.grownBy W' V.ownBlock) (hv : V'.ownBlock = V.ownBlock ∨ V'.ownBlock = some W.heap.size) : Grow w0 W' base gb t cs V' L' := by
  refine ⟨ho, h.blk.grown hg (fun e => h.sep e.symm), h.bel.grown hg h.le h.own.ge, Nat.le_trans h.le hg.size, ?_⟩
  rcases hv with e | e
  · rw [e]; exact h.sep
  · rw [e]
    intro e'
    injection e' with e'
    have := h.blk.lt
    omega
end

set_option maxRecDepth 100000 in
set_option maxHeartbeats 3200000 in
theorem SBytes_any (v : Value) (l : List Sn) (w : World) (h : Ss w v l) (hl : l.length ≤ 65535) (hm : l.all mayB = true) :
    Calls Try.prog 45 #[v] w fun e w' => ∃ x, e = .returned x ∧ Own w' w.heap.size 5 x (encS l) ∧ Below w.heap.size w w' := by
  obtain ⟨A, c, rfl, hc1, hc2⟩ := h.form
  have H := Lib.hid h
  have HM := Lib.hid hm
  clear h hm
  go_enter Try.func45, Try.ntmps45
  go_wp2_with fail
  refine (Bytes_any _ _ _ (by omega) (by omega) (by omega) (by omega)).mono ?_
  rintro e w1 ⟨v1, rfl, hown1, hb1⟩
  have ho1 : Own w1 w.heap.size 5 v1 (bet l.length 2) := by simpa using hown1
  have HO := Lib.hid ho1
  clear hown1 ho1
  go_wp2_with fail
  go_loopw [3, 4] (fun bv i wr => ∃ k : Nat, k ≤ l.length ∧ i = .int .i64 k ∧ Own wr w.heap.size 5 bv (bet l.length 2 ++ (l.take k).flatMap encOne) ∧ Below w.heap.size w wr) (fun _ i _ => l.length - (intOf i).toNat)
  case atStart => exact ⟨0, Nat.zero_le _, rfl, by simpa using HO.out, hb1⟩
  case round =>
    obtain ⟨k, hk, rfl, hown, hB⟩ := hrel
    by_cases hlt : k < l.length
    · obtain ⟨s, hks⟩ : ∃ s, l[k]? = some s := ⟨_, List.getElem?_eq_getElem hlt⟩
      obtain ⟨g, o, d, rfl, hg, c0, c1, c2, c3, c4, hd, hok⟩ := H.out.cells hks
      replace c0 := (hB.cell (p := ⟨g, o + k * 5, none⟩) hg).trans c0
      replace c1 := (hB.cell (p := ⟨g, o + k * 5 + 1, none⟩) hg).trans c1
      replace c2 := (hB.cell (p := ⟨g, o + k * 5 + 2, none⟩) hg).trans c2
      replace c3 := (hB.cell (p := ⟨g, o + k * 5 + 3, none⟩) hg).trans c3
      replace c4 := (hB.cell (p := ⟨g, o + k * 5 + 4, none⟩) hg).trans c4
      have HD := Lib.hid hd
      obtain ⟨A', c', rfl, hd1, hd2, hdr⟩ := hd
      obtain ⟨o1, o2, o3, o4, o5, o6, o7, o8⟩ := hok
      have hms : mayB s = true := by
        have := HM.out
        rw [List.all_eq_true] at this
        exact this s (List.mem_of_getElem? hks)
      obtain ⟨m1, m2, m3, m4⟩ := may_bounds hms
      have hle : ((l.take k).flatMap encOne).length ≤ 6422430 := by
        have h1 := enc_length (l.take k) (by
          have := HM.out
          rw [List.all_eq_true] at this ⊢
          exact fun x hx => this x (List.mem_of_mem_take hx))
        have h2 : (l.take k).length ≤ 65535 := by rw [List.length_take]; omega
        omega
      have G0 : Grow w (wr.alloc (.cells #[.int .u64 s.tr, .int .u64 s.id, .int .i64 s.st, .int .i64 s.en, .slice A' s.data.length c'] 55)) w.heap.size wr.heap.size 55 #[.int .u64 s.tr, .int .u64 s.id, .int .i64 s.st, .int .i64 s.en, .slice A' s.data.length c'] u3 (bet l.length 2 ++ (l.take k).flatMap encOne) :=
        ⟨hown.alloc _, Blk.new _ _ _, hB.alloc hB.size _, by have := hB.size; simp; omega, fun e => by have := (World.ownsRow.lt hown _ e).2; omega⟩
      have HT := Lib.hid (take_snoc_of hks)
      have T1 : s.tr < 18446744073709551616 := by omega
      have T2 : s.id < 18446744073709551616 := by omega
      have HT1 := Lib.hid T1
      have HT2 := Lib.hid T2
      clear hown hks hms hdr o2 o4 T1 T2
      go_wp2_with fail
      refine (Bytes_any _ _ _ (by omega) (by omega) o1 HT1.out).mono ?_
      rintro e x1 ⟨y1, rfl, ho1, hb1⟩
      replace G0 := G0.next hb1
      go_wp2_with (at_builtin; refine wpList_append_v _ byteT rfl _ _ rfl w.heap.size _ _ rfl G0.own y1 _ rfl ho1.bs ?c1 G0.le ?_)
      case c1 => simp only [List.length_append, bet_length]; omega
      intro z1 x2 hz1 hg1 hv1
      replace G0 := G0.app hz1 hg1 hv1
      have d1 := G0.blk.cell 1
      simp at d1
      clear hb1 ho1 hz1 hg1 hv1 c0 c1 c2 c3 c4
      go_wp2_with fail
      refine (Bytes_any _ _ _ (by omega) (by omega) o3 HT2.out).mono ?_
      rintro e x3 ⟨y2, rfl, ho2, hb2⟩
      replace G0 := G0.next hb2
      go_wp2_with (at_builtin; refine wpList_append_v _ byteT rfl _ _ rfl w.heap.size _ _ rfl G0.own y2 _ rfl ho2.bs ?c2 G0.le ?_)
      case c2 => simp only [List.length_append, bet_length]; omega
      intro z2 x4 hz2 hg2 hv2
      replace G0 := G0.app hz2 hg2 hv2
      have d2 := G0.blk.cell 2
      simp at d2
      clear hb2 ho2 hz2 hg2 hv2 d1
      go_wp2_with fail
      refine (Bytes_any _ _ _ (by omega) (by omega) m1 (by omega)).mono ?_
      rintro e x5 ⟨y3, rfl, ho3, hb3⟩
      replace G0 := G0.next hb3
      go_wp2_with (at_builtin; refine wpList_append_v _ byteT rfl _ _ rfl w.heap.size _ _ rfl G0.own y3 _ rfl ho3.bs ?c3 G0.le ?_)
      case c3 => simp only [List.length_append, bet_length]; omega
      intro z3 x6 hz3 hg3 hv3
      replace G0 := G0.app hz3 hg3 hv3
      have d3 := G0.blk.cell 3
      simp at d3
      clear hb3 ho3 hz3 hg3 hv3 d2
      go_wp2_with fail
      refine (Bytes_any _ _ _ (by omega) (by omega) (by omega) (by omega)).mono ?_
      rintro e x7 ⟨y4, rfl, ho4, hb4⟩
      replace G0 := G0.next hb4
      go_wp2_with (at_builtin; refine wpList_append_v _ byteT rfl _ _ rfl w.heap.size _ _ rfl G0.own y4 _ rfl ho4.bs ?c4 G0.le ?_)
      case c4 => simp only [List.length_append, bet_length]; omega
      intro z4 x8 hz4 hg4 hv4
      replace G0 := G0.app hz4 hg4 hv4
      have d4 := G0.blk.cell 4
      simp at d4
      clear hb4 ho4 hz4 hg4 hv4 d3
      go_wp2_with fail
      refine (Text_any s.data _ _ (by omega) (HD.out.below G0.bel)).mono ?_
      rintro e x9 ⟨y5, rfl, ho5, hb5⟩
      replace G0 := G0.next hb5
      go_wp2_with (at_builtin; refine wpList_append_v _ byteT rfl _ _ rfl w.heap.size _ _ rfl G0.own y5 _ rfl ho5.bs ?c5 G0.le ?_)
      case c5 => simp only [List.length_append, bet_length]; omega
      intro z5 x10 hz5 hg5 hv5
      replace G0 := G0.app hz5 hg5 hv5
      clear hb5 ho5 hz5 hg5 hv5 d4
      go_wp2_with fail
      refine ⟨⟨k + 1, by omega, by go_num, ?_, G0.bel⟩, by simp [intOf]; omega⟩
      rw [HT.out, List.flatMap_append]
      have := G0.own
      simpa [encOne] using this
    · have hkk : k = l.length := by omega
      subst hkk
      rw [List.take_length] at hown
      have HOw := Lib.hid hown
      clear hown hlt
      go_wp2_with fail
      go_ret
      exact ⟨_, rfl, HOw.out, hB⟩

end Go.Proofs.Ytcpbikogccdknaa
