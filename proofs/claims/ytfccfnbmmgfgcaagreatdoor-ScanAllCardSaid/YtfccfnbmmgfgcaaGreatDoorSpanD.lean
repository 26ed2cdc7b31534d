/-
  CONTRACTS of span.Put and of the document's Bytes of spans.
  WHAT BYTES ARE READ AS, as spans (plain functions); CONTRACTS of span.place, span.amiss, span.next.
  CONTRACT of span.Get.
  PLAIN FACTS on spans' bytes: what was put is read as it was; what is read is put as those bytes.
  CONTRACTS of the document's own Read (of spans' bytes) and Spans (are spans the same?).
-/
import Derived.Test.YtfccfnbmmgfgcaaGreatDoorSpanB
import Derived.Test.YtfccfnbmmgfgcaaGreatDoorErrA
import Derived.Test.YtfccfnbmmgfgcaaGreatDoorMix
namespace Go.Proofs.YtfccfnbmmgfgcaaGreatDoor
open Go.RowKit

def encS (l : List Sn) : List UInt8 := bet l.length 2 ++ l.flatMap encOne
theorem enc_length (l : List Sn) (h : l.all mayB = true) : (l.flatMap encOne).length ≤ 98 * l.length := by
  induction l with
  | nil => simp
  | cons s l ih =>
    simp only [List.all_cons, Bool.and_eq_true] at h
    have h1 := ih h.2
    have h2 := may_bounds h.1
    have h3 := encOne_length s
    rw [List.flatMap_cons, List.length_append, List.length_cons]
    omega
theorem putOk2 (n : Nat) (h : n ≤ 65535) : putOk 2 (n : Int) = true := by
  have h2 : (n : Int).toNat < 256 ^ (2 : Int).toNat := by
    show (n : Int).toNat < 65536
    omega
  simp only [putOk, Bool.and_eq_true, decide_eq_true_iff]
  exact ⟨by decide, h2⟩

theorem take_snoc_of {α : Type} {l : List α} {k : Nat} {s : α} (h : l[k]? = some s) : l.take (k + 1) = l.take k ++ [s] := by
  obtain ⟨hk, rfl⟩ := List.getElem?_eq_some_iff.1 h
  exact List.take_succ_eq_append_getElem hk

structure PutS (w : World) (base : Nat) (l : List Sn) (x e : Value) : Prop where
  no : l.all mayB = false → x = .slice none 0 0 ∧ e = code 1
  yes : l.all mayB = true → e = .nilIface ∧ Own w base 5 x (encS l)

set_option maxRecDepth 100000 in
set_option maxHeartbeats 1600000 in
theorem sput_any (v : Value) (l : List Sn) (w : World) (h : Ss w v l) (hl : l.length ≤ 65535) :
    Calls Tryz.prog 126 #[v] w fun e w' => ∃ x er, e = .returned (.tuple #[x, er]) ∧ PutS w' w.heap.size l x er ∧ Below w.heap.size w w' := by
  obtain ⟨A, c, rfl, hc1, hc2⟩ := h.form
  have H := Lib.hid h
  have P := Lib.hid (putOk2 l.length hl)
  clear h
  go_enter Tryz.func126, Tryz.ntmps126
  go_wp2_with fail
  refine (put_ok [] _ _ _ _ (by omega) P.out (by simp) (Bs.nil _)).mono ?_
  rintro e w1 ⟨v1, rfl, hown1, hb1⟩
  have ho1 : Own w1 w.heap.size 5 v1 (bet l.length 2) := by simpa using hown1
  have HO := Lib.hid ho1
  clear hown1 ho1
  go_wp2_with fail
  go_loopw [4, 21] (fun bv i wr => ∃ k : Nat, k ≤ l.length ∧ i = .int .i64 k ∧ Own wr w.heap.size 5 bv (bet l.length 2 ++ (l.take k).flatMap encOne) ∧ Below w.heap.size w wr ∧ Hid ((l.take k).all mayB = true)) (fun _ i _ => l.length - (intOf i).toNat)
  case atStart => exact ⟨0, Nat.zero_le _, rfl, by simpa using HO.out, hb1, Lib.hid (by simp)⟩
  case round =>
    obtain ⟨k, hk, rfl, hown, hB, HM⟩ := hrel
    have hSs := H.out.below hB
    by_cases hlt : k < l.length
    · obtain ⟨s, hks⟩ : ∃ s, l[k]? = some s := ⟨_, List.getElem?_eq_getElem hlt⟩
      obtain ⟨g, o, d, rfl, hg, c0, c1, c2, c3, c4, hd, hok⟩ := hSs.cells hks
      obtain ⟨A', c', rfl, hd1, hd2, hdr⟩ := hd
      have HSs := Lib.hid hSs
      have HOw := Lib.hid hown
      have HKS := Lib.hid hks
      have HT := Lib.hid (take_snoc_of hks)
      clear hSs hown hks
      have hWB : Below w.heap.size w (wr.alloc (.cells #[.int .u64 s.tr, .int .u64 s.id, .int .i64 s.st, .int .i64 s.en, .slice A' s.data.length c'] 87)) := hB.alloc hB.size _
      have hV : SV (wr.alloc (.cells #[.int .u64 s.tr, .int .u64 s.id, .int .i64 s.st, .int .i64 s.en, .slice A' s.data.length c'] 87)) (.agg #[.int .u64 s.tr, .int .u64 s.id, .int .i64 s.st, .int .i64 s.en, .slice A' s.data.length c']) s := ⟨hok, _, rfl, A', c', rfl, hd1, hd2, hdr.alloc _⟩
      have hBl := Blk.new wr 87 #[.int .u64 s.tr, .int .u64 s.id, .int .i64 s.st, .int .i64 s.en, .slice A' s.data.length c']
      have HOw1 := Lib.hid (HOw.out.alloc (.cells #[.int .u64 s.tr, .int .u64 s.id, .int .i64 s.st, .int .i64 s.en, .slice A' s.data.length c'] 87))
      have HBl := Lib.hid hBl
      clear hBl HOw
      cases hm : mayB s with
      | false =>
        have HMS := Lib.hid hm
        clear hm
        go_wp2_with fail
        refine (may_any _ s _ hV).mono ?_
        rintro e w2 ⟨rfl, hb2⟩
        rw [HMS.out]
        go_wp2_with fail
        go_ret2
        refine ⟨_, _, rfl, ⟨fun _ => ⟨rfl, rfl⟩, fun h => ?_⟩, hWB.trans (hb2.mono hWB.size)⟩
        rw [List.all_eq_true] at h
        have := h s (List.mem_of_getElem? HKS.out)
        rw [HMS.out] at this
        cases this
      | true =>
        have HMS := Lib.hid hm
        clear hm
        go_wp2_with fail
        refine (may_any _ s _ hV).mono ?_
        rintro e w2 ⟨rfl, hb2⟩
        rw [HMS.out]
        have hV2 := hV.below hb2
        have hBl2 := HBl.out.below hb2 HBl.out.lt
        have d0 := hBl2.cell 0
        have d1 := hBl2.cell 1
        have d2 := hBl2.cell 2
        have d3 := hBl2.cell 3
        have d4 := hBl2.cell 4
        simp at d0 d1 d2 d3 d4
        have hW2 := hWB.trans (hb2.mono hWB.size)
        have HOw2 := Lib.hid (HOw1.out.below hb2)
        clear hb2 hV hBl2 HBl HOw1 c0 c1 c2 c3 c4
        go_wp2_with fail
        refine (one_any _ s _ hV2 HMS.out).mono ?_
        rintro e w3 ⟨v3, rfl, hown3, hb3⟩
        have hW3 := hW2.trans (hb3.mono hW2.size)
        have hown := HOw2.out.below hb3
        have hle : ((l.take k).flatMap encOne).length ≤ 6422430 := by
          have h1 := enc_length _ HM.out
          have h2 : (l.take k).length ≤ 65535 := by rw [List.length_take]; omega
          omega
        have hle2 : (encOne s).length ≤ 98 := by
          have h1 := encOne_length s
          have h2 := may_bounds HMS.out
          omega
        go_wp2_with (at_builtin; refine wpList_append_v _ byteT rfl _ _ rfl w.heap.size _ _ rfl hown v3 _ rfl hown3.bs ?c1 hW3.size ?_)
        case c1 =>
          rw [List.length_append, bet_length]
          omega
        intro v4 w4 hown4 hg4 _
        go_wp2_with fail
        refine ⟨⟨k + 1, by omega, by go_num, ?_, hW3.grown hg4 hW3.size hown.ge, Lib.hid ?_⟩, by simp [intOf]; omega⟩
        · rw [HT.out, List.flatMap_append, ← List.append_assoc]
          simpa using hown4
        · rw [HT.out, List.all_append, HM.out]
          simp [HMS.out]
    · have hkk : k = l.length := by omega
      subst hkk
      rw [List.take_length] at hown HM
      have HOw := Lib.hid hown
      clear hown hSs hlt
      go_wp2_with fail
      go_ret2
      refine ⟨_, _, rfl, ⟨fun h => ?_, fun _ => ⟨rfl, HOw.out⟩⟩, hB⟩
      rw [HM.out] at h
      cases h

structure Grow (w0 W : World) (base gb : Nat) (t : TypeId) (cs : Array Value) (V : Value) (L : List UInt8) : Prop where
  own : Own W base 5 V L
  blk : Blk W gb t cs
  bel : Below base w0 W
  le : base ≤ W.heap.size
  sep : V.ownBlock ≠ some gb
section
variable {w0 W W' : World} {base gb : Nat} {t : TypeId} {cs : Array Value} {V V' : Value} {L L' : List UInt8}
theorem Grow.next (h : Grow w0 W base gb t cs V L) (hb : Below W.heap.size W W') : Grow w0 W' base gb t cs V L :=
  ⟨h.own.below hb, h.blk.below hb h.blk.lt, h.bel.trans (hb.mono h.le), Nat.le_trans h.le hb.size, h.sep⟩
theorem Grow.app (h : Grow w0 W base gb t cs V L) (ho : Own W' base 5 V' L') (hg : W.grownBy W' V.ownBlock) (hv : V'.ownBlock = V.ownBlock ∨ V'.ownBlock = some W.heap.size) : Grow w0 W' base gb t cs V' L' := by
  refine ⟨ho, h.blk.grown hg (fun e => h.sep e.symm), h.bel.grown hg h.le h.own.ge, Nat.le_trans h.le hg.size, ?_⟩
  rcases hv with e | e
  · rw [e]; exact h.sep
  · rw [e]
    intro e'
    injection e' with e'
    have := h.blk.lt
    omega
end

set_option maxRecDepth 100000 in
set_option maxHeartbeats 3200000 in
theorem SBytes_any (v : Value) (l : List Sn) (w : World) (h : Ss w v l) (hl : l.length ≤ 65535) (hm : l.all mayB = true) :
    Calls Tryz.prog 136 #[v] w fun e w' => ∃ x, e = .returned x ∧ Own w' w.heap.size 5 x (encS l) ∧ Below w.heap.size w w' := by
  obtain ⟨A, c, rfl, hc1, hc2⟩ := h.form
  have H := Lib.hid h
  have HM := Lib.hid hm
  clear h hm
  go_enter Tryz.func136, Tryz.ntmps136
  go_wp2_with fail
  refine (Bytes_any _ _ _ (by omega) (by omega) (by omega) (by omega)).mono ?_
  rintro e w1 ⟨v1, rfl, hown1, hb1⟩
  have ho1 : Own w1 w.heap.size 5 v1 (bet l.length 2) := by simpa using hown1
  have HO := Lib.hid ho1
  clear hown1 ho1
  go_wp2_with fail
  go_loopw [3, 4] (fun bv i wr => ∃ k : Nat, k ≤ l.length ∧ i = .int .i64 k ∧ Own wr w.heap.size 5 bv (bet l.length 2 ++ (l.take k).flatMap encOne) ∧ Below w.heap.size w wr) (fun _ i _ => l.length - (intOf i).toNat)
  case atStart => exact ⟨0, Nat.zero_le _, rfl, by simpa using HO.out, hb1⟩
  case round =>
    obtain ⟨k, hk, rfl, hown, hB⟩ := hrel
    by_cases hlt : k < l.length
    · obtain ⟨s, hks⟩ : ∃ s, l[k]? = some s := ⟨_, List.getElem?_eq_getElem hlt⟩
      obtain ⟨g, o, d, rfl, hg, c0, c1, c2, c3, c4, hd, hok⟩ := H.out.cells hks
      replace c0 := (hB.cell (p := ⟨g, o + k * 5, none⟩) hg).trans c0
      replace c1 := (hB.cell (p := ⟨g, o + k * 5 + 1, none⟩) hg).trans c1
      replace c2 := (hB.cell (p := ⟨g, o + k * 5 + 2, none⟩) hg).trans c2
      replace c3 := (hB.cell (p := ⟨g, o + k * 5 + 3, none⟩) hg).trans c3
      replace c4 := (hB.cell (p := ⟨g, o + k * 5 + 4, none⟩) hg).trans c4
      have HD := Lib.hid hd
      obtain ⟨A', c', rfl, hd1, hd2, hdr⟩ := hd
      obtain ⟨o1, o2, o3, o4, o5, o6, o7, o8⟩ := hok
      have hms : mayB s = true := by
        have := HM.out
        rw [List.all_eq_true] at this
        exact this s (List.mem_of_getElem? hks)
      obtain ⟨m1, m2, m3, m4⟩ := may_bounds hms
      have hle : ((l.take k).flatMap encOne).length ≤ 6422430 := by
        have h1 := enc_length (l.take k) (by
          have := HM.out
          rw [List.all_eq_true] at this ⊢
          exact fun x hx => this x (List.mem_of_mem_take hx))
        have h2 : (l.take k).length ≤ 65535 := by rw [List.length_take]; omega
        omega
      have G0 : Grow w (wr.alloc (.cells #[.int .u64 s.tr, .int .u64 s.id, .int .i64 s.st, .int .i64 s.en, .slice A' s.data.length c'] 87)) w.heap.size wr.heap.size 87 #[.int .u64 s.tr, .int .u64 s.id, .int .i64 s.st, .int .i64 s.en, .slice A' s.data.length c'] u3 (bet l.length 2 ++ (l.take k).flatMap encOne) :=
        ⟨hown.alloc _, Blk.new _ _ _, hB.alloc hB.size _, by have := hB.size; simp; omega, fun e => by have := (World.ownsRow.lt hown _ e).2; omega⟩
      have HT := Lib.hid (take_snoc_of hks)
      have T1 : s.tr < 18446744073709551616 := by omega
      have T2 : s.id < 18446744073709551616 := by omega
      have HT1 := Lib.hid T1
      have HT2 := Lib.hid T2
      clear hown hks hms hdr o2 o4 T1 T2
      go_wp2_with fail
      refine (Bytes_any _ _ _ (by omega) (by omega) o1 HT1.out).mono ?_
      rintro e x1 ⟨y1, rfl, ho1, hb1⟩
      replace G0 := G0.next hb1
      go_wp2_with (at_builtin; refine wpList_append_v _ byteT rfl _ _ rfl w.heap.size _ _ rfl G0.own y1 _ rfl ho1.bs ?c1 G0.le ?_)
      case c1 => simp only [List.length_append, bet_length]; omega
      intro z1 x2 hz1 hg1 hv1
      replace G0 := G0.app hz1 hg1 hv1
      have d1 := G0.blk.cell 1
      simp at d1
      clear hb1 ho1 hz1 hg1 hv1 c0 c1 c2 c3 c4
      go_wp2_with fail
      refine (Bytes_any _ _ _ (by omega) (by omega) o3 HT2.out).mono ?_
      rintro e x3 ⟨y2, rfl, ho2, hb2⟩
      replace G0 := G0.next hb2
      go_wp2_with (at_builtin; refine wpList_append_v _ byteT rfl _ _ rfl w.heap.size _ _ rfl G0.own y2 _ rfl ho2.bs ?c2 G0.le ?_)
      case c2 => simp only [List.length_append, bet_length]; omega
      intro z2 x4 hz2 hg2 hv2
      replace G0 := G0.app hz2 hg2 hv2
      have d2 := G0.blk.cell 2
      simp at d2
      clear hb2 ho2 hz2 hg2 hv2 d1
      go_wp2_with fail
      refine (Bytes_any _ _ _ (by omega) (by omega) m1 (by omega)).mono ?_
      rintro e x5 ⟨y3, rfl, ho3, hb3⟩
      replace G0 := G0.next hb3
      go_wp2_with (at_builtin; refine wpList_append_v _ byteT rfl _ _ rfl w.heap.size _ _ rfl G0.own y3 _ rfl ho3.bs ?c3 G0.le ?_)
      case c3 => simp only [List.length_append, bet_length]; omega
      intro z3 x6 hz3 hg3 hv3
      replace G0 := G0.app hz3 hg3 hv3
      have d3 := G0.blk.cell 3
      simp at d3
      clear hb3 ho3 hz3 hg3 hv3 d2
      go_wp2_with fail
      refine (Bytes_any _ _ _ (by omega) (by omega) (by omega) (by omega)).mono ?_
      rintro e x7 ⟨y4, rfl, ho4, hb4⟩
      replace G0 := G0.next hb4
      go_wp2_with (at_builtin; refine wpList_append_v _ byteT rfl _ _ rfl w.heap.size _ _ rfl G0.own y4 _ rfl ho4.bs ?c4 G0.le ?_)
      case c4 => simp only [List.length_append, bet_length]; omega
      intro z4 x8 hz4 hg4 hv4
      replace G0 := G0.app hz4 hg4 hv4
      have d4 := G0.blk.cell 4
      simp at d4
      clear hb4 ho4 hz4 hg4 hv4 d3
      go_wp2_with fail
      refine (Text_any s.data _ _ (by omega) (HD.out.below G0.bel)).mono ?_
      rintro e x9 ⟨y5, rfl, ho5, hb5⟩
      replace G0 := G0.next hb5
      go_wp2_with (at_builtin; refine wpList_append_v _ byteT rfl _ _ rfl w.heap.size _ _ rfl G0.own y5 _ rfl ho5.bs ?c5 G0.le ?_)
      case c5 => simp only [List.length_append, bet_length]; omega
      intro z5 x10 hz5 hg5 hv5
      replace G0 := G0.app hz5 hg5 hv5
      clear hb5 ho5 hz5 hg5 hv5 d4
      go_wp2_with fail
      refine ⟨⟨k + 1, by omega, by go_num, ?_, G0.bel⟩, by simp [intOf]; omega⟩
      rw [HT.out, List.flatMap_append]
      have := G0.own
      simpa [encOne] using this
    · have hkk : k = l.length := by omega
      subst hkk
      rw [List.take_length] at hown
      have HOw := Lib.hid hown
      clear hown hlt
      go_wp2_with fail
      go_ret
      exact ⟨_, rfl, HOw.out, hB⟩

def wp8 (l : List UInt8) (x : Nat × Bool) : Nat × Bool := (wNext l x.1 x.2 8, !wordOk l x.1 x.2 8)
def wo8 (l : List UInt8) (x : Nat × Bool) : Nat := wOut l x.1 x.2 8
def rdSpan (most : Int) (l : List UInt8) (x : Nat × Bool) : Sn :=
  ⟨wo8 l x, wo8 l (wp8 l x), wrap64 (wo8 l (wp8 l (wp8 l x))), wrap64 (wo8 l (wp8 l (wp8 l (wp8 l x)))), tOut l (wp8 l (wp8 l (wp8 l (wp8 l x)))).1 (wp8 l (wp8 l (wp8 l (wp8 l x)))).2 most⟩
def rdNext (most : Int) (l : List UInt8) (x : Nat × Bool) : Nat × Bool :=
  (tNext l (wp8 l (wp8 l (wp8 l (wp8 l x)))).1 (wp8 l (wp8 l (wp8 l (wp8 l x)))).2 most, !textOk l (wp8 l (wp8 l (wp8 l (wp8 l x)))).1 (wp8 l (wp8 l (wp8 l (wp8 l x)))).2 most)
def goS (most : Int) (l : List UInt8) : Nat → Nat → Except Nat (List Sn)
  | 0, p => if p < l.length then .error p else .ok []
  | n + 1, p =>
    if (rdNext most l (p, false)).2 = true then .error (rdNext most l (p, false)).1
    else if mayB (rdSpan most l (p, false)) = false then .error p
    else match goS most l n (rdNext most l (p, false)).1 with
      | .ok r => .ok (rdSpan most l (p, false) :: r)
      | .error e => .error e
def getS (most : Int) (l : List UInt8) : Except Nat (List Sn) := if wordOk l 0 false 2 = true then goS most l (wOut l 0 false 2) (wNext l 0 false 2) else .error 0
def prep (acc : List Sn) : Except Nat (List Sn) → Except Nat (List Sn)
  | .ok r => .ok (acc ++ r)
  | .error e => .error e

theorem wo8_lt (l : List UInt8) (x : Nat × Bool) : wo8 l x < 18446744073709551616 := by
  unfold wo8 wOut
  split
  · exact num_lt8 _ (by simp [List.length_take]; omega)
  · omega

theorem place_any (g : Nat) (v : Value) (l : List UInt8) (p : Nat) (bad : Bool) (w : World) (h : WR w g v l p bad) :
    Calls Tryz.prog 147 #[v, .pointer (some ⟨g, 0, none⟩)] w fun e w' => e = .returned (.int .i64 (p : Int)) ∧ ∃ n, w' = w.drewN n := by
  obtain ⟨A, c, rfl, hc1, hc2, hr⟩ := h.bs
  have hle := h.le
  go_enter Tryz.func147, Tryz.ntmps147
  go_wp2_with fail
  refine (left_any _ _ _ _ _ _ h).mono ?_
  rintro e w1 ⟨rfl, n, rfl⟩
  go_wp2_with fail
  go_ret
  exact ⟨ret_int (by omega), n, rfl⟩

theorem amiss_any (at_ : Int) (w : World) :
    Calls Tryz.prog 150 #[.int .i64 at_] w fun e w' => ∃ v, e = .returned v ∧ Sp w' v at_ 2 ∧ Below w.heap.size w w' := by
  go_enter Tryz.func150, Tryz.ntmps150
  go_wp2_with fail
  go_ret
  exact ⟨_, rfl, ⟨_, rfl, Blk.new _ _ _⟩, (Below.refl _ _).alloc (Nat.le_refl _) _⟩

def nextMost : Int := 65535

theorem word8 (g : Nat) (v : Value) (l : List UInt8) (x : Nat × Bool) (w : World) (h : WR w g v l x.1 x.2) :
    Calls Tryz.prog 85 #[.pointer (some ⟨g, 0, none⟩), .int .i64 8] w fun e w' => e = .returned (.int .u64 (wo8 l x)) ∧ WR w' g v l (wp8 l x).1 (wp8 l x).2 ∧ w.grownBy w' (some g) := word_all g v l x.1 x.2 8 w h

set_option maxRecDepth 100000 in
set_option maxHeartbeats 1600000 in
theorem next_any (g : Nat) (v : Value) (l : List UInt8) (x : Nat × Bool) (w : World) (h : WR w g v l x.1 x.2) :
    Calls Tryz.prog 148 #[.pointer (some ⟨g, 0, none⟩)] w fun e w' => ∃ d, e = .returned (.agg #[.int .u64 (rdSpan nextMost l x).tr, .int .u64 (rdSpan nextMost l x).id, .int .i64 (rdSpan nextMost l x).st, .int .i64 (rdSpan nextMost l x).en, d]) ∧
      Own w' w.heap.size 5 d (rdSpan nextMost l x).data ∧ WR w' g v l (rdNext nextMost l x).1 (rdNext nextMost l x).2 ∧ w.grownBy w' (some g) := by
  have hlt := h.blk.lt
  have hG := grown_of_below ((Below.refl w.heap.size w).alloc (Nat.le_refl _) (.cells #[.int .u64 0, .int .u64 0, .int .i64 0, .int .i64 0, .slice none 0 0] 87)) (some g)
  have hBl := Blk.new w 87 #[.int .u64 0, .int .u64 0, .int .i64 0, .int .i64 0, .slice none 0 0]
  have hne : some w.heap.size ≠ some g := by intro e; injection e; omega
  have HBL := Lib.hid hBl
  clear hBl
  go_enter Tryz.func148, Tryz.ntmps148
  go_wp2_with fail
  refine (word8 g v l x _ (h.alloc _)).mono ?_
  rintro e w1 ⟨rfl, h1, g1⟩
  go_wp2_with fail
  refine (word8 g v l _ _ h1).mono ?_
  rintro e w2 ⟨rfl, h2, g2⟩
  go_wp2_with fail
  refine (word8 g v l _ _ h2).mono ?_
  rintro e w3 ⟨rfl, h3, g3⟩
  go_wp2_with fail
  refine (word8 g v l _ _ h3).mono ?_
  rintro e w4 ⟨rfl, h4, g4⟩
  go_wp2_with fail
  refine (rtext_all g v l _ _ _ _ h4).mono ?_
  rintro e w5 ⟨d, rfl, hown, h5, g5⟩
  have hG4 := grown_trans (grown_trans (grown_trans (grown_trans hG g1) g2) g3) g4
  have hG5 := grown_trans hG4 g5
  have hz4 := hG4.size
  have hB4 := (((HBL.out.grown g1 hne).grown g2 hne).grown g3 hne).grown g4 hne
  have hB5 := hB4.grown g5 hne
  have f0 := hB5.frozen 0
  have f1 := hB5.frozen 1
  have f2 := hB5.frozen 2
  have f3 := hB5.frozen 3
  have f4 := hB5.frozen 4
  have c0 := hB5.cell 0
  have c1 := hB5.cell 1
  have c2 := hB5.cell 2
  have c3 := hB5.cell 3
  have c4 := hB5.cell 4
  simp at c0 c1 c2 c3 c4
  have hlB4 := hB4.lt
  obtain ⟨A', c', hdv, _⟩ := hown.form
  have HOW := Lib.hid hown
  clear hG g1 g2 g3 g4 g5 h1 h2 h3 h4 HBL hown
  subst hdv
  go_wp2_with fail
  have HB6 := Lib.hid (((((hB5.set_ 0 (.int .u64 (wo8 l x))).set_ 1 (.int .u64 (wo8 l (wp8 l x)))).set_ 2 (.int .i64 (wrap64 (wo8 l (wp8 l (wp8 l x)))))).set_ 3 (.int .i64 (wrap64 (wo8 l (wp8 l (wp8 l (wp8 l x))))))).set_ 4 (.slice A' (tOut l (wp8 l (wp8 l (wp8 l (wp8 l x)))).fst (wp8 l (wp8 l (wp8 l (wp8 l x)))).snd 65535).length c'))
  have HG6 := Lib.hid (grown_trans (grown_trans (grown_trans (grown_trans (grown_set w5 w.heap.size 0 (.int .u64 (wo8 l x))) (grown_set _ w.heap.size 1 (.int .u64 (wo8 l (wp8 l x))))) (grown_set _ w.heap.size 2 (.int .i64 (wrap64 (wo8 l (wp8 l (wp8 l x))))))) (grown_set _ w.heap.size 3 (.int .i64 (wrap64 (wo8 l (wp8 l (wp8 l (wp8 l x)))))))) (grown_set _ w.heap.size 4 (.slice A' (tOut l (wp8 l (wp8 l (wp8 l (wp8 l x)))).fst (wp8 l (wp8 l (wp8 l (wp8 l x)))).snd 65535).length c')))
  revert HB6 HG6
  generalize ((((w5.setCell ⟨w.heap.size, 0, none⟩ _).setCell ⟨w.heap.size, 1, none⟩ _).setCell ⟨w.heap.size, 2, none⟩ _).setCell ⟨w.heap.size, 3, none⟩ _).setCell ⟨w.heap.size, 4, none⟩ _ = w6
  intro HB6 HG6
  have k0 := HB6.out.cell 0
  have k1 := HB6.out.cell 1
  have k2 := HB6.out.cell 2
  have k3 := HB6.out.cell 3
  have k4 := HB6.out.cell 4
  simp at k0 k1 k2 k3 k4
  have hvn : l ≠ [] → v.ownBlock ≠ some w.heap.size := fun hl e => by
    obtain ⟨k, hk, hk'⟩ := h.bs.block hl
    rw [e] at hk
    injection hk
    omega
  refine bodyPost_ret (v := .agg #[.int .u64 (wo8 l x), .int .u64 (wo8 l (wp8 l x)), .int .i64 (wrap64 (wo8 l (wp8 l (wp8 l x)))), .int .i64 (wrap64 (wo8 l (wp8 l (wp8 l (wp8 l x))))), .slice A' (tOut l (wp8 l (wp8 l (wp8 l (wp8 l x)))).fst (wp8 l (wp8 l (wp8 l (wp8 l x)))).snd 65535).length c']) (by simp [results, Tryz.results148, go_sem, k0, k1, k2, k3, k4]) rfl ⟨_, rfl, ?_, ?_, ?_⟩
  · exact (HOW.out.kept HG6.out (.inr (HOW.out.ne_ hlB4))).lower hz4
  · exact h5.grown HG6.out (fun e => hne e.symm) hvn
  · exact ⟨HG6.out.os.trans hG5.os, HG6.out.tape.trans hG5.tape, HG6.out.output.trans hG5.output, Nat.le_trans hG5.size HG6.out.size, fun i hi hn => (HG6.out.block i (Nat.lt_of_lt_of_le hi hG5.size) (by intro e; injection e; omega)).trans (hG5.block i hi hn)⟩

theorem spCells_one (s : Sn) (d : Value) {w : World} {base : Nat} (hd : Own w base 5 d s.data) : ∀ y ∈ [spCells s d], ∀ u ∈ y, u.oneCell' = true := by
  obtain ⟨A, c, rfl, _⟩ := hd.form
  intro y hy u hu
  simp only [List.mem_singleton] at hy
  subst hy
  simp only [spCells, List.mem_cons, List.not_mem_nil, or_false] at hu
  rcases hu with rfl | rfl | rfl | rfl | rfl <;> rfl

theorem wpList_append_span (w : World) {ops : Array Oper} {rest : List Oper} {o : Oper} {a : Act} {Q : Exit → Act → World → Prop} (hgd : o.guard = none) (sx x : Operand)
    (ho : o.op = .call { callee := .builtin .append, args := #[sx, x], argTypes := #[41, 41] })
    (base : Nat) (v : Value) (l : List Sn) (s : Sn) (d : Value) (hs : a.eval sx = v) (hacc : Acc w base v l) (V : Value) (hx : a.eval x = V) (hV : Lv 5 w V [spCells s d]) (hok : s.ok) (hd : Own w base 5 d s.data) (hsep : d.ownBlock = none ∨ d.ownBlock ≠ v.ownBlock)
    (hl : l.length ≤ 100000) (hbase : base ≤ w.heap.size)
    (h : ∀ v' w', Acc w' base v' (l ++ [s]) → w.grownBy w' v.ownBlock → wpList Tryz.prog ops Q rest (a.put o.dst v') w') : wpList Tryz.prog ops Q (o :: rest) a w := by
  obtain ⟨xs, h1, h2⟩ := hacc.is
  have hlen := h2.len
  refine wpList_append_elems w spanT hgd sx x ho base v xs hs h1 V _ hx hV (spCells_one s d hd) (by simp [maxLen]; omega) (by simp; omega) hbase ?_
  intro v' w' hown hg hv
  refine h v' w' ⟨_, hown, ?_⟩ hg
  have key : ∀ d' : Value, ∀ k : List UInt8, Own w base 5 d' k → (d'.ownBlock = none ∨ d'.ownBlock ≠ v.ownBlock) → (d'.ownBlock = none ∨ d'.ownBlock ≠ v'.ownBlock) := by
    intro d' k hd' hs'
    rcases hs' with h0 | h0
    · exact .inl h0
    · rcases hv with e | e
      · rw [e]; exact .inr h0
      · rw [e]
        right
        intro e'
        have := (World.ownsRow.lt hd' _ e').2
        omega
  refine Two.snoc (h2.mono fun s x hx => ?_) ⟨hok, d, rfl, hd.kept hg hsep, key d _ hd hsep⟩
  obtain ⟨ho, d', hx, hd', hs'⟩ := hx
  exact ⟨ho, d', hx, hd'.kept hg hs', key d' _ hd' hs'⟩

theorem goS_bad {most : Int} {l : List UInt8} {p m : Nat} (h : (rdNext most l (p, false)).2 = true) : goS most l (m + 1) p = .error (rdNext most l (p, false)).1 := by
  rw [goS, if_pos h]
theorem goS_may {most : Int} {l : List UInt8} {p m : Nat} (h : (rdNext most l (p, false)).2 = false) (h' : mayB (rdSpan most l (p, false)) = false) : goS most l (m + 1) p = .error p := by
  rw [goS, if_neg (by rw [h]; simp), if_pos h']
theorem goS_go {most : Int} {l : List UInt8} {p m : Nat} (h : (rdNext most l (p, false)).2 = false) (h' : mayB (rdSpan most l (p, false)) = true) : goS most l (m + 1) p = prep [rdSpan most l (p, false)] (goS most l m (rdNext most l (p, false)).1) := by
  rw [goS, if_neg (by rw [h]; simp), if_neg (by rw [h']; simp)]
  cases goS most l m (rdNext most l (p, false)).1 <;> rfl
theorem prep_prep (a b : List Sn) (r : Except Nat (List Sn)) : prep a (prep b r) = prep (a ++ b) r := by
  cases r <;> simp [prep]

structure GetA (w : World) (base : Nat) (r : Except Nat (List Sn)) (x e : Value) : Prop where
  no : ∀ p, r = .error p → x = .slice none 0 0 ∧ Sp w e p 2
  yes : ∀ l, r = .ok l → e = .nilIface ∧ Acc w (base + 1) x l

theorem bad_true (g : Nat) (v : Value) (l : List UInt8) (p : Nat) (w : World) (h : WR w g v l p true) :
    Calls Tryz.prog 91 #[.pointer (some ⟨g, 0, none⟩)] w fun e w' => e = .returned (.int .i64 p) ∧ w = w' := bad_any g v l p true w h
theorem bad_false (g : Nat) (v : Value) (l : List UInt8) (p : Nat) (w : World) (h : WR w g v l p false) :
    Calls Tryz.prog 91 #[.pointer (some ⟨g, 0, none⟩)] w fun e w' => e = .returned (.int .i64 (-1)) ∧ w = w' := bad_any g v l p false w h

theorem rdSpan_ok (most : Int) (l : List UInt8) (x : Nat × Bool) : (rdSpan most l x).ok := by
  have h1 := wo8_lt l x
  have h2 := wo8_lt l (wp8 l x)
  refine ⟨by simp [rdSpan], by simp only [rdSpan]; omega, by simp [rdSpan], by simp only [rdSpan]; omega, ?_, ?_, ?_, ?_⟩ <;> simp only [rdSpan, wrap64] <;> omega

theorem wOut2_lt (l : List UInt8) : wOut l 0 false 2 < 65536 := by
  unfold wOut
  split
  · exact tsize_lt l 0
  · omega

set_option maxRecDepth 100000 in
set_option maxHeartbeats 3200000 in
theorem sget_acc (v : Value) (b : List UInt8) (w : World) (h : Bs w v b) (_hl : b.length ≤ 140737488355328) :
    Calls Tryz.prog 123 #[v] w fun e w' => ∃ x er, e = .returned (.tuple #[x, er]) ∧ GetA w' w.heap.size (getS nextMost b) x er ∧ Below w.heap.size w w' := by
  go_enter Tryz.func123, Tryz.ntmps123
  go_wp2_with fail
  refine (read_any v b _ h).mono ?_
  rintro e w1 ⟨rfl, hW1, hb1⟩
  go_wp2_with fail
  refine (word_all _ v b _ _ _ _ hW1).mono ?_
  rintro e w2 ⟨rfl, hW2, hg2⟩
  have hB2 : Below w.heap.size w w2 := hb1.grown hg2 hb1.size (by intro k hk; injection hk; omega)
  have hn := wOut2_lt b
  obtain ⟨n, hne⟩ : ∃ n, n = wOut b 0 false 2 := ⟨_, rfl⟩
  rw [← hne] at hn
  have hwt : wrap64 (n : Int) = (n : Int) := IntWalk.wrap64_in _ ⟨by omega, by omega⟩
  rw [← hne]
  have HNE := Lib.hid hne
  clear hne hW1 hg2 hb1
  cases hk : wordOk b 0 false 2 with
  | false =>
    have HK := Lib.hid hk
    have hn0 : n = 0 := by rw [HNE.out, wOut, if_neg (by rw [hk]; simp)]
    have hp0 : wNext b 0 false 2 = 0 := by rw [wNext, if_neg (by rw [hk]; simp)]
    rw [hk, hp0] at hW2
    subst hn0
    clear hk hp0 hwt HNE hn
    go_wp2_with fail
    refine wp_loop_rounds 1 ?_
    rw [rounds_succ]
    go_wp2_with fail
    refine (bad_true _ _ _ _ _ hW2).mono ?_
    rintro e w3 ⟨rfl, rfl⟩
    go_wp2_with fail
    refine (bad_true _ _ _ _ _ hW2).mono ?_
    rintro e w3 ⟨rfl, rfl⟩
    go_wp2_with fail
    refine (amiss_any _ _).mono ?_
    rintro e w3 ⟨ev, rfl, hsp, hb3⟩
    go_wp2_with fail
    go_ret2
    refine ⟨_, _, rfl, ⟨fun p hp => ?_, fun l hl => ?_⟩, hB2.trans (hb3.mono hB2.size)⟩
    · rw [getS, if_neg (by rw [HK.out]; simp)] at hp
      injection hp with hp
      subst hp
      exact ⟨rfl, hsp⟩
    · rw [getS, if_neg (by rw [HK.out]; simp)] at hl
      cases hl
  | true =>
    have HK := Lib.hid hk
    rw [hk] at hW2
    clear hk
    go_wp2_with fail
    clear hwt
    go_loopw [6, 15] (fun lv i wr => ∃ (k p : Nat) (acc : List Sn), k ≤ n ∧ i = .int .i64 k ∧ acc.length = k ∧ WR wr w.heap.size v b p false ∧ Acc wr (w.heap.size + 1) lv acc ∧ Below w.heap.size w wr ∧ Hid (getS nextMost b = prep acc (goS nextMost b (n - k) p))) (fun _ i _ => n - (intOf i).toNat)
    case atStart =>
      refine ⟨0, _, [], Nat.zero_le _, rfl, rfl, hW2, Acc.nil _ _, hB2, Lib.hid ?_⟩
      rw [getS, if_pos HK.out, ← HNE.out]
      simp only [Nat.sub_zero]
      cases goS nextMost b n (wNext b 0 false 2) <;> rfl
    case round =>
      obtain ⟨k, p, acc, hk, rfl, hacl, hW, hA, hB, HG⟩ := hrel
      clear hW2 hB2
      by_cases hlt : k < n
      · obtain ⟨m, hm⟩ : ∃ m, n - k = m + 1 := ⟨n - k - 1, by omega⟩
        rw [hm] at HG
        have hm' : n - (k + 1) = m := by omega
        have HMM := Lib.hid hm'
        have HACL := Lib.hid hacl
        have hacl' : acc.length ≤ 100000 := by omega
        clear hm hm' hacl
        have hWlt := hW.blk.lt
        have hzB := hB.size
        go_wp2_with fail
        refine (place_any _ _ _ _ _ _ hW).mono ?_
        rintro e w3 ⟨rfl, n3, rfl⟩
        go_wp2_with fail
        refine (next_any _ v b (p, false) _ (hW.drewN n3)).mono ?_
        rintro e w4 ⟨d, rfl, hd4, hW4, hg4⟩
        have hA4 := (hA.drewN n3).grown hg4 (by omega)
        have hB4 : Below w.heap.size w w4 := (below_drewN hB n3).grown hg4 (show w.heap.size ≤ wr.heap.size from hzB) (by intro q hq; injection hq; omega)
        have hz4 := hg4.size
        have hsep : d.ownBlock = none ∨ d.ownBlock ≠ u6.ownBlock := by
          cases hdo : d.ownBlock with
          | none => exact .inl rfl
          | some q =>
            right
            intro e
            have h1 := (hA.lt q e.symm).2
            have h2 := hd4.ge q hdo
            have h3 : (wr.drewN n3).heap.size = wr.heap.size := rfl
            omega
        have hd5 := hd4.lower (base' := w.heap.size + 1) (show w.heap.size + 1 ≤ wr.heap.size from hWlt)
        have hok := rdSpan_ok nextMost b (p, false)
        clear hd4 hA hB hg4 hW
        cases hbd : (rdNext nextMost b (p, false)).2 with
        | true =>
          rw [hbd] at hW4
          rw [goS_bad hbd] at HG
          obtain ⟨q, hq⟩ : ∃ q, q = (rdNext nextMost b (p, false)).1 := ⟨_, rfl⟩
          rw [← hq] at hW4 HG
          obtain ⟨A', c', hdv, _⟩ := hd5.form
          clear hbd hq hsep hA4 hok
          subst hdv
          generalize rdSpan nextMost b (p, false) = s at *
          have hb5 : Below w.heap.size w (w4.alloc (.cells #[.int .u64 s.tr, .int .u64 s.id, .int .i64 s.st, .int .i64 s.en, .slice A' s.data.length c'] 87)) := hB4.alloc hB4.size _
          have hW5 := hW4.alloc (.cells #[.int .u64 s.tr, .int .u64 s.id, .int .i64 s.st, .int .i64 s.en, .slice A' s.data.length c'] 87)
          clear hd5 hW4 hB4
          go_wp2_with fail
          refine (bad_true _ _ _ _ _ hW5).mono ?_
          rintro e w6 ⟨rfl, rfl⟩
          go_wp2_with fail
          refine (bad_true _ _ _ _ _ hW5).mono ?_
          rintro e w6 ⟨rfl, rfl⟩
          go_wp2_with fail
          refine (bad_true _ _ _ _ _ hW5).mono ?_
          rintro e w6 ⟨rfl, rfl⟩
          go_wp2_with fail
          refine (amiss_any _ _).mono ?_
          rintro e w7 ⟨ev, rfl, hsp, hb7⟩
          go_wp2_with fail
          go_ret2
          refine ⟨_, _, rfl, ⟨fun p' hp => ?_, fun l hl => ?_⟩, hb5.trans (hb7.mono hb5.size)⟩
          · rw [HG.out] at hp
            injection hp with hp
            subst hp
            exact ⟨rfl, hsp⟩
          · rw [HG.out] at hl
            cases hl
        | false =>
          rw [hbd] at hW4
          cases hm : mayB (rdSpan nextMost b (p, false)) with
          | false =>
            rw [goS_may hbd hm] at HG
            have HMS := Lib.hid hm
            obtain ⟨A', c', hdv, hdf⟩ := hd5.form
            clear hbd hm hsep hA4
            subst hdv
            generalize (rdNext nextMost b (p, false)).1 = q at *
            generalize rdSpan nextMost b (p, false) = s at *
            have hb5 : Below w.heap.size w (w4.alloc (.cells #[.int .u64 s.tr, .int .u64 s.id, .int .i64 s.st, .int .i64 s.en, .slice A' s.data.length c'] 87)) := hB4.alloc hB4.size _
            have hW5 := hW4.alloc (.cells #[.int .u64 s.tr, .int .u64 s.id, .int .i64 s.st, .int .i64 s.en, .slice A' s.data.length c'] 87)
            have hV : SV (w4.alloc (.cells #[.int .u64 s.tr, .int .u64 s.id, .int .i64 s.st, .int .i64 s.en, .slice A' s.data.length c'] 87)) (.agg #[.int .u64 s.tr, .int .u64 s.id, .int .i64 s.st, .int .i64 s.en, .slice A' s.data.length c']) s := ⟨hok, _, rfl, (hd5.alloc _).bs⟩
            clear hd5 hW4 hB4 hdf
            go_wp2_with fail
            refine (bad_false _ _ _ _ _ hW5).mono ?_
            rintro e w6 ⟨rfl, rfl⟩
            go_wp2_with fail
            refine (may_any _ s _ hV).mono ?_
            rintro e w6 ⟨rfl, hb6⟩
            rw [HMS.out]
            have hb66 := hb5.trans (hb6.mono hb5.size)
            go_wp2_with fail
            refine (amiss_any _ _).mono ?_
            rintro e w7 ⟨ev, rfl, hsp, hb7⟩
            go_wp2_with fail
            go_ret2
            refine ⟨_, _, rfl, ⟨fun p' hp => ?_, fun l hl => ?_⟩, hb66.trans (hb7.mono hb66.size)⟩
            · rw [HG.out] at hp
              injection hp with hp
              subst hp
              exact ⟨rfl, hsp⟩
            · rw [HG.out] at hl
              cases hl
          | true =>
            rw [goS_go hbd hm, prep_prep] at HG
            have HMS := Lib.hid hm
            obtain ⟨A', c', hdv, hdf⟩ := hd5.form
            clear hbd hm
            subst hdv
            generalize (rdNext nextMost b (p, false)).1 = q at *
            generalize rdSpan nextMost b (p, false) = s at *
            have hBl5 := Blk.new w4 87 #[.int .u64 s.tr, .int .u64 s.id, .int .i64 s.st, .int .i64 s.en, .slice A' s.data.length c']
            have hb5 : Below w.heap.size w (w4.alloc (.cells #[.int .u64 s.tr, .int .u64 s.id, .int .i64 s.st, .int .i64 s.en, .slice A' s.data.length c'] 87)) := hB4.alloc hB4.size _
            have hW5 := hW4.alloc (.cells #[.int .u64 s.tr, .int .u64 s.id, .int .i64 s.st, .int .i64 s.en, .slice A' s.data.length c'] 87)
            have hA5 := hA4.below ((Below.refl w4.heap.size w4).alloc (Nat.le_refl _) (.cells #[.int .u64 s.tr, .int .u64 s.id, .int .i64 s.st, .int .i64 s.en, .slice A' s.data.length c'] 87))
            have hd6 := hd5.alloc (.cells #[.int .u64 s.tr, .int .u64 s.id, .int .i64 s.st, .int .i64 s.en, .slice A' s.data.length c'] 87)
            have hV : SV (w4.alloc (.cells #[.int .u64 s.tr, .int .u64 s.id, .int .i64 s.st, .int .i64 s.en, .slice A' s.data.length c'] 87)) (.agg #[.int .u64 s.tr, .int .u64 s.id, .int .i64 s.st, .int .i64 s.en, .slice A' s.data.length c']) s := ⟨hok, _, rfl, hd6.bs⟩
            clear hd5 hW4 hB4 hdf hA4
            go_wp2_with fail
            refine (bad_false _ _ _ _ _ hW5).mono ?_
            rintro e w6 ⟨rfl, rfl⟩
            go_wp2_with fail
            refine (may_any _ s _ hV).mono ?_
            rintro e w6 ⟨rfl, hb6⟩
            rw [HMS.out]
            have hb66 := hb5.trans (hb6.mono hb5.size)
            have hBl6 := hBl5.below hb6 hBl5.lt
            have hW6 := hW5.below hb6
            have hA6 := hA5.below hb6
            have hd7 := hd6.below hb6
            have d0 := hBl6.cell 0
            have d1 := hBl6.cell 1
            have d2 := hBl6.cell 2
            have d3 := hBl6.cell 3
            have d4 := hBl6.cell 4
            simp at d0 d1 d2 d3 d4
            have hz6 := hb66.size
            have hl6 := hW6.blk.lt
            clear hb5 hb6 hBl6 hBl5 hW5 hA5 hd6 hV
            have hA7 := hA6.below ((Below.refl w6.heap.size w6).alloc (Nat.le_refl _) (.cells #[.int .u64 s.tr, .int .u64 s.id, .int .i64 s.st, .int .i64 s.en, .slice A' s.data.length c'] 87))
            have hW7 := hW6.alloc (.cells #[.int .u64 s.tr, .int .u64 s.id, .int .i64 s.st, .int .i64 s.en, .slice A' s.data.length c'] 87)
            have hd8 := hd7.alloc (.cells #[.int .u64 s.tr, .int .u64 s.id, .int .i64 s.st, .int .i64 s.en, .slice A' s.data.length c'] 87)
            have hb8 : Below w.heap.size w (w6.alloc (.cells #[.int .u64 s.tr, .int .u64 s.id, .int .i64 s.st, .int .i64 s.en, .slice A' s.data.length c'] 87)) := hb66.alloc hz6 _
            have hLv := Lv.lit1 w6 (spCells s (.slice A' s.data.length c')) 87
            go_wp2_with (at_builtin; refine wpList_append_span _ rfl _ _ rfl (w.heap.size + 1) _ acc s _ rfl hA7 _ rfl hLv hok hd8 hsep hacl' (by simp; omega) ?_)
            intro v9 w9 hA9 hg9
            have hvn : b ≠ [] → v.ownBlock ≠ u6.ownBlock := fun hb e => by
              obtain ⟨k', hk1, hk2⟩ := h.block hb
              have := (hA7.lt k' (e ▸ hk1)).1
              omega
            have hne9 : some w.heap.size ≠ u6.ownBlock := fun e => by
              have := (hA7.lt _ e.symm).1
              omega
            go_wp2_with fail
            refine ⟨⟨k + 1, q, acc ++ [s], by omega, by go_num, by simp [HACL.out], hW7.grown hg9 hne9 hvn, hA9, hb8.grown hg9 hb8.size (fun k' hk' => by have := (hA7.lt _ hk').1; omega), Lib.hid ?_⟩, by simp [intOf]; omega⟩
            rw [HMM.out]
            exact HG.out
      · have hkn : k = n := by omega
        subst hkn
        rw [Nat.sub_self, goS] at HG
        have hWle := hW.le
        clear hlt hacl
        by_cases hp : p < b.length
        · rw [if_pos hp] at HG
          go_wp2_with fail
          refine (bad_false _ _ _ _ _ hW).mono ?_
          rintro e w6 ⟨rfl, rfl⟩
          go_wp2_with fail
          refine (left_any _ _ _ _ _ _ hW).mono ?_
          rintro e w6 ⟨rfl, n6, rfl⟩
          go_wp2_with fail
          refine (place_any _ _ _ _ _ _ (hW.drewN n6)).mono ?_
          rintro e w7 ⟨rfl, n7, rfl⟩
          go_wp2_with fail
          refine (amiss_any _ _).mono ?_
          rintro e w8 ⟨ev, rfl, hsp, hb8⟩
          go_wp2_with fail
          go_ret2
          refine ⟨_, _, rfl, ⟨fun p' hp => ?_, fun l hl => ?_⟩, hB.trans ((below_drewN_left hb8).mono hB.size)⟩
          · rw [HG.out] at hp
            injection hp with hp
            subst hp
            exact ⟨rfl, hsp⟩
          · rw [HG.out] at hl
            cases hl
        · rw [if_neg hp] at HG
          go_wp2_with fail
          refine (bad_false _ _ _ _ _ hW).mono ?_
          rintro e w6 ⟨rfl, rfl⟩
          go_wp2_with fail
          refine (left_any _ _ _ _ _ _ hW).mono ?_
          rintro e w6 ⟨rfl, n6, rfl⟩
          go_wp2_with fail
          go_ret2
          refine ⟨_, _, rfl, ⟨fun p' hp => ?_, fun l hl => ?_⟩, below_drewN hB n6⟩
          · rw [HG.out] at hp
            cases hp
          · rw [HG.out] at hl
            injection hl with hl
            subst hl
            rw [List.append_nil]
            exact ⟨rfl, hA.drewN n6⟩

theorem seg {b pre x post : List UInt8} (h : b = pre ++ (x ++ post)) : (b.drop pre.length).take x.length = x := by
  rw [h, List.drop_left, List.take_left]

theorem wordOk8 (l : List UInt8) (p : Nat) (h : p + 8 ≤ l.length) : wordOk l p false 8 = true := by
  simp only [wordOk, Bool.not_false, Bool.true_and, Bool.and_eq_true, decide_eq_true_iff]
  exact ⟨by decide, by omega⟩
theorem wp8_ok (l : List UInt8) (p : Nat) (h : p + 8 ≤ l.length) : wp8 l (p, false) = (p + 8, false) := by
  have e := wordOk8 l p h
  simp only [wp8, wNext, e, if_true, Bool.not_true]
  rfl
theorem wo8_ok (l : List UInt8) (p : Nat) (h : p + 8 ≤ l.length) : wo8 l (p, false) = num ((l.drop p).take 8) := by
  have e := wordOk8 l p h
  simp only [wo8, wOut, e, if_true]
  rfl
theorem wp8_no (l : List UInt8) (x : Nat × Bool) (h : (wp8 l x).2 = false) : x.2 = false ∧ x.1 + 8 ≤ l.length := by
  simp only [wp8, Bool.not_eq_false', wordOk, Bool.and_eq_true, decide_eq_true_iff] at h
  obtain ⟨⟨h1, _⟩, h2⟩ := h
  exact ⟨by simpa using h1, by omega⟩

theorem rd_yes (most : Int) (l : List UInt8) (p : Nat) (h1 : p + 34 + tsize l (p + 32) ≤ l.length) (h2 : (tsize l (p + 32) : Int) ≤ most) :
    rdNext most l (p, false) = (p + 34 + tsize l (p + 32), false) ∧
    rdSpan most l (p, false) = ⟨num ((l.drop p).take 8), num ((l.drop (p + 8)).take 8), wrap64 (num ((l.drop (p + 16)).take 8)), wrap64 (num ((l.drop (p + 24)).take 8)), (l.drop (p + 34)).take (tsize l (p + 32))⟩ := by
  have e1 := wp8_ok l p (by omega)
  have e2 := wp8_ok l (p + 8) (by omega)
  have e3 := wp8_ok l (p + 8 + 8) (by omega)
  have e4 := wp8_ok l (p + 8 + 8 + 8) (by omega)
  have ht : textOk l (p + 8 + 8 + 8 + 8) false most = true := by
    simp only [textOk, Bool.not_false, Bool.true_and, Bool.and_eq_true, decide_eq_true_iff]
    exact ⟨⟨by omega, by have : p + 8 + 8 + 8 + 8 = p + 32 := by omega
                         rw [this]; omega⟩, h2⟩
  constructor
  · simp only [rdNext, e1, e2, e3, e4, tNext, ht, if_true, Bool.not_true]
  · simp only [rdSpan, e1, e2, e3, e4, tOut, ht, if_true, wo8_ok l p (by omega), wo8_ok l (p + 8) (by omega), wo8_ok l (p + 8 + 8) (by omega), wo8_ok l (p + 8 + 8 + 8) (by omega)]

theorem rd_no (most : Int) (l : List UInt8) (p : Nat) (h : (rdNext most l (p, false)).2 = false) : p + 34 + tsize l (p + 32) ≤ l.length ∧ (tsize l (p + 32) : Int) ≤ most := by
  simp only [rdNext, Bool.not_eq_false', textOk, Bool.and_eq_true, decide_eq_true_iff] at h
  obtain ⟨⟨⟨hb, h2⟩, h3⟩, h4⟩ := h
  have hb4 : (wp8 l (wp8 l (wp8 l (wp8 l (p, false))))).2 = false := by simpa using hb
  obtain ⟨b3, k3⟩ := wp8_no _ _ hb4
  obtain ⟨b2, k2⟩ := wp8_no _ _ b3
  obtain ⟨b1, k1⟩ := wp8_no _ _ b2
  obtain ⟨b0, k0⟩ := wp8_no _ _ b1
  have e1 := wp8_ok l p k0
  rw [e1] at k1 k2 k3 h2 h3 h4
  have e2 := wp8_ok l (p + 8) k1
  rw [e2] at k2 k3 h2 h3 h4
  have e3 := wp8_ok l (p + 8 + 8) k2
  rw [e3] at k3 h2 h3 h4
  have e4 := wp8_ok l (p + 8 + 8 + 8) k3
  rw [e4] at h2 h3 h4
  simp only at h2 h3 h4
  have : p + 8 + 8 + 8 + 8 = p + 32 := by omega
  rw [this] at h2 h3 h4
  exact ⟨by omega, h4⟩

theorem num_bet8 (n : Int) (h0 : 0 ≤ n) (h1 : n ≤ 18446744073709551615) : ((num (bet n.toNat 8) : Nat) : Int) = n := by
  rw [num_bet 8 n.toNat (by have : (256 : Nat) ^ 8 = 18446744073709551616 := by decide
                            omega)]
  omega

theorem rd_enc (most : Int) (hm : 64 ≤ most) (pre post : List UInt8) (s : Sn) (ho : s.ok) (h : mayB s = true) :
    rdNext most (pre ++ (encOne s ++ post)) (pre.length, false) = (pre.length + (encOne s).length, false) ∧ rdSpan most (pre ++ (encOne s ++ post)) (pre.length, false) = s := by
  obtain ⟨m1, m2, m3, m4⟩ := may_bounds h
  obtain ⟨o1, o2, o3, o4, o5, o6, o7, o8⟩ := ho
  obtain ⟨b, hb⟩ : ∃ b, b = pre ++ (encOne s ++ post) := ⟨_, rfl⟩
  have hlen : b.length = pre.length + (34 + s.data.length) + post.length := by rw [hb]; simp [encOne_length]; omega
  have s1 : (b.drop pre.length).take 8 = bet s.tr.toNat 8 := by
    have := seg (b := b) (pre := pre) (x := bet s.tr.toNat 8) (post := bet s.id.toNat 8 ++ (bet s.st.toNat 8 ++ (bet s.en.toNat 8 ++ (bet s.data.length 2 ++ s.data))) ++ post) (by rw [hb]; simp [encOne])
    rwa [bet_length] at this
  have s2 : (b.drop (pre.length + 8)).take 8 = bet s.id.toNat 8 := by
    have := seg (b := b) (pre := pre ++ bet s.tr.toNat 8) (x := bet s.id.toNat 8) (post := (bet s.st.toNat 8 ++ (bet s.en.toNat 8 ++ (bet s.data.length 2 ++ s.data))) ++ post) (by rw [hb]; simp [encOne])
    rwa [bet_length, List.length_append, bet_length] at this
  have s3 : (b.drop (pre.length + 16)).take 8 = bet s.st.toNat 8 := by
    have := seg (b := b) (pre := pre ++ (bet s.tr.toNat 8 ++ bet s.id.toNat 8)) (x := bet s.st.toNat 8) (post := (bet s.en.toNat 8 ++ (bet s.data.length 2 ++ s.data)) ++ post) (by rw [hb]; simp [encOne])
    rwa [bet_length, List.length_append, List.length_append, bet_length, bet_length] at this
  have s4 : (b.drop (pre.length + 24)).take 8 = bet s.en.toNat 8 := by
    have := seg (b := b) (pre := pre ++ (bet s.tr.toNat 8 ++ (bet s.id.toNat 8 ++ bet s.st.toNat 8))) (x := bet s.en.toNat 8) (post := (bet s.data.length 2 ++ s.data) ++ post) (by rw [hb]; simp [encOne])
    rwa [bet_length, List.length_append, List.length_append, List.length_append, bet_length, bet_length, bet_length] at this
  have s5 : (b.drop (pre.length + 32)).take 2 = bet s.data.length 2 := by
    have := seg (b := b) (pre := pre ++ (bet s.tr.toNat 8 ++ (bet s.id.toNat 8 ++ (bet s.st.toNat 8 ++ bet s.en.toNat 8)))) (x := bet s.data.length 2) (post := s.data ++ post) (by rw [hb]; simp [encOne])
    rwa [bet_length, List.length_append, List.length_append, List.length_append, List.length_append, bet_length, bet_length, bet_length, bet_length] at this
  have s6 : (b.drop (pre.length + 34)).take s.data.length = s.data := by
    have := seg (b := b) (pre := pre ++ (bet s.tr.toNat 8 ++ (bet s.id.toNat 8 ++ (bet s.st.toNat 8 ++ (bet s.en.toNat 8 ++ bet s.data.length 2))))) (x := s.data) (post := post) (by rw [hb]; simp [encOne])
    rwa [List.length_append, List.length_append, List.length_append, List.length_append, List.length_append, bet_length, bet_length, bet_length, bet_length, bet_length] at this
  have ht : tsize b (pre.length + 32) = s.data.length := by
    rw [tsize, s5, num_bet 2 _ (by show _ < 65536; omega)]
  obtain ⟨r1, r2⟩ := rd_yes most b pre.length (by rw [ht]; omega) (by rw [ht]; omega)
  rw [← hb, r1, r2, ht]
  refine ⟨by rw [encOne_length, Nat.add_assoc], ?_⟩
  rw [s1, s2, s3, s4, s6, num_bet8 _ o1 o2, num_bet8 _ o3 o4, num_bet8 _ m1 (by omega), num_bet8 _ (by omega) (by omega), IntWalk.wrap64_in _ ⟨by omega, by omega⟩, IntWalk.wrap64_in _ ⟨by omega, by omega⟩]

theorem go_enc (most : Int) (hm : 64 ≤ most) : ∀ (l : List Sn) (pre : List UInt8), (∀ s ∈ l, s.ok) → l.all mayB = true → goS most (pre ++ l.flatMap encOne) l.length pre.length = .ok l
  | [], pre, _, _ => by simp [goS]
  | s :: l, pre, ho, h => by
    simp only [List.all_cons, Bool.and_eq_true] at h
    have hb : pre ++ (s :: l).flatMap encOne = pre ++ (encOne s ++ l.flatMap encOne) := by rw [List.flatMap_cons]
    obtain ⟨r1, r2⟩ := rd_enc most hm pre (l.flatMap encOne) s (ho s (List.mem_cons_self ..)) h.1
    have ih := go_enc most hm l (pre ++ encOne s) (fun x hx => ho x (List.mem_cons_of_mem _ hx)) h.2
    rw [List.append_assoc, List.length_append] at ih
    rw [hb, List.length_cons, goS, r1, r2]
    simp only [Bool.false_eq_true, if_false, h.1]
    rw [ih]
    simp

theorem get_enc (most : Int) (hm : 64 ≤ most) (l : List Sn) (hl : l.length ≤ 65535) (ho : ∀ s ∈ l, s.ok) (h : l.all mayB = true) : getS most (encS l) = .ok l := by
  have h1 : wordOk (encS l) 0 false 2 = true := by
    have : (encS l).length = 2 + (l.flatMap encOne).length := by simp [encS, bet_length]
    simp only [wordOk, Bool.not_false, Bool.true_and, Bool.and_eq_true, decide_eq_true_iff]
    exact ⟨by decide, by omega⟩
  have h2 : wOut (encS l) 0 false 2 = l.length := by
    have h3 : ((encS l).drop 0).take (2 : Int).toNat = bet l.length 2 := by
      have := seg (b := encS l) (pre := []) (x := bet l.length 2) (post := l.flatMap encOne) rfl
      rwa [bet_length] at this
    rw [wOut, if_pos h1, h3, num_bet 2 _ (by show _ < 65536; omega)]
  have h3 : wNext (encS l) 0 false 2 = 2 := by
    rw [wNext, if_pos h1]
    rfl
  have := go_enc most hm l (bet l.length 2) ho h
  rw [bet_length] at this
  rw [getS, if_pos h1, h2, h3]
  exact this

theorem wrap_nat {n : Nat} (hn : n < 18446744073709551616) (h0 : 0 ≤ wrap64 (n : Int)) : (wrap64 (n : Int)).toNat = n := by
  unfold wrap64 at h0 ⊢
  omega

theorem enc_rd (most : Int) (b : List UInt8) (p : Nat) (h : (rdNext most b (p, false)).2 = false) (hm : mayB (rdSpan most b (p, false)) = true) :
    (rdNext most b (p, false)).1 ≤ b.length ∧ b.take (rdNext most b (p, false)).1 = b.take p ++ encOne (rdSpan most b (p, false)) := by
  obtain ⟨k1, k2⟩ := rd_no most b p h
  obtain ⟨r1, r2⟩ := rd_yes most b p k1 k2
  obtain ⟨m1, m2, m3, m4⟩ := may_bounds hm
  rw [r2] at m1 m2 m3 m4
  simp only at m1 m2 m3 m4
  rw [r1, r2]
  refine ⟨k1, ?_⟩
  obtain ⟨t, ht⟩ : ∃ t, t = tsize b (p + 32) := ⟨_, rfl⟩
  rw [← ht] at k1 ⊢
  have m5 := Int.le_trans m1 m2
  clear m2 m3 m4 r1 r2 hm h
  have l0 : p + 8 ≤ b.length := by clear m1 m5; omega
  have l08 : p + 8 + 8 ≤ b.length := by clear m1 m5; omega
  have l16 : p + 16 + 8 ≤ b.length := by clear m1 m5; omega
  have l24 : p + 24 + 8 ≤ b.length := by clear m1 m5; omega
  have l8 : ∀ q, q + 8 ≤ b.length → ((b.drop q).take 8).length = 8 := fun q hq => by clear m1 m5; simp; omega
  have b8 : ∀ q, q + 8 ≤ b.length → bet (num ((b.drop q).take 8)) 8 = (b.drop q).take 8 := fun q hq => by
    have := bet_num ((b.drop q).take 8)
    rwa [l8 q hq] at this
  have n8 : ∀ q, q + 8 ≤ b.length → num ((b.drop q).take 8) < 18446744073709551616 := fun q hq => num_lt8 _ (by rw [l8 q hq]; exact Nat.le_refl 8)
  have hdl : ((b.drop (p + 34)).take t).length = t := by clear m1 m5; simp; omega
  have b2 : bet t 2 = (b.drop (p + 32)).take 2 := by
    have h2 : ((b.drop (p + 32)).take 2).length = 2 := by clear m1 m5; simp; omega
    have := bet_num ((b.drop (p + 32)).take 2)
    rw [h2] at this
    rw [ht]
    exact this
  simp only [encOne]
  rw [wrap_nat (n8 _ l16) m1, wrap_nat (n8 (p + 24) l24) m5, hdl, b2, Int.toNat_natCast, Int.toNat_natCast, b8 p l0, b8 (p + 8) l08, b8 (p + 16) l16, b8 (p + 24) l24]
  clear m1 m5
  have cut : ∀ q n m : Nat, (b.drop q).take n ++ (b.drop (q + n)).take m = (b.drop q).take (n + m) := fun q n m => by
    rw [List.take_add, List.drop_drop]
  rw [cut (p + 32) 2 t, cut (p + 24) 8 _, cut (p + 16) 8 _, cut (p + 8) 8 _, cut p 8 _]
  rw [← List.take_add]
  congr 1
  omega

theorem enc_go (most : Int) (b : List UInt8) : ∀ (n p : Nat) (y : List Sn), p ≤ b.length → goS most b n p = .ok y → y.length = n ∧ y.all mayB = true ∧ b = b.take p ++ y.flatMap encOne
  | 0, p, y, hp, h => by
    rw [goS] at h
    split at h
    · cases h
    · injection h with h
      subst h
      refine ⟨rfl, rfl, ?_⟩
      rw [List.take_of_length_le (by omega)]
      simp
  | n + 1, p, y, hp, h => by
    rw [goS] at h
    split at h
    · cases h
    · rename_i h1
      split at h
      · cases h
      · rename_i h2
        have e1 : (rdNext most b (p, false)).2 = false := by simpa using h1
        have e2 : mayB (rdSpan most b (p, false)) = true := by simpa using h2
        cases hg : goS most b n (rdNext most b (p, false)).1 with
        | error e => rw [hg] at h; cases h
        | ok r =>
          rw [hg] at h
          injection h with h
          subst h
          obtain ⟨k1, k2⟩ := enc_rd most b p e1 e2
          obtain ⟨j1, j2, j3⟩ := enc_go most b n _ r k1 hg
          refine ⟨by simp [j1], by simp [j2, e2], ?_⟩
          rw [List.flatMap_cons, ← List.append_assoc, ← k2]
          exact j3

theorem enc_get (most : Int) (b : List UInt8) (y : List Sn) (h : getS most b = .ok y) : y.length ≤ 65535 ∧ y.all mayB = true ∧ encS y = b := by
  rw [getS] at h
  split at h
  · rename_i h1
    have h2 : 2 ≤ b.length := by
      simp only [wordOk, Bool.not_false, Bool.true_and, Bool.and_eq_true, decide_eq_true_iff] at h1
      omega
    have h3 : wNext b 0 false 2 = 2 := by
      rw [wNext, if_pos h1]
      rfl
    have h4 : wOut b 0 false 2 = num (b.take 2) := by
      rw [wOut, if_pos h1]
      rfl
    rw [h3, h4] at h
    obtain ⟨k1, k2, k3⟩ := enc_go most b _ 2 y h2 h
    have hl : (b.take 2).length = 2 := by simp; omega
    have hn := num_lt (b.take 2)
    rw [hl] at hn
    have hn' : num (b.take 2) < 65536 := hn
    refine ⟨by omega, k2, ?_⟩
    have hb := bet_num (b.take 2)
    rw [hl] at hb
    rw [encS, k1, hb]
    exact k3.symm
  · cases h

theorem sameB_refl (a : Sn) : sameB a a = true := by simp [sameB]

set_option maxRecDepth 100000 in
set_option maxHeartbeats 3200000 in
theorem Spans_same (v v' : Value) (l : List Sn) (w : World) (h : Ss w v l) (h' : Ss w v' l) :
    Calls Tryz.prog 14 #[v, v'] w fun e w' => e = .returned (.bool true) ∧ Below w.heap.size w w' := by
  have SL := Lib.hid h
  have SR := Lib.hid h'
  obtain ⟨A, c, rfl, hc1, hc2⟩ := h.form
  obtain ⟨A', c', rfl, hc1', hc2'⟩ := h'.form
  clear h h'
  go_enter Tryz.func14, Tryz.ntmps14
  go_wp2_with fail
  go_loopw [5] (fun i wr => ∃ k : Nat, k ≤ l.length ∧ i = .int .i64 k ∧ Below w.heap.size w wr) (fun i _ => l.length - (intOf i).toNat)
  case atStart => exact ⟨0, Nat.zero_le _, rfl, Below.refl _ _⟩
  case round =>
    obtain ⟨k, hk, rfl, hB⟩ := hrel
    by_cases hlt : k < l.length
    · obtain ⟨s, hks⟩ : ∃ s, l[k]? = some s := ⟨_, List.getElem?_eq_getElem hlt⟩
      obtain ⟨g, o, d, rfl, hg, c0, c1, c2, c3, c4, hdd, hok⟩ := (SL.out.below hB).cells hks
      obtain ⟨g', o', d', rfl, hg', x0, x1, x2, x3, x4, hdd', hok'⟩ := (SR.out.below hB).cells hks
      have r0 : ∀ u, Below wr.heap.size wr u → u.cell? ⟨g, o + k * 5, none⟩ = some (.int .u64 s.tr) := fun u h => (h.cell hg).trans c0
      have r1 : ∀ u, Below wr.heap.size wr u → u.cell? ⟨g, o + k * 5 + 1, none⟩ = some (.int .u64 s.id) := fun u h => (h.cell hg).trans c1
      have r2 : ∀ u, Below wr.heap.size wr u → u.cell? ⟨g, o + k * 5 + 2, none⟩ = some (.int .i64 s.st) := fun u h => (h.cell hg).trans c2
      have r3 : ∀ u, Below wr.heap.size wr u → u.cell? ⟨g, o + k * 5 + 3, none⟩ = some (.int .i64 s.en) := fun u h => (h.cell hg).trans c3
      have r4 : ∀ u, Below wr.heap.size wr u → u.cell? ⟨g, o + k * 5 + 4, none⟩ = some d := fun u h => (h.cell hg).trans c4
      have t0 : ∀ u, Below wr.heap.size wr u → u.cell? ⟨g', o' + k * 5, none⟩ = some (.int .u64 s.tr) := fun u h => (h.cell hg').trans x0
      have t1 : ∀ u, Below wr.heap.size wr u → u.cell? ⟨g', o' + k * 5 + 1, none⟩ = some (.int .u64 s.id) := fun u h => (h.cell hg').trans x1
      have t2 : ∀ u, Below wr.heap.size wr u → u.cell? ⟨g', o' + k * 5 + 2, none⟩ = some (.int .i64 s.st) := fun u h => (h.cell hg').trans x2
      have t3 : ∀ u, Below wr.heap.size wr u → u.cell? ⟨g', o' + k * 5 + 3, none⟩ = some (.int .i64 s.en) := fun u h => (h.cell hg').trans x3
      have t4 : ∀ u, Below wr.heap.size wr u → u.cell? ⟨g', o' + k * 5 + 4, none⟩ = some d' := fun u h => (h.cell hg').trans x4
      have hb0 : (0 : Int) ≤ (k : Int) := by omega
      have hb1 : (k : Int) < (l.length : Int) := by omega
      have V1 : SV wr.drew (.agg #[.int .u64 s.tr, .int .u64 s.id, .int .i64 s.st, .int .i64 s.en, d]) s := ⟨hok, d, rfl, hdd⟩
      have V2 : SV wr.drew (.agg #[.int .u64 s.tr, .int .u64 s.id, .int .i64 s.st, .int .i64 s.en, d']) s := ⟨hok, d', rfl, hdd'⟩
      clear c0 c1 c2 c3 c4 x0 x1 x2 x3 x4 hks hdd hdd'
      go_wp2_with fail
      refine wp_region_mix [(0, false), (1, false), (2, false), (3, false), (4, false), (5, false), (6, false), (7, false), (8, true), (9, true)] (fun u => Below wr.heap.size wr u) (by kernel_rfl) (by kernel_rfl) (by kernel_rfl) rfl (Below.refl _ _).drew ?_
      repeat
        (refine mix_read (o := ⟨_, _, _, _, _, _⟩) (v := ?_) rfl (by rfl) (fun w' hS => ?_) ?_
         rotate_left
         go_simp
         with_reducible rfl
         try simp only [Act.put, List.setIfInBounds_toArray, List.set_cons_zero, List.set_cons_succ])
      refine mix_step (o := ⟨_, _, _, _, _, _⟩) rfl (fun K hK => ?_)
      go_simp
      refine (Same_any _ _ s s _ V1 V2).mono ?_
      rintro e u1 ⟨rfl, hu1⟩
      rw [sameB_refl]
      have hU : Below wr.heap.size wr u1 := ⟨hu1.os, hu1.tape, hu1.output, hu1.size, hu1.block⟩
      refine hK.out _ _ hU ?_
      clear hK K
      try simp only [Act.put, List.setIfInBounds_toArray, List.set_cons_zero, List.set_cons_succ]
      repeat
        (refine mix_step (o := ⟨_, _, _, _, _, _⟩) rfl (fun K hK => ?_)
         go_simp
         refine hK.out _ _ hU ?_
         clear hK K)
      refine mix_done ?_
      clear r0 r1 r2 r3 r4 t0 t1 t2 t3 t4
      go_wp2_with fail
      refine ⟨⟨k + 1, by omega, by go_num, hB.trans (hU.mono hB.size)⟩, by simp [intOf]; omega⟩
    · go_wp2_with fail
      go_ret
      exact ⟨rfl, hB⟩

end Go.Proofs.YtfccfnbmmgfgcaaGreatDoor
