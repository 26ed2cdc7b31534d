/-
  CONTRACTS of page.one, page.isPage, page.Put, and of the document's One and Page. Conditions: what each says.
-/
import Derived.Test.YtcpbikogccdknaaPgA
import Derived.Test.YtcpbikogccdknaaPgB
namespace Go.Proofs.Ytcpbikogccdknaa
open Go.RowKit Go.Maps
set_option maxRecDepth 100000


theorem putN4 (n : Nat) (h : n ≤ 4294967295) : putOk 4 (n : Int) = true := by
  have h2 : (n : Int).toNat < 256 ^ (4 : Int).toNat := by
    show (n : Int).toNat < 4294967296
    omega
  simp only [putOk, Bool.and_eq_true, decide_eq_true_iff]
  exact ⟨by decide, h2⟩
theorem CanS.may {i : Int} {l : List Sn} (h : CanS i l) : l.all mayB = true := by
  rw [List.all_eq_true]
  intro s hs
  obtain ⟨k, hk⟩ := List.mem_iff_getElem?.1 hs
  exact (h.one k s hk).2

set_option maxRecDepth 100000 in
set_option maxHeartbeats 1600000 in
theorem pone_any (v : Value) (t : Tn) (w : World) (h : TV w v t) (hc : CanS t.id t.sp) :
    Calls Try.prog 21 #[v] w fun e w' => ∃ x, e = .returned x ∧ Own w' w.heap.size 5 x (pgOne t) ∧ Below w.heap.size w w' := by
  obtain ⟨⟨i0, i1⟩, d, rfl, hd⟩ := h
  have hle := encS_le hc
  have hhi := hc.hi
  have hmay := Lib.hid hc.may
  have P1 := Lib.hid (putOk8 t.id i1)
  have P2 := Lib.hid (putN4 (encS t.sp).length (by omega))
  have hA := Blk.new w 49 #[.int .u64 t.id, d]
  have hb : Below w.heap.size w (w.alloc (.cells #[.int .u64 t.id, d] 49)) := (Below.refl _ _).alloc (Nat.le_refl _) _
  have hd1 := hd.alloc (.cells #[.int .u64 t.id, d] 49)
  have HA := Lib.hid hA
  clear hA hc hd
  go_enter Try.func21, Try.ntmps21
  go_wp2_with fail
  refine (sput_any d t.sp _ hd1 (by omega)).mono ?_
  rintro e w1 ⟨x1, er, rfl, hP, hb1⟩
  obtain ⟨rfl, hown1⟩ := hP.yes hmay.out
  have hB1 := hb.trans (hb1.mono hb.size)
  have c0 := (HA.out.below hb1 HA.out.lt).cell 0
  simp at c0
  clear hP
  go_wp2_with fail
  refine (put_ok [] _ _ _ _ i0 P1.out (by simp) (Bs.nil _)).mono ?_
  rintro e w2 ⟨v2, rfl, hown2, hb2⟩
  have hB2 := hB1.trans (hb2.mono hB1.size)
  have hown12 := hown1.below hb2
  obtain ⟨A1, k1, hv1, _⟩ := hown1.form
  subst hv1
  clear hown1 c0
  go_wp2_with fail
  refine (put_ok _ _ _ _ _ (by omega) P2.out (by simp [bet_length]) hown2.bs).mono ?_
  rintro e w3 ⟨v3, rfl, hown3, hb3⟩
  have hB3 := hB2.trans (hb3.mono hB2.size)
  have hown13 := hown12.below hb3
  have ho3 : Own w3 w.heap.size 5 v3 (bet t.id.toNat 8 ++ bet (encS t.sp).length 4) := by
    have := hown3.lower hB2.size
    simpa using this
  clear hown3 hown12
  go_wp2_with (at_builtin; refine wpList_append_v _ byteT rfl _ _ rfl w.heap.size _ _ rfl ho3 _ _ rfl hown13.bs ?c1 hB3.size ?_)
  case c1 => simp only [List.length_append, bet_length]; omega
  intro v4 w4 hown4 hg4 _
  have hB4 := hB3.grown hg4 hB3.size ho3.ge
  go_wp2_with fail
  go_ret
  refine ⟨_, rfl, ?_, hB4⟩
  rw [pgOne, ← List.append_assoc]
  exact hown4

set_option maxRecDepth 100000 in
set_option maxHeartbeats 1600000 in
theorem One_any (v : Value) (t : Tn) (w : World) (h : TV w v t) (hc : CanS t.id t.sp) :
    Calls Try.prog 27 #[v] w fun e w' => ∃ x, e = .returned x ∧ Own w' w.heap.size 5 x (pgOne t) ∧ Below w.heap.size w w' := by
  obtain ⟨⟨i0, i1⟩, d, rfl, hd⟩ := h
  have hle := encS_le hc
  have hhi := hc.hi
  have hmay := Lib.hid hc.may
  have hA := Blk.new w 49 #[.int .u64 t.id, d]
  have hb : Below w.heap.size w (w.alloc (.cells #[.int .u64 t.id, d] 49)) := (Below.refl _ _).alloc (Nat.le_refl _) _
  have hd1 := hd.alloc (.cells #[.int .u64 t.id, d] 49)
  have HA := Lib.hid hA
  have I1 : t.id < 18446744073709551616 := by omega
  have HI1 := Lib.hid I1
  clear hA hc hd i1 I1
  go_enter Try.func27, Try.ntmps27
  go_wp2_with fail
  refine (SBytes_any d t.sp _ hd1 (by omega) hmay.out).mono ?_
  rintro e w1 ⟨x1, rfl, hown1, hb1⟩
  have hB1 := hb.trans (hb1.mono hb.size)
  have c0 := (HA.out.below hb1 HA.out.lt).cell 0
  simp at c0
  go_wp2_with fail
  refine (Bytes_any 8 t.id _ (by omega) (by omega) i0 HI1.out).mono ?_
  rintro e w2 ⟨v2, rfl, hown2, hb2⟩
  have hB2 := hB1.trans (hb2.mono hB1.size)
  have hown12 := hown1.below hb2
  have hsep : x1.ownBlock = none ∨ x1.ownBlock ≠ v2.ownBlock := by
    cases hq : x1.ownBlock with
    | none => exact .inl rfl
    | some q =>
      refine .inr fun e => ?_
      have h1 := (World.ownsRow.lt hown1 q hq).2
      have h2 := hown2.ge q e.symm
      omega
  obtain ⟨A1, k1, hv1, _⟩ := hown1.form
  subst hv1
  clear hown1 c0
  go_wp2_with fail
  refine (Bytes_any 4 _ _ (by omega) (by omega) (by omega) (by omega)).mono ?_
  rintro e w3 ⟨v3, rfl, hown3, hb3⟩
  have hB3 := hB2.trans (hb3.mono hB2.size)
  have hown13 := hown12.below hb3
  have ho2 : Own w3 w.heap.size 5 v2 (bet t.id.toNat 8) := by
    have := (hown2.below hb3).lower hB1.size
    simpa using this
  have ho3 : Own w3 w2.heap.size 5 v3 (bet (encS t.sp).length 4) := by simpa using hown3
  clear hown3 hown12 hown2
  go_wp2_with (at_builtin; refine wpList_append_v _ byteT rfl _ _ rfl w.heap.size _ _ rfl ho2 _ _ rfl ho3.bs ?c0 hB3.size ?_)
  case c0 => simp only [bet_length]; omega
  intro v4 w4 hown4 hg4 hv4
  have hB4 := hB3.grown hg4 hB3.size ho2.ge
  have hown14 := hown13.kept hg4 hsep
  clear hown13 ho2 ho3
  go_wp2_with (at_builtin; refine wpList_append_v _ byteT rfl _ _ rfl w.heap.size _ _ rfl hown4 _ _ rfl hown14.bs ?c1 hB4.size ?_)
  case c1 => simp only [List.length_append, bet_length]; omega
  intro v5 w5 hown5 hg5 hv5
  have hB5 := hB4.grown hg5 hB4.size hown4.ge
  go_wp2_with fail
  go_ret
  refine ⟨_, rfl, ?_, hB5⟩
  rw [pgOne, ← List.append_assoc]
  exact hown5

theorem one_le {l : List Tn} (h : IsT l) (k : Nat) : ((l.take k).flatMap pgOne).length ≤ 9814 * k := by
  induction k with
  | zero => simp
  | succ k ih =>
    by_cases hk : k < l.length
    · have hks : l[k]? = some l[k] := List.getElem?_eq_getElem hk
      have h1 := encS_le (h.each k _ hks)
      have h2 := pgOne_length l[k]
      rw [take_snoc_at hks, List.flatMap_append, List.length_append]
      simp only [List.flatMap_cons, List.flatMap_nil, List.append_nil]
      omega
    · rw [List.take_of_length_le (by omega)]
      rw [List.take_of_length_le (by omega)] at ih
      omega

/-- may these be written? -/
noncomputable def pgB (l : List Tn) : Bool := decide (l.length ≤ 64) && isB l
theorem pgB_iff {l : List Tn} : pgB l = true ↔ l.length ≤ 64 ∧ IsT l := by
  simp [pgB, isB]

set_option maxHeartbeats 800000 in
theorem isPage_any (v : Value) (l : List Tn) (w : World) (h : Ts w v l) :
    Calls Try.prog 19 #[v] w fun e w' => e = .returned (.bool (pgB l)) ∧ Below w.heap.size w w' := by
  have H := Lib.hid h
  obtain ⟨A, c, rfl, hc1, hc2⟩ := h.form
  clear h
  by_cases hl : l.length ≤ 64
  · have e : Hid (pgB l = isB l) := Lib.hid (by simp [pgB, hl])
    go_enter Try.func19, Try.ntmps19
    go_wp2_with fail
    refine (is_any _ l _ H.out).mono ?_
    rintro e w1 ⟨rfl, hb1⟩
    go_wp2_with fail
    go_ret
    exact ⟨by rw [e.out]; rfl, hb1⟩
  · have e : Hid (pgB l = false) := Lib.hid (by simp [pgB, hl])
    go_enter Try.func19, Try.ntmps19
    go_wp2_with fail
    go_ret
    exact ⟨by rw [e.out]; rfl, Below.refl _ _⟩

/-- what Put tells -/
structure PutP (w : World) (base : Nat) (l : List Tn) (x e : Value) : Prop where
  no : pgB l = false → x = .slice none 0 0 ∧ e = code 1
  yes : pgB l = true → e = .nilIface ∧ Own w base 5 x (pgOf l)

set_option maxHeartbeats 3200000 in
theorem pput_any (v : Value) (l : List Tn) (w : World) (h : Ts w v l) :
    Calls Try.prog 9 #[v] w fun e w' => ∃ x er, e = .returned (.tuple #[x, er]) ∧ PutP w' w.heap.size l x er ∧ Below w.heap.size w w' := by
  have H := Lib.hid h
  obtain ⟨A, c, rfl, hc1, hc2⟩ := h.form
  clear h
  go_enter Try.func9, Try.ntmps9
  go_wp2_with fail
  refine (isPage_any _ l _ H.out).mono ?_
  rintro e w1 ⟨rfl, hb1⟩
  cases hp : pgB l with
  | false =>
    have HP := Lib.hid hp
    clear hp
    go_wp2_with fail
    go_ret2
    exact ⟨_, _, rfl, ⟨fun _ => ⟨rfl, rfl⟩, (fun h => by rw [HP.out] at h; cases h)⟩, hb1⟩
  | true =>
    have HP := Lib.hid hp
    obtain ⟨hl64, hIs⟩ := pgB_iff.1 hp
    have HIS := Lib.hid hIs
    have P := Lib.hid (putOk2 l.length (by omega))
    clear hp hIs
    go_wp2_with fail
    refine (put_ok [] _ _ _ _ (by omega) P.out (by simp) (Bs.nil _)).mono ?_
    rintro e w2 ⟨v2, rfl, hown2, hb2⟩
    have hB2 := hb1.trans (hb2.mono hb1.size)
    have ho2 : Own w2 w.heap.size 5 v2 (bet l.length 2) := by simpa using hown2.lower hb1.size
    have HO := Lib.hid ho2
    clear hown2 ho2 hb1 hb2
    go_wp2_with fail
    go_loopw [4, 21] (fun bv i wr => ∃ k : Nat, k ≤ l.length ∧ i = .int .i64 k ∧ Own wr w.heap.size 5 bv (bet l.length 2 ++ (l.take k).flatMap pgOne) ∧ Below w.heap.size w wr) (fun _ i _ => l.length - (intOf i).toNat)
    case atStart => exact ⟨0, Nat.zero_le _, rfl, by simpa using HO.out, hB2⟩
    case round =>
      obtain ⟨k, hk, rfl, hown, hB⟩ := hrel
      by_cases hlt : k < l.length
      · obtain ⟨t, hks⟩ : ∃ t, l[k]? = some t := ⟨_, List.getElem?_eq_getElem hlt⟩
        obtain ⟨g, o, d, rfl, hg, c0, c1, hd, hid⟩ := (H.out.below hB).cells hks
        obtain ⟨A', c', rfl, hd1, hd2⟩ := hd.form
        have HT := Lib.hid (take_snoc_at hks)
        have HC := Lib.hid (HIS.out.each k t hks)
        have hWB : Below w.heap.size w (wr.alloc (.cells #[.int .u64 t.id, .slice A' t.sp.length c'] 49)) := hB.alloc hB.size _
        have hV : TV (wr.alloc (.cells #[.int .u64 t.id, .slice A' t.sp.length c'] 49)) (.agg #[.int .u64 t.id, .slice A' t.sp.length c']) t := ⟨hid, _, rfl, hd.below ((Below.refl _ _).alloc (Nat.le_refl _) _)⟩
        have HV := Lib.hid hV
        have HOw1 := Lib.hid (hown.alloc (.cells #[.int .u64 t.id, .slice A' t.sp.length c'] 49))
        have hle := one_le HIS.out k
        have hle1 : (pgOne t).length ≤ 9814 := by
          have h1 := encS_le HC.out
          have h2 := pgOne_length t
          omega
        clear hks hd hV hown
        go_wp2_with fail
        refine (pone_any _ t _ HV.out HC.out).mono ?_
        rintro e w3 ⟨v3, rfl, hown3, hb3⟩
        have hW3 := hWB.trans (hb3.mono hWB.size)
        have hown := HOw1.out.below hb3
        go_wp2_with (at_builtin; refine wpList_append_v _ byteT rfl _ _ rfl w.heap.size _ _ rfl hown v3 _ rfl hown3.bs ?c1 hW3.size ?_)
        case c1 =>
          rw [List.length_append, bet_length]
          omega
        intro v4 w4 hown4 hg4 _
        go_wp2_with fail
        refine ⟨⟨k + 1, by omega, by go_num, ?_, hW3.grown hg4 hW3.size hown.ge⟩, by simp [intOf]; omega⟩
        rw [HT.out, List.flatMap_append, ← List.append_assoc]
        simpa using hown4
      · have hkk : k = l.length := by omega
        subst hkk
        have hle := one_le HIS.out l.length
        rw [List.take_length] at hown hle
        have HOw := Lib.hid hown
        clear hown hlt
        go_wp2_with fail
        refine (seal_any (pgBody l) _ _ (by rw [pgBody_length]; omega) HOw.out.bs).mono ?_
        rintro e w4 ⟨v4, rfl, hown4, hb4⟩
        go_wp2_with fail
        go_ret2
        exact ⟨_, _, rfl, ⟨(fun h => by rw [HP.out] at h; cases h), fun _ => ⟨rfl, hown4.lower hB.size⟩⟩, hB.trans (hb4.mono hB.size)⟩

set_option maxHeartbeats 3200000 in
theorem Page_any (v : Value) (l : List Tn) (w : World) (h : Ts w v l) (hIs : IsT l) (hl : l.length ≤ 65535) :
    Calls Try.prog 11 #[v] w fun e w' => ∃ x, e = .returned x ∧ Own w' w.heap.size 5 x (pgOf l) ∧ Below w.heap.size w w' := by
  have H := Lib.hid h
  obtain ⟨A, c, rfl, hc1, hc2⟩ := h.form
  have HIS := Lib.hid hIs
  clear h hIs
  go_enter Try.func11, Try.ntmps11
  go_wp2_with fail
  refine (Bytes_any 2 _ _ (by omega) (by omega) (by omega) (by omega)).mono ?_
  rintro e w2 ⟨v2, rfl, hown2, hB2⟩
  have ho2 : Own w2 w.heap.size 5 v2 (bet l.length 2) := by simpa using hown2
  have HO := Lib.hid ho2
  clear hown2 ho2
  go_wp2_with fail
  go_loopw [3, 4] (fun bv i wr => ∃ k : Nat, k ≤ l.length ∧ i = .int .i64 k ∧ Own wr w.heap.size 5 bv (bet l.length 2 ++ (l.take k).flatMap pgOne) ∧ Below w.heap.size w wr) (fun _ i _ => l.length - (intOf i).toNat)
  case atStart => exact ⟨0, Nat.zero_le _, rfl, by simpa using HO.out, hB2⟩
  case round =>
    obtain ⟨k, hk, rfl, hown, hB⟩ := hrel
    by_cases hlt : k < l.length
    · obtain ⟨t, hks⟩ : ∃ t, l[k]? = some t := ⟨_, List.getElem?_eq_getElem hlt⟩
      obtain ⟨g, o, d, rfl, hg, c0, c1, hd, hid⟩ := (H.out.below hB).cells hks
      obtain ⟨A', c', rfl, hd1, hd2⟩ := hd.form
      have HT := Lib.hid (take_snoc_at hks)
      have HC := Lib.hid (HIS.out.each k t hks)
      have hV : TV wr (.agg #[.int .u64 t.id, .slice A' t.sp.length c']) t := ⟨hid, _, rfl, hd⟩
      have HV := Lib.hid hV
      have HOw1 := Lib.hid hown
      have hle := one_le HIS.out k
      have hle1 : (pgOne t).length ≤ 9814 := by
        have h1 := encS_le HC.out
        have h2 := pgOne_length t
        omega
      clear hks hd hV hown
      go_wp2_with fail
      refine (One_any _ t _ HV.out HC.out).mono ?_
      rintro e w3 ⟨v3, rfl, hown3, hb3⟩
      have hW3 := hB.trans (hb3.mono hB.size)
      have hown := HOw1.out.below hb3
      go_wp2_with (at_builtin; refine wpList_append_v _ byteT rfl _ _ rfl w.heap.size _ _ rfl hown v3 _ rfl hown3.bs ?c1 hW3.size ?_)
      case c1 =>
        rw [List.length_append, bet_length]
        omega
      intro v4 w4 hown4 hg4 _
      go_wp2_with fail
      refine ⟨⟨k + 1, by omega, by go_num, ?_, hW3.grown hg4 hW3.size hown.ge⟩, by simp [intOf]; omega⟩
      rw [HT.out, List.flatMap_append, ← List.append_assoc]
      simpa using hown4
    · have hkk : k = l.length := by omega
      subst hkk
      have hle := one_le HIS.out l.length
      rw [List.take_length] at hown hle
      have HOw := Lib.hid hown
      clear hown hlt
      go_wp2_with fail
      refine (Seal_any (pgBody l) _ _ (by rw [pgBody_length]; omega) HOw.out.bs).mono ?_
      rintro e w4 ⟨v4, rfl, hown4, hb4⟩
      go_wp2_with fail
      go_ret
      exact ⟨_, rfl, hown4.lower hB.size, hB.trans (hb4.mono hB.size)⟩

end Go.Proofs.Ytcpbikogccdknaa
