/-
  CONTRACT of the document's store's Alter; what stays small. Conditions: what each says.
-/
import Derived.Test.YtihpnkhkbbakbaaStB
import Derived.Lib.ConvBytes
import Derived.Laws.BitsAllLaws
namespace Go.Proofs.Ytihpnkhkbbakbaa
open Go.RowKit
set_option maxRecDepth 100000

/-- Alter: the store behind it, and whether there was such a byte -/
def sAlt (m : Sm) (n : List UInt8) (at_ : Int) (x : UInt8) : Sm × Bool :=
  if atI n m.l < 0 ∨ x = 0 ∨ at_ < 0 then (m, false) else match m.l[(atI n m.l).toNat]? with
    | some o => match o.b[at_.toNat]? with
      | some y => ({ m with l := m.l.set (atI n m.l).toNat ⟨n, o.b.set at_.toNat (y ^^^ x)⟩ }, true)
      | none => (m, false)
    | none => (m, false)
theorem sAlt_no {m : Sm} {n : List UInt8} {at_ : Int} {x : UInt8} (h : atI n m.l < 0 ∨ x = 0 ∨ at_ < 0) : sAlt m n at_ x = (m, false) := by rw [sAlt, if_pos h]
theorem sAlt_out {m : Sm} {n : List UInt8} {at_ : Int} {x : UInt8} {i : Nat} {o : Ob} (hi : atI n m.l = i) (ho : m.l[i]? = some o) (h : o.b.length ≤ at_.toNat) : sAlt m n at_ x = (m, false) := by
  rw [sAlt]
  split
  · rfl
  · rw [hi, Int.toNat_natCast, ho]
    simp only
    rw [List.getElem?_eq_none h]
theorem sAlt_yes {m : Sm} {n : List UInt8} {k : Nat} {x y : UInt8} {i : Nat} {o : Ob} (hi : atI n m.l = i) (ho : m.l[i]? = some o) (hx : x ≠ 0) (hy : o.b[k]? = some y) : sAlt m n (k : Int) x = ({ m with l := m.l.set i ⟨n, o.b.set k (y ^^^ x)⟩ }, true) := by
  rw [sAlt, if_neg (by rw [hi]; intro h; rcases h with h | h | h <;> first | omega | exact hx h), hi]
  simp only [Int.toNat_natCast]
  rw [ho]
  simp only
  rw [hy]

/-- []byte(s), of a string that is no constant -/
theorem bytesOf (l : List UInt8) (w : World) (hl : l.length ≤ 1048576) : ∃ G W, (convert 9 34 (.string (Bstr l))).run Try.prog w = .ok (.slice (some ⟨w.heap.size, 0, none⟩) l.length G) W ∧ l.length ≤ G ∧ G ≤ 9223372036854775807 ∧ Below w.heap.size w W ∧ w.heap.size < W.heap.size ∧
    (∀ (j : Nat) (y : UInt8), l[j]? = some y → W.cell? ⟨w.heap.size, j, none⟩ = some (.int .u8 (y.toNat : Int)) ∧ W.frozen? ⟨w.heap.size, j, none⟩ = false) := by
  have hs := Bstr_size l
  have h := Lib.run_convert_string_bytes (P := Try.prog) w 9 34 5 (Bstr l) strT byteT.under byteT.elem
  rw [hs] at h
  refine ⟨_, _, h, ?_, ?_, ?_, ?_, fun j y hy => ?_⟩
  · exact grownCap_ge w _ _ _
  · have := grownCap_le_maxLen w l.length 0 5 (by simp only [maxLen]; omega)
    simp only [maxLen] at this
    omega
  · exact ⟨rfl, rfl, rfl, by rw [Lib.bytesWorld_size]; omega, fun j hj => Lib.bytesWorld_at_old w _ _ j hj⟩
  · rw [Lib.bytesWorld_size]
    omega
  · obtain ⟨hj, rfl⟩ := List.getElem?_eq_some_iff.1 hy
    refine ⟨?_, ?_⟩
    · rw [Lib.bytesWorld_cell w _ _ j (by rw [hs]; exact hj)]
      simp [Bstr, List.getD, hj]
    · have hz : (Lib.bytesCells w 5 (Bstr l)).size = l.length + (grownCap w (Bstr l).size 0 5 - (Bstr l).size) := by
        simp [Lib.bytesCells, Bstr]
      simp only [World.frozen?, Lib.bytesWorld_at_new]
      simp
      omega

set_option maxHeartbeats 3200000 in
theorem DAlter_any (base g : Nat) (v : Value) (m : Sm) (n : List UInt8) (at_ x : Int) (w : World) (h : DS w base g v m) (hm : m.ok) (hx0 : 0 ≤ x) (hx1 : x ≤ 255) :
    Calls Try.prog 20 #[.pointer (some ⟨g, 0, none⟩), .string (Bstr n), .int .i64 at_, .int .u8 x] w fun e w' => e = .returned (.bool (sAlt m n at_ (UInt8.ofNat x.toNat)).2) ∧ DS w' base g v (sAlt m n at_ (UInt8.ofNat x.toNat)).1 ∧ Apt (fun q => q = g ∨ v.ownBlock = some q) w w' := by
  have H := Lib.hid h
  have hmu := hm.used
  have hA := At_any base g v m n w h
  have hxz : UInt8.ofNat x.toNat = 0 ↔ x = 0 := by
    constructor
    · intro e
      have := congrArg UInt8.toNat e
      rw [UInt8.toNat_ofNat'] at this
      simp at this
      omega
    · intro e
      subst e
      rfl
  rcases atI_ge n m.l with hai | ⟨i, o, hai, ho, hon⟩
  · have HG : Hid (sAlt m n at_ (UInt8.ofNat x.toNat) = (m, false)) := Lib.hid (sAlt_no (.inl (by rw [hai]; omega)))
    rw [hai] at hA
    clear hai h hxz
    go_enter Try.func20, Try.ntmps20
    go_wp2_with fail
    refine hA.mono ?_
    rintro e w1 ⟨rfl, rfl⟩
    go_wp2_with fail
    go_ret
    rw [HG.out]
    exact ⟨rfl, H.out, Apt.refl _ _⟩
  · rw [hai] at hA
    by_cases hx : x = 0
    · have HG : Hid (sAlt m n at_ (UInt8.ofNat x.toNat) = (m, false)) := Lib.hid (sAlt_no (.inr (.inl (hxz.2 hx))))
      have kx : (x == 0) = true := by simp [hx]
      clear hai h hxz hx
      go_enter Try.func20, Try.ntmps20
      go_wp2_with fail
      refine hA.mono ?_
      rintro e w1 ⟨rfl, rfl⟩
      go_wp2_with fail
      go_ret
      rw [HG.out]
      exact ⟨rfl, H.out, Apt.refl _ _⟩
    · have kx : (x == 0) = false := by simp [hx]
      by_cases hneg : at_ < 0
      · have HG : Hid (sAlt m n at_ (UInt8.ofNat x.toNat) = (m, false)) := Lib.hid (sAlt_no (.inr (.inr hneg)))
        clear hai h hxz hx
        go_enter Try.func20, Try.ntmps20
        go_wp2_with fail
        refine hA.mono ?_
        rintro e w1 ⟨rfl, rfl⟩
        go_wp2_with fail
        go_ret
        rw [HG.out]
        exact ⟨rfl, H.out, Apt.refl _ _⟩
      · obtain ⟨k, rfl⟩ : ∃ k : Nat, at_ = (k : Int) := ⟨at_.toNat, by omega⟩
        have k3 := h.blk.cell 3
        simp at k3
        have hne := h.ne
        have hge := h.ge
        have hgl := h.blk.lt
        have hil : i < m.l.length := (List.getElem?_eq_some_iff.1 ho).1
        rcases h.row.at_ with ⟨_, h0⟩ | ⟨q, c, rfl, hc1, hc2, hq1, hq2, hqf⟩
        · have h0' := congrArg List.length h0
          simp at h0'
          rw [h0'] at hil
          simp at hil
        rw [List.length_map] at *
        obtain ⟨q', p', he, _, c0, c1⟩ := h.cells (i := i) (o := o) ho
        simp only [Option.some.injEq, Addr.mk.injEq, and_true] at he
        obtain ⟨rfl, rfl⟩ := he
        simp only [Nat.zero_add] at c0 c1
        have hzo : (Bstr o.b).size = o.b.length := Bstr_size _
        by_cases hout : o.b.length ≤ k
        · have HG : Hid (sAlt m n (k : Int) (UInt8.ofNat x.toNat) = (m, false)) := Lib.hid (sAlt_out hai ho (by simpa using hout))
          clear hai h hxz hx hqf
          go_enter Try.func20, Try.ntmps20
          go_wp2_with fail
          refine hA.mono ?_
          rintro e w1 ⟨rfl, rfl⟩
          go_wp2_with fail
          go_ret
          rw [HG.out]
          exact ⟨rfl, H.out, Apt.refl _ _⟩
        · obtain ⟨y, hy⟩ : ∃ y, o.b[k]? = some y := ⟨_, List.getElem?_eq_getElem (by omega)⟩
          have hol : o.b.length ≤ 1048576 := by have := usedL_at ho; have h2 : usedL m.l ≤ 1048576 := hmu; omega
          obtain ⟨z, hz⟩ : ∃ z, z = y ^^^ UInt8.ofNat x.toNat := ⟨_, rfl⟩
          have HG : Hid (sAlt m n (k : Int) (UInt8.ofNat x.toNat) = ({ m with l := m.l.set i ⟨n, o.b.set k z⟩ }, true)) := Lib.hid (by rw [hz]; exact sAlt_yes hai ho (fun e => hx (hxz.1 e)) hy)
          obtain ⟨xn, rfl⟩ : ∃ xn : Nat, x = (xn : Int) := ⟨x.toNat, by omega⟩
          have hxor : bits .xor .u8 (y.toNat : Int) (xn : Int) = (z.toNat : Int) := by
            have hyl := y.toNat_lt
            have h := u8_xor_nat y.toNat xn (by omega) (by omega)
            rw [h, hz, UInt8.toNat_xor, Int.toNat_natCast, UInt8.toNat_ofNat', Nat.mod_eq_of_lt (by omega)]
          obtain ⟨G, W, hcv, hG1, hG2, hBW, hWz, hWc⟩ := bytesOf o.b w hol
          obtain ⟨kb, fb⟩ := hWc k y hy
          have hBs : Bs W (.slice (some ⟨w.heap.size, 0, none⟩) o.b.length G) o.b := ⟨_, G, rfl, hG1, hG2, Rd.of_cells fun j u hu => by
            rw [BV_getElem?] at hu
            cases hj : o.b[j]? with
            | none => rw [hj] at hu; cases hu
            | some yy =>
              rw [hj] at hu
              injection hu with hu
              subst hu
              rw [Addr.add_lit, Nat.zero_add]
              exact (hWc j yy hj).1⟩
          have hBs2 : Bs (W.setCell ⟨w.heap.size, k, none⟩ (.int .u8 (z.toNat : Int))) (.slice (some ⟨w.heap.size, 0, none⟩) (o.b.set k z).length G) (o.b.set k z) := ⟨_, G, rfl, by rw [List.length_set]; exact hG1, hG2, Rd.of_cells fun j u hu => by
            rw [BV_getElem?, List.getElem?_set] at hu
            rw [Addr.add_lit, Nat.zero_add]
            by_cases hkj : k = j
            · subst hkj
              rw [if_pos rfl, if_pos (by omega)] at hu
              injection hu with hu
              subst hu
              exact World.cell?_setCell_same W _ _ kb
            · rw [if_neg hkj] at hu
              cases hj : o.b[j]? with
              | none => rw [hj] at hu; cases hu
              | some yy =>
                rw [hj] at hu
                injection hu with hu
                subst hu
                rw [World.cell?_setCell_other W _ _ _ (fun e => hkj (by injection e))]
                exact (hWc j yy hj).1⟩
          rw [List.length_set] at hBs2
          have hst := strOf hBs2.drew
          have hgs := grown_set W w.heap.size k (.int .u8 (z.toNat : Int))
          have hBW2 : Below w.heap.size w (W.setCell ⟨w.heap.size, k, none⟩ (.int .u8 (z.toNat : Int))) := hBW.grown hgs hBW.size (fun q hq => by injection hq with hq; omega)
          have kW := (hBW.cell (p := ⟨g, 3, none⟩) hgl).trans k3
          have kW2 := (hBW2.cell (p := ⟨g, 3, none⟩) hgl).trans k3
          have d1 := (hBW2.cell (p := ⟨q, i * 2 + 1, none⟩) hq2).trans c1
          have hrow2 := H.out.row.below hBW2
          have hblk2 := H.out.blk.below hBW2 hgl
          have hfz : (W.setCell ⟨w.heap.size, k, none⟩ (.int .u8 (z.toNat : Int))).frozen? ⟨q, i * 2 + 1, none⟩ = false := by
            rcases hrow2.at_ with ⟨h0, _⟩ | ⟨q2, c2, he2, _, _, _, _, hf2⟩
            · cases h0
            · injection he2 with e1
              injection e1 with e1
              injection e1 with e1
              subst e1
              exact hf2 _
          have HROW := Lib.hid hrow2
          have HBLK := Lib.hid hblk2
          have HO := Lib.hid ho
          have HON := Lib.hid hon
          have HBW2 := Lib.hid hBW2
          clear hai h hxz hx hqf hWc hBs hBs2 hgs hBW hBW2 hrow2 hblk2 hy hz ho hon hmu c0
          go_enter Try.func20, Try.ntmps20
          go_wp2_with fail
          refine hA.mono ?_
          rintro e w1 ⟨rfl, rfl⟩
          go_wp2_with fail
          generalize W.setCell ⟨w.heap.size, k, none⟩ (.int .u8 (z.toNat : Int)) = W2 at *
          refine wp_region_mix3 9 [(0, 0), (1, 0), (2, 0), (3, 0), (4, 0), (5, 0), (6, 0), (7, 0), (8, 0), (9, 2)] (fun u => u.cell? ⟨g, 3, none⟩ = some (.slice (some ⟨q, 0, none⟩) m.l.length c) ∧ (convert 34 9 (.slice (some ⟨w.heap.size, 0, none⟩) o.b.length G)).run Try.prog u = .ok (.string (Bstr (o.b.set k z))) u) (by kernel_rfl) (by kernel_rfl) (by decide +kernel) rfl ⟨kW2, hst⟩ ?_
          repeat
            (refine mix3_read (o := ⟨_, _, _, _, _, _⟩) (v := ?_) rfl (by rfl) (fun w' hS => ?_) ?_
             rotate_left
             obtain ⟨hS1, hS2⟩ := hS
             go_simp
             with_reducible rfl
             try simp only [Act.put, List.setIfInBounds_toArray, List.set_cons_zero, List.set_cons_succ])
          have d2 : W2.drew.cell? ⟨q, i * 2 + 1, none⟩ = some (.string (Bstr o.b)) := d1
          have f2 : W2.drew.frozen? ⟨q, i * 2 + 1, none⟩ = false := hfz
          refine mix3_store (o := ⟨_, _, _, _, _, _⟩) rfl (fun K hK => ?_)
          go_simp
          refine hK.out _ _ ?_
          clear hK K
          refine mix3_done ?_
          obtain ⟨hrow, hgr⟩ := HROW.out.put_ (i := i) (j := 1) (x := obC o) (by rw [List.getElem?_map, HO.out]; rfl) (by omega) (.string (Bstr (o.b.set k z)))
          have hblk := HBLK.out.grown hgr (fun e => hne e.symm)
          have hAp := (Apt.of_below (bad := fun z => z = g ∨ (Value.slice (some ⟨q, 0, none⟩) m.l.length c).ownBlock = some z) HBW2.out).trans (Apt.of_grown hgr fun z hz => .inr hz)
          have hrow3 : OwnL 2 ((W2.drew).setCell ⟨q, i * 2 + 1, none⟩ (.string (Bstr (o.b.set k z)))) base 57 (.slice (some ⟨q, 0, none⟩) m.l.length c) ((m.l.set i ⟨n, o.b.set k z⟩).map obC) := by
            have e : (m.l.map obC).set i ((obC o).set 1 (.string (Bstr (o.b.set k z)))) = (m.l.set i ⟨n, o.b.set k z⟩).map obC := by
              rw [List.map_set]
              simp [obC, HON.out]
            rw [← e]
            exact hrow
          clear hst hcv kb fb kW kW2 d1 d2 f2 hfz
          go_wp2_with fail
          go_ret
          rw [show UInt8.ofNat ((xn : Int)).toNat = UInt8.ofNat xn from rfl] at *
          rw [HG.out]
          exact ⟨rfl, ⟨hblk, hrow3, hne, hge⟩, ⟨hAp.os, hAp.tape, hAp.output, hAp.size, hAp.block⟩⟩

/-- behind at most N calls its numbers are small -/
structure Sm.fine (m : Sm) (N : Nat) : Prop where
  room0 : 0 ≤ m.room
  room1 : m.room ≤ 1048576
  left0 : -1 ≤ m.left
  left1 : m.left ≤ 9223372036854775807
  calls0 : 0 ≤ m.calls
  calls1 : m.calls ≤ N
  len : m.l.length ≤ N
  used : usedL m.l ≤ 1048576
theorem Sm.fine.ok {m : Sm} {N : Nat} (h : m.fine N) (hN : N ≤ 1000000) : m.ok := ⟨h.room0, h.room1, h.left0, h.left1, h.calls0, by have := h.calls1; omega, by have := h.len; omega, h.used⟩
theorem Sm.fine.more {m : Sm} {N M : Nat} (h : m.fine N) (hN : N ≤ M) : m.fine M := ⟨h.room0, h.room1, h.left0, h.left1, h.calls0, by have := h.calls1; omega, by have := h.len; omega, h.used⟩
theorem Sm.fine.call {m : Sm} {N : Nat} (h : m.fine N) : (callS m).fine (N + 1) := by
  have h1 := h.left0
  have h2 := h.left1
  have h3 := h.calls0
  have h4 := h.calls1
  have h5 := h.len
  refine ⟨h.room0, h.room1, ?_, ?_, ?_, ?_, ?_, h.used⟩
  · show -1 ≤ (if m.left ≤ 0 then (-1 : Int) else m.left - 1)
    split <;> omega
  · show (if m.left ≤ 0 then (-1 : Int) else m.left - 1) ≤ _
    split <;> omega
  · show 0 ≤ m.calls + 1
    omega
  · show m.calls + 1 ≤ _
    omega
  · show m.l.length ≤ N + 1
    omega
theorem Sm.fine.fail {m : Sm} {N : Nat} (h : m.fine N) (n : Int) (hn : n ≤ 9223372036854775807) : (failS m n).fine N := by
  refine ⟨h.room0, h.room1, ?_, ?_, h.calls0, h.calls1, h.len, h.used⟩
  · show -1 ≤ (if n < 0 then (-1 : Int) else n)
    split <;> omega
  · show (if n < 0 then (-1 : Int) else n) ≤ _
    split <;> omega
theorem usedL_append (l k : List Ob) : usedL (l ++ k) = usedL l + usedL k := by simp [usedL]
theorem usedL_cons (o : Ob) (l : List Ob) : usedL (o :: l) = o.b.length + usedL l := by simp [usedL]
theorem usedL_split (l : List Ob) (k : Nat) : usedL l = usedL (l.take k) + usedL (l.drop k) := by
  conv => lhs; rw [← List.take_append_drop k l]
  exact usedL_append _ _
theorem usedL_drop_le (l : List Ob) (k : Nat) : usedL (l.drop k) ≤ usedL l := by have := usedL_split l k; omega
theorem usedL_set : ∀ {l : List Ob} {i : Nat} {o : Ob} (p : Ob), l[i]? = some o → usedL (l.set i p) + o.b.length = usedL l + p.b.length
  | [], i, o, p, h => by simp at h
  | x :: l, 0, o, p, h => by
    simp at h
    subst h
    rw [List.set_cons_zero, usedL_cons, usedL_cons]
    omega
  | x :: l, i + 1, o, p, h => by
    have ih := usedL_set (l := l) (i := i) (o := o) p (by simpa using h)
    rw [List.set_cons_succ, usedL_cons, usedL_cons]
    omega
theorem Sm.fine.put {m : Sm} {N : Nat} (h : m.fine N) (n b : List UInt8) : (sPut m n b).1.fine (N + 1) := by
  have hc := h.call
  have hr := h.room1
  have hu := h.used
  have hl := h.len
  unfold sPut
  split
  · exact hc
  split
  · exact hc
  split
  · exact hc
  rename_i hfull
  split
  · rename_i hneg
    have hai : atI n m.l = -1 := by
      rcases atI_ge n m.l with e | ⟨i, o, e, _⟩
      · exact e
      · omega
    rw [restU_none hai] at hfull
    refine ⟨hc.room0, hc.room1, hc.left0, hc.left1, hc.calls0, hc.calls1, ?_, ?_⟩
    · show (m.l.take (insP n m.l) ++ (⟨n, b⟩ :: m.l.drop (insP n m.l))).length ≤ N + 1
      simp only [List.length_append, List.length_take, List.length_cons, List.length_drop]
      omega
    · show usedL (m.l.take (insP n m.l) ++ (⟨n, b⟩ :: m.l.drop (insP n m.l))) ≤ 1048576
      rw [usedL_append, usedL_cons]
      have := usedL_split m.l (insP n m.l)
      simp only
      omega
  · rename_i hneg
    rcases atI_ge n m.l with e | ⟨i, o, e, ho, _⟩
    · omega
    · rw [restU_some e ho] at hfull
      rw [e, Int.toNat_natCast]
      refine ⟨hc.room0, hc.room1, hc.left0, hc.left1, hc.calls0, hc.calls1, ?_, ?_⟩
      · show (m.l.set i ⟨n, b⟩).length ≤ N + 1
        rw [List.length_set]
        omega
      · show usedL (m.l.set i ⟨n, b⟩) ≤ 1048576
        have h1 := usedL_set (⟨n, b⟩ : Ob) ho
        simp only at h1
        omega
theorem Sm.fine.del {m : Sm} {N : Nat} (h : m.fine N) (n : List UInt8) : (sDel m n).1.fine (N + 1) := by
  have hc := h.call
  have hu := h.used
  have hl := h.len
  unfold sDel
  split
  · exact hc
  split
  · exact hc
  · refine ⟨hc.room0, hc.room1, hc.left0, hc.left1, hc.calls0, hc.calls1, ?_, ?_⟩
    · show (m.l.take (atI n m.l).toNat ++ m.l.drop ((atI n m.l).toNat + 1)).length ≤ N + 1
      simp only [List.length_append, List.length_take, List.length_drop]
      omega
    · show usedL (m.l.take (atI n m.l).toNat ++ m.l.drop ((atI n m.l).toNat + 1)) ≤ 1048576
      rw [usedL_append]
      have h1 := usedL_split m.l (atI n m.l).toNat
      have h2 := usedL_drop_le (m.l.drop (atI n m.l).toNat) 1
      rw [List.drop_drop] at h2
      omega
theorem Sm.fine.alt {m : Sm} {N : Nat} (h : m.fine N) (n : List UInt8) (at_ : Int) (x : UInt8) : (sAlt m n at_ x).1.fine N := by
  unfold sAlt
  split
  · exact h
  · split
    · rename_i o ho
      split
      · rename_i y hy
        refine ⟨h.room0, h.room1, h.left0, h.left1, h.calls0, h.calls1, ?_, ?_⟩
        · show (m.l.set _ _).length ≤ N
          rw [List.length_set]
          exact h.len
        · show usedL (m.l.set (atI n m.l).toNat ⟨n, o.b.set at_.toNat (y ^^^ x)⟩) ≤ 1048576
          have h1 := usedL_set (⟨n, o.b.set at_.toNat (y ^^^ x)⟩ : Ob) ho
          have h2 := h.used
          simp only [List.length_set] at h1
          omega
      · exact h
    · exact h

end Go.Proofs.Ytihpnkhkbbakbaa
