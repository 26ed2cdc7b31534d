/-
  ROSTERS, plain: which blocks are live, and marked, by the names that are listed alone, name by name (for a program that takes its last live one back where its marker comes). No condition but what each says.
  CONTRACT of the program's Names: name by name, the last live one taken back where its marker comes. Conditions: what it says; of the library's variables: LdP.
  CONTRACT of a marker read of the program's store (written at the trial seat, for a function roster.marker: st.Get(meta.Name(id, "x", 0)), meta.Marked, the Id compared). Conditions: what it says; of the library's tables: Ld.
  CONTRACT of the program's List (written at the trial seat: its Names, then read.Meta and marker one by one, appended to a roster's fields). Conditions: what it says; of the library's variables: LdP.
  CONTRACT of the program's List of no store (trial). No condition.
  CONTRACT of the program's Get; the program's roster tells what RosterK asks. Conditions: what each says.
-/
import Derived.Test.YtgafidnbmoomiaaGreatDoorRoA
import Derived.Test.YtgafidnbmoomiaaGreatDoorRoI
import Derived.Test.YtgafidnbmoomiaaGreatDoorMtK
import Derived.Test.YtgafidnbmoomiaaGreatDoorRdG
import Derived.Test.YtgafidnbmoomiaaGreatDoorRoV
namespace Go.Proofs.YtgafidnbmoomiaaGreatDoor
open Go.RowKit
set_option maxRecDepth 100000

theorem sortW_x : sortW [120] := .inr (.inr (.inr rfl))

theorem begB_sort {id : Nat} {what : List UInt8} {page : Int} (h : sortW what) : begB (nmOf id what page) [98, 47] = true := by
  rw [nmOf_sort h, nmHead]
  simp [begB]

theorem listed_iff {l : List Ob} {n : List UInt8} {p : List UInt8} (h : begB n p = true) : 0 ≤ atI n l ↔ n ∈ sNames l p := by
  rw [sNames, List.mem_map]
  constructor
  · intro h0
    rcases atI_ge n l with h1 | ⟨i, o, _, h2, h3⟩
    · omega
    · exact ⟨o, List.mem_filter.2 ⟨List.mem_of_getElem? h2, by rw [h3]; exact h⟩, h3⟩
  · rintro ⟨o, ho, hn⟩
    have hm := (List.mem_filter.1 ho).1
    rcases atI_ge n l with h1 | ⟨i, x, h2, _, _⟩
    · exact absurd hn ((fnd_none_iff.1 (fnd_of_at h1)) o hm)
    · omega

theorem marked_iff {l : List Ob} {id : Nat} : 0 ≤ atI (nmOf id [120] 0) l ↔ nmOf id [120] 0 ∈ sNames l [98, 47] := listed_iff (begB_sort sortW_x)

theorem parse_x {s : List UInt8} {id : Nat} {n : Int} (h : ParseP s id [120] n true) : s = nmOf id [120] 0 ∧ id < 18446744073709551616 := by
  rcases h with ⟨_, k, _, h⟩ | ⟨h, _⟩
  · refine ⟨?_, h.idlt⟩
    have := h.eq
    rw [this, nmOf_sort sortW_x, nmOf_sort sortW_x]
  · cases h

theorem x_after_m (id : Nat) : nmOf id [109] 0 < nmOf id [120] 0 := by
  rw [nmOf_sort sortW_m, nmOf_sort sortW_x]
  exact append_lt _ (by decide)

noncomputable def lvS (ns : List (List UInt8)) : List Nat := (ns.filterMap idOf).filter fun id => decide (nmOf id [120] 0 ∉ ns)

noncomputable def mkS (ns : List (List UInt8)) : List Nat := (ns.filterMap idOf).filter fun id => decide (nmOf id [120] 0 ∈ ns)

theorem lvS_all (l : List Ob) : lvS (sNames l [98, 47]) = lvN l (sNames l [98, 47]) ∧ mkS (sNames l [98, 47]) = mkN l (sNames l [98, 47]) := by
  refine ⟨List.filter_congr fun id _ => ?_, List.filter_congr fun id _ => ?_⟩
  · exact decide_eq_decide.2 ((not_congr marked_iff.symm).trans (by omega))
  · exact decide_eq_decide.2 marked_iff.symm

theorem ids_mem {ns : List (List UInt8)} {j : Nat} (h : j ∈ ns.filterMap idOf) : nmOf j [109] 0 ∈ ns ∧ j < 18446744073709551616 := by
  obtain ⟨s, hs, hj⟩ := List.mem_filterMap.1 h
  have hn := idOf_named hj
  have e := hn.eq
  rw [nmOf_sort sortW_m] at e
  rw [nmOf_sort sortW_m, ← e]
  exact ⟨hs, hn.idlt⟩

theorem x_ne_m {i j : Nat} (hi : i < 18446744073709551616) (hj : j < 18446744073709551616) : nmOf i [120] 0 ≠ nmOf j [109] 0 := by
  intro e
  have a := NamedAs.of_name i [120] 0 hi (.inr sortW_x)
  have b := NamedAs.of_name j [109] 0 hj (.inr sortW_m)
  rw [e] at a
  exact absurd (a.one b).2.1 (by decide)

theorem x_inj {i j : Nat} (hi : i < 18446744073709551616) (hj : j < 18446744073709551616) (e : nmOf i [120] 0 = nmOf j [120] 0) : i = j := by
  have a := NamedAs.of_name i [120] 0 hi (.inr sortW_x)
  have b := NamedAs.of_name j [120] 0 hj (.inr sortW_x)
  rw [e] at a
  exact (a.one b).1

theorem m_lt_x {i j : Nat} (hj : j < 18446744073709551616) (h : nmOf j [109] 0 < nmOf i [120] 0) : j ≤ i := by
  rcases Nat.lt_or_ge i j with h1 | h1
  · exfalso
    refine List.lt_irrefl _ (List.lt_trans h ?_)
    rw [nmOf_sort sortW_x, nmOf_sort sortW_m, nmHead, nmHead]
    simp only [List.append_assoc]
    exact append_lt _ (lt_append _ _ (by rw [digs_length, digs_length]) (digs_up 16 i j h1 (Nat.lt_of_lt_of_le hj (by decide))))
  · exact h1

theorem lvS_none {ns : List (List UInt8)} {s : List UInt8} (h : idOf s = none) (hx : ∀ id, id < 18446744073709551616 → s ≠ nmOf id [120] 0) : lvS (ns ++ [s]) = lvS ns ∧ mkS (ns ++ [s]) = mkS ns := by
  have e : (ns ++ [s]).filterMap idOf = ns.filterMap idOf := by simp [List.filterMap_append, h]
  have hm : ∀ id ∈ ns.filterMap idOf, (nmOf id [120] 0 ∈ ns ++ [s] ↔ nmOf id [120] 0 ∈ ns) := fun id hid => by
    rw [List.mem_append, List.mem_singleton]
    exact ⟨fun h => h.resolve_right fun e => hx id (ids_mem hid).2 e.symm, .inl⟩
  unfold lvS mkS
  rw [e]
  exact ⟨List.filter_congr fun id hid => decide_eq_decide.2 (not_congr (hm id hid)), List.filter_congr fun id hid => decide_eq_decide.2 (hm id hid)⟩

theorem parse_nox {s : List UInt8} {id : Nat} {what : List UInt8} {n : Int} {is : Bool} (h : ParseP s id what n is) (hw : is = false ∨ what ≠ [120]) (i : Nat) (hi : i < 18446744073709551616) : s ≠ nmOf i [120] 0 := by
  intro e
  have a := NamedAs.of_name i [120] 0 hi (.inr sortW_x)
  rw [← e] at a
  rcases h with ⟨h1, k, _, h2⟩ | ⟨_, _, _, _, h2⟩
  · rcases hw with hw | hw
    · rw [hw] at h1; cases h1
    · exact hw (h2.one a).2.1
  · exact h2 _ _ _ a

theorem lvS_meta {ns : List (List UInt8)} {s : List UInt8} {id : Nat} (h : idOf s = some id) (hp : (ns ++ [s]).Pairwise (· < ·)) : lvS (ns ++ [s]) = lvS ns ++ [id] ∧ mkS (ns ++ [s]) = mkS ns := by
  have hn := idOf_named h
  have hs : s = nmOf id [109] 0 := by
    have e := hn.eq
    rw [nmOf_sort sortW_m] at e ⊢
    exact e
  have e : (ns ++ [s]).filterMap idOf = ns.filterMap idOf ++ [id] := by simp [List.filterMap_append, h]
  have hm : ∀ j, j < 18446744073709551616 → (nmOf j [120] 0 ∈ ns ++ [s] ↔ nmOf j [120] 0 ∈ ns) := fun j hj => by
    rw [List.mem_append, List.mem_singleton]
    exact ⟨fun h => h.resolve_right fun e => x_ne_m hj hn.idlt (e.trans hs), .inl⟩
  have hno : nmOf id [120] 0 ∉ ns := fun hin => by
    have h1 := (List.pairwise_append.1 hp).2.2 _ hin s (by simp)
    rw [hs] at h1
    exact List.lt_irrefl _ (List.lt_trans h1 (x_after_m id))
  have hno2 : nmOf id [120] 0 ∉ ns ++ [s] := fun hin => hno ((hm id hn.idlt).1 hin)
  unfold lvS mkS
  rw [e, List.filter_append, List.filter_append]
  constructor
  · rw [List.filter_cons, if_pos (decide_eq_true hno2), List.filter_nil]
    exact congrArg (· ++ [id]) (List.filter_congr fun j hj => decide_eq_decide.2 (not_congr (hm j (ids_mem hj).2)))
  · rw [List.filter_cons, if_neg (by simpa using hno2), List.filter_nil, List.append_nil]
    exact List.filter_congr fun j hj => decide_eq_decide.2 (hm j (ids_mem hj).2)

theorem lvS_mark {ns : List (List UInt8)} {s : List UInt8} {id : Nat} (hs : s = nmOf id [120] 0) (hid : id < 18446744073709551616) (hp : (ns ++ [s]).Pairwise (· < ·)) :
    (∃ k, lvS ns = k ++ [id] ∧ lvS (ns ++ [s]) = k ∧ mkS (ns ++ [s]) = mkS ns ++ [id]) ∨ (id ∉ lvS ns ∧ lvS (ns ++ [s]) = lvS ns ∧ mkS (ns ++ [s]) = mkS ns) := by
  have h0 : idOf s = none := idOf_none fun j hj => by
    have b := NamedAs.of_name id [120] 0 hid (.inr sortW_x)
    rw [← hs] at b
    exact absurd (hj.one b).2.1 (by decide)
  have e : (ns ++ [s]).filterMap idOf = ns.filterMap idOf := by simp [List.filterMap_append, h0]
  have hup := ids_up (List.pairwise_append.1 hp).1
  have hle : ∀ j ∈ ns.filterMap idOf, j ≤ id := fun j hj => by
    obtain ⟨h1, h2⟩ := ids_mem hj
    have := (List.pairwise_append.1 hp).2.2 _ h1 s (by simp)
    rw [hs] at this
    exact m_lt_x h2 this
  have hno : nmOf id [120] 0 ∉ ns := fun hin => by
    have := (List.pairwise_append.1 hp).2.2 _ hin s (by simp)
    rw [hs] at this
    exact List.lt_irrefl _ this
  have hyes : nmOf id [120] 0 ∈ ns ++ [s] := by simp [hs]
  have hm : ∀ j, j < 18446744073709551616 → j ≠ id → (nmOf j [120] 0 ∈ ns ++ [s] ↔ nmOf j [120] 0 ∈ ns) := fun j hj hji => by
    rw [List.mem_append, List.mem_singleton]
    exact ⟨fun h => h.resolve_right fun e => hji (x_inj hj hid (e.trans hs)), .inl⟩
  have hlt : ∀ j ∈ ns.filterMap idOf, j < 18446744073709551616 := fun j hj => (ids_mem hj).2
  unfold lvS mkS
  rw [e]
  revert hup hle hlt
  generalize ns.filterMap idOf = I
  intro hup hle hlt
  by_cases hin : id ∈ I
  · left
    obtain ⟨pre, rfl⟩ : ∃ pre, I = pre ++ [id] := by
      obtain ⟨a, b, rfl⟩ := List.append_of_mem hin
      cases b with
      | nil => exact ⟨a, rfl⟩
      | cons x b =>
        exfalso
        have h1 := (List.pairwise_append.1 hup).2.1
        rw [List.pairwise_cons] at h1
        have h2 := h1.1 x (by simp)
        have h3 := hle x (by simp)
        omega
    have hpre : ∀ j ∈ pre, j < id := fun j hj => (List.pairwise_append.1 hup).2.2 j hj id (by simp)
    refine ⟨pre.filter fun j => decide (nmOf j [120] 0 ∉ ns), ?_, ?_, ?_⟩
    · rw [List.filter_append, List.filter_cons, if_pos (decide_eq_true hno), List.filter_nil]
    · rw [List.filter_append, List.filter_cons, if_neg (fun h => (of_decide_eq_true h) hyes), List.filter_nil, List.append_nil]
      exact List.filter_congr fun j hj => decide_eq_decide.2 (not_congr (hm j (hlt j (by simp [hj])) (by have := hpre j hj; omega)))
    · rw [List.filter_append, List.filter_cons, if_pos (decide_eq_true hyes), List.filter_nil, List.filter_append, List.filter_cons, if_neg (by simpa using hno), List.filter_nil, List.append_nil]
      exact congrArg (· ++ [id]) (List.filter_congr fun j hj => decide_eq_decide.2 (hm j (hlt j (by simp [hj])) (by have := hpre j hj; omega)))
  · right
    have hne : ∀ j ∈ I, j ≠ id := fun j hj e => hin (e ▸ hj)
    exact ⟨fun h => hin (List.mem_filter.1 h).1, List.filter_congr fun j hj => decide_eq_decide.2 (not_congr (hm j (hlt j hj) (hne j hj))), List.filter_congr fun j hj => decide_eq_decide.2 (hm j (hlt j hj) (hne j hj))⟩

theorem lvS_len (ns : List (List UInt8)) : (lvS ns).length ≤ ns.length ∧ (mkS ns).length ≤ ns.length :=
  ⟨Nat.le_trans (List.length_filter_le _ _) (List.length_filterMap_le _ _), Nat.le_trans (List.length_filter_le _ _) (List.length_filterMap_le _ _)⟩

theorem OwnL.firsts {k : Nat} {w : World} {base n c : Nat} {e : TypeId} {A : Option Addr} {xs : List (List Value)} (h : OwnL k w base e (.slice A n c) xs) (m : Nat) (hm : m ≤ xs.length) : OwnL k w base e (.slice A m c) (xs.take m) := by
  have hlen : (xs.take m).length = m := by rw [List.length_take]; omega
  have hk' : ∀ x ∈ xs.take m, x.length = k := fun x hx => h.2 x (List.mem_of_mem_take hx)
  have hfl := flat_length hk'
  rw [hlen] at hfl
  obtain ⟨h1, hk⟩ := h
  refine ⟨⟨by rw [hlen]; exact hfl, ?_⟩, hk'⟩
  rw [hlen]
  rcases h1.2 with ⟨e0, hl⟩ | ⟨g, cap, cur, e0, hb, hg, hnc, hcm, hsz, htk⟩
  · injection e0 with e1 e2 e3
    subst e1 e3
    have : m = 0 := by omega
    subst this
    exact .inl ⟨rfl, rfl⟩
  · injection e0 with e1 e2 e3
    subst e1 e3
    refine .inr ⟨g, _, cur, rfl, hb, hg, by omega, hcm, hsz, ?_⟩
    have hxs : xs.flatten = (xs.take m).flatten ++ (xs.drop m).flatten := by rw [← List.flatten_append, List.take_append_drop]
    have h5 : cur.toList.take (m * k) = (cur.toList.take (xs.length * k)).take (m * k) := by rw [List.take_take, Nat.min_eq_left (Nat.mul_le_mul_right _ hm)]
    rw [h5, htk, hxs, List.take_append_of_le_length (by omega), List.take_of_length_le (by omega)]

set_option maxHeartbeats 6400000 in
theorem rnames_any {w : World} {F : Nat → Prop} {g : Nat} {m : Sm} {N : Nat} (hst : PSt w F g m) (hm : m.fine N) (hns : Nms m) (hN : N ≤ 3000) (hL : Keep F LdP w) :
    Calls Tryz.prog 41 #[.pointer (some ⟨g, 0, none⟩)] w fun e w' => ∃ (a b : Value) (F' : Nat → Prop), e = .returned (.tuple #[a, b, errV (nsR m).1]) ∧ PSt w' F' g (callS m) ∧ Goes w F w' F' ∧ Keep (fun q => q < w.heap.size ∨ F' q) (fun u => Us u a (nsR m).2.1 ∧ Us u b (nsR m).2.2) w' := by
  have hls := stList_any (p := [98, 47]) hst hm (by omega) (by simp)
  have hlen := sList_len m [98, 47]
  have hml := hm.len
  have HNR : Hid (nsR m = if (sList m [98, 47]).2 ≠ 0 then ((sList m [98, 47]).2, [], []) else (0, lvN m.l (sList m [98, 47]).1, mkN m.l (sList m [98, 47]).1)) := Lib.hid rfl
  have HXA : Hid ((sList m [98, 47]).2 = 0 → (sList m [98, 47]).1 = sNames m.l [98, 47]) := Lib.hid (by unfold sList; split <;> simp)
  have HSL : Hid (∀ s ∈ (sList m [98, 47]).1, s.length ≤ 100) := Lib.hid (by
    unfold sList
    split
    · intro s hs; cases hs
    · intro s hs
      obtain ⟨o, ho, rfl⟩ := List.mem_map.1 hs
      exact hns o (List.mem_filter.1 ho).1)
  have HUP : Hid ((sList m [98, 47]).2 = 0 → (sList m [98, 47]).1.Pairwise (· < ·)) := Lib.hid fun h => by
    rw [HXA.out h]
    exact sNames_up hst.rise _
  generalize (sList m [98, 47]).1 = ns at HSL hls hlen HNR HXA HUP
  generalize (sList m [98, 47]).2 = bc at hls HNR HXA HUP
  have HLD := Lib.hid hL
  clear hst hm hL hns
  go_enter Tryz.func41, Tryz.ntmps41
  go_wp2_with fail
  refine hls.mono ?_
  rintro e w1 ⟨x, F1, rfl, hx, hP1, hA1, hn1⟩
  have HX1 := Lib.hid hx
  have HP1 := Lib.hid hP1
  have HG1 : Hid (Goes w F w1 F1) := Lib.hid ⟨hA1, hn1⟩
  clear hls hx hP1 hA1 hn1
  by_cases hbc : bc = 0
  rotate_left
  · have hce := errV_code hbc
    have HE : Hid (nsR m = (bc, [], [])) := Lib.hid (by rw [HNR.out, if_pos hbc])
    rw [hce]
    clear HNR HXA HUP
    go_wp2_with fail
    go_ret3
    rw [HE.out]
    exact ⟨_, _, F1, by rw [show errV (bc, ([] : List Nat), ([] : List Nat)).1 = code bc from hce]; rfl, HP1.out, HG1.out, fun u _ => ⟨Us.nil u, Us.nil u⟩⟩
  subst hbc
  obtain ⟨A, c, rfl, _, _⟩ := HX1.out.here.form
  have HE : Hid (nsR m = (0, lvS ns, mkS ns)) := Lib.hid (by
    have h1 := HXA.out rfl
    have h2 := lvS_all m.l
    rw [← h1] at h2
    rw [HNR.out, if_neg (by simp), h2.1, h2.2])
  have HUPZ := Lib.hid (HUP.out rfl)
  clear HNR HXA HUP
  simp only [errV_zero]
  go_wp2_with fail
  have HLK : Hid (Keep F1 LdP w1) := Lib.hid (HLD.out.go HG1.out.apt HG1.out.new)
  go_loopg [7, 8, 29] ns.length (fun gk av bv iv wr => ∃ k : Nat, k + gk = ns.length ∧ iv = .int .i64 (k : Int) ∧ Hid (OwnU wr w1.heap.size av (lvS (ns.take k)) ∧ OwnU wr w1.heap.size bv (mkS (ns.take k)) ∧ (∀ q, av.ownBlock = some q → bv.ownBlock ≠ some q) ∧ Below w1.heap.size w1 wr))
  case atStart => exact ⟨0, by omega, rfl, Lib.hid ⟨OwnU.nil _ _, OwnU.nil _ _, (fun q h => by cases h), Below.refl _ _⟩⟩
  case round =>
    obtain ⟨k2, hk2, rfl, HW⟩ := hrel
    have HB1r : Hid (Below w1.heap.size w1 wr) := Lib.hid HW.out.2.2.2
    by_cases hlt : k2 < ns.length
    · obtain ⟨gk2, hgk2⟩ : ∃ x, gk = x + 1 := ⟨gk - 1, by omega⟩
      obtain ⟨s, hks⟩ : ∃ t, ns[k2]? = some t := ⟨_, List.getElem?_eq_getElem hlt⟩
      have hT : ns.take (k2 + 1) = ns.take k2 ++ [s] := by rw [List.take_add_one, hks]; rfl
      have HT := Lib.hid hT
      have HPW : Hid ((ns.take k2 ++ [s]).Pairwise (· < ·)) := Lib.hid (by rw [← hT]; exact HUPZ.out.sublist (List.take_sublist _ _))
      obtain ⟨gx, px, rfl, hgx, x0⟩ := (HX1.out.below HB1r.out).here.cell hks
      have a0 : (0 : Int) ≤ (k2 : Int) := by omega
      have a1 : (k2 : Int) < (ns.length : Int) := by omega
      have hsl := HSL.out s (List.mem_of_getElem? hks)
      have hpar := mparse_any s wr (by omega) (HLK.out.below HB1r.out).here
      clear hks hgx hsl hT
      go_wp2_with fail
      refine hpar.mono ?_
      rintro e w5 ⟨id, what, n, is, rfl, hPP, hb5⟩
      have HPP := Lib.hid hPP
      have HOA := Lib.hid (HW.out.1.below hb5)
      have HOB := Lib.hid (HW.out.2.1.below hb5)
      have HN5 := Lib.hid HW.out.2.2.1
      have HB5 := Lib.hid (HW.out.2.2.2.trans (hb5.mono HW.out.2.2.2.size))
      clear hpar hPP hb5 HW x0 HB1r
      by_cases hm : what = [109]
      · subst hm
        have his : is = true := by
          rcases HPP.out with ⟨h, _⟩ | ⟨_, _, h, _⟩
          · exact h
          · cases h
        subst his
        obtain ⟨hid, hidl⟩ := idOf_yes HPP.out
        have HF := Lib.hid (lvS_meta (ns := ns.take k2) hid HPW.out)
        have hmm : ((Bstr [109]).toList == [109]) = true := by rw [Bstr_toList]; rfl
        clear HPP hid
        have H6 : Hid (Below w5.heap.size w5 (w5.alloc (.cells #[.int .u64 (id : Int)] 83))) := Lib.hid ((Below.refl _ _).alloc (Nat.le_refl _) _)
        have HL6 : Hid ((lvS (ns.take k2)).length + [id].length ≤ 1000000000000) := Lib.hid (by have := (lvS_len (ns.take k2)).1; rw [List.length_take] at this; simp; omega)
        have HS5 : Hid (w1.heap.size ≤ w5.heap.size) := Lib.hid HB5.out.size
        go_wp2_with (at_builtin; refine wpList_append_u rfl _ _ rfl rfl (HOA.out.below H6.out) rfl (Us.lit w5 id _) HL6.out (Nat.le_trans HS5.out H6.out.size) ?_)
        intro v7 w7 ho7 hg7 hv7
        have hb6 := H6.out
        have hlo : ∀ q, u7.ownBlock = some q → w1.heap.size ≤ q := fun q hq => (HOA.out.lt q hq).1
        have HO7 : Hid (OwnU w7 w1.heap.size v7 (lvS (ns.take (k2 + 1)))) := Lib.hid (by rw [HT.out, (HF.out).1]; exact ho7)
        have HP7 : Hid (OwnU w7 w1.heap.size u8 (mkS (ns.take (k2 + 1)))) := Lib.hid (by
          rw [HT.out, (HF.out).2]
          exact OwnL.kept (HOB.out.below hb6) hg7 (by
            cases h4 : u8.ownBlock with
            | none => exact .inl rfl
            | some z => exact .inr fun e => HN5.out z e.symm h4))
        have HN7 : Hid (∀ q, v7.ownBlock = some q → u8.ownBlock ≠ some q) := Lib.hid fun q hq e => by
          rcases hv7 with h | h
          · exact HN5.out q (h ▸ hq) e
          · rw [h] at hq
            have h1 := Option.some.inj hq
            have h2 := (HOB.out.lt q e).2
            have h3 := hb6.size
            omega
        have HB7 : Hid (Below w1.heap.size w1 w7) := Lib.hid ((HB5.out.trans (hb6.mono HB5.out.size)).grown hg7 (Nat.le_trans HB5.out.size hb6.size) fun q hq => hlo q hq)
        clear ho7 hg7 hv7 hlo hb6
        go_wp2_with fail
        go_roundg gk2
        case measure => omega
        case rel => exact ⟨k2 + 1, by omega, by go_num, Lib.hid ⟨HO7.out, HP7.out, HN7.out, HB7.out⟩⟩
      by_cases hx : what = [120]
      rotate_left
      · have hwb : ((Bstr what).toList == [109]) = false := by rw [Bstr_toList]; simpa using hm
        have hwc : ((Bstr what).toList == [120]) = false := by rw [Bstr_toList]; simpa using hx
        have HF := Lib.hid (lvS_none (ns := ns.take k2) (idOf_other HPP.out hm) (parse_nox HPP.out (.inr hx)))
        clear HPP hm hx
        go_wp2_with fail
        go_roundg gk2
        case measure => omega
        case rel => exact ⟨k2 + 1, by omega, by go_num, Lib.hid ⟨by rw [HT.out, HF.out.1]; exact HOA.out, by rw [HT.out, HF.out.2]; exact HOB.out, HN5.out, HB5.out⟩⟩
      subst hx
      have his : is = true := by
        rcases HPP.out with ⟨h, _⟩ | ⟨_, _, h, _⟩
        · exact h
        · cases h
      subst his
      obtain ⟨hs, hidl⟩ := parse_x HPP.out
      have hmk := lvS_mark (ns := ns.take k2) hs hidl HPW.out
      have hwb : ((Bstr [120]).toList == [109]) = false := by rw [Bstr_toList]; rfl
      have hwc : ((Bstr [120]).toList == [120]) = true := by rw [Bstr_toList]; rfl
      clear HPP hs hm
      rcases hmk with ⟨kk, e1, e2, e3⟩ | ⟨e1, e2, e3⟩
      · have HE2 := Lib.hid e2
        have HE3 := Lib.hid e3
        have ho5 := HOA.out
        rw [e1] at ho5
        have hll : kk.length + 1 ≤ ns.length := by
          have := (lvS_len (ns.take k2)).1
          rw [e1, List.length_take, List.length_append, List.length_singleton] at this
          omega
        clear HOA e1 e2 e3
        have hat := OwnL.at_ ho5
        have hlm : ((kk ++ [id]).map uC).length = kk.length + 1 := by simp
        rcases hat with ⟨_, h0⟩ | ⟨g7, c7, hv7, hc7, hc8, _⟩
        · rw [h0] at hlm
          simp at hlm
        rw [hlm] at hv7 hc7
        subst hv7
        obtain ⟨gy, py, hay, hgy, y0⟩ := Us.cell ho5.us (k := kk.length) (x := id) (by simp)
        injection hay with hay
        injection hay with e1 e2
        subst e1 e2
        simp only [Nat.zero_add] at y0
        have hsl : ∀ u, (Instr.slice 39 (.slice (some ⟨g7, 0, none⟩) (kk.length + 1) c7) none (some (.int .i64 (kk.length : Int))) none).run Tryz.prog u = .ok (.slice (some ⟨g7, 0, none⟩) kk.length c7) u := fun u => run_slice_upto uT rfl kk.length (by omega) hc7 u
        have hpj : (((kk.length + 1 : Nat) : Int) - 1) = (kk.length : Int) := by omega
        have hpk : IntKind.i64.wrap (((kk.length + 1 : Nat) : Int) - 1) = (kk.length : Int) := by rw [hpj]; exact IntWalk.i64_in _ (by omega)
        have b0 : (0 : Int) ≤ (kk.length : Int) := by omega
        have b1 : (kk.length : Int) < ((kk.length + 1 : Nat) : Int) := by omega
        have HOA2 : Hid (OwnU w5 w1.heap.size (.slice (some ⟨g7, 0, none⟩) kk.length c7) kk) := Lib.hid (by
          have := OwnL.firsts ho5 kk.length (by simp)
          have e : ((kk ++ [id]).map uC).take kk.length = kk.map uC := by rw [List.map_append, List.take_left' (by simp)]
          rw [e] at this
          exact this)
        clear ho5 hlm hgy
        have H6 : Hid (Below w5.heap.size w5 (w5.alloc (.cells #[.int .u64 (id : Int)] 83))) := Lib.hid ((Below.refl _ _).alloc (Nat.le_refl _) _)
        have HL6 : Hid ((mkS (ns.take k2)).length + [id].length ≤ 1000000000000) := Lib.hid (by have := (lvS_len (ns.take k2)).2; rw [List.length_take] at this; simp; omega)
        have HS5 : Hid (w1.heap.size ≤ w5.heap.size) := Lib.hid HB5.out.size
        go_wp2_with (at_builtin; refine wpList_append_u rfl _ _ rfl rfl (HOB.out.below H6.out) rfl (Us.lit w5 id _) HL6.out (Nat.le_trans HS5.out H6.out.size) ?_)
        intro v7 w7 ho7 hg7 hv7
        have hb6 := H6.out
        have hlo : ∀ q, u8.ownBlock = some q → w1.heap.size ≤ q := fun q hq => (HOB.out.lt q hq).1
        have HO7 : Hid (OwnU w7 w1.heap.size v7 (mkS (ns.take (k2 + 1)))) := Lib.hid (by rw [HT.out, HE3.out]; exact ho7)
        have HP7 : Hid (OwnU w7 w1.heap.size (.slice (some ⟨g7, 0, none⟩) kk.length c7) (lvS (ns.take (k2 + 1)))) := Lib.hid (by
          rw [HT.out, HE2.out]
          exact OwnL.kept (HOA2.out.below hb6) hg7 (.inr fun e => HN5.out g7 rfl e.symm))
        have HN7 : Hid (∀ q, (Value.slice (some ⟨g7, 0, none⟩) kk.length c7).ownBlock = some q → v7.ownBlock ≠ some q) := Lib.hid fun q hq e => by
          rcases hv7 with h | h
          · exact HN5.out q hq (h ▸ e)
          · rw [h] at e
            have h1 := Option.some.inj e
            have h2 := (HOA2.out.lt q hq).2
            have h3 := hb6.size
            omega
        have HB7 : Hid (Below w1.heap.size w1 w7) := Lib.hid ((HB5.out.trans (hb6.mono HB5.out.size)).grown hg7 (Nat.le_trans HB5.out.size hb6.size) fun q hq => hlo q hq)
        clear ho7 hg7 hv7 hlo hb6
        go_wp2_with fail
        go_roundg gk2
        case measure => omega
        case rel => exact ⟨k2 + 1, by omega, by go_num, Lib.hid ⟨HP7.out, HO7.out, HN7.out, HB7.out⟩⟩
      · have HREL : Hid (OwnU w5 w1.heap.size u7 (lvS (ns.take (k2 + 1))) ∧ OwnU w5 w1.heap.size u8 (mkS (ns.take (k2 + 1)))) := Lib.hid (by
          rw [HT.out, e2, e3]
          exact ⟨HOA.out, HOB.out⟩)
        obtain ⟨A7, c7, hv7, _, _⟩ := HOA.out.us.form
        clear e2 e3
        by_cases hl0 : lvS (ns.take k2) = []
        · rw [hl0] at hv7
          simp only [List.length_nil] at hv7
          subst hv7
          clear e1 hl0
          go_wp2_with fail
          go_roundg gk2
          case measure => omega
          case rel => exact ⟨k2 + 1, by omega, by go_num, Lib.hid ⟨HREL.out.1, HREL.out.2, HN5.out, HB5.out⟩⟩
        · obtain ⟨kk, j, hkj⟩ : ∃ kk j, lvS (ns.take k2) = kk ++ [j] := ⟨_, _, (List.dropLast_concat_getLast hl0).symm⟩
          have ho5 := HOA.out
          rw [hkj] at hv7 e1 ho5
          have hji : j ≠ id := fun e => e1 (by simp [e])
          have hll : kk.length + 1 ≤ ns.length := by
            have := (lvS_len (ns.take k2)).1
            rw [hkj, List.length_take, List.length_append, List.length_singleton] at this
            omega
          have hlm : (kk ++ [j]).length = kk.length + 1 := by simp
          rw [hlm] at hv7
          subst hv7
          obtain ⟨gy, py, rfl, hgy, y0⟩ := Us.cell ho5.us (k := kk.length) (x := j) (by simp)
          have hne : ((j : Int) == (id : Int)) = false := by
            have : (j : Int) ≠ (id : Int) := by omega
            simpa using this
          have hpj : (((kk.length + 1 : Nat) : Int) - 1) = (kk.length : Int) := by omega
          have hpk : IntKind.i64.wrap (((kk.length + 1 : Nat) : Int) - 1) = (kk.length : Int) := by rw [hpj]; exact IntWalk.i64_in _ (by omega)
          have b0 : (0 : Int) ≤ (kk.length : Int) := by omega
          have b1 : (kk.length : Int) < ((kk.length + 1 : Nat) : Int) := by omega
          clear ho5 hlm hgy e1 hji hkj hl0 HOA
          go_wp2_with fail
          go_roundg gk2
          case measure => omega
          case rel => exact ⟨k2 + 1, by omega, by go_num, Lib.hid ⟨HREL.out.1, HREL.out.2, HN5.out, HB5.out⟩⟩
    · have hkn : k2 = ns.length := by omega
      subst hkn
      have HOA := Lib.hid HW.out.1
      have HOB := Lib.hid HW.out.2.1
      rw [List.take_length] at HOA HOB
      clear hlt
      go_wp2_with fail
      go_ret3
      rw [HE.out]
      refine ⟨_, _, F1, by rw [errV_zero]; rfl, HP1.out.below HB1r.out, HG1.out.later HB1r.out, fun u hu => ?_⟩
      have hbd : ∀ q, w1.heap.size ≤ q → ¬ (q < w.heap.size ∨ F1 q) := fun q hq h => by
        have h1 := HG1.out.apt.size
        rcases h with h | h
        · omega
        · have := HP1.out.lt q h
          omega
      exact ⟨(OwnL.apt HOA.out hu fun q hq => hbd q (HOA.out.lt q hq).1).lv, (OwnL.apt HOB.out hu fun q hq => hbd q (HOB.out.lt q hq).1).lv⟩

set_option maxHeartbeats 6400000 in
theorem rmark_any {w : World} {F : Nat → Prop} {g : Nat} {m : Sm} {N : Nat} (id : Nat) (hst : PSt w F g m) (hm : m.fine N) (hN : N ≤ 100000) (hid : id < 18446744073709551616) (hL : Ld w) :
    Calls Tryz.prog 43 #[.pointer (some ⟨g, 0, none⟩), .int .u64 (id : Int)] w fun e w' => e = .returned (.tuple #[mkV (mrR m id).2, errV (mrR m id).1]) ∧ ∃ F', PSt w' F' g (callS m) ∧ Goes w F w' F' := by
  have HFlt := Lib.hid hst.lt
  have hb0 : Below w.heap.size w (w.alloc (.cells mkZ 89)) := (Below.refl _ _).alloc (Nat.le_refl _) _
  have HR0 : Hid (Blk (w.alloc (.cells mkZ 89)) w.heap.size 89 mkZ) := Lib.hid (Blk.new _ _ _)
  have HB0 := Lib.hid hb0
  have HP0 := Lib.hid (hst.below hb0)
  have HLD := Lib.hid (hL.below hb0)
  have hget := fun u (hu : PSt u F g m) => stGet_any (n := nmOf id [120] 0) hu hm hN (by rw [nmOf_sort (show sortW [120] from by simp [sortW])]; simp [nmHead_length])
  have hlen : (sGet m (nmOf id [120] 0)).1.length ≤ 1048576 := Nat.le_trans (sGet_len _ _) hm.used
  have HRR : Hid (mrR m id = if (sGet m (nmOf id [120] 0)).2 ≠ 0 then ((sGet m (nmOf id [120] 0)).2, Mk.zero) else if (mkX (sGet m (nmOf id [120] 0)).1).1 ≠ 0 then ((mkX (sGet m (nmOf id [120] 0)).1).1, Mk.zero) else if (mkX (sGet m (nmOf id [120] 0)).1).2.id = (id : Int) then (0, (mkX (sGet m (nmOf id [120] 0)).1).2) else (2, Mk.zero)) := Lib.hid rfl
  generalize (sGet m (nmOf id [120] 0)).1 = sb at hget hlen HRR
  generalize (sGet m (nmOf id [120] 0)).2 = bc at hget HRR
  have hmeta := fun u x (hx : Bs u x sb) => mmarked_any u hx (by omega)
  generalize (mkX sb).1 = mc at hmeta HRR
  generalize (mkX sb).2 = M at hmeta HRR
  obtain ⟨mi, ma, mb⟩ := M
  simp only [mkV] at hmeta
  clear hst hL hb0 hm
  go_enter Tryz.func43, Tryz.ntmps43
  go_wp2_with fail
  revert HR0 HB0 HP0 HLD
  generalize w.alloc (.cells mkZ 89) = w0
  intro HR0 HB0 HP0 HLD
  refine (mname_any id [120] 0 _ hid HLD.out).mono ?_
  rintro e w1 ⟨rfl, hb1⟩
  have HR1 := Lib.hid (HR0.out.below hb1 HR0.out.lt)
  have HB1 := Lib.hid (HB0.out.trans (hb1.mono HB0.out.size))
  have HP1 := Lib.hid (HP0.out.below hb1)
  clear hb1 HR0 HB0 HP0 HLD
  go_wp2_with fail
  refine (hget _ HP1.out).mono ?_
  rintro e w2 ⟨x, F2, rfl, hox, hP2, hA2, hn2, _⟩
  have hnF : ¬ F w.heap.size := fun h => by have := HFlt.out _ h; omega
  have HR2 : Hid (Blk w2 w.heap.size 89 mkZ) := Lib.hid ((hA2.block _ HR1.out.lt hnF).trans HR1.out)
  have HNF : Hid (¬ F2 w.heap.size) := Lib.hid fun h => by
    rcases hn2 _ h with h | h
    · exact hnF h
    · have := HR1.out.lt
      omega
  have HG2 : Hid (Goes w F w2 F2) := Lib.hid ((Goes.of_below HB1.out).trans ⟨hA2, hn2⟩)
  have HP2 := Lib.hid hP2
  have HBS := Lib.hid hox.bs
  clear hget hP2 hA2 hn2 hnF hox HR1 HB1 HP1
  by_cases hbc : bc = 0
  rotate_left
  · have hce := errV_code hbc
    have hRR : mrR m id = (bc, Mk.zero) := by rw [HRR.out, if_pos hbc]
    have HE := Lib.hid hRR
    rw [hce]
    have hfz := fun i => HR2.out.frozen i
    have r0 := HR2.out.cell 0
    have r1 := HR2.out.cell 1
    have r2 := HR2.out.cell 2
    simp at r0 r1 r2
    clear hmeta hRR
    go_wp2_with fail
    have hm2 := setall3 _ HR2.out (.int .u64 0) (.int .i64 0) (.int .u64 0)
    have hg2 := gset3 w2 w.heap.size (.int .u64 0) (.int .i64 0) (.int .u64 0)
    refine bodyPost_ret (v := .tuple #[.agg mkZ, code bc]) (by have c := hm2.cell; simp [results, go_sem, c]; try rfl) rfl ?_
    refine ⟨?_, F2, HP2.out.keep (Apt.of_grown hg2 fun q hq => by have := Option.some.inj hq; subst this; exact HNF.out), HG2.out.newset hg2 (Nat.le_refl _)⟩
    rw [HE.out]
    rw [show errV (bc, Mk.zero).1 = code bc from hce]
    rfl
  subst hbc
  simp only [errV_zero]
  go_wp2_with fail
  refine (hmeta _ _ HBS.out).mono ?_
  rintro e w4 ⟨rfl, hb4⟩
  have HR4 := Lib.hid (HR2.out.below hb4 HR2.out.lt)
  have HG4 := Lib.hid (HG2.out.later hb4)
  have HP4 := Lib.hid (HP2.out.below hb4)
  have hb5 : Below w4.heap.size w4 (w4.alloc (.cells #[.int .u64 mi, .int .i64 ma, .int .u64 mb] 89)) := (Below.refl _ _).alloc (Nat.le_refl _) _
  have HR5 := Lib.hid (HR4.out.below hb5 HR4.out.lt)
  have HG5 := Lib.hid (HG4.out.later hb5)
  have HP5 := Lib.hid (HP4.out.below hb5)
  have hfz := fun i => HR5.out.frozen i
  have r0 := HR5.out.cell 0
  have r1 := HR5.out.cell 1
  have r2 := HR5.out.cell 2
  simp at r0 r1 r2
  clear hmeta hb4 hb5 HR2 HG2 HP2 HBS HR4 HG4 HP4
  by_cases hmc : mc = 0
  rotate_left
  · have hce := errV_code hmc
    have HE : Hid (mrR m id = (mc, Mk.zero)) := Lib.hid (by rw [HRR.out, if_neg (by simp), if_pos hmc])
    rw [hce]
    clear HRR
    go_wp2_with fail
    clear hfz r0 r1 r2
    revert HR5 HG5 HP5
    generalize w4.alloc (.cells #[.int .u64 mi, .int .i64 ma, .int .u64 mb] 89) = w5
    intro HR5 HG5 HP5
    have hm2 := setall3 _ HR5.out (.int .u64 0) (.int .i64 0) (.int .u64 0)
    have hg2 := gset3 w5 w.heap.size (.int .u64 0) (.int .i64 0) (.int .u64 0)
    refine bodyPost_ret (v := .tuple #[.agg mkZ, code mc]) (by have c := hm2.cell; simp [results, go_sem, c]; try rfl) rfl ?_
    refine ⟨?_, F2, HP5.out.keep (Apt.of_grown hg2 fun q hq => by have := Option.some.inj hq; subst this; exact HNF.out), HG5.out.newset hg2 (Nat.le_refl _)⟩
    rw [HE.out]
    rw [show errV (mc, Mk.zero).1 = code mc from hce]
    rfl
  subst hmc
  simp only [errV_zero]
  by_cases hie : mi = (id : Int)
  rotate_left
  · have hbe : (mi == (id : Int)) = false := by simpa using hie
    have HE : Hid (mrR m id = (2, Mk.zero)) := Lib.hid (by rw [HRR.out, if_neg (by simp), if_neg (by simp), if_neg hie])
    clear HRR
    go_wp2_with fail
    clear hfz r0 r1 r2
    revert HR5 HG5 HP5
    generalize w4.alloc (.cells #[.int .u64 mi, .int .i64 ma, .int .u64 mb] 89) = w5
    intro HR5 HG5 HP5
    have hm2 := setall3 _ HR5.out (.int .u64 0) (.int .i64 0) (.int .u64 0)
    have hg2 := gset3 w5 w.heap.size (.int .u64 0) (.int .i64 0) (.int .u64 0)
    refine bodyPost_ret (v := .tuple #[.agg mkZ, code 2]) (by have c := hm2.cell; simp [results, go_sem, c]; try rfl) rfl ?_
    refine ⟨?_, F2, HP5.out.keep (Apt.of_grown hg2 fun q hq => by have := Option.some.inj hq; subst this; exact HNF.out), HG5.out.newset hg2 (Nat.le_refl _)⟩
    rw [HE.out]
    rfl
  subst hie
  have HE : Hid (mrR m id = (0, ⟨id, ma, mb⟩)) := Lib.hid (by rw [HRR.out, if_neg (by simp), if_neg (by simp), if_pos rfl])
  clear HRR
  go_wp2_with fail
  clear hfz r0 r1 r2
  revert HR5 HG5 HP5
  generalize w4.alloc (.cells #[.int .u64 id, .int .i64 ma, .int .u64 mb] 89) = w5
  intro HR5 HG5 HP5
  have hm2 := setall3 _ HR5.out (.int .u64 id) (.int .i64 ma) (.int .u64 mb)
  have hg2 := gset3 w5 w.heap.size (.int .u64 id) (.int .i64 ma) (.int .u64 mb)
  refine bodyPost_ret (v := .tuple #[.agg #[.int .u64 id, .int .i64 ma, .int .u64 mb], errV 0]) (by have c := hm2.cell; simp [results, go_sem, c]; try rfl) rfl ?_
  refine ⟨?_, F2, HP5.out.keep (Apt.of_grown hg2 fun q hq => by have := Option.some.inj hq; subst this; exact HNF.out), HG5.out.newset hg2 (Nat.le_refl _)⟩
  rw [HE.out]
  rfl

set_option maxHeartbeats 12800000 in
theorem rlist_any {w : World} {F : Nat → Prop} {g : Nat} {m : Sm} {N : Nat} (hst : PSt w F g m) (hm : m.fine N) (hns : Nms m) (hN : N ≤ 3000) (hL : Keep F LdP w) :
    Calls Tryz.prog 24 #[.pointer (some ⟨g, 0, none⟩)] w fun e w' => ∃ (a b : Value) (F' : Nat → Prop), e = .returned (.tuple #[roV a b, errV (liR m).1.1]) ∧ PSt w' F' g (liR m).2 ∧ Goes w F w' F' ∧ Keep (fun q => q < w.heap.size ∨ F' q) (fun u => Mes u a (liR m).1.2.1 ∧ Mks u b (liR m).1.2.2) w' := by
  have hb0 : Below w.heap.size w (w.alloc (.cells #[.slice none 0 0, .slice none 0 0] 60)) := (Below.refl _ _).alloc (Nat.le_refl _) _
  have HR0 : Hid (Blk (w.alloc (.cells #[.slice none 0 0, .slice none 0 0] 60)) w.heap.size 60 #[.slice none 0 0, .slice none 0 0]) := Lib.hid (Blk.new _ _ _)
  have HP0 := Lib.hid (hst.below hb0)
  have HB0 := Lib.hid hb0
  have HLD := Lib.hid (hL.below hb0)
  have HFlt := Lib.hid hst.lt
  have HM := Lib.hid hm
  have hcal := fun u (hu : PSt u F g m) (hl : Keep F LdP u) => rnames_any hu hm hns hN hl
  have hlen := nsR_len m
  have HLT := Lib.hid (nsR_lt m)
  have hml := hm.len
  have HLI : Hid (liR m = if (nsR m).1 ≠ 0 then (((nsR m).1, [], []), callS m)
    else if (loR (nsR m).2.1 (callS m) []).1.1 ≠ 0 then (((loR (nsR m).2.1 (callS m) []).1.1, [], []), (loR (nsR m).2.1 (callS m) []).2)
    else if (moR (nsR m).2.2 (loR (nsR m).2.1 (callS m) []).2 []).1.1 ≠ 0 then (((moR (nsR m).2.2 (loR (nsR m).2.1 (callS m) []).2 []).1.1, [], []), (moR (nsR m).2.2 (loR (nsR m).2.1 (callS m) []).2 []).2)
    else if 1000 < (nsR m).2.1.length + (nsR m).2.2.length then ((3, [], []), (moR (nsR m).2.2 (loR (nsR m).2.1 (callS m) []).2 []).2)
    else ((0, (loR (nsR m).2.1 (callS m) []).1.2, (moR (nsR m).2.2 (loR (nsR m).2.1 (callS m) []).2 []).1.2), (moR (nsR m).2.2 (loR (nsR m).2.1 (callS m) []).2 []).2)) := Lib.hid rfl
  generalize nsR m = nm at hcal hlen HLT HLI
  obtain ⟨bc, live, marked⟩ := nm
  simp only at hcal hlen HLT HLI
  clear hb0 hst hm hns hL
  go_enter Tryz.func24, Tryz.ntmps24
  go_wp2_with fail
  revert HR0 HP0 HB0 HLD
  generalize w.alloc (.cells #[.slice none 0 0, .slice none 0 0] 60) = w0
  intro HR0 HP0 HB0 HLD
  refine (hcal _ HP0.out HLD.out).mono ?_
  rintro e w1 ⟨la, lb, F1, rfl, hP1, hG1, hU1⟩
  have hnF : ¬ F w.heap.size := fun h => by have := HFlt.out _ h; omega
  have hR1 : Blk w1 w.heap.size 60 #[.slice none 0 0, .slice none 0 0] := (hG1.apt.block _ HR0.out.lt hnF).trans HR0.out
  have HNF1 : Hid (¬ F1 w.heap.size) := Lib.hid fun h => by
    rcases hG1.new _ h with h | h
    · exact hnF h
    · have := HR0.out.lt
      omega
  have HR1 := Lib.hid hR1
  have HP1 := Lib.hid hP1
  have HL1 : Hid (Keep F1 LdP w1) := Lib.hid (HLD.out.go hG1.apt hG1.new)
  have HU1 : Hid (Keep F1 (fun u => Us u la live ∧ Us u lb marked) w1) := Lib.hid (hU1.less fun q hq => .inl (.inr hq))
  have HG1 : Hid (Goes w F w1 F1) := Lib.hid ((Goes.of_below HB0.out).trans hG1)
  have HGW : Hid (w.heap.size < w1.heap.size) := Lib.hid hR1.lt
  clear hcal hP1 hG1 hU1 hnF hR1 HR0 HP0 HLD HB0
  by_cases hbc : bc = 0
  rotate_left
  · have hbe := errV_code hbc
    have HX : Hid (liR m = ((bc, [], []), callS m)) := Lib.hid (by rw [HLI.out, if_pos hbc])
    have r0 := Blk.cell HR1.out 0
    have r1 := Blk.cell HR1.out 1
    have f0 := Blk.frozen HR1.out 0
    have f1 := Blk.frozen HR1.out 1
    simp at r0 r1
    rw [hbe]
    clear HLI
    obtain ⟨Ala, cla, rfl, _, _⟩ := HU1.out.here.1.form
    obtain ⟨Alb, clb, rfl, _, _⟩ := HU1.out.here.2.form
    go_wp2_with fail
    have hm2 := (Blk.set_ HR1.out 0 (.slice none 0 0)).set_ 1 (.slice none 0 0)
    have hg2 := grown_trans (grown_set (w1) w.heap.size 0 (.slice none 0 0)) (grown_set _ w.heap.size 1 (.slice none 0 0))
    refine bodyPost_ret (v := .tuple #[roV (.slice none 0 0) (.slice none 0 0), code bc]) (by have c := hm2.cell; simp [results, Tryz.results24, go_sem, c]; try rfl) rfl ?_
    rw [HX.out]
    exact ⟨_, _, F1, by rw [show errV (bc, ([] : List Me), ([] : List Mk)).1 = code bc from hbe], HP1.out.keep (Apt.of_grown hg2 fun q hq => by have := Option.some.inj hq; subst this; exact HNF1.out), HG1.out.newset hg2 (Nat.le_refl _), fun u _ => ⟨Mes.nil u, Mks.nil u⟩⟩
  subst hbc
  have HLI2 : Hid (liR m = if (loR live (callS m) []).1.1 ≠ 0 then (((loR live (callS m) []).1.1, [], []), (loR live (callS m) []).2)
    else if (moR marked (loR live (callS m) []).2 []).1.1 ≠ 0 then (((moR marked (loR live (callS m) []).2 []).1.1, [], []), (moR marked (loR live (callS m) []).2 []).2)
    else if 1000 < live.length + marked.length then ((3, [], []), (moR marked (loR live (callS m) []).2 []).2)
    else ((0, (loR live (callS m) []).1.2, (moR marked (loR live (callS m) []).2 []).1.2), (moR marked (loR live (callS m) []).2 []).2)) := Lib.hid (by rw [HLI.out, if_neg (by simp)])
  clear HLI
  simp only [errV_zero]
  obtain ⟨Al, cl, rfl, _, _⟩ := HU1.out.here.1.form
  obtain ⟨Am, cm, rfl, _, _⟩ := HU1.out.here.2.form
  go_wp2_with fail
  obtain ⟨w3, hw3⟩ : ∃ z, z = w1.alloc (.cells #[.slice none 0 0, .slice none 0 0] 60) := ⟨_, rfl⟩
  obtain ⟨g8, hg8⟩ : ∃ z, z = w1.heap.size := ⟨_, rfl⟩
  have hb3 : Below w1.heap.size w1 w3 := by rw [hw3]; exact (Below.refl _ _).alloc (Nat.le_refl _) _
  have HR8 : Hid (Blk w3 g8 60 #[.slice none 0 0, .slice none 0 0]) := Lib.hid (by rw [hw3, hg8]; exact Blk.new _ _ _)
  have HG8 : Hid (w.heap.size < g8) := Lib.hid (by rw [hg8]; exact HGW.out)
  have HGE : Hid (w1.heap.size = g8) := Lib.hid hg8.symm
  have HNF8 : Hid (¬ F1 g8) := Lib.hid fun h => by have := HP1.out.lt _ h; omega
  have HUA : Hid (∀ u Fk, Goes w1 F1 u Fk → Us u (.slice Al live.length cl) live ∧ Us u (.slice Am marked.length cm) marked) := Lib.hid fun u Fk hu => HU1.out u hu.apt
  have HLU : Hid (∀ u Fk, Goes w1 F1 u Fk → Keep Fk LdP u) := Lib.hid fun u Fk hu => HL1.out.go hu.apt hu.new
  have HRC : Hid (∀ u Fk, Goes w1 F1 u Fk → Blk u w.heap.size 60 #[.slice none 0 0, .slice none 0 0] ∧ ¬ Fk w.heap.size) := Lib.hid fun u Fk hu => ⟨(hu.apt.block _ HR1.out.lt HNF1.out).trans HR1.out, fun h => by
    rcases hu.new _ h with h | h
    · exact HNF1.out h
    · have := HGW.out
      omega⟩
  have HP3 := Lib.hid (HP1.out.below hb3)
  have HG3 : Hid (Goes w1 F1 w3 F1) := Lib.hid (Goes.of_below hb3)
  rw [← hw3, ← hg8]
  clear hw3 hg8 hb3 HU1 HL1 HR1 HNF1 HP1 HGW
  go_loopg [28] live.length (fun gk iv wr => ∃ (i : Nat) (av : Value) (mk : Sm) (Fk : Nat → Prop) (out : List Me), i + gk = live.length ∧ iv = .int .i64 (i : Int) ∧ Hid (Goes w1 F1 wr Fk ∧ Blk wr g8 60 #[av, .slice none 0 0] ∧ OwnK 6 wr (g8 + 1) 85 (fun _ => True) MeC av out ∧ PSt wr Fk g mk ∧ loR live (callS m) [] = loR (live.drop i) mk out ∧ mk.fine (N + 1 + i) ∧ out.length ≤ i ∧ (∀ q, av.ownBlock = some q → ¬ Fk q) ∧ ¬ Fk g8))
  case atStart => exact ⟨0, _, callS m, F1, [], by omega, rfl, Lib.hid ⟨HG3.out, HR8.out, OwnK.nil _ _ _ _ _ _, HP3.out, rfl, HM.out.call, by simp, (fun q h => by cases h), HNF8.out⟩⟩
  case round =>
    obtain ⟨i, av, mk, Fk, out, hi, rfl, HW⟩ := hrel
    clear HR8 HP3 HG3
    obtain ⟨hGo, hB, hO, hP, hlo, hfi, hol, hvF, hgF⟩ := HW.out
    by_cases hlt : i < live.length
    · obtain ⟨gk1, hgk1⟩ : ∃ x, gk = x + 1 := ⟨gk - 1, by omega⟩
      obtain ⟨id, hid⟩ : ∃ t, live[i]? = some t := ⟨_, List.getElem?_eq_getElem hlt⟩
      have hdr : live.drop i = id :: live.drop (i + 1) := by rw [List.drop_eq_getElem_cons hlt, (List.getElem?_eq_some_iff.1 hid).2]
      have hidl := HLT.out.1 id (List.mem_of_getElem? hid)
      obtain ⟨gx, px, rfl, hgx, x0⟩ := (HUA.out wr Fk hGo).1.cell hid
      have a0 : (0 : Int) ≤ (i : Int) := by omega
      have a1 : (i : Int) < (live.length : Int) := by omega
      have hcall := rmeta_any id hP hfi (by omega) hidl (HLU.out wr Fk hGo).here.ld
      have HOKM := Lib.hid (meR_ok mk id)
      have HON : Hid ((meR mk id).1 = 0 → loR live (callS m) [] = loR (live.drop (i + 1)) (callS mk) (out ++ [(meR mk id).2])) := Lib.hid fun h => by rw [hlo, hdr, loR_on h]
      have HNO : Hid ((meR mk id).1 ≠ 0 → loR live (callS m) [] = (((meR mk id).1, out), callS mk)) := Lib.hid fun h => by rw [hlo, hdr, loR_no h]
      have HFI : Hid ((callS mk).fine (N + 1 + (i + 1))) := Lib.hid hfi.call
      have HOL := Lib.hid hol
      generalize meR mk id = mr at hcall HOKM HON HNO
      obtain ⟨mc, mi, ml, ms, mn, mp, mt⟩ := mr
      simp only [meV] at hcall
      simp only at HOKM HON HNO
      clear hid hdr hidl hgx hfi hlo hol hP hO hB hGo hvF hgF
      go_wp2_with fail
      refine hcall.mono ?_
      rintro e w4 ⟨rfl, F4, hP4, hG4⟩
      obtain ⟨hGo, hB, hO, hP, hlo, hfi, hol, hvF, hgF⟩ := HW.out
      have hnF4 : ∀ q, q < wr.heap.size → ¬ Fk q → ¬ F4 q := fun q hq h1 h2 => by
        rcases hG4.new q h2 with h | h
        · exact h1 h
        · omega
      have hb5 : Below w4.heap.size w4 (w4.alloc (.cells #[.int .u64 mi, .int .i64 ml, .int .i64 ms, .int .i64 mn, .int .i64 mp, .int .i64 mt] 85)) := (Below.refl _ _).alloc (Nat.le_refl _) _
      have HG5 : Hid (Goes w1 F1 (w4.alloc (.cells #[.int .u64 mi, .int .i64 ml, .int .i64 ms, .int .i64 mn, .int .i64 mp, .int .i64 mt] 85)) F4) := Lib.hid ((hGo.trans hG4).later hb5)
      have HP5 : Hid (PSt (w4.alloc (.cells #[.int .u64 mi, .int .i64 ml, .int .i64 ms, .int .i64 mn, .int .i64 mp, .int .i64 mt] 85)) F4 g (callS mk)) := Lib.hid (hP4.below hb5)
      have hO5 : OwnK 6 (w4.alloc (.cells #[.int .u64 mi, .int .i64 ml, .int .i64 ms, .int .i64 mn, .int .i64 mp, .int .i64 mt] 85)) (g8 + 1) 85 (fun _ => True) MeC av out := (hO.apt hG4.apt (fun _ _ _ => trivial) (fun q hq => hvF q hq) fun _ _ => .inl trivial).below hb5
      have hR4 : Blk w4 g8 60 #[av, .slice none 0 0] := (hG4.apt.block g8 hB.lt hgF).trans hB
      have hR5 := hR4.below hb5 hR4.lt
      have HNV : Hid (∀ q, av.ownBlock = some q → ¬ F4 q) := Lib.hid fun q hq => hnF4 q (hO.lt q hq).2 (hvF q hq)
      have HNG : Hid (¬ F4 g8) := Lib.hid (hnF4 g8 hB.lt hgF)
      clear hcall hP4 hG4 hb5 hR4 HW hGo hB hO hP hlo hfi hol hvF hgF hnF4
      by_cases hmc : mc = 0
      rotate_left
      · have hbe := errV_code hmc
        have HX : Hid (liR m = ((mc, [], []), callS mk)) := Lib.hid (by rw [HLI2.out, HNO.out hmc, if_pos hmc])
        have HR5 := Lib.hid (HRC.out _ _ HG5.out)
        have r0 := HR5.out.1.cell 0
        have r1 := HR5.out.1.cell 1
        have f0 := HR5.out.1.frozen 0
        have f1 := HR5.out.1.frozen 1
        simp at r0 r1
        rw [hbe]
        clear hO5 hR5 HON HNO HLI2 HOKM
        go_wp2_with fail
        have hm2 := (Blk.set_ HR5.out.1 0 (.slice none 0 0)).set_ 1 (.slice none 0 0)
        have hg2 := grown_trans (grown_set (w4.alloc (.cells #[.int .u64 mi, .int .i64 ml, .int .i64 ms, .int .i64 mn, .int .i64 mp, .int .i64 mt] 85)) w.heap.size 0 (.slice none 0 0)) (grown_set _ w.heap.size 1 (.slice none 0 0))
        refine bodyPost_ret (v := .tuple #[roV (.slice none 0 0) (.slice none 0 0), code mc]) (by have c := hm2.cell; simp [results, Tryz.results24, go_sem, c]; try rfl) rfl ?_
        rw [HX.out]
        exact ⟨_, _, F4, by rw [show errV (mc, ([] : List Me), ([] : List Mk)).1 = code mc from hbe], HP5.out.keep (Apt.of_grown hg2 fun q hq => by have := Option.some.inj hq; subst this; exact HR5.out.2), (HG1.out.trans HG5.out).newset hg2 (Nat.le_refl _), fun u _ => ⟨Mes.nil u, Mks.nil u⟩⟩
      subst hmc
      have HON2 := Lib.hid (HON.out rfl)
      clear HON HNO
      have hT5 : Blk (w4.alloc (.cells #[.int .u64 mi, .int .i64 ml, .int .i64 ms, .int .i64 mn, .int .i64 mp, .int .i64 mt] 85)) w4.heap.size 85 #[.int .u64 mi, .int .i64 ml, .int .i64 ms, .int .i64 mn, .int .i64 mp, .int .i64 mt] := Blk.new _ _ _
      obtain ⟨Aa, ca, rfl, _, _⟩ := hO5.form
      obtain ⟨lo, hlo⟩ : ∃ z, z = out.length := ⟨_, rfl⟩
      rw [← hlo] at hO5 hR5 HNV
      have HLO := Lib.hid hlo
      have hb6 : Below (w4.alloc (.cells #[.int .u64 mi, .int .i64 ml, .int .i64 ms, .int .i64 mn, .int .i64 mp, .int .i64 mt] 85)).heap.size (w4.alloc (.cells #[.int .u64 mi, .int .i64 ml, .int .i64 ms, .int .i64 mn, .int .i64 mp, .int .i64 mt] 85)) ((w4.alloc (.cells #[.int .u64 mi, .int .i64 ml, .int .i64 ms, .int .i64 mn, .int .i64 mp, .int .i64 mt] 85)).alloc (.cells #[.int .u64 mi, .int .i64 ml, .int .i64 ms, .int .i64 mn, .int .i64 mp, .int .i64 mt] 85)) := (Below.refl _ _).alloc (Nat.le_refl _) _
      have HO6 := Lib.hid (hO5.below hb6)
      have HR6 := Lib.hid (hR5.below hb6 hR5.lt)
      have HG6 := Lib.hid (HG5.out.later hb6)
      have HP6 := Lib.hid (HP5.out.below hb6)
      have hlv := Lv.lit1 (w := (w4.alloc (.cells #[.int .u64 mi, .int .i64 ml, .int .i64 ms, .int .i64 mn, .int .i64 mp, .int .i64 mt] 85))) [.int .u64 mi, .int .i64 ml, .int .i64 ms, .int .i64 mn, .int .i64 mp, .int .i64 mt] 85
      simp only [World.size_alloc] at hlv
      have HLV := Lib.hid hlv
      have HY : Hid (Keep (fun q => True ∨ (Value.slice Aa lo ca).ownBlock = some q) (fun u => MeC u ⟨mi, ml, ms, mn, mp, mt⟩ [.int .u64 mi, .int .i64 ml, .int .i64 ms, .int .i64 mn, .int .i64 mp, .int .i64 mt]) ((w4.alloc (.cells #[.int .u64 mi, .int .i64 ml, .int .i64 ms, .int .i64 mn, .int .i64 mp, .int .i64 mt] 85)).alloc (.cells #[.int .u64 mi, .int .i64 ml, .int .i64 ms, .int .i64 mn, .int .i64 mp, .int .i64 mt] 85))) := Lib.hid fun u _ => ⟨HOKM.out, rfl⟩
      have HSZ : Hid (g8 + 1 ≤ ((w4.alloc (.cells #[.int .u64 mi, .int .i64 ml, .int .i64 ms, .int .i64 mn, .int .i64 mp, .int .i64 mt] 85)).alloc (.cells #[.int .u64 mi, .int .i64 ml, .int .i64 ms, .int .i64 mn, .int .i64 mp, .int .i64 mt] 85)).heap.size) := Lib.hid HR6.out.lt
      have t0 := hT5.cell 0
      have t1 := hT5.cell 1
      have t2 := hT5.cell 2
      have t3 := hT5.cell 3
      have t4 := hT5.cell 4
      have t5 := hT5.cell 5
      have r0 := hR5.cell 0
      simp at t0 t1 t2 t3 t4 t5 r0
      have HLN6 : Hid (out.length ≤ 1000000000) := Lib.hid (by have := HOL.out; omega)
      clear hO5 hR5 hb6 HG5 HP5 hlv hT5 hlo
      simp only [errV_zero]
      go_wp2_with (at_builtin; refine wpList_append_K metaT rfl _ _ rfl rfl HO6.out rfl HLV.out HY.out (by simp [Value.oneCell']) HLN6.out (by decide) HSZ.out ?_)
      intro v7 w7 ho7 hg7 hv7
      obtain ⟨A7, c7, rfl, _, _⟩ := ho7.form
      rw [List.length_append, List.length_singleton, ← HLO.out] at ho7 hv7 ⊢
      have hlo7 : ∀ q, (Value.slice Aa lo ca).ownBlock = some q → g8 + 1 ≤ q := fun q hq => (HO6.out.lt q hq).1
      have hR7 := HR6.out.grown hg7 (fun e => by have := hlo7 g8 e.symm; omega)
      have hP7 := HP6.out.keep (Apt.of_grown hg7 fun q hq => HNV.out q hq)
      have hG7 := HG6.out.newrow hg7 fun q hq => by have := hlo7 q hq; have := HGE.out; omega
      have hNV7 : ∀ q, (Value.slice A7 (lo + 1) c7).ownBlock = some q → ¬ F4 q := fun q hq => by
        rcases hv7 with h | h
        · exact HNV.out q (h ▸ hq)
        · rw [h] at hq
          have h7 := Option.some.inj hq
          intro hF
          have h6 := HP6.out.lt q hF
          try simp only [World.size_alloc] at h6
          try simp only [World.size_alloc] at h7
          omega
      have hgr := grown_set w7 g8 0 (.slice A7 (lo + 1) c7)
      have HP8 := Lib.hid (hP7.keep (Apt.of_grown hgr fun q hq => by have := Option.some.inj hq; subst this; exact HNG.out))
      have HG8' : Hid (Goes w1 F1 (w7.setCell ⟨g8, 0, none⟩ (.slice A7 (lo + 1) c7)) F4) := Lib.hid (hG7.newset hgr (by have := HGE.out; omega))
      have HR8' : Hid (Blk (w7.setCell ⟨g8, 0, none⟩ (.slice A7 (lo + 1) c7)) g8 60 #[.slice A7 (lo + 1) c7, .slice none 0 0]) := Lib.hid (by
        have := hR7.set_ 0 (.slice A7 (lo + 1) c7)
        simpa using this)
      have HO8 : Hid (OwnK 6 (w7.setCell ⟨g8, 0, none⟩ (.slice A7 (lo + 1) c7)) (g8 + 1) 85 (fun _ => True) MeC (.slice A7 (lo + 1) c7) (out ++ [⟨mi, ml, ms, mn, mp, mt⟩])) := Lib.hid (ho7.kept hgr (by
        cases h4 : (Value.slice A7 (lo + 1) c7).ownBlock with
        | none => exact .inl rfl
        | some z => exact .inr fun e => by have h1 := (ho7.lt z h4).1; have := Option.some.inj e; omega) (fun _ _ => trivial) fun _ _ => .inl trivial)
      have HNV8 := Lib.hid hNV7
      have r7 := hR7.cell 0
      have f7 := hR7.frozen 0
      simp at r7
      clear hlo7 hgr hR7 ho7 hg7 hv7 HO6 HR6 HG6 HP6 hP7 hG7 hNV7 HLV HY HSZ t0 t1 t2 t3 t4 t5 r0 HLN6 HNV
      go_wp2_with fail
      go_roundg gk1
      case measure => omega
      case rel => exact ⟨i + 1, _, callS mk, F4, out ++ [⟨mi, ml, ms, mn, mp, mt⟩], by omega, by go_num, Lib.hid ⟨HG8'.out, HR8'.out, HO8.out, HP8.out, HON2.out, HFI.out, by rw [List.length_append, List.length_singleton]; have := HOL.out; omega, HNV8.out, HNG.out⟩⟩
    · have hil : i = live.length := by omega
      subst hil
      obtain ⟨Aa, ca, rfl, _, _⟩ := hO.form
      obtain ⟨lo, hloe⟩ : ∃ z, z = out.length := ⟨_, rfl⟩
      have HLO : Hid (loR live (callS m) [] = ((0, out), mk)) := Lib.hid (by rw [hlo, List.drop_length]; rfl)
      have HLI3 : Hid (liR m = if (moR marked mk []).1.1 ≠ 0 then (((moR marked mk []).1.1, [], []), (moR marked mk []).2)
        else if 1000 < live.length + marked.length then ((3, [], []), (moR marked mk []).2) else ((0, out, (moR marked mk []).1.2), (moR marked mk []).2)) := Lib.hid (by rw [HLI2.out, HLO.out, if_neg (by simp)])
      rw [← hloe] at hB hO hvF
      try rw [← hloe]
      have HGo := Lib.hid hGo
      have HB := Lib.hid hB
      have HO := Lib.hid hO
      have HP := Lib.hid hP
      have HFI := Lib.hid hfi
      have HVF := Lib.hid hvF
      have HGF := Lib.hid hgF
      clear HW hlt hi HLI2 HLO hloe hGo hB hO hP hlo hfi hol hvF hgF
      go_wp2_with fail
      go_loopg [51] marked.length (fun gk iv wr => ∃ (j : Nat) (bv : Value) (mk2 : Sm) (Fj : Nat → Prop) (outk : List Mk), j + gk = marked.length ∧ iv = .int .i64 (j : Int) ∧ Hid (Goes w1 F1 wr Fj ∧ Blk wr g8 60 #[.slice Aa lo ca, bv] ∧ OwnK 6 wr (g8 + 1) 85 (fun _ => True) MeC (.slice Aa lo ca) out ∧ OwnK 3 wr (g8 + 1) 89 (fun _ => True) MkC bv outk ∧ (∀ q, (Value.slice Aa lo ca).ownBlock = some q → bv.ownBlock ≠ some q) ∧ PSt wr Fj g mk2 ∧ moR marked mk [] = moR (marked.drop j) mk2 outk ∧ mk2.fine (N + 1 + live.length + j) ∧ outk.length ≤ j ∧ (∀ q, (Value.slice Aa lo ca).ownBlock = some q → ¬ Fj q) ∧ (∀ q, bv.ownBlock = some q → ¬ Fj q) ∧ ¬ Fj g8))
      case atStart => exact ⟨0, _, mk, Fk, [], by omega, rfl, Lib.hid ⟨HGo.out, HB.out, HO.out, OwnK.nil _ _ _ _ _ _, (fun q _ h => by cases h), HP.out, rfl, HFI.out, by simp, HVF.out, (fun q h => by cases h), HGF.out⟩⟩
      case round =>
        obtain ⟨j, bv, mk2, Fj, outk, hj, rfl, HW⟩ := hrel
        clear HGo HB HO HP HFI HVF HGF
        obtain ⟨hGo, hB, hO, hK, hne, hP, hmo, hfi, hol, hvF, hkF, hgF⟩ := HW.out
        by_cases hlt : j < marked.length
        · obtain ⟨gk1, hgk1⟩ : ∃ x, gk = x + 1 := ⟨gk - 1, by omega⟩
          obtain ⟨id, hid⟩ : ∃ t, marked[j]? = some t := ⟨_, List.getElem?_eq_getElem hlt⟩
          have hdr : marked.drop j = id :: marked.drop (j + 1) := by rw [List.drop_eq_getElem_cons hlt, (List.getElem?_eq_some_iff.1 hid).2]
          have hidl := HLT.out.2 id (List.mem_of_getElem? hid)
          obtain ⟨gx, px, rfl, hgx, x0⟩ := (HUA.out wr Fj hGo).2.cell hid
          have a0 : (0 : Int) ≤ (j : Int) := by omega
          have a1 : (j : Int) < (marked.length : Int) := by omega
          have hcall := rmark_any id hP hfi (by omega) hidl (HLU.out wr Fj hGo).here.ld
          have HOKM := Lib.hid (mrR_ok mk2 id)
          have HON : Hid ((mrR mk2 id).1 = 0 → moR marked mk [] = moR (marked.drop (j + 1)) (callS mk2) (outk ++ [(mrR mk2 id).2])) := Lib.hid fun h => by rw [hmo, hdr, moR_on h]
          have HNO : Hid ((mrR mk2 id).1 ≠ 0 → moR marked mk [] = (((mrR mk2 id).1, outk), callS mk2)) := Lib.hid fun h => by rw [hmo, hdr, moR_no h]
          have HFI : Hid ((callS mk2).fine (N + 1 + live.length + (j + 1))) := Lib.hid hfi.call
          have HOL := Lib.hid hol
          generalize mrR mk2 id = mr at hcall HOKM HON HNO
          obtain ⟨mc, mi, ma, mb⟩ := mr
          simp only [mkV] at hcall
          simp only at HOKM HON HNO
          clear hid hdr hidl hgx hfi hmo hol hP hO hK hne hB hGo hvF hkF hgF
          go_wp2_with fail
          refine hcall.mono ?_
          rintro e w4 ⟨rfl, F4, hP4, hG4⟩
          obtain ⟨hGo, hB, hO, hK, hne, hP, hmo, hfi, hol, hvF, hkF, hgF⟩ := HW.out
          have hnF4 : ∀ q, q < wr.heap.size → ¬ Fj q → ¬ F4 q := fun q hq h1 h2 => by
            rcases hG4.new q h2 with h | h
            · exact h1 h
            · omega
          have hb5 : Below w4.heap.size w4 (w4.alloc (.cells #[.int .u64 mi, .int .i64 ma, .int .u64 mb] 89)) := (Below.refl _ _).alloc (Nat.le_refl _) _
          have HG5 : Hid (Goes w1 F1 (w4.alloc (.cells #[.int .u64 mi, .int .i64 ma, .int .u64 mb] 89)) F4) := Lib.hid ((hGo.trans hG4).later hb5)
          have HP5 : Hid (PSt (w4.alloc (.cells #[.int .u64 mi, .int .i64 ma, .int .u64 mb] 89)) F4 g (callS mk2)) := Lib.hid (hP4.below hb5)
          have hO5 : OwnK 6 (w4.alloc (.cells #[.int .u64 mi, .int .i64 ma, .int .u64 mb] 89)) (g8 + 1) 85 (fun _ => True) MeC (.slice Aa lo ca) out := (hO.apt hG4.apt (fun _ _ _ => trivial) (fun q hq => hvF q hq) fun _ _ => .inl trivial).below hb5
          have hK5 : OwnK 3 (w4.alloc (.cells #[.int .u64 mi, .int .i64 ma, .int .u64 mb] 89)) (g8 + 1) 89 (fun _ => True) MkC bv outk := (hK.apt hG4.apt (fun _ _ _ => trivial) (fun q hq => hkF q hq) fun _ _ => .inl trivial).below hb5
          have hR4 : Blk w4 g8 60 #[.slice Aa lo ca, bv] := (hG4.apt.block g8 hB.lt hgF).trans hB
          have hR5 := hR4.below hb5 hR4.lt
          have HNV : Hid (∀ q, (Value.slice Aa lo ca).ownBlock = some q → ¬ F4 q) := Lib.hid fun q hq => hnF4 q (hO.lt q hq).2 (hvF q hq)
          have HNK : Hid (∀ q, bv.ownBlock = some q → ¬ F4 q) := Lib.hid fun q hq => hnF4 q (hK.lt q hq).2 (hkF q hq)
          have HNG : Hid (¬ F4 g8) := Lib.hid (hnF4 g8 hB.lt hgF)
          have HNE := Lib.hid hne
          clear hcall hP4 hG4 hb5 hR4 HW hGo hB hO hK hne hP hmo hfi hol hvF hkF hgF hnF4
          by_cases hmc : mc = 0
          rotate_left
          · have hbe := errV_code hmc
            have HX : Hid (liR m = ((mc, [], []), callS mk2)) := Lib.hid (by rw [HLI3.out, HNO.out hmc, if_pos hmc])
            have HR5 := Lib.hid (HRC.out _ _ HG5.out)
            have r0 := HR5.out.1.cell 0
            have r1 := HR5.out.1.cell 1
            have f0 := HR5.out.1.frozen 0
            have f1 := HR5.out.1.frozen 1
            simp at r0 r1
            rw [hbe]
            clear hO5 hK5 hR5 HON HNO HLI3 HOKM
            go_wp2_with fail
            have hm2 := (Blk.set_ HR5.out.1 0 (.slice none 0 0)).set_ 1 (.slice none 0 0)
            have hg2 := grown_trans (grown_set (w4.alloc (.cells #[.int .u64 mi, .int .i64 ma, .int .u64 mb] 89)) w.heap.size 0 (.slice none 0 0)) (grown_set _ w.heap.size 1 (.slice none 0 0))
            refine bodyPost_ret (v := .tuple #[roV (.slice none 0 0) (.slice none 0 0), code mc]) (by have c := hm2.cell; simp [results, Tryz.results24, go_sem, c]; try rfl) rfl ?_
            rw [HX.out]
            exact ⟨_, _, F4, by rw [show errV (mc, ([] : List Me), ([] : List Mk)).1 = code mc from hbe], HP5.out.keep (Apt.of_grown hg2 fun q hq => by have := Option.some.inj hq; subst this; exact HR5.out.2), (HG1.out.trans HG5.out).newset hg2 (Nat.le_refl _), fun u _ => ⟨Mes.nil u, Mks.nil u⟩⟩
          subst hmc
          have HON2 := Lib.hid (HON.out rfl)
          clear HON HNO
          have hT5 : Blk (w4.alloc (.cells #[.int .u64 mi, .int .i64 ma, .int .u64 mb] 89)) w4.heap.size 89 #[.int .u64 mi, .int .i64 ma, .int .u64 mb] := Blk.new _ _ _
          obtain ⟨Ab, cb, rfl, _, _⟩ := hK5.form
          obtain ⟨lk, hlk⟩ : ∃ z, z = outk.length := ⟨_, rfl⟩
          rw [← hlk] at hK5 hR5 HNK HNE
          have HLK := Lib.hid hlk
          have hb6 : Below (w4.alloc (.cells #[.int .u64 mi, .int .i64 ma, .int .u64 mb] 89)).heap.size (w4.alloc (.cells #[.int .u64 mi, .int .i64 ma, .int .u64 mb] 89)) ((w4.alloc (.cells #[.int .u64 mi, .int .i64 ma, .int .u64 mb] 89)).alloc (.cells #[.int .u64 mi, .int .i64 ma, .int .u64 mb] 89)) := (Below.refl _ _).alloc (Nat.le_refl _) _
          have HO6 := Lib.hid (hO5.below hb6)
          have HK6 := Lib.hid (hK5.below hb6)
          have HR6 := Lib.hid (hR5.below hb6 hR5.lt)
          have HG6 := Lib.hid (HG5.out.later hb6)
          have HP6 := Lib.hid (HP5.out.below hb6)
          have hlv := Lv.lit1 (w := (w4.alloc (.cells #[.int .u64 mi, .int .i64 ma, .int .u64 mb] 89))) [.int .u64 mi, .int .i64 ma, .int .u64 mb] 89
          simp only [World.size_alloc] at hlv
          have HLV := Lib.hid hlv
          have HY : Hid (Keep (fun q => True ∨ (Value.slice Ab lk cb).ownBlock = some q) (fun u => MkC u ⟨mi, ma, mb⟩ [.int .u64 mi, .int .i64 ma, .int .u64 mb]) ((w4.alloc (.cells #[.int .u64 mi, .int .i64 ma, .int .u64 mb] 89)).alloc (.cells #[.int .u64 mi, .int .i64 ma, .int .u64 mb] 89))) := Lib.hid fun u _ => ⟨HOKM.out, rfl⟩
          have HSZ : Hid (g8 + 1 ≤ ((w4.alloc (.cells #[.int .u64 mi, .int .i64 ma, .int .u64 mb] 89)).alloc (.cells #[.int .u64 mi, .int .i64 ma, .int .u64 mb] 89)).heap.size) := Lib.hid HR6.out.lt
          have t0 := hT5.cell 0
          have t1 := hT5.cell 1
          have t2 := hT5.cell 2
          have r1 := hR5.cell 1
          simp at t0 t1 t2 r1
          have HLN6 : Hid (outk.length ≤ 1000000000) := Lib.hid (by have := HOL.out; omega)
          clear hO5 hK5 hR5 hb6 HG5 HP5 hlv hT5 hlk
          simp only [errV_zero]
          go_wp2_with (at_builtin; refine wpList_append_K markT rfl _ _ rfl rfl HK6.out rfl HLV.out HY.out (by simp [Value.oneCell']) HLN6.out (by decide) HSZ.out ?_)
          intro v7 w7 ho7 hg7 hv7
          obtain ⟨A7, c7, rfl, _, _⟩ := ho7.form
          rw [List.length_append, List.length_singleton, ← HLK.out] at ho7 hv7 ⊢
          have hlo7 : ∀ q, (Value.slice Ab lk cb).ownBlock = some q → g8 + 1 ≤ q := fun q hq => (HK6.out.lt q hq).1
          have hR7 := HR6.out.grown hg7 (fun e => by have := hlo7 g8 e.symm; omega)
          have hP7 := HP6.out.keep (Apt.of_grown hg7 fun q hq => HNK.out q hq)
          have hG7 := HG6.out.newrow hg7 fun q hq => by have := hlo7 q hq; have := HGE.out; omega
          have hO7 : OwnK 6 w7 (g8 + 1) 85 (fun _ => True) MeC (.slice Aa lo ca) out := HO6.out.kept hg7 (by
            cases h4 : (Value.slice Aa lo ca).ownBlock with
            | none => exact .inl rfl
            | some z => exact .inr fun e => HNE.out z h4 e.symm) (fun _ _ => trivial) fun _ _ => .inl trivial
          have hNK7 : ∀ q, (Value.slice A7 (lk + 1) c7).ownBlock = some q → ¬ F4 q := fun q hq => by
            rcases hv7 with h | h
            · exact HNK.out q (h ▸ hq)
            · rw [h] at hq
              have h7 := Option.some.inj hq
              intro hF
              have h6 := HP6.out.lt q hF
              try simp only [World.size_alloc] at h6
              try simp only [World.size_alloc] at h7
              omega
          have hNE7 : ∀ q, (Value.slice Aa lo ca).ownBlock = some q → (Value.slice A7 (lk + 1) c7).ownBlock ≠ some q := fun q hq e => by
            rcases hv7 with h | h
            · exact HNE.out q hq (h ▸ e)
            · rw [h] at e
              have h7 := Option.some.inj e
              have h6 := (HO6.out.lt q hq).2
              try simp only [World.size_alloc] at h6
              try simp only [World.size_alloc] at h7
              omega
          have hgr := grown_set w7 g8 1 (.slice A7 (lk + 1) c7)
          have HP8 := Lib.hid (hP7.keep (Apt.of_grown hgr fun q hq => by have := Option.some.inj hq; subst this; exact HNG.out))
          have HG8' : Hid (Goes w1 F1 (w7.setCell ⟨g8, 1, none⟩ (.slice A7 (lk + 1) c7)) F4) := Lib.hid (hG7.newset hgr (by have := HGE.out; omega))
          have HR8' : Hid (Blk (w7.setCell ⟨g8, 1, none⟩ (.slice A7 (lk + 1) c7)) g8 60 #[.slice Aa lo ca, .slice A7 (lk + 1) c7]) := Lib.hid (by
            have := hR7.set_ 1 (.slice A7 (lk + 1) c7)
            simpa using this)
          have HO8 : Hid (OwnK 6 (w7.setCell ⟨g8, 1, none⟩ (.slice A7 (lk + 1) c7)) (g8 + 1) 85 (fun _ => True) MeC (.slice Aa lo ca) out) := Lib.hid (hO7.kept hgr (by
            cases h4 : (Value.slice Aa lo ca).ownBlock with
            | none => exact .inl rfl
            | some z => exact .inr fun e => by have h1 := (hO7.lt z h4).1; have := Option.some.inj e; omega) (fun _ _ => trivial) fun _ _ => .inl trivial)
          have HK8 : Hid (OwnK 3 (w7.setCell ⟨g8, 1, none⟩ (.slice A7 (lk + 1) c7)) (g8 + 1) 89 (fun _ => True) MkC (.slice A7 (lk + 1) c7) (outk ++ [⟨mi, ma, mb⟩])) := Lib.hid (ho7.kept hgr (by
            cases h4 : (Value.slice A7 (lk + 1) c7).ownBlock with
            | none => exact .inl rfl
            | some z => exact .inr fun e => by have h1 := (ho7.lt z h4).1; have := Option.some.inj e; omega) (fun _ _ => trivial) fun _ _ => .inl trivial)
          have HNK8 := Lib.hid hNK7
          have HNE8 := Lib.hid hNE7
          have r7 := hR7.cell 1
          have f7 := hR7.frozen 1
          simp at r7
          clear hlo7 hgr hR7 ho7 hg7 hv7 HO6 HK6 HR6 HG6 HP6 hP7 hG7 hO7 hNK7 hNE7 HLV HY HSZ t0 t1 t2 r1 HLN6 HNK HNE
          go_wp2_with fail
          go_roundg gk1
          case measure => omega
          case rel => exact ⟨j + 1, _, callS mk2, F4, outk ++ [⟨mi, ma, mb⟩], by omega, by go_num, Lib.hid ⟨HG8'.out, HR8'.out, HO8.out, HK8.out, HNE8.out, HP8.out, HON2.out, HFI.out, by rw [List.length_append, List.length_singleton]; have := HOL.out; omega, HNV.out, HNK8.out, HNG.out⟩⟩
        · have hjl : j = marked.length := by omega
          subst hjl
          have HMO : Hid (moR marked mk [] = ((0, outk), mk2)) := Lib.hid (by rw [hmo, List.drop_length]; rfl)
          have HLI4 : Hid (liR m = if 1000 < live.length + marked.length then ((3, [], []), mk2) else ((0, out, outk), mk2)) := Lib.hid (by rw [HLI3.out, HMO.out, if_neg (by simp)])
          obtain ⟨Ab, cb, rfl, _, _⟩ := hK.form
          obtain ⟨lk, hlk⟩ : ∃ z, z = outk.length := ⟨_, rfl⟩
          rw [← hlk] at hB hK hkF
          try rw [← hlk]
          have HRS := Lib.hid (HRC.out wr Fj hGo)
          have r0 := HRS.out.1.cell 0
          have r1 := HRS.out.1.cell 1
          have f0 := HRS.out.1.frozen 0
          have f1 := HRS.out.1.frozen 1
          have q0 := hB.cell 0
          have q1 := hB.cell 1
          simp at r0 r1 q0 q1
          have HGo := Lib.hid hGo
          have HO := Lib.hid hO
          have HK := Lib.hid hK
          have HP := Lib.hid hP
          have HVF := Lib.hid hvF
          have HKF := Lib.hid hkF
          have hwr : IntKind.i64.wrap ((live.length : Int) + (marked.length : Int)) = (live.length : Int) + (marked.length : Int) := IntWalk.i64_in _ (by omega)
          clear hGo hB hO hK hne hP hmo hfi hol hvF hkF hgF HLI3 HMO hlk
          by_cases hbig : 1000 < live.length + marked.length
          · have hdb : decide ((1000 : Int) < (live.length : Int) + (marked.length : Int)) = true := decide_eq_true (by omega)
            have HX : Hid (liR m = ((3, [], []), mk2)) := Lib.hid (by rw [HLI4.out, if_pos hbig])
            clear HLI4 hbig
            go_wp2_with fail
            have hm2 := (Blk.set_ HRS.out.1 0 (.slice none 0 0)).set_ 1 (.slice none 0 0)
            have hg2 := grown_trans (grown_set wr w.heap.size 0 (.slice none 0 0)) (grown_set _ w.heap.size 1 (.slice none 0 0))
            refine bodyPost_ret (v := .tuple #[roV (.slice none 0 0) (.slice none 0 0), code 3]) (by have c := hm2.cell; simp [results, Tryz.results24, go_sem, c]; try rfl) rfl ?_
            rw [HX.out]
            refine ⟨.slice none 0 0, .slice none 0 0, rfl, Fj, HP.out.keep (Apt.of_grown hg2 fun q hq => by have := Option.some.inj hq; subst this; exact HRS.out.2), (HG1.out.trans HGo.out).newset hg2 (Nat.le_refl _), fun u _ => ⟨Mes.nil u, Mks.nil u⟩⟩
          · have hdb : decide ((1000 : Int) < (live.length : Int) + (marked.length : Int)) = false := decide_eq_false (by omega)
            have HX : Hid (liR m = ((0, out, outk), mk2)) := Lib.hid (by rw [HLI4.out, if_neg hbig])
            clear HLI4 hbig
            go_wp2_with fail
            have hm2 := (Blk.set_ HRS.out.1 0 (.slice Aa lo ca)).set_ 1 (.slice Ab lk cb)
            have hg2 := grown_trans (grown_set wr w.heap.size 0 (.slice Aa lo ca)) (grown_set _ w.heap.size 1 (.slice Ab lk cb))
            refine bodyPost_ret (v := .tuple #[roV (.slice Aa lo ca) (.slice Ab lk cb), .nilIface]) (by have c := hm2.cell; simp [results, Tryz.results24, go_sem, c]; try rfl) rfl ?_
            rw [HX.out]
            obtain ⟨xs, o1, o2⟩ := HO.out
            obtain ⟨ys, k1, k2⟩ := HK.out
            have hbd : ∀ q, g8 + 1 ≤ q → ¬ Fj q → ¬ (q < w.heap.size ∨ Fj q) := fun q h1 h2 h => by
              have := HG8.out
              rcases h with h | h
              · omega
              · exact h2 h
            refine ⟨_, _, by rw [show errV ((0 : Int), out, outk).1 = .nilIface from errV_zero], Fj, HP.out.keep (Apt.of_grown hg2 fun q hq => by have := Option.some.inj hq; subst this; exact HRS.out.2), (HG1.out.trans HGo.out).newset hg2 (Nat.le_refl _), fun u hu => ?_⟩
            have ha2 : Apt (fun q => (q < w.heap.size ∨ Fj q) ∨ q = w.heap.size) wr u := (Apt.of_grown hg2 fun q hq => .inr (Option.some.inj hq).symm).trans (hu.mono fun q _ h => .inl h)
            exact ⟨⟨xs, o1.lv.apt ha2 fun _ q hq h => (by
              rcases h with h | h
              · exact hbd q (HO.out.lt q hq).1 (HVF.out q hq) h
              · have := (HO.out.lt q hq).1; have := HG8.out; omega), o2.mono fun _ _ hk => hk.here⟩, ⟨ys, k1.lv.apt ha2 fun _ q hq h => (by
              rcases h with h | h
              · exact hbd q (HK.out.lt q hq).1 (HKF.out q hq) h
              · have := (HK.out.lt q hq).1; have := HG8.out; omega), k2.mono fun _ _ hk => hk.here⟩⟩


end Go.Proofs.YtgafidnbmoomiaaGreatDoor
