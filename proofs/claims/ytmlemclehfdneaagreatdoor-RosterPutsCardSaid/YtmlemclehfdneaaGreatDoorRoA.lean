/-
  ROSTERS (layer 17), plain: which blocks a store has, what a listing tells of any store, a roster's bytes and what any bytes are. No condition but what each says.
  ROSTERS, plain: what was put is got as it was; Ids rise as names do; what List tells without an error. No condition but what each says.
-/
import Derived.Test.YtmlemclehfdneaaGreatDoorRdA
namespace Go.Proofs.YtmlemclehfdneaaGreatDoor
open Go.RowKit
set_option maxRecDepth 100000

noncomputable def idOf (s : List UInt8) : Option Nat := open Classical in if h : ∃ id, NamedAs s id [109] 0 then some (Classical.choose h) else none

theorem idOf_some {s : List UInt8} {id : Nat} (h : NamedAs s id [109] 0) : idOf s = some id := by
  have hx : ∃ id, NamedAs s id [109] 0 := ⟨id, h⟩
  rw [idOf, dif_pos hx, (Classical.choose_spec hx).one h |>.1]

theorem idOf_none {s : List UInt8} (h : ∀ id, ¬ NamedAs s id [109] 0) : idOf s = none := by
  rw [idOf, dif_neg fun ⟨id, hx⟩ => h id hx]

theorem sortW_m : sortW [109] := .inl rfl

theorem idOf_no {s : List UInt8} {id : Nat} {what : List UInt8} {n : Int} (h : ParseP s id what n false) : idOf s = none := by
  rcases h with ⟨h, _⟩ | ⟨_, _, _, _, h⟩
  · cases h
  · exact idOf_none fun id hx => h _ _ _ hx

theorem idOf_other {s : List UInt8} {id : Nat} {what : List UInt8} {n : Int} {is : Bool} (h : ParseP s id what n is) (hw : what ≠ [109]) : idOf s = none := by
  rcases h with ⟨_, k, _, h⟩ | ⟨_, _, _, _, h⟩
  · exact idOf_none fun id hx => hw (h.one hx).2.1
  · exact idOf_none fun id hx => h _ _ _ hx

theorem idOf_yes {s : List UInt8} {id : Nat} {n : Int} (h : ParseP s id [109] n true) : idOf s = some id ∧ id < 18446744073709551616 := by
  rcases h with ⟨_, k, _, h⟩ | ⟨h, _⟩
  · rcases h.kind with h1 | ⟨h1, rfl⟩
    · cases h1
    · exact ⟨idOf_some h, h.idlt⟩
  · cases h

noncomputable def lvN (l : List Ob) (ns : List (List UInt8)) : List Nat := (ns.filterMap idOf).filter fun id => decide (atI (nmOf id [120] 0) l < 0)

noncomputable def mkN (l : List Ob) (ns : List (List UInt8)) : List Nat := (ns.filterMap idOf).filter fun id => decide (0 ≤ atI (nmOf id [120] 0) l)

theorem lvN_none {l : List Ob} {ns : List (List UInt8)} {s : List UInt8} (h : idOf s = none) : lvN l (ns ++ [s]) = lvN l ns ∧ mkN l (ns ++ [s]) = mkN l ns := by
  simp [lvN, mkN, List.filterMap_append, h]

theorem lvN_live {l : List Ob} {ns : List (List UInt8)} {s : List UInt8} {id : Nat} (h : idOf s = some id) (ha : atI (nmOf id [120] 0) l < 0) : lvN l (ns ++ [s]) = lvN l ns ++ [id] ∧ mkN l (ns ++ [s]) = mkN l ns := by
  have h2 : ¬ 0 ≤ atI (nmOf id [120] 0) l := by omega
  simp [lvN, mkN, List.filterMap_append, List.filter_append, h, ha, h2]

theorem lvN_mark {l : List Ob} {ns : List (List UInt8)} {s : List UInt8} {id : Nat} (h : idOf s = some id) (ha : 0 ≤ atI (nmOf id [120] 0) l) : lvN l (ns ++ [s]) = lvN l ns ∧ mkN l (ns ++ [s]) = mkN l ns ++ [id] := by
  have h2 : ¬ atI (nmOf id [120] 0) l < 0 := by omega
  simp [lvN, mkN, List.filterMap_append, List.filter_append, h, ha, h2]

theorem lvN_len (l : List Ob) (ns : List (List UInt8)) : (lvN l ns).length + (mkN l ns).length ≤ ns.length := by
  have h1 : ∀ (k : List Nat), (k.filter fun id => decide (atI (nmOf id [120] 0) l < 0)).length + (k.filter fun id => decide (0 ≤ atI (nmOf id [120] 0) l)).length = k.length := by
    intro k
    induction k with
    | nil => rfl
    | cons x k ih =>
      rw [List.filter_cons, List.filter_cons]
      by_cases hx : atI (nmOf x [120] 0) l < 0
      · have h2 : ¬ 0 ≤ atI (nmOf x [120] 0) l := by omega
        simp [hx, h2]
        omega
      · have h2 : 0 ≤ atI (nmOf x [120] 0) l := by omega
        simp [hx, h2]
        omega
  unfold lvN mkN
  rw [h1]
  exact List.length_filterMap_le _ _

noncomputable def nsR (m : Sm) : Int × List Nat × List Nat := if (sList m [98, 47]).2 ≠ 0 then ((sList m [98, 47]).2, [], []) else (0, lvN m.l (sList m [98, 47]).1, mkN m.l (sList m [98, 47]).1)

def mrR (m : Sm) (id : Nat) : Int × Mk := if (sGet m (nmOf id [120] 0)).2 ≠ 0 then ((sGet m (nmOf id [120] 0)).2, Mk.zero) else if (mkX (sGet m (nmOf id [120] 0)).1).1 ≠ 0 then ((mkX (sGet m (nmOf id [120] 0)).1).1, Mk.zero) else if (mkX (sGet m (nmOf id [120] 0)).1).2.id = (id : Int) then (0, (mkX (sGet m (nmOf id [120] 0)).1).2) else (2, Mk.zero)

def loR : List Nat → Sm → List Me → (Int × List Me) × Sm
  | [], m, out => ((0, out), m)
  | id :: r, m, out => if (meR m id).1 ≠ 0 then (((meR m id).1, out), callS m) else loR r (callS m) (out ++ [(meR m id).2])

def moR : List Nat → Sm → List Mk → (Int × List Mk) × Sm
  | [], m, out => ((0, out), m)
  | id :: r, m, out => if (mrR m id).1 ≠ 0 then (((mrR m id).1, out), callS m) else moR r (callS m) (out ++ [(mrR m id).2])

noncomputable def liR (m : Sm) : (Int × List Me × List Mk) × Sm :=
  if (nsR m).1 ≠ 0 then (((nsR m).1, [], []), callS m)
  else if (loR (nsR m).2.1 (callS m) []).1.1 ≠ 0 then (((loR (nsR m).2.1 (callS m) []).1.1, [], []), (loR (nsR m).2.1 (callS m) []).2)
  else if (moR (nsR m).2.2 (loR (nsR m).2.1 (callS m) []).2 []).1.1 ≠ 0 then (((moR (nsR m).2.2 (loR (nsR m).2.1 (callS m) []).2 []).1.1, [], []), (moR (nsR m).2.2 (loR (nsR m).2.1 (callS m) []).2 []).2)
  else if 1000 < (nsR m).2.1.length + (nsR m).2.2.length then ((3, [], []), (moR (nsR m).2.2 (loR (nsR m).2.1 (callS m) []).2 []).2)
  else ((0, (loR (nsR m).2.1 (callS m) []).1.2, (moR (nsR m).2.2 (loR (nsR m).2.1 (callS m) []).2 []).1.2), (moR (nsR m).2.2 (loR (nsR m).2.1 (callS m) []).2 []).2)

def UpM (l : List Int) : Prop := ∀ (k : Nat) (a b : Int), l[k]? = some a → l[k + 1]? = some b → a < b

structure RosG (l : List Me) (k : List Mk) : Prop where
  may : ∀ m ∈ l, meP m
  upl : UpM (l.map (·.id))
  fair : ∀ m ∈ k, mkP m
  upk : UpM (k.map (·.id))
  fewl : l.length ≤ 1000
  fewk : k.length ≤ 1000

def rosRaw (l : List Me) (k : List Mk) : List UInt8 := bet l.length 2 ++ bet k.length 2 ++ l.flatMap meRaw ++ k.flatMap mkRaw

def mesAt (b : List UInt8) (p n : Nat) : List Me := (List.range n).map fun i => meAt ((b.drop (p + 31 * i)).take 31)

theorem mesAt_succ (b : List UInt8) (p n : Nat) : mesAt b p (n + 1) = mesAt b p n ++ [meAt ((b.drop (p + 31 * n)).take 31)] := by simp [mesAt, List.range_succ]

theorem mesAt_len (b : List UInt8) (p n : Nat) : (mesAt b p n).length = n := by simp [mesAt]

def mksAt (b : List UInt8) (p n : Nat) : List Mk := (List.range n).map fun i => mkAt ((b.drop (p + 24 * i)).take 24)

theorem mksAt_succ (b : List UInt8) (p n : Nat) : mksAt b p (n + 1) = mksAt b p n ++ [mkAt ((b.drop (p + 24 * n)).take 24)] := by simp [mksAt, List.range_succ]

theorem mksAt_len (b : List UInt8) (p n : Nat) : (mksAt b p n).length = n := by simp [mksAt]

open Classical in
noncomputable def rosOf (b : List UInt8) : Int × List Me × List Mk :=
  if 4 ≤ b.length ∧ b.length = 4 + 31 * num (b.take 2) + 24 * num ((b.drop 2).take 2) ∧ RosG (mesAt b 4 (num (b.take 2))) (mksAt b (4 + 31 * num (b.take 2)) (num ((b.drop 2).take 2))) then (0, mesAt b 4 (num (b.take 2)), mksAt b (4 + 31 * num (b.take 2)) (num ((b.drop 2).take 2))) else (2, [], [])

noncomputable def rosX (x : List UInt8) : Int × List Me × List Mk := if x.length < 4 then (2, [], []) else if tailOf x = crcOf (bodyOf x) then rosOf (bodyOf x) else (7, [], [])

theorem mkAt_raw (m : Mk) (h : mkP m) (ho : m.ok) : mkAt (mkRaw m) = m := by
  obtain ⟨i, a, b⟩ := m
  obtain ⟨h1, h2, h3, h4⟩ := h
  have hi1 := ho.id1
  have hb0 := ho.by0
  have hb1 := ho.by1
  simp only at h1 h2 h3 h4 hi1 hb0 hb1
  obtain ⟨i, rfl⟩ := nat_of (n := i) (by omega)
  obtain ⟨a, rfl⟩ := nat_of (n := a) (by omega)
  obtain ⟨b, rfl⟩ := nat_of (n := b) (by omega)
  simp only [mkAt, mkRaw, Int.toNat_natCast]
  have hl : ∀ n k, (bet n k).length = k := bet_length
  have c0 := cutp (a := []) (b := bet i 8) (c := bet a 8 ++ bet b 8) (p := 0) (k := 8) (l := bet i 8 ++ bet a 8 ++ bet b 8) (by simp) rfl (hl _ _)
  have c1 := cutp (a := bet i 8) (b := bet a 8) (c := bet b 8) (p := 8) (k := 8) (l := bet i 8 ++ bet a 8 ++ bet b 8) (by simp) (by simp [hl]) (hl _ _)
  have c2 := cutp (a := bet i 8 ++ bet a 8) (b := bet b 8) (c := []) (p := 16) (k := 8) (l := bet i 8 ++ bet a 8 ++ bet b 8) (by simp) (by simp [hl]) (hl _ _)
  rw [c0, c1, c2, num_bet 8 i (by omega), num_bet 8 a (by omega), num_bet 8 b (by omega), IntWalk.wrap64_in (a : Int) ⟨by omega, by omega⟩]

theorem flat_mes (l : List Me) : (l.flatMap meRaw).length = 31 * l.length := by
  induction l with
  | nil => rfl
  | cons m l ih =>
    rw [List.flatMap_cons, List.length_append, meRaw_length, ih, List.length_cons]
    omega

theorem flat_mks (l : List Mk) : (l.flatMap mkRaw).length = 24 * l.length := by
  induction l with
  | nil => rfl
  | cons m l ih =>
    rw [List.flatMap_cons, List.length_append, mkRaw_length, ih, List.length_cons]
    omega

theorem rosRaw_length (l : List Me) (k : List Mk) : (rosRaw l k).length = 4 + 31 * l.length + 24 * k.length := by
  simp only [rosRaw, List.length_append, bet_length, flat_mes, flat_mks]

theorem cut_mes : ∀ (l : List Me) (suf : List UInt8) (i : Nat) (m : Me), l[i]? = some m → ((l.flatMap meRaw ++ suf).drop (31 * i)).take 31 = meRaw m
  | [], _, i, m, h => by simp at h
  | x :: l, suf, 0, m, h => by
    simp at h
    subst h
    rw [List.flatMap_cons, List.append_assoc, Nat.mul_zero, List.drop_zero, List.take_left' (meRaw_length _)]
  | x :: l, suf, i + 1, m, h => by
    rw [List.flatMap_cons, List.append_assoc, show 31 * (i + 1) = 31 + 31 * i by omega, ← List.drop_drop, List.drop_left' (meRaw_length _)]
    exact cut_mes l suf i m (by simpa using h)

theorem cut_mks : ∀ (l : List Mk) (suf : List UInt8) (i : Nat) (m : Mk), l[i]? = some m → ((l.flatMap mkRaw ++ suf).drop (24 * i)).take 24 = mkRaw m
  | [], _, i, m, h => by simp at h
  | x :: l, suf, 0, m, h => by
    simp at h
    subst h
    rw [List.flatMap_cons, List.append_assoc, Nat.mul_zero, List.drop_zero, List.take_left' (mkRaw_length _)]
  | x :: l, suf, i + 1, m, h => by
    rw [List.flatMap_cons, List.append_assoc, show 24 * (i + 1) = 24 + 24 * i by omega, ← List.drop_drop, List.drop_left' (mkRaw_length _)]
    exact cut_mks l suf i m (by simpa using h)

theorem mesAt_flat (l : List Me) (pre suf : List UInt8) (p : Nat) (hp : pre.length = p) (h : ∀ m ∈ l, meP m ∧ m.ok) : mesAt (pre ++ (l.flatMap meRaw ++ suf)) p l.length = l := by
  refine List.ext_getElem? fun i => ?_
  rw [mesAt, List.getElem?_map]
  by_cases hi : i < l.length
  · obtain ⟨m, hm⟩ : ∃ m, l[i]? = some m := ⟨_, List.getElem?_eq_getElem hi⟩
    rw [List.getElem?_range hi, Option.map_some, hm, ← List.drop_drop, List.drop_left' hp, cut_mes l suf i m hm, meAt_raw m (decide_eq_true (h m (List.mem_of_getElem? hm)).1) (h m (List.mem_of_getElem? hm)).2]
  · rw [List.getElem?_eq_none (by simpa using hi), List.getElem?_eq_none (by simpa using hi)]
    rfl

theorem mksAt_flat (l : List Mk) (pre suf : List UInt8) (p : Nat) (hp : pre.length = p) (h : ∀ m ∈ l, mkP m ∧ m.ok) : mksAt (pre ++ (l.flatMap mkRaw ++ suf)) p l.length = l := by
  refine List.ext_getElem? fun i => ?_
  rw [mksAt, List.getElem?_map]
  by_cases hi : i < l.length
  · obtain ⟨m, hm⟩ : ∃ m, l[i]? = some m := ⟨_, List.getElem?_eq_getElem hi⟩
    rw [List.getElem?_range hi, Option.map_some, hm, ← List.drop_drop, List.drop_left' hp, cut_mks l suf i m hm, mkAt_raw m (h m (List.mem_of_getElem? hm)).1 (h m (List.mem_of_getElem? hm)).2]
  · rw [List.getElem?_eq_none (by simpa using hi), List.getElem?_eq_none (by simpa using hi)]
    rfl

theorem rosOf_put {l : List Me} {k : List Mk} (h : RosG l k) (hl : ∀ m ∈ l, m.ok) (hk : ∀ m ∈ k, m.ok) : rosOf (rosRaw l k) = (0, l, k) := by
  have e256 : (256 : Nat) ^ 2 = 65536 := by decide
  have e1 : num ((rosRaw l k).take 2) = l.length := by
    rw [rosRaw, List.append_assoc, List.append_assoc, List.take_left' (bet_length _ _)]
    exact num_bet 2 _ (by rw [e256]; have := h.fewl; omega)
  have e2 : num (((rosRaw l k).drop 2).take 2) = k.length := by
    rw [rosRaw, List.append_assoc, List.append_assoc, List.drop_left' (bet_length _ _), List.take_left' (bet_length _ _)]
    exact num_bet 2 _ (by rw [e256]; have := h.fewk; omega)
  have e3 : mesAt (rosRaw l k) 4 l.length = l := by
    rw [rosRaw, List.append_assoc]
    exact mesAt_flat l _ _ 4 (by simp [bet_length]) fun m hm => ⟨h.may m hm, hl m hm⟩
  have e4 : mksAt (rosRaw l k) (4 + 31 * l.length) k.length = k := by
    have := mksAt_flat k (bet l.length 2 ++ bet k.length 2 ++ l.flatMap meRaw) [] (4 + 31 * l.length) (by simp only [List.length_append, bet_length, flat_mes]) fun m hm => ⟨h.fair m hm, hk m hm⟩
    rw [List.append_nil] at this
    exact this
  rw [rosOf, e1, e2, e3, e4, if_pos ⟨by rw [rosRaw_length]; omega, rosRaw_length l k, h⟩]

theorem rosX_put {l : List Me} {k : List Mk} (h : RosG l k) (hl : ∀ m ∈ l, m.ok) (hk : ∀ m ∈ k, m.ok) : rosX (sealedOf (rosRaw l k)) = (0, l, k) := by
  rw [rosX, if_neg (by rw [sealedOf_length]; omega), if_pos (tail_sealed _), body_sealed, rosOf_put h hl hk]

theorem lt_append : ∀ {a b : List UInt8} (x y : List UInt8), a.length = b.length → a < b → a ++ x < b ++ y
  | [], [], _, _, _, h => absurd h (List.lt_irrefl _)
  | [], _ :: _, _, _, hl, _ => by simp at hl
  | _ :: _, [], _, _, hl, _ => by simp at hl
  | c :: a, d :: b, x, y, hl, h => by
    rw [List.cons_append, List.cons_append]
    rw [List.cons_lt_cons_iff] at h ⊢
    rcases h with h | ⟨h1, h2⟩
    · exact .inl h
    · exact .inr ⟨h1, lt_append x y (by simpa using hl) h2⟩

theorem append_lt : ∀ (a : List UInt8) {x y : List UInt8}, x < y → a ++ x < a ++ y
  | [], _, _, h => h
  | c :: a, x, y, h => by
    rw [List.cons_append, List.cons_append, List.cons_lt_cons_iff]
    exact .inr ⟨rfl, append_lt a h⟩

theorem dchar_lt {d e : Nat} (h : d < e) (he : e < 16) : dchar d < dchar e := by
  rw [UInt8.lt_iff_toNat_lt, dchar_toNat d (by omega), dchar_toNat e he]
  split <;> split <;> omega

theorem digs_up : ∀ (k m n : Nat), m < n → n < 16 ^ k → digs 16 m k < digs 16 n k
  | 0, m, n, h, hn => by simp at hn; omega
  | k + 1, m, n, h, hn => by
    have hk : n / 16 < 16 ^ k := by
      rw [Nat.div_lt_iff_lt_mul (by omega)]
      rwa [Nat.pow_succ] at hn
    show digs 16 (m / 16) k ++ [dchar (m % 16)] < digs 16 (n / 16) k ++ [dchar (n % 16)]
    by_cases hd : m / 16 = n / 16
    · rw [hd]
      refine append_lt _ ?_
      rw [List.cons_lt_cons_iff]
      exact .inl (dchar_lt (by omega) (by omega))
    · exact lt_append _ _ (by rw [digs_length, digs_length]) (digs_up k _ _ (by omega) hk)

theorem name_lt {i j : Nat} (h : i < j) (hj : j < 18446744073709551616) : nmOf i [109] 0 < nmOf j [109] 0 := by
  rw [nmOf_sort sortW_m, nmOf_sort sortW_m, nmHead, nmHead]
  simp only [List.append_assoc]
  exact append_lt _ (lt_append _ _ (by rw [digs_length, digs_length]) (digs_up 16 i j h (Nat.lt_of_lt_of_le hj (by decide))))

theorem idOf_named {s : List UInt8} {id : Nat} (h : idOf s = some id) : NamedAs s id [109] 0 := by
  by_cases hx : ∃ id, NamedAs s id [109] 0
  · obtain ⟨i, hi⟩ := hx
    rw [idOf_some hi] at h
    exact Option.some.inj h ▸ hi
  · rw [idOf_none fun i hi => hx ⟨i, hi⟩] at h
    cases h

theorem ids_up {ns : List (List UInt8)} (h : ns.Pairwise (· < ·)) : (ns.filterMap idOf).Pairwise (· < ·) := by
  rw [List.pairwise_filterMap]
  refine h.imp fun {a b} hab i hi j hj => ?_
  have h1 := idOf_named hi
  have h2 := idOf_named hj
  rw [h1.eq, h2.eq] at hab
  rcases Nat.lt_trichotomy i j with h3 | h3 | h3
  · exact h3
  · subst h3
    exact absurd hab (List.lt_irrefl _)
  · exact absurd (List.lt_trans hab (name_lt h3 h1.idlt)) (List.lt_irrefl _)

theorem sNames_up {l : List Ob} (h : Rise l) (p : List UInt8) : (sNames l p).Pairwise (· < ·) := by
  rw [sNames, List.pairwise_map]
  exact h.filter _

theorem lvN_up {l : List Ob} {ns : List (List UInt8)} (h : ns.Pairwise (· < ·)) : (lvN l ns).Pairwise (· < ·) := (ids_up h).filter _

theorem mkN_up {l : List Ob} {ns : List (List UInt8)} (h : ns.Pairwise (· < ·)) : (mkN l ns).Pairwise (· < ·) := (ids_up h).filter _

theorem lvN_mkN {l : List Ob} {ns : List (List UInt8)} {i : Nat} (h : i ∈ lvN l ns) (k : i ∈ mkN l ns) : False := by
  have h1 := (List.mem_filter.1 h).2
  have h2 := (List.mem_filter.1 k).2
  simp at h1 h2
  omega

theorem lvN_lt {l : List Ob} {ns : List (List UInt8)} {i : Nat} (h : i ∈ lvN l ns) : i < 18446744073709551616 := by
  obtain ⟨s, _, hs⟩ := List.mem_filterMap.1 (List.mem_filter.1 h).1
  exact (idOf_named hs).idlt

theorem mkN_lt {l : List Ob} {ns : List (List UInt8)} {i : Nat} (h : i ∈ mkN l ns) : i < 18446744073709551616 := by
  obtain ⟨s, _, hs⟩ := List.mem_filterMap.1 (List.mem_filter.1 h).1
  exact (idOf_named hs).idlt

end Go.Proofs.YtmlemclehfdneaaGreatDoor
