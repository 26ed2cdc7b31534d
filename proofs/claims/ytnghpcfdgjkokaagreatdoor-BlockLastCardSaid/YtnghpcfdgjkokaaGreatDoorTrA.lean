/-
  A SLICE OF SPANS OF THE CALL's OWN ('Own5'), and slices.SortFunc over it: what it makes of it. Conditions: the comparison answers by a plain comparison of three answers, and lays blocks alone.
  CONTRACTS of the comparisons: span.Compare once more (it lays blocks alone), trace's compareWhole, compareInTraces, isOfOne, bytes.Compare, and the document's Less.
-/
import Derived.Test.YtnghpcfdgjkokaaGreatDoorSort
import Derived.Shelf.GgSortFunc.InsertionK
import Derived.Test.YtnghpcfdgjkokaaGreatDoorGat
import Derived.Test.YtnghpcfdgjkokaaGreatDoorMix
namespace Go.Proofs.YtnghpcfdgjkokaaGreatDoor
open Go.RowKit
set_option maxRecDepth 100000


section
variable {α β γ : Type} {R : α → β → Prop}
theorem Two.tail {a : α} {b : β} {l : List α} {m : List β} (h : Two R (a :: l) (b :: m)) : R a b ∧ Two R l m :=
  ⟨h.at_ 0 a b rfl rfl, by have := h.len; simpa using this, fun i x y h1 h2 => h.at_ (i + 1) x y (by simpa using h1) (by simpa using h2)⟩
theorem Two.lift {f : γ → α} {g : γ → β} (hR : ∀ a b, R a b → ∃ c, f c = a ∧ g c = b) : ∀ {l : List α} {m : List β}, Two R l m → ∃ cs : List γ, cs.map f = l ∧ cs.map g = m
  | [], [], _ => ⟨[], rfl, rfl⟩
  | [], _ :: _, h => by have := h.len; simp at this
  | _ :: _, [], h => by have := h.len; simp at this
  | a :: l, b :: m, h => by
    obtain ⟨h1, h2⟩ := h.tail
    obtain ⟨c, hc1, hc2⟩ := hR a b h1
    obtain ⟨cs, hs1, hs2⟩ := Two.lift hR h2
    exact ⟨c :: cs, by simp [hc1, hs1], by simp [hc2, hs2]⟩
theorem Two.ofMap (f : γ → α) (g : γ → β) (cs : List γ) (h : ∀ c ∈ cs, R (f c) (g c)) : Two R (cs.map f) (cs.map g) := by
  refine ⟨by simp, fun i a b h1 h2 => ?_⟩
  rw [List.getElem?_map] at h1 h2
  cases hc : cs[i]? with
  | none => rw [hc] at h1; cases h1
  | some c =>
    rw [hc] at h1 h2
    simp only [Option.map_some, Option.some.injEq] at h1 h2
    subst h1 h2
    exact h c (List.mem_of_getElem? hc)
end

/-- the cells x are those of the span s, whose Data lies apart from the block 'row' -/
def SpF (w : World) (row : Option Nat) (s : Sn) (x : List Value) : Prop := s.ok ∧ ∃ d, x = spCells s d ∧ Bs w d s.data ∧ (s.data ≠ [] → d.ownBlock ≠ row)

/-- v is a slice of the call's own, of the spans l, whose Data lies elsewhere -/
def Own5 (w : World) (base : Nat) (v : Value) (l : List Sn) : Prop := ∃ xs, OwnL 5 w base 72 v xs ∧ Two (SpF w v.ownBlock) l xs

section
variable {w w' : World} {base : Nat} {v : Value} {l : List Sn} {s : Sn} {x : List Value} {row r : Option Nat}
theorem SpF.spc (h : SpF w row s x) : SpC w s x := by
  obtain ⟨ho, d, hx, hd, _⟩ := h
  exact ⟨ho, d, hx, hd⟩
theorem SpF.grown (h : SpF w row s x) (hg : w.grownBy w' row) : SpF w' row s x := by
  obtain ⟨ho, d, hx, hd, hn⟩ := h
  exact ⟨ho, d, hx, hd.grown hg hn, hn⟩
theorem SpF.below (h : SpF w row s x) (hb : Below w.heap.size w w') : SpF w' row s x := by
  obtain ⟨ho, d, hx, hd, hn⟩ := h
  exact ⟨ho, d, hx, hd.below hb, hn⟩
theorem SpF.of_spc (h : SpC w s x) {g : Nat} (hg : w.heap.size ≤ g) : SpF w (some g) s x := by
  obtain ⟨ho, d, hx, hd⟩ := h
  refine ⟨ho, d, hx, hd, fun hne e => ?_⟩
  obtain ⟨k, hk, hk'⟩ := hd.block hne
  rw [hk] at e
  injection e with e
  omega
theorem Own5.nil (w : World) (base : Nat) : Own5 w base (.slice none 0 0) [] := ⟨[], OwnL.nil _ _ _ _, Two.nil⟩
theorem Own5.ss (h : Own5 w base v l) : Ss w v l := by
  obtain ⟨xs, h1, h2⟩ := h
  exact ⟨xs, h1.lv, h2.mono fun _ _ h => h.spc⟩
theorem Own5.below (h : Own5 w base v l) (hb : Below w.heap.size w w') : Own5 w' base v l := by
  obtain ⟨xs, h1, h2⟩ := h
  exact ⟨xs, h1.below hb, h2.mono fun _ _ h => h.below hb⟩
theorem Own5.lt (h : Own5 w base v l) : ∀ g, v.ownBlock = some g → base ≤ g ∧ g < w.heap.size := fun g hg => by
  obtain ⟨xs, h1, _⟩ := h
  exact ⟨h1.ge g hg, h1.lt g hg⟩
theorem Own5.lower {base' : Nat} (h : Own5 w base v l) (hb : base' ≤ base) : Own5 w base' v l := by
  obtain ⟨xs, ⟨h1, h1'⟩, h2⟩ := h
  refine ⟨xs, ⟨⟨h1.1, ?_⟩, h1'⟩, h2⟩
  rcases h1.2 with h0 | ⟨g, cap, cur, hv, hg, hr⟩
  · exact .inl h0
  · exact .inr ⟨g, cap, cur, hv, by omega, hr⟩
/-- what Below has left -/
theorem below_of_own (hB : Below base w w') (h : Own5 w' base v l) {w'' : World} (hg : w'.grownBy w'' v.ownBlock) (hb : base ≤ w'.heap.size) : Below base w w'' :=
  hB.grown hg hb (fun k hk => (h.lt k hk).1)
end

open Go.Sort in
theorem flatK_list {α : Type} [Inhabited α] (enc : α → List Value) (k : Nat) (hk : ∀ x, (enc x).length = k) (es : List α) : flatK enc k es.toArray = (es.map enc).flatten.toArray := by
  have hk' : ∀ x ∈ es.map enc, x.length = k := by
    intro x hx
    obtain ⟨e, _, rfl⟩ := List.mem_map.1 hx
    exact hk e
  have hl := flat_length hk'
  rw [List.length_map] at hl
  apply Array.ext_getElem?
  intro t
  by_cases ht : t < es.length * k
  · have k0 : 0 < k := by
      rcases Nat.eq_zero_or_pos k with h | h
      · subst h; simp at ht
      · exact h
    have hq : t / k < es.length := Nat.div_lt_of_lt_mul (by rwa [Nat.mul_comm] at ht)
    have hr : t % k < k := Nat.mod_lt _ k0
    have e0 : t = t / k * k + t % k := by rw [Nat.mul_comm]; exact (Nat.div_add_mod t k).symm
    have h1 : (flatK enc k es.toArray)[t]? = some (flatK enc k es.toArray)[t]! := by
      have hs : t < (flatK enc k es.toArray).size := by simpa using ht
      rw [getElem!_pos _ t hs, Array.getElem?_eq_getElem hs]
    rw [h1, get_flatK enc k es.toArray t (by simpa using ht)]
    have h2 := flat_at hk' (i := t / k) (j := t % k) (x := enc es[t / k]) (by rw [List.getElem?_map, List.getElem?_eq_getElem hq]; rfl) hr
    rw [← e0] at h2
    rw [List.getElem?_toArray, h2]
    have h3 : es.toArray[t / k]! = es[t / k] := by rw [getElem!_pos _ _ (by simpa using hq)]; simp
    rw [h3]
    have h4 : t % k < (enc es[t / k]).length := by rw [hk]; exact hr
    rw [getElem!_pos (enc es[t / k]) (t % k) h4, List.getElem?_eq_getElem h4]
  · rw [Array.getElem?_eq_none (by simpa using Nat.le_of_not_lt ht), Array.getElem?_eq_none (by simp only [List.size_toArray, hl]; omega)]

/-- a span among those that are sorted: its Data reads in w, and lies apart from block g -/
def El (w : World) (g : Nat) : Type := { p : Sn × Value // p.1.ok ∧ Bs w p.2 p.1.data ∧ (p.1.data ≠ [] → p.2.ownBlock ≠ some g) }
def El.enc {w : World} {g : Nat} (e : El w g) : List Value := spCells e.1.1 e.1.2
def El.sn {w : World} {g : Nat} (e : El w g) : Sn := e.1.1
instance El.inh (w : World) (g : Nat) : Inhabited (El w g) :=
  ⟨⟨(⟨0, 0, 0, 0, []⟩, .slice none 0 0), ⟨by decide, by decide, by decide, by decide, by decide, by decide, by decide, by decide⟩, Bs.nil w, fun h => absurd rfl h⟩⟩

section
open Go.Sort
theorem grownBy_sortedK {α : Type} [Inhabited α] (enc : α → List Value) (k : Nat) {w : World} {g n : Nat} {os : Array Obj} (d : Array α) : w.grownBy (sortWorldK enc k w g 0 n d os) (some g) := by
  refine ⟨rfl, rfl, rfl, by simp [sortWorldK, putRowK, Sort.ahead], fun k hk hne => ?_⟩
  unfold sortWorldK putRowK
  rw [heap_grow_old _ _ (by simpa [Sort.ahead] using hk)]
  have : g ≠ k := fun e => hne (by rw [e])
  simp [putRow, mapBlock, Sort.ahead, Array.getElem?_modify, this]

theorem heap_sortedK {α : Type} [Inhabited α] (enc : α → List Value) (k : Nat) {w : World} {g n : Nat} {os : Array Obj} {cur : Array Value} {e : TypeId} {fr : Nat × Nat} (d : Array α) (hb : w.heap[g]? = some (.cells cur e fr)) :
    (sortWorldK enc k w g 0 n d os).heap[g]? = some (.cells (putCells id 0 (flatK enc k d) cur) e fr) := by
  have hg : g < w.heap.size := (Array.getElem?_eq_some_iff.1 hb).1
  unfold sortWorldK putRowK
  rw [heap_grow_old _ _ (by simpa [Sort.ahead] using hg)]
  simp [putRow, mapBlock, Sort.ahead, Array.getElem?_modify, hb, onCells]

theorem take_putCellsK (F cur : Array Value) (h : F.size ≤ cur.size) : (putCells id 0 F cur).toList.take F.size = F.toList := by
  apply List.ext_getElem?
  intro j
  by_cases hj : j < F.size
  · rw [List.getElem?_take_of_lt hj, Array.getElem?_toList, Array.getElem?_toList, Array.getElem?_eq_getElem hj]
    simp [putCells, hj, show j < cur.size by omega]
  · rw [List.getElem?_take_eq_none (by omega), Array.getElem?_toList, Array.getElem?_eq_none (by omega)]
end

end Go.Proofs.YtnghpcfdgjkokaaGreatDoor

namespace Go.Proofs.YtnghpcfdgjkokaaGreatDoor
open Go.RowKit
set_option maxRecDepth 100000


/-- only blocks and draws are new -/
def Only (w w' : World) : Prop := ∃ q os, w' = Sort.grow (w.drewN q) os

section
variable {w w' w'' : World}
theorem Only.refl (w : World) : Only w w := ⟨0, #[], by simp [Sort.grow, World.drewN]⟩
theorem Only.alloc (h : Only w w') (o : Obj) : Only w (w'.alloc o) := by
  obtain ⟨q, os, rfl⟩ := h
  exact ⟨q, os ++ #[o], by rw [Sort.alloc_eq_grow, Sort.grow_grow]⟩
theorem Only.drew (h : Only w w') : Only w w'.drew := by
  obtain ⟨q, os, rfl⟩ := h
  exact ⟨q + 1, os, rfl⟩
theorem Only.trans (h : Only w w') (h' : Only w' w'') : Only w w'' := by
  obtain ⟨q, os, rfl⟩ := h
  obtain ⟨q', os', rfl⟩ := h'
  exact ⟨q + q', os ++ os', by rw [← Sort.grow_grow]; simp [Sort.grow, World.drewN, Nat.add_assoc]⟩
theorem Only.below (h : Only w w') : Below w.heap.size w w' := by
  obtain ⟨q, os, rfl⟩ := h
  exact ⟨rfl, rfl, rfl, by simp [World.drewN], fun k hk => by rw [Sort.heap_grow_old _ _ (by simpa [World.drewN] using hk)]; rfl⟩
end

/-- the first that isn't 0 -/
def orL : List Int → Int
  | [] => 0
  | a :: l => if a ≠ 0 then a else orL l
theorem orL_take : ∀ (l : List Int) (k : Nat), (∀ x ∈ l.take k, x = 0) → orL l = orL (l.drop k)
  | _, 0, _ => by simp
  | [], _ + 1, _ => by simp
  | a :: l, k + 1, h => by
    have h0 : a = 0 := h a (by simp)
    subst h0
    rw [orL, if_neg (by simp), List.drop_succ_cons]
    exact orL_take l k fun x hx => h x (by simp [hx])

set_option maxHeartbeats 800000 in
theorem or_list (l : List Int) (g : Nat) (w : World) (h : Blk w g 3 (l.map (Value.int .i64)).toArray) (hl : l.length ≤ 1000) :
    Calls Tryz.prog 141 #[.slice (some ⟨g, 0, none⟩) l.length l.length] w fun e w' => e = .returned (.int .i64 (orL l)) ∧ w = w' := by
  have H := Lib.hid h
  clear h
  go_enter Tryz.func141, Tryz.ntmps141
  go_wp2_with fail
  go_loop [5, 8] (fun _ i => ∃ k : Nat, k ≤ l.length ∧ i = .int .i64 k ∧ Hid (∀ x ∈ l.take k, x = 0)) (fun _ i => l.length - (intOf i).toNat)
  case atStart => exact ⟨0, Nat.zero_le _, rfl, Lib.hid (by simp)⟩
  case round =>
    obtain ⟨k, hk, rfl, HK⟩ := hrel
    by_cases hlt : k < l.length
    · have c0 := H.out.cell k
      rw [List.getElem?_toArray, List.getElem?_map, List.getElem?_eq_getElem hlt, Option.map_some] at c0
      have HE := Lib.hid (orL_take l k HK.out)
      have HD := Lib.hid (List.drop_eq_getElem_cons hlt)
      have HT := Lib.hid (List.take_succ_eq_append_getElem hlt)
      generalize l[k] = x at c0 HD HT
      by_cases hx : x = 0
      · subst hx
        go_wp2_with fail
        refine ⟨⟨k + 1, by omega, by go_num, Lib.hid ?_⟩, by simp [intOf]; omega⟩
        intro y hy
        rw [HT.out] at hy
        rcases List.mem_append.1 hy with hy | hy
        · exact HK.out y hy
        · simpa using hy
      · have hx' : (x == 0) = false := by simpa using hx
        have HX := Lib.hid hx
        clear hx
        go_wp2_with fail
        go_ret
        refine ⟨?_, rfl⟩
        rw [HE.out, HD.out, orL, if_pos HX.out]
        rfl
    · go_wp2_with fail
      go_ret
      refine ⟨?_, rfl⟩
      have e := orL_take l k HK.out
      rw [List.drop_of_length_le (by omega)] at e
      rw [e]
      rfl

section
variable {P : Program} (w : World)
theorem run_loadB : ∀ (l : List UInt8) (a : Addr) (acc : ByteArray), (∀ j u, (BV l)[j]? = some u → w.cell? (a.add j) = some u) →
    (Extern.Bytes.loadBytes a l.length acc).run P w = .ok ⟨acc.data ++ l.toArray⟩ w
  | [], a, acc, _ => by simp [Extern.Bytes.loadBytes]
  | x :: l, a, acc, h => by
    have h0 : w.cell? a = some (.int .u8 (x.toNat : Int)) := by
      have := h 0 _ rfl
      simpa [Addr.add] using this
    have ih := run_loadB l (a.add 1) (acc.push x) (fun j y hy => by
      have := h (j + 1) y (by simpa [BV] using hy)
      rw [add_add, Nat.add_comm 1 j]; exact this)
    simp only [List.length_cons, Extern.Bytes.loadBytes, Sem.run_bind, run_load, h0, Result.andThen, Int.toNat_natCast]
    rw [show x.toNat.toUInt8 = x by simp, ih]
    congr 1
    apply ByteArray.ext
    simp [ByteArray.push]
theorem run_bytesOf {v : Value} {l : List UInt8} (h : Bs w v l) : (Extern.Bytes.bytesOf v).run P w = .ok ⟨l.toArray⟩ w := by
  obtain ⟨A, c, rfl, h1, h2, hr⟩ := h
  cases A with
  | none =>
    have hk : l = [] := by
      have := hr.noneEq
      simpa [BV] using this
    subst hk
    rfl
  | some ad =>
    have := run_loadB (P := P) w l ad .empty hr.cells
    unfold Extern.Bytes.bytesOf
    rw [this]
    congr 1
    apply ByteArray.ext
    show (#[] : Array UInt8) ++ l.toArray = l.toArray
    simp
theorem run_bcompare {v u : Value} {l m : List UInt8} (h : Bs w v l) (h' : Bs w u m) : (Extern.BytealgCompare.compare #[v, u]).run P w = .ok (.int .i64 (Lib.compareBytes l m)) w := by
  have e1 := run_bytesOf (P := P) w h
  have e2 := run_bytesOf (P := P) w h'
  change Sem.run P (do pure (goInt (Extern.BytealgCompare.cmp (← Extern.Bytes.bytesOf v) (← Extern.Bytes.bytesOf u)))) w = _
  simp only [Sem.run_bind, Sem.run_pure, e1, e2, Result.andThen]
  rw [Lib.cmp_eq]
  rfl
end

theorem orI_list (a b c : Int) : orI a b c = orL [a, b, c] := by
  simp only [orI, orL]
  repeat' split
  all_goals omega

set_option maxHeartbeats 800000 in
set_option maxRecDepth 100000 in
theorem compare_only (va vb : Value) (a b : Sn) (w : World) (ha : SV w va a) (hb : SV w vb b) :
    Calls Tryz.prog 115 #[va, vb] w fun e w' => e = .returned (.int .i64 (cmpS a b)) ∧ Only w w' := by
  obtain ⟨ho, d, rfl, hd⟩ := ha
  obtain ⟨ho', d', rfl, hd'⟩ := hb
  go_enter Tryz.func115, Tryz.ntmps115
  go_wp2_with fail
  have hA : Blk ((w.alloc (.cells #[.int .u64 a.tr, .int .u64 a.id, .int .i64 a.st, .int .i64 a.en, d] 72)).alloc (.cells #[.int .u64 b.tr, .int .u64 b.id, .int .i64 b.st, .int .i64 b.en, d'] 72)) w.heap.size 72 #[.int .u64 a.tr, .int .u64 a.id, .int .i64 a.st, .int .i64 a.en, d] := (Blk.new _ _ _).alloc _
  have hB := Blk.new (w.alloc (.cells #[.int .u64 a.tr, .int .u64 a.id, .int .i64 a.st, .int .i64 a.en, d] 72)) 72 #[.int .u64 b.tr, .int .u64 b.id, .int .i64 b.st, .int .i64 b.en, d']
  have hb : Only w ((w.alloc (.cells #[.int .u64 a.tr, .int .u64 a.id, .int .i64 a.st, .int .i64 a.en, d] 72)).alloc (.cells #[.int .u64 b.tr, .int .u64 b.id, .int .i64 b.st, .int .i64 b.en, d'] 72)) := ((Only.refl _).alloc _).alloc _
  revert hA hB hb
  generalize (w.alloc (.cells #[.int .u64 a.tr, .int .u64 a.id, .int .i64 a.st, .int .i64 a.en, d] 72)).alloc (.cells #[.int .u64 b.tr, .int .u64 b.id, .int .i64 b.st, .int .i64 b.en, d'] 72) = w1
  intro hA hB hb
  have a0 := hA.cell 0
  have a1 := hA.cell 1
  have a2 := hA.cell 2
  have b0 := hB.cell 0
  have b1 := hB.cell 1
  have b2 := hB.cell 2
  simp at a0 a1 a2 b0 b1 b2
  refine wp_region_still_tail 15 (by kernel_rfl) (by kernel_rfl) ?_
  simp only [List.take_succ_cons, List.take_zero, List.drop_succ_cons, List.drop_zero]
  still_step
  still_step
  still_step
  still_step
  still_call ((cmp_i64 _ _ _).mono fun _ _ ⟨he, hw⟩ => ⟨he, hw.symm⟩)
  still_step
  still_step
  still_step
  still_step
  still_call ((cmp_u64 _ _ _).mono fun _ _ ⟨he, hw⟩ => ⟨he, hw.symm⟩)
  still_step
  still_step
  still_step
  still_step
  still_call ((cmp_u64 _ _ _).mono fun _ _ ⟨he, hw⟩ => ⟨he, hw.symm⟩)
  refine wpStill_nil ?_
  go_wp2_with fail
  refine (or_list [_, _, _] w1.heap.size _ (show Blk (w1.alloc _).drew _ _ _ from Blk.new w1 _ _) (by simp)).mono ?_
  rintro e w2 ⟨rfl, rfl⟩
  go_wp2_with fail
  go_ret
  exact ⟨by rw [cmpS, orI_list]; rfl, (hb.alloc _).drew⟩

theorem cmpW_or (a b : Sn) : cmpW a b = if orL [cmpI a.tr b.tr, cmpI a.id b.id, cmpI a.st b.st, cmpI a.en b.en] ≠ 0 then orL [cmpI a.tr b.tr, cmpI a.id b.id, cmpI a.st b.st, cmpI a.en b.en] else Lib.compareBytes a.data b.data := by
  simp only [cmpW, cmpL, lexC, orL]
  repeat' split
  all_goals first | omega | rfl | skip

/-- by traces, then in order -/
def cmpT (a b : Sn) : Int := lexC (fun a b => cmpI a.tr b.tr) cmpS a b
theorem three_cmpT : Three cmpT := (three_cmpI.on fun s : Sn => s.tr).lex three_cmpS
theorem cmpT_or (a b : Sn) : cmpT a b = orL [cmpI a.tr b.tr, cmpS a b] := by
  simp only [cmpT, lexC, orL]
  repeat' split
  all_goals omega

set_option maxRecDepth 100000 in
set_option maxHeartbeats 800000 in
theorem Less_any (va vb : Value) (a b : Sn) (w : World) (ha : SV w va a) (hb : SV w vb b) :
    Calls Tryz.prog 130 #[va, vb] w fun e w' => e = .returned (.bool (lessB a b)) ∧ Below w.heap.size w w' := by
  obtain ⟨ho, d, rfl, hd⟩ := ha
  obtain ⟨ho', d', rfl, hd'⟩ := hb
  have hb : Below w.heap.size w ((w.alloc (.cells #[.int .u64 a.tr, .int .u64 a.id, .int .i64 a.st, .int .i64 a.en, d] 72)).alloc (.cells #[.int .u64 b.tr, .int .u64 b.id, .int .i64 b.st, .int .i64 b.en, d'] 72)) := ((Below.refl _ _).alloc (Nat.le_refl _) _).alloc (by simp) _
  have s1 := strOf (show Bs ((w.alloc (.cells #[.int .u64 a.tr, .int .u64 a.id, .int .i64 a.st, .int .i64 a.en, d] 72)).alloc (.cells #[.int .u64 b.tr, .int .u64 b.id, .int .i64 b.st, .int .i64 b.en, d'] 72)) d a.data from (hd.alloc _).alloc _)
  have s2 := strOf (show Bs ((w.alloc (.cells #[.int .u64 a.tr, .int .u64 a.id, .int .i64 a.st, .int .i64 a.en, d] 72)).alloc (.cells #[.int .u64 b.tr, .int .u64 b.id, .int .i64 b.st, .int .i64 b.en, d'] 72)) d' b.data from (hd'.alloc _).alloc _)
  have hq : Op.bytesLess (Bstr a.data).toList (Bstr b.data).toList = decide (Lib.compareBytes a.data b.data < 0) := by rw [Bstr_toList, Bstr_toList, bytesLess_cmp]
  by_cases h1 : a.st = b.st
  · have k1 : (a.st == b.st) = true := by simpa using h1
    by_cases h2 : a.en = b.en
    · have k2 : (a.en == b.en) = true := by simpa using h2
      have e : lessB a b = decide (Lib.compareBytes a.data b.data < 0) := by simp [lessB, h1, h2]
      rw [e, ← hq]
      clear e h1 h2 hq
      go_enter Tryz.func130, Tryz.ntmps130
      go_wp2_with fail
      go_ret
      exact ⟨rfl, hb⟩
    · have k2 : (a.en == b.en) = false := by simpa using h2
      have e : lessB a b = decide (a.en < b.en) := by simp [lessB, h1, h2]
      rw [e]
      clear e h1 h2 hq
      go_enter Tryz.func130, Tryz.ntmps130
      go_wp2_with fail
      go_ret
      exact ⟨rfl, hb⟩
  · have k1 : (a.st == b.st) = false := by simpa using h1
    have e : lessB a b = decide (a.st < b.st) := by simp [lessB, h1]
    rw [e]
    clear e h1 hq
    go_enter Tryz.func130, Tryz.ntmps130
    go_wp2_with fail
    go_ret
    exact ⟨rfl, hb⟩

end Go.Proofs.YtnghpcfdgjkokaaGreatDoor
