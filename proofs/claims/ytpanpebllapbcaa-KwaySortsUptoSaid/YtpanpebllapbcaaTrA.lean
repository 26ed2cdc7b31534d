/-
  A SLICE OF SPANS OF THE CALL's OWN ('Own5'), and slices.SortFunc over it: what it makes of it. Conditions: the comparison answers by a plain comparison of three answers, and lays blocks alone.
  CONTRACTS of the comparisons: span.Compare once more (it lays blocks alone), trace's compareWhole, compareInTraces, isOfOne, bytes.Compare, and the document's Less.
-/
import Derived.Test.YtpanpebllapbcaaSort
import Derived.Test.YtpanpebllapbcaaGat
import Derived.Test.YtpanpebllapbcaaMix
namespace Go.Proofs.Ytpanpebllapbcaa
open Go.RowKit
set_option maxRecDepth 100000


section
variable {α β γ : Type} {R : α → β → Prop}
theorem Two.tail {a : α} {b : β} {l : List α} {m : List β} (h : Two R (a :: l) (b :: m)) : R a b ∧ Two R l m :=
  ⟨h.at_ 0 a b rfl rfl, by have := h.len; simpa using this, fun i x y h1 h2 => h.at_ (i + 1) x y (by simpa using h1) (by simpa using h2)⟩
theorem Two.lift {f : γ → α} {g : γ → β} (hR : ∀ a b, R a b → ∃ c, f c = a ∧ g c = b) : ∀ {l : List α} {m : List β}, Two R l m → ∃ cs : List γ, cs.map f = l ∧ cs.map g = m
  | [], [], _ => ⟨[], rfl, rfl⟩
  | [], _ :: _, h => by have := h.len; simp at this
  | _ :: _, [], h => by have := h.len; simp at this
  | a :: l, b :: m, h => by
    obtain ⟨h1, h2⟩ := h.tail
    obtain ⟨c, hc1, hc2⟩ := hR a b h1
    obtain ⟨cs, hs1, hs2⟩ := Two.lift hR h2
    exact ⟨c :: cs, by simp [hc1, hs1], by simp [hc2, hs2]⟩
theorem Two.ofMap (f : γ → α) (g : γ → β) (cs : List γ) (h : ∀ c ∈ cs, R (f c) (g c)) : Two R (cs.map f) (cs.map g) := by
  refine ⟨by simp, fun i a b h1 h2 => ?_⟩
  rw [List.getElem?_map] at h1 h2
  cases hc : cs[i]? with
  | none => rw [hc] at h1; cases h1
  | some c =>
    rw [hc] at h1 h2
    simp only [Option.map_some, Option.some.injEq] at h1 h2
    subst h1 h2
    exact h c (List.mem_of_getElem? hc)
end

/-- the cells x are those of the span s, whose Data lies apart from the block 'row' -/
def SpF (w : World) (row : Option Nat) (s : Sn) (x : List Value) : Prop := s.ok ∧ ∃ d, x = spCells s d ∧ Bs w d s.data ∧ (s.data ≠ [] → d.ownBlock ≠ row)

/-- v is a slice of the call's own, of the spans l, whose Data lies elsewhere -/
def Own5 (w : World) (base : Nat) (v : Value) (l : List Sn) : Prop := ∃ xs, OwnL 5 w base 51 v xs ∧ Two (SpF w v.ownBlock) l xs

section
variable {w w' : World} {base : Nat} {v : Value} {l : List Sn} {s : Sn} {x : List Value} {row r : Option Nat}
theorem SpF.spc (h : SpF w row s x) : SpC w s x := by
  obtain ⟨ho, d, hx, hd, _⟩ := h
  exact ⟨ho, d, hx, hd⟩
theorem SpF.grown (h : SpF w row s x) (hg : w.grownBy w' row) : SpF w' row s x := by
  obtain ⟨ho, d, hx, hd, hn⟩ := h
  exact ⟨ho, d, hx, hd.grown hg hn, hn⟩
theorem SpF.below (h : SpF w row s x) (hb : Below w.heap.size w w') : SpF w' row s x := by
  obtain ⟨ho, d, hx, hd, hn⟩ := h
  exact ⟨ho, d, hx, hd.below hb, hn⟩
theorem SpF.of_spc (h : SpC w s x) {g : Nat} (hg : w.heap.size ≤ g) : SpF w (some g) s x := by
  obtain ⟨ho, d, hx, hd⟩ := h
  refine ⟨ho, d, hx, hd, fun hne e => ?_⟩
  obtain ⟨k, hk, hk'⟩ := hd.block hne
  rw [hk] at e
  injection e with e
  omega
theorem Own5.nil (w : World) (base : Nat) : Own5 w base (.slice none 0 0) [] := ⟨[], OwnL.nil _ _ _ _, Two.nil⟩
theorem Own5.ss (h : Own5 w base v l) : Ss w v l := by
  obtain ⟨xs, h1, h2⟩ := h
  exact ⟨xs, h1.lv, h2.mono fun _ _ h => h.spc⟩
theorem Own5.below (h : Own5 w base v l) (hb : Below w.heap.size w w') : Own5 w' base v l := by
  obtain ⟨xs, h1, h2⟩ := h
  exact ⟨xs, h1.below hb, h2.mono fun _ _ h => h.below hb⟩
theorem Own5.lt (h : Own5 w base v l) : ∀ g, v.ownBlock = some g → base ≤ g ∧ g < w.heap.size := fun g hg => by
  obtain ⟨xs, h1, _⟩ := h
  exact ⟨h1.ge g hg, h1.lt g hg⟩
theorem Own5.lower {base' : Nat} (h : Own5 w base v l) (hb : base' ≤ base) : Own5 w base' v l := by
  obtain ⟨xs, ⟨h1, h1'⟩, h2⟩ := h
  refine ⟨xs, ⟨⟨h1.1, ?_⟩, h1'⟩, h2⟩
  rcases h1.2 with h0 | ⟨g, cap, cur, hv, hg, hr⟩
  · exact .inl h0
  · exact .inr ⟨g, cap, cur, hv, by omega, hr⟩
/-- what Below has left -/
theorem below_of_own (hB : Below base w w') (h : Own5 w' base v l) {w'' : World} (hg : w'.grownBy w'' v.ownBlock) (hb : base ≤ w'.heap.size) : Below base w w'' :=
  hB.grown hg hb (fun k hk => (h.lt k hk).1)
end

open Go.Sort in
theorem flatK_list {α : Type} [Inhabited α] (enc : α → List Value) (k : Nat) (hk : ∀ x, (enc x).length = k) (es : List α) : flatK enc k es.toArray = (es.map enc).flatten.toArray := by
  have hk' : ∀ x ∈ es.map enc, x.length = k := by
    intro x hx
    obtain ⟨e, _, rfl⟩ := List.mem_map.1 hx
    exact hk e
  have hl := flat_length hk'
  rw [List.length_map] at hl
  apply Array.ext_getElem?
  intro t
  by_cases ht : t < es.length * k
  · have k0 : 0 < k := by
      rcases Nat.eq_zero_or_pos k with h | h
      · subst h; simp at ht
      · exact h
    have hq : t / k < es.length := Nat.div_lt_of_lt_mul (by rwa [Nat.mul_comm] at ht)
    have hr : t % k < k := Nat.mod_lt _ k0
    have e0 : t = t / k * k + t % k := by rw [Nat.mul_comm]; exact (Nat.div_add_mod t k).symm
    have h1 : (flatK enc k es.toArray)[t]? = some (flatK enc k es.toArray)[t]! := by
      have hs : t < (flatK enc k es.toArray).size := by simpa using ht
      rw [getElem!_pos _ t hs, Array.getElem?_eq_getElem hs]
    rw [h1, get_flatK enc k es.toArray t (by simpa using ht)]
    have h2 := flat_at hk' (i := t / k) (j := t % k) (x := enc es[t / k]) (by rw [List.getElem?_map, List.getElem?_eq_getElem hq]; rfl) hr
    rw [← e0] at h2
    rw [List.getElem?_toArray, h2]
    have h3 : es.toArray[t / k]! = es[t / k] := by rw [getElem!_pos _ _ (by simpa using hq)]; simp
    rw [h3]
    have h4 : t % k < (enc es[t / k]).length := by rw [hk]; exact hr
    rw [getElem!_pos (enc es[t / k]) (t % k) h4, List.getElem?_eq_getElem h4]
  · rw [Array.getElem?_eq_none (by simpa using Nat.le_of_not_lt ht), Array.getElem?_eq_none (by simp only [List.size_toArray, hl]; omega)]

/-- a span among those that are sorted: its Data reads in w, and lies apart from block g -/
def El (w : World) (g : Nat) : Type := { p : Sn × Value // p.1.ok ∧ Bs w p.2 p.1.data ∧ (p.1.data ≠ [] → p.2.ownBlock ≠ some g) }
def El.enc {w : World} {g : Nat} (e : El w g) : List Value := spCells e.1.1 e.1.2
def El.sn {w : World} {g : Nat} (e : El w g) : Sn := e.1.1
instance El.inh (w : World) (g : Nat) : Inhabited (El w g) :=
  ⟨⟨(⟨0, 0, 0, 0, []⟩, .slice none 0 0), ⟨by decide, by decide, by decide, by decide, by decide, by decide, by decide, by decide⟩, Bs.nil w, fun h => absurd rfl h⟩⟩

section
open Go.Sort
theorem grownBy_sortedK {α : Type} [Inhabited α] (enc : α → List Value) (k : Nat) {w : World} {g n : Nat} {os : Array Obj} (d : Array α) : w.grownBy (sortWorldK enc k w g 0 n d os) (some g) := by
  refine ⟨rfl, rfl, rfl, by simp [sortWorldK, putRowK, Sort.ahead], fun k hk hne => ?_⟩
  unfold sortWorldK putRowK
  rw [heap_grow_old _ _ (by simpa [Sort.ahead] using hk)]
  have : g ≠ k := fun e => hne (by rw [e])
  simp [putRow, mapBlock, Sort.ahead, Array.getElem?_modify, this]

theorem heap_sortedK {α : Type} [Inhabited α] (enc : α → List Value) (k : Nat) {w : World} {g n : Nat} {os : Array Obj} {cur : Array Value} {e : TypeId} {fr : Nat × Nat} (d : Array α) (hb : w.heap[g]? = some (.cells cur e fr)) :
    (sortWorldK enc k w g 0 n d os).heap[g]? = some (.cells (putCells id 0 (flatK enc k d) cur) e fr) := by
  have hg : g < w.heap.size := (Array.getElem?_eq_some_iff.1 hb).1
  unfold sortWorldK putRowK
  rw [heap_grow_old _ _ (by simpa [Sort.ahead] using hg)]
  simp [putRow, mapBlock, Sort.ahead, Array.getElem?_modify, hb, onCells]

theorem take_putCellsK (F cur : Array Value) (h : F.size ≤ cur.size) : (putCells id 0 F cur).toList.take F.size = F.toList := by
  apply List.ext_getElem?
  intro j
  by_cases hj : j < F.size
  · rw [List.getElem?_take_of_lt hj, Array.getElem?_toList, Array.getElem?_toList, Array.getElem?_eq_getElem hj]
    simp [putCells, hj, show j < cur.size by omega]
  · rw [List.getElem?_take_eq_none (by omega), Array.getElem?_toList, Array.getElem?_eq_none (by omega)]
end

section
open Go.Sort
set_option maxHeartbeats 1000000 in
theorem sort_any (g : Nat) (cf : Sn → Sn → Int) (h3 : Three cf) (eg : ∀ args w, (callFunc g args).run Try.prog w = .ok (.enter g args) w)
    (hc : ∀ (va vb : Value) (a b : Sn) (w : World), SV w va a → SV w vb b → Calls Try.prog g #[va, vb] w fun e w' => e = .returned (.int .i64 (cf a b)) ∧ ∃ q os, w' = Sort.grow (w.drewN q) os)
    (v : Value) (l : List Sn) (base : Nat) (w : World) (h : Own5 w base v l) (hll : l.length ≤ 140737488355328) :
    Calls Try.prog 40 #[v, .func (.func g) #[] #[]] w fun e w' => e = .returned (.tuple #[]) ∧ ∃ l', l'.Perm l ∧ (l'.Pairwise fun a b => cf a b ≤ 0) ∧ Own5 w' base v l' ∧ w.grownBy w' v.ownBlock := by
  obtain ⟨xs, ⟨ho, hk⟩, h2⟩ := h
  rcases ho.2 with ⟨rfl, h0⟩ | ⟨blk, cap, cur, rfl, hb, hg, hn, hm, hcs, htk⟩
  · have hx : xs = [] := List.eq_nil_of_length_eq_zero h0
    subst hx
    have hl : l = [] := List.eq_nil_of_length_eq_zero h2.len
    subst hl
    refine (AnyF.slices_SortFunc_none sortSp none 0 _ w).mono fun e w' ⟨he, hw⟩ => ?_
    subst hw
    exact ⟨he, [], List.Perm.refl _, List.Pairwise.nil, Own5.nil _ _, World.grownBy.refl _ _⟩
  · have hblk : blk < w.heap.size := (Array.getElem?_eq_some_iff.1 hg).1
    obtain ⟨es, he1, he2⟩ := Two.lift (γ := El w blk) (f := El.sn) (g := El.enc) (fun s x hs => by
      obtain ⟨hok, d, hx, hd, hne⟩ := hs
      exact ⟨⟨(s, d), hok, hd, hne⟩, rfl, hx.symm⟩) h2
    have hlen : xs.length = es.length := by rw [← he2]; simp
    have hflat : flatK El.enc 5 es.toArray = xs.flatten.toArray := by rw [flatK_list El.enc 5 (fun _ => rfl) es, he2]
    have hfl : xs.flatten.length = xs.length * 5 := flat_length hk
    have hH : HoldsK El.enc 5 w blk 0 es.toArray := by
      unfold HoldsK
      rw [hflat]
      intro j hj
      have hj' : j < xs.flatten.length := by simpa using hj
      rw [Nat.zero_add]
      refine ⟨?_, ho.frozenAt j⟩
      rw [ho.cellAt j (by omega), List.getElem?_eq_getElem hj']
      congr 1
      rw [getElem!_pos _ j (by simpa using hj')]
      rfl
    have hcmp : CmpLays Try.prog g #[] (El.enc (w := w) (g := blk)) 5 (fun x y => cf x.sn y.sn) blk 0 es.toArray.size w := by
      intro m os dk hs x y
      have hgr := grownBy_sortedK (El.enc (w := w) (g := blk)) 5 (w := w) (g := blk) (n := m) (os := os) dk
      exact hc _ _ x.sn y.sn _ ⟨x.2.1, x.1.2, rfl, x.2.2.1.grown hgr x.2.2.2⟩ ⟨y.2.1, y.1.2, rfl, y.2.2.1.grown hgr y.2.2.2⟩
    have hO : SWO (ltOf fun x y : El w blk => cf x.sn y.sn) := by
      refine ⟨fun x => ?_, fun x y z h1 h2 => ?_, fun x y z h1 h2 => ?_⟩
      · simp [ltOf, h3.rf]
      · simp only [ltOf, decide_eq_true_iff] at *
        exact h3.lt_le h1 (by omega)
      · simp only [ltOf, decide_eq_false_iff_not] at *
        have e1 := h3.le_of_not h1
        have e2 := h3.le_of_not h2
        have e3 := h3.tr _ _ _ e2 e1
        have e4 := h3.anti x.sn z.sn
        omega
    have hcon := AnyQ.slices_SortFunc sortSp 5 Try.isAgg51 Try.sizeOf51 El.enc (fun _ => rfl) (fun x v hv => by
      obtain ⟨A, c, hd, _⟩ := x.2.2.1
      simp only [El.enc, spCells, List.mem_cons, List.not_mem_nil, or_false] at hv
      rcases hv with rfl | rfl | rfl | rfl | rfl
      · rfl
      · rfl
      · rfl
      · rfl
      · rw [hd]; rfl) (fun x y => cf x.sn y.sn) hO g #[] blk 0 cap es.toArray w eg hcmp hH hblk (by
        rw [List.size_toArray, ← hlen, ← h2.len]
        omega)
    rw [show es.toArray.size = xs.length by rw [List.size_toArray]; exact hlen.symm] at hcon
    refine hcon.mono fun e w' ⟨he, d', n, os, hp, hs, hw⟩ => ⟨he, d'.toList.map El.sn, ?_, ?_, ?_, ?_⟩
    · have hp1 := hp.1
      have hp2 := hp.2.2
      simp only [List.size_toArray] at hp1
      rw [show (d'.extract 0 xs.length).toList = d'.toList by
        rw [hlen, ← hp1]; simp, show (es.toArray.extract 0 xs.length).toList = es by rw [hlen]; simp] at hp2
      rw [← he1]
      exact hp2.map _
    · rw [List.pairwise_map, List.pairwise_iff_getElem]
      intro i j hi hj hij
      have hp1 := hp.1
      simp only [List.size_toArray] at hp1
      rw [Array.length_toList] at hi hj
      have := hs i j (Nat.zero_le _) hij (by omega)
      simp only [ltOf, decide_eq_false_iff_not] at this
      rw [getElem!_pos d' i hi, getElem!_pos d' j hj] at this
      have h4 := h3.le_of_not this
      simpa using h4
    · subst hw
      have hp1 := hp.1
      simp only [List.size_toArray] at hp1
      have hgr := grownBy_sortedK (El.enc (w := w) (g := blk)) 5 (w := w) (g := blk) (n := n) (os := os) d'
      have hds : (flatK El.enc 5 d').size = xs.length * 5 := by rw [size_flatK, hp1, hlen]
      have hdl : d'.toList.toArray = d' := by simp
      have hfd : flatK El.enc 5 d' = (d'.toList.map El.enc).flatten.toArray := by
        have := flatK_list El.enc 5 (fun _ => rfl) d'.toList
        rwa [hdl] at this
      refine ⟨d'.toList.map El.enc, ⟨?_, ?_⟩, ?_⟩
      · have hlm : (d'.toList.map (El.enc (w := w) (g := blk))).length = xs.length := by simp [hp1, hlen]
        rw [hlm]
        refine ⟨?_, .inr ⟨blk, cap, _, rfl, hb, heap_sortedK El.enc 5 d' hg, hn, hm, by simp [putCells, hcs], ?_⟩⟩
        · have := congrArg Array.size hfd
          rw [hds] at this
          simpa using this.symm
        · have hle : (flatK El.enc 5 d').size ≤ cur.size := by
            rw [hds, hcs]
            exact Nat.mul_le_mul_right _ hn
          have := take_putCellsK (flatK El.enc 5 d') cur hle
          rw [hds] at this
          rw [this, hfd]
      · intro x hx
        obtain ⟨e, _, rfl⟩ := List.mem_map.1 hx
        rfl
      · refine Two.ofMap El.sn El.enc d'.toList fun e _ => ?_
        exact ⟨e.2.1, e.1.2, rfl, e.2.2.1.grown hgr e.2.2.2, e.2.2.2⟩
    · rw [hw]
      exact grownBy_sortedK El.enc 5 d'
end

end Go.Proofs.Ytpanpebllapbcaa

namespace Go.Proofs.Ytpanpebllapbcaa
open Go.RowKit
set_option maxRecDepth 100000


/-- only blocks and draws are new -/
def Only (w w' : World) : Prop := ∃ q os, w' = Sort.grow (w.drewN q) os

section
variable {w w' w'' : World}
theorem Only.refl (w : World) : Only w w := ⟨0, #[], by simp [Sort.grow, World.drewN]⟩
theorem Only.alloc (h : Only w w') (o : Obj) : Only w (w'.alloc o) := by
  obtain ⟨q, os, rfl⟩ := h
  exact ⟨q, os ++ #[o], by rw [Sort.alloc_eq_grow, Sort.grow_grow]⟩
theorem Only.drew (h : Only w w') : Only w w'.drew := by
  obtain ⟨q, os, rfl⟩ := h
  exact ⟨q + 1, os, rfl⟩
theorem Only.trans (h : Only w w') (h' : Only w' w'') : Only w w'' := by
  obtain ⟨q, os, rfl⟩ := h
  obtain ⟨q', os', rfl⟩ := h'
  exact ⟨q + q', os ++ os', by rw [← Sort.grow_grow]; simp [Sort.grow, World.drewN, Nat.add_assoc]⟩
theorem Only.below (h : Only w w') : Below w.heap.size w w' := by
  obtain ⟨q, os, rfl⟩ := h
  exact ⟨rfl, rfl, rfl, by simp [World.drewN], fun k hk => by rw [Sort.heap_grow_old _ _ (by simpa [World.drewN] using hk)]; rfl⟩
end

/-- the first that isn't 0 -/
def orL : List Int → Int
  | [] => 0
  | a :: l => if a ≠ 0 then a else orL l
theorem orL_take : ∀ (l : List Int) (k : Nat), (∀ x ∈ l.take k, x = 0) → orL l = orL (l.drop k)
  | _, 0, _ => by simp
  | [], _ + 1, _ => by simp
  | a :: l, k + 1, h => by
    have h0 : a = 0 := h a (by simp)
    subst h0
    rw [orL, if_neg (by simp), List.drop_succ_cons]
    exact orL_take l k fun x hx => h x (by simp [hx])

set_option maxHeartbeats 800000 in
theorem or_list (l : List Int) (g : Nat) (w : World) (h : Blk w g 3 (l.map (Value.int .i64)).toArray) (hl : l.length ≤ 1000) :
    Calls Try.prog 59 #[.slice (some ⟨g, 0, none⟩) l.length l.length] w fun e w' => e = .returned (.int .i64 (orL l)) ∧ w = w' := by
  have H := Lib.hid h
  clear h
  go_enter Try.func59, Try.ntmps59
  go_wp2_with fail
  go_loop [5, 8] (fun _ i => ∃ k : Nat, k ≤ l.length ∧ i = .int .i64 k ∧ Hid (∀ x ∈ l.take k, x = 0)) (fun _ i => l.length - (intOf i).toNat)
  case atStart => exact ⟨0, Nat.zero_le _, rfl, Lib.hid (by simp)⟩
  case round =>
    obtain ⟨k, hk, rfl, HK⟩ := hrel
    by_cases hlt : k < l.length
    · have c0 := H.out.cell k
      rw [List.getElem?_toArray, List.getElem?_map, List.getElem?_eq_getElem hlt, Option.map_some] at c0
      have HE := Lib.hid (orL_take l k HK.out)
      have HD := Lib.hid (List.drop_eq_getElem_cons hlt)
      have HT := Lib.hid (List.take_succ_eq_append_getElem hlt)
      generalize l[k] = x at c0 HD HT
      by_cases hx : x = 0
      · subst hx
        go_wp2_with fail
        refine ⟨⟨k + 1, by omega, by go_num, Lib.hid ?_⟩, by simp [intOf]; omega⟩
        intro y hy
        rw [HT.out] at hy
        rcases List.mem_append.1 hy with hy | hy
        · exact HK.out y hy
        · simpa using hy
      · have hx' : (x == 0) = false := by simpa using hx
        have HX := Lib.hid hx
        clear hx
        go_wp2_with fail
        go_ret
        refine ⟨?_, rfl⟩
        rw [HE.out, HD.out, orL, if_pos HX.out]
        rfl
    · go_wp2_with fail
      go_ret
      refine ⟨?_, rfl⟩
      have e := orL_take l k HK.out
      rw [List.drop_of_length_le (by omega)] at e
      rw [e]
      rfl

section
variable {P : Program} (w : World)
theorem run_loadB : ∀ (l : List UInt8) (a : Addr) (acc : ByteArray), (∀ j u, (BV l)[j]? = some u → w.cell? (a.add j) = some u) →
    (Extern.Bytes.loadBytes a l.length acc).run P w = .ok ⟨acc.data ++ l.toArray⟩ w
  | [], a, acc, _ => by simp [Extern.Bytes.loadBytes]
  | x :: l, a, acc, h => by
    have h0 : w.cell? a = some (.int .u8 (x.toNat : Int)) := by
      have := h 0 _ rfl
      simpa [Addr.add] using this
    have ih := run_loadB l (a.add 1) (acc.push x) (fun j y hy => by
      have := h (j + 1) y (by simpa [BV] using hy)
      rw [add_add, Nat.add_comm 1 j]; exact this)
    simp only [List.length_cons, Extern.Bytes.loadBytes, Sem.run_bind, run_load, h0, Result.andThen, Int.toNat_natCast]
    rw [show x.toNat.toUInt8 = x by simp, ih]
    congr 1
    apply ByteArray.ext
    simp [ByteArray.push]
theorem run_bytesOf {v : Value} {l : List UInt8} (h : Bs w v l) : (Extern.Bytes.bytesOf v).run P w = .ok ⟨l.toArray⟩ w := by
  obtain ⟨A, c, rfl, h1, h2, hr⟩ := h
  cases A with
  | none =>
    have hk : l = [] := by
      have := hr.noneEq
      simpa [BV] using this
    subst hk
    rfl
  | some ad =>
    have := run_loadB (P := P) w l ad .empty hr.cells
    unfold Extern.Bytes.bytesOf
    rw [this]
    congr 1
    apply ByteArray.ext
    show (#[] : Array UInt8) ++ l.toArray = l.toArray
    simp
theorem run_bcompare {v u : Value} {l m : List UInt8} (h : Bs w v l) (h' : Bs w u m) : (Extern.BytealgCompare.compare #[v, u]).run P w = .ok (.int .i64 (Lib.compareBytes l m)) w := by
  have e1 := run_bytesOf (P := P) w h
  have e2 := run_bytesOf (P := P) w h'
  change Sem.run P (do pure (goInt (Extern.BytealgCompare.cmp (← Extern.Bytes.bytesOf v) (← Extern.Bytes.bytesOf u)))) w = _
  simp only [Sem.run_bind, Sem.run_pure, e1, e2, Result.andThen]
  rw [Lib.cmp_eq]
  rfl
end

theorem bcompare_any (va vb : Value) (a b : List UInt8) (w : World) (ha : Bs w va a) (hb : Bs w vb b) :
    Calls Try.prog 66 #[va, vb] w fun e w' => e = .returned (.int .i64 (Lib.compareBytes a b)) ∧ w = w' := by
  have hr := run_bcompare (P := Try.prog) w ha hb
  generalize Lib.compareBytes a b = x at hr ⊢
  go_enter Try.func66, Try.ntmps66
  go_wp2_with fail
  rw [run_callFunc_extern Try.func79 (by kernel_rfl) (by kernel_rfl) (by kernel_rfl) (e := Extern.BytealgCompare.compare) (by kernel_rfl), hr]
  simp only [Result.andThen]
  rw [Oper.upon_value]
  go_wp2
  go_ret
  exact ⟨rfl, rfl⟩

theorem orI_list (a b c : Int) : orI a b c = orL [a, b, c] := by
  simp only [orI, orL]
  repeat' split
  all_goals omega

set_option maxHeartbeats 800000 in
set_option maxRecDepth 100000 in
theorem compare_only (va vb : Value) (a b : Sn) (w : World) (ha : SV w va a) (hb : SV w vb b) :
    Calls Try.prog 41 #[va, vb] w fun e w' => e = .returned (.int .i64 (cmpS a b)) ∧ Only w w' := by
  obtain ⟨ho, d, rfl, hd⟩ := ha
  obtain ⟨ho', d', rfl, hd'⟩ := hb
  go_enter Try.func41, Try.ntmps41
  go_wp2_with fail
  have hA : Blk ((w.alloc (.cells #[.int .u64 a.tr, .int .u64 a.id, .int .i64 a.st, .int .i64 a.en, d] 51)).alloc (.cells #[.int .u64 b.tr, .int .u64 b.id, .int .i64 b.st, .int .i64 b.en, d'] 51)) w.heap.size 51 #[.int .u64 a.tr, .int .u64 a.id, .int .i64 a.st, .int .i64 a.en, d] := (Blk.new _ _ _).alloc _
  have hB := Blk.new (w.alloc (.cells #[.int .u64 a.tr, .int .u64 a.id, .int .i64 a.st, .int .i64 a.en, d] 51)) 51 #[.int .u64 b.tr, .int .u64 b.id, .int .i64 b.st, .int .i64 b.en, d']
  have hb : Only w ((w.alloc (.cells #[.int .u64 a.tr, .int .u64 a.id, .int .i64 a.st, .int .i64 a.en, d] 51)).alloc (.cells #[.int .u64 b.tr, .int .u64 b.id, .int .i64 b.st, .int .i64 b.en, d'] 51)) := ((Only.refl _).alloc _).alloc _
  revert hA hB hb
  generalize (w.alloc (.cells #[.int .u64 a.tr, .int .u64 a.id, .int .i64 a.st, .int .i64 a.en, d] 51)).alloc (.cells #[.int .u64 b.tr, .int .u64 b.id, .int .i64 b.st, .int .i64 b.en, d'] 51) = w1
  intro hA hB hb
  have a0 := hA.cell 0
  have a1 := hA.cell 1
  have a2 := hA.cell 2
  have b0 := hB.cell 0
  have b1 := hB.cell 1
  have b2 := hB.cell 2
  simp at a0 a1 a2 b0 b1 b2
  refine wp_region_still_tail 15 (by kernel_rfl) (by kernel_rfl) ?_
  simp only [List.take_succ_cons, List.take_zero, List.drop_succ_cons, List.drop_zero]
  still_step
  still_step
  still_step
  still_step
  still_call ((cmp_i64 _ _ _).mono fun _ _ ⟨he, hw⟩ => ⟨he, hw.symm⟩)
  still_step
  still_step
  still_step
  still_step
  still_call ((cmp_u64 _ _ _).mono fun _ _ ⟨he, hw⟩ => ⟨he, hw.symm⟩)
  still_step
  still_step
  still_step
  still_step
  still_call ((cmp_u64 _ _ _).mono fun _ _ ⟨he, hw⟩ => ⟨he, hw.symm⟩)
  refine wpStill_nil ?_
  go_wp2_with fail
  refine (or_list [_, _, _] w1.heap.size _ (show Blk (w1.alloc _).drew _ _ _ from Blk.new w1 _ _) (by simp)).mono ?_
  rintro e w2 ⟨rfl, rfl⟩
  go_wp2_with fail
  go_ret
  exact ⟨by rw [cmpS, orI_list]; rfl, (hb.alloc _).drew⟩

theorem cmpW_or (a b : Sn) : cmpW a b = if orL [cmpI a.tr b.tr, cmpI a.id b.id, cmpI a.st b.st, cmpI a.en b.en] ≠ 0 then orL [cmpI a.tr b.tr, cmpI a.id b.id, cmpI a.st b.st, cmpI a.en b.en] else Lib.compareBytes a.data b.data := by
  simp only [cmpW, cmpL, lexC, orL]
  repeat' split
  all_goals first | omega | rfl | skip

set_option maxHeartbeats 1600000 in
set_option maxRecDepth 100000 in
theorem whole_only (va vb : Value) (a b : Sn) (w : World) (ha : SV w va a) (hb : SV w vb b) :
    Calls Try.prog 54 #[va, vb] w fun e w' => e = .returned (.int .i64 (cmpW a b)) ∧ Only w w' := by
  obtain ⟨ho, d, rfl, hd⟩ := ha
  obtain ⟨ho', d', rfl, hd'⟩ := hb
  have HC := Lib.hid (cmpW_or a b)
  go_enter Try.func54, Try.ntmps54
  go_wp2_with fail
  have hA : Blk ((w.alloc (.cells #[.int .u64 a.tr, .int .u64 a.id, .int .i64 a.st, .int .i64 a.en, d] 51)).alloc (.cells #[.int .u64 b.tr, .int .u64 b.id, .int .i64 b.st, .int .i64 b.en, d'] 51)) w.heap.size 51 #[.int .u64 a.tr, .int .u64 a.id, .int .i64 a.st, .int .i64 a.en, d] := (Blk.new _ _ _).alloc _
  have hB := Blk.new (w.alloc (.cells #[.int .u64 a.tr, .int .u64 a.id, .int .i64 a.st, .int .i64 a.en, d] 51)) 51 #[.int .u64 b.tr, .int .u64 b.id, .int .i64 b.st, .int .i64 b.en, d']
  have hb : Only w ((w.alloc (.cells #[.int .u64 a.tr, .int .u64 a.id, .int .i64 a.st, .int .i64 a.en, d] 51)).alloc (.cells #[.int .u64 b.tr, .int .u64 b.id, .int .i64 b.st, .int .i64 b.en, d'] 51)) := ((Only.refl _).alloc _).alloc _
  revert hA hB hb
  generalize (w.alloc (.cells #[.int .u64 a.tr, .int .u64 a.id, .int .i64 a.st, .int .i64 a.en, d] 51)).alloc (.cells #[.int .u64 b.tr, .int .u64 b.id, .int .i64 b.st, .int .i64 b.en, d'] 51) = w1
  intro hA hB hb
  have a0 := hA.cell 0
  have a1 := hA.cell 1
  have a2 := hA.cell 2
  have a3 := hA.cell 3
  have b0 := hB.cell 0
  have b1 := hB.cell 1
  have b2 := hB.cell 2
  have b3 := hB.cell 3
  simp at a0 a1 a2 a3 b0 b1 b2 b3
  refine wp_region_still_tail 20 (by kernel_rfl) (by kernel_rfl) ?_
  simp only [List.take_succ_cons, List.take_zero, List.drop_succ_cons, List.drop_zero]
  still_step
  still_step
  still_step
  still_step
  still_call ((cmp_u64 _ _ _).mono fun _ _ ⟨he, hw⟩ => ⟨he, hw.symm⟩)
  still_step
  still_step
  still_step
  still_step
  still_call ((cmp_u64 _ _ _).mono fun _ _ ⟨he, hw⟩ => ⟨he, hw.symm⟩)
  still_step
  still_step
  still_step
  still_step
  still_call ((cmp_i64 _ _ _).mono fun _ _ ⟨he, hw⟩ => ⟨he, hw.symm⟩)
  still_step
  still_step
  still_step
  still_step
  still_call ((cmp_i64 _ _ _).mono fun _ _ ⟨he, hw⟩ => ⟨he, hw.symm⟩)
  refine wpStill_nil ?_
  go_wp2_with fail
  refine (or_list [_, _, _, _] w1.heap.size _ (show Blk (w1.alloc _).drew _ _ _ from Blk.new w1 _ _) (by simp)).mono ?_
  rintro e w2 ⟨rfl, hw2⟩
  obtain ⟨hA2, hB2, hb2⟩ : Blk w2 w.heap.size 51 #[.int .u64 a.tr, .int .u64 a.id, .int .i64 a.st, .int .i64 a.en, d] ∧ Blk w2 (w.alloc (.cells #[.int .u64 a.tr, .int .u64 a.id, .int .i64 a.st, .int .i64 a.en, d] 51)).heap.size 51 #[.int .u64 b.tr, .int .u64 b.id, .int .i64 b.st, .int .i64 b.en, d'] ∧ Only w w2 := by
    subst hw2
    exact ⟨hA.alloc _, hB.alloc _, (hb.alloc _).drew⟩
  clear hw2
  generalize orL [cmpI a.tr b.tr, cmpI a.id b.id, cmpI a.st b.st, cmpI a.en b.en] = x at HC ⊢
  have a4 := hA2.cell 4
  have b4 := hB2.cell 4
  simp at a4 b4
  have hda := hd.below hb2.below
  have hdb := hd'.below hb2.below
  clear hA hB hA2 hB2 a0 a1 a2 a3 b0 b1 b2 b3 hd hd' hb
  by_cases hx : x = 0
  · have HX := Lib.hid hx
    subst hx
    go_wp2_with fail
    refine (bcompare_any _ _ _ _ _ hda hdb).mono ?_
    rintro e w3 ⟨rfl, rfl⟩
    go_wp2_with fail
    go_ret
    refine ⟨?_, hb2⟩
    rw [HC.out, if_neg (by simp)]
    rfl
  · have hx' : (x == 0) = false := by simpa using hx
    have HX := Lib.hid hx
    clear hx
    go_wp2_with fail
    go_ret
    refine ⟨?_, hb2⟩
    rw [HC.out, if_pos HX.out]
    rfl

/-- by traces, then in order -/
def cmpT (a b : Sn) : Int := lexC (fun a b => cmpI a.tr b.tr) cmpS a b
theorem three_cmpT : Three cmpT := (three_cmpI.on fun s : Sn => s.tr).lex three_cmpS
theorem cmpT_or (a b : Sn) : cmpT a b = orL [cmpI a.tr b.tr, cmpS a b] := by
  simp only [cmpT, lexC, orL]
  repeat' split
  all_goals omega

theorem isOfOne_any (va vb : Value) (a b : Sn) (w : World) (ha : SV w va a) (hb : SV w vb b) :
    Calls Try.prog 56 #[va, vb] w fun e w' => e = .returned (.bool (keyB a b)) ∧ Only w w' := by
  obtain ⟨ho, d, rfl, hd⟩ := ha
  obtain ⟨ho', d', rfl, hd'⟩ := hb
  by_cases h1 : a.tr = b.tr
  · have e : keyB a b = decide (a.id = b.id) := by simp [keyB, h1]
    rw [e]
    have k1 : (a.tr == b.tr) = true := by simpa using h1
    clear e h1
    go_enter Try.func56, Try.ntmps56
    go_wp2_with fail
    go_ret
    exact ⟨rfl, ((Only.refl _).alloc _).alloc _⟩
  · have e : keyB a b = false := by simp [keyB, h1]
    rw [e]
    have k1 : (a.tr == b.tr) = false := by simpa using h1
    clear e h1
    go_enter Try.func56, Try.ntmps56
    go_wp2_with fail
    go_ret
    exact ⟨rfl, ((Only.refl _).alloc _).alloc _⟩

set_option maxRecDepth 100000 in
set_option maxHeartbeats 800000 in
theorem Less_any (va vb : Value) (a b : Sn) (w : World) (ha : SV w va a) (hb : SV w vb b) :
    Calls Try.prog 63 #[va, vb] w fun e w' => e = .returned (.bool (lessB a b)) ∧ Below w.heap.size w w' := by
  obtain ⟨ho, d, rfl, hd⟩ := ha
  obtain ⟨ho', d', rfl, hd'⟩ := hb
  have hb : Below w.heap.size w ((w.alloc (.cells #[.int .u64 a.tr, .int .u64 a.id, .int .i64 a.st, .int .i64 a.en, d] 51)).alloc (.cells #[.int .u64 b.tr, .int .u64 b.id, .int .i64 b.st, .int .i64 b.en, d'] 51)) := ((Below.refl _ _).alloc (Nat.le_refl _) _).alloc (by simp) _
  have s1 := strOf (show Bs ((w.alloc (.cells #[.int .u64 a.tr, .int .u64 a.id, .int .i64 a.st, .int .i64 a.en, d] 51)).alloc (.cells #[.int .u64 b.tr, .int .u64 b.id, .int .i64 b.st, .int .i64 b.en, d'] 51)) d a.data from (hd.alloc _).alloc _)
  have s2 := strOf (show Bs ((w.alloc (.cells #[.int .u64 a.tr, .int .u64 a.id, .int .i64 a.st, .int .i64 a.en, d] 51)).alloc (.cells #[.int .u64 b.tr, .int .u64 b.id, .int .i64 b.st, .int .i64 b.en, d'] 51)) d' b.data from (hd'.alloc _).alloc _)
  have hq : Op.bytesLess (Bstr a.data).toList (Bstr b.data).toList = decide (Lib.compareBytes a.data b.data < 0) := by rw [Bstr_toList, Bstr_toList, bytesLess_cmp]
  by_cases h1 : a.st = b.st
  · have k1 : (a.st == b.st) = true := by simpa using h1
    by_cases h2 : a.en = b.en
    · have k2 : (a.en == b.en) = true := by simpa using h2
      have e : lessB a b = decide (Lib.compareBytes a.data b.data < 0) := by simp [lessB, h1, h2]
      rw [e, ← hq]
      clear e h1 h2 hq
      go_enter Try.func63, Try.ntmps63
      go_wp2_with fail
      go_ret
      exact ⟨rfl, hb⟩
    · have k2 : (a.en == b.en) = false := by simpa using h2
      have e : lessB a b = decide (a.en < b.en) := by simp [lessB, h1, h2]
      rw [e]
      clear e h1 h2 hq
      go_enter Try.func63, Try.ntmps63
      go_wp2_with fail
      go_ret
      exact ⟨rfl, hb⟩
  · have k1 : (a.st == b.st) = false := by simpa using h1
    have e : lessB a b = decide (a.st < b.st) := by simp [lessB, h1]
    rw [e]
    clear e h1 hq
    go_enter Try.func63, Try.ntmps63
    go_wp2_with fail
    go_ret
    exact ⟨rfl, hb⟩

end Go.Proofs.Ytpanpebllapbcaa
