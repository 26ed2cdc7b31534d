/-
  TWO STORES SIDE BY SIDE: the program's (PS) and the document's (DS), apart from each other, and apart from whatever X speaks of. No condition but what each theorem says.
-/
import Derived.Test.YtihpnkhkbbakbaaStK
import Derived.Test.YtihpnkhkbbakbaaCode
namespace Go.Proofs.Ytihpnkhkbbakbaa
open Go.RowKit
set_option maxRecDepth 100000

theorem Apt.mono {bad bad' : Nat → Prop} {w w' : World} (h : Apt bad w w') (hb : ∀ q, q < w.heap.size → bad q → bad' q) : Apt bad' w w' := ⟨h.os, h.tape, h.output, h.size, fun g hg hn => h.block g hg fun e => hn (hb g hg e)⟩
theorem OwnL.apt {bad : Nat → Prop} {k : Nat} {w w' : World} {base : Nat} {e : TypeId} {v : Value} {xs : List (List Value)} (h : OwnL k w base e v xs) (ha : Apt bad w w') (hb : ∀ q, v.ownBlock = some q → ¬ bad q) : OwnL k w' base e v xs := by
  refine ⟨⟨h.1.1, ?_⟩, h.2⟩
  rcases h.1.2 with h0 | ⟨g, cap, cur, hv, hg, hr, hrest⟩
  · exact .inl h0
  · refine .inr ⟨g, cap, cur, hv, hg, ?_, hrest⟩
    have hlt := (Array.getElem?_eq_some_iff.1 hr).1
    exact (ha.block g hlt (hb g (by rw [hv]; rfl))).trans hr
theorem DS.apt {bad : Nat → Prop} {w w' : World} {base g : Nat} {v : Value} {m : Sm} (h : DS w base g v m) (ha : Apt bad w w') (hg : ¬ bad g) (hb : ∀ q, v.ownBlock = some q → ¬ bad q) : DS w' base g v m :=
  ⟨(ha.block g h.blk.lt hg).trans h.blk, h.row.apt ha hb, h.ne, h.ge⟩

/-- a byte of a slice of the call's own -/
theorem Own.put_ {w : World} {base q n c : Nat} {e : TypeId} {l : List UInt8} (h : Own w base e (.slice (some ⟨q, 0, none⟩) n c) l) (j : Nat) (z : UInt8) :
    Own (w.setCell ⟨q, j, none⟩ (.int .u8 (z.toNat : Int))) base e (.slice (some ⟨q, 0, none⟩) n c) (l.set j z) ∧ w.grownBy (w.setCell ⟨q, j, none⟩ (.int .u8 (z.toNat : Int))) (some q) := by
  obtain ⟨A, c', e', _⟩ := h.form
  injection e' with e1 e2 e3
  subst e2
  have e4 : BV (l.set j z) = (BV l).set j (.int .u8 (z.toNat : Int)) := by simp [BV, List.map_set]
  obtain ⟨h1, h2⟩ := World.ownsRow.stored h j (.int .u8 (z.toNat : Int))
  refine ⟨?_, h2⟩
  unfold Own
  rw [List.length_set, e4]
  exact h1
/-- a byte, one more -/
theorem byte_next (yn : Nat) : ∃ z : UInt8, (z.toNat : Int) = ((yn : Int) + 1) % 256 := ⟨UInt8.ofNat ((yn + 1) % 256), by
  rw [UInt8.toNat_ofNat', Nat.mod_eq_of_lt (by omega)]
  omega⟩
/-- the cell of one byte of it -/
theorem Own.byte {w : World} {base n c : Nat} {e : TypeId} {A : Option Addr} {l : List UInt8} (h : Own w base e (.slice A n c) l) {j : Nat} (hj : j < n) :
    ∃ (q yn : Nat), A = some ⟨q, 0, none⟩ ∧ base ≤ q ∧ yn < 256 ∧ w.cell? ⟨q, j, none⟩ = some (.int .u8 (yn : Int)) ∧ w.frozen? ⟨q, j, none⟩ = false := by
  have h0 := h
  obtain ⟨A', c', e', _⟩ := h.form
  injection e' with e1 e2 e3
  subst e2
  rcases h.2 with ⟨e0, _⟩ | ⟨q, cap, cur, e0, hq, hb, _⟩
  · injection e0 with _ e4
    omega
  · injection e0 with ea
    subst ea
    obtain ⟨y, hy⟩ : ∃ y, l[j]? = some y := ⟨_, List.getElem?_eq_getElem hj⟩
    refine ⟨q, y.toNat, rfl, hq, y.toNat_lt, ?_, by simp [World.frozen?, hb]⟩
    have := h0.rd.cells j (.int .u8 (y.toNat : Int)) (by rw [BV_getElem?, hy]; rfl)
    rw [Addr.add_lit, Nat.zero_add] at this
    exact this

/-- in the world w, a later one than w0: the program's store in block g is m, the document's in block gd is md, and X holds, whatever they do -/
structure W6 (PS : World → (Nat → Prop) → Nat → Sm → Prop) (X : World → Prop) (w0 w : World) (F : Nat → Prop) (g : Nat) (m : Sm) (gd : Nat) (v : Value) (md : Sm) : Prop where
  below : Below w0.heap.size w0 w
  ps : PS w F g m
  ds : DS w w0.heap.size gd v md
  fge : ∀ q, F q → w0.heap.size ≤ q
  fgd : ¬ F gd
  fv : ∀ q, v.ownBlock = some q → ¬ F q
  kx : Keep (fun q => F q ∨ q = gd ∨ v.ownBlock = some q) X w

section
variable {PS : World → (Nat → Prop) → Nat → Sm → Prop} {X X' : World → Prop} {w0 w w' : World} {F F' : Nat → Prop} {g gd : Nat} {m md m2 : Sm} {v v' : Value}
/-- what the program's store does -/
theorem W6.prog (h : W6 PS X w0 w F g m gd v md) (hp : PS w' F' g m2) (ha : Apt F w w') (hn : ∀ q, F' q → F q ∨ w.heap.size ≤ q) : W6 PS X w0 w' F' g m2 gd v md := by
  refine ⟨below_apt h.below ha h.fge h.below.size, hp, h.ds.apt ha h.fgd h.fv, fun q hq => ?_, fun hq => ?_, fun q hq hF => ?_, h.kx.go (ha.mono fun q _ hq => .inl hq) fun q hq => ?_⟩
  · rcases hn q hq with h1 | h1
    · exact h.fge q h1
    · exact Nat.le_trans h.below.size h1
  · rcases hn gd hq with h1 | h1
    · exact h.fgd h1
    · have := h.ds.blk.lt
      omega
  · rcases hn q hF with h1 | h1
    · exact h.fv q hq h1
    · have := h.ds.row.lt q hq
      omega
  · rcases hq with hq | hq
    · rcases hn q hq with h1 | h1
      · exact .inl (.inl h1)
      · exact .inr h1
    · exact .inl (.inr hq)
/-- what the document's store does -/
theorem W6.doc (hK : StoreK PS) (h : W6 PS X w0 w F g m gd v md) (hd : DS w' w0.heap.size gd v' m2) (ha : Apt (fun q => q = gd ∨ v.ownBlock = some q) w w') (hn : ∀ q, v'.ownBlock = some q → v.ownBlock = some q ∨ w.heap.size ≤ q) : W6 PS X w0 w' F g m gd v' m2 := by
  have hge : ∀ q, (q = gd ∨ v.ownBlock = some q) → w0.heap.size ≤ q := fun q hq => by
    rcases hq with rfl | hq
    · exact h.ds.ge
    · exact h.ds.row.ge q hq
  refine ⟨below_apt h.below ha hge h.below.size, hK.keep h.ps (ha.mono fun q _ hq hF => ?_), hd, h.fge, h.fgd, fun q hq hF => ?_, h.kx.go (ha.mono fun q _ hq => .inr hq) fun q hq => ?_⟩
  · rcases hq with rfl | hq
    · exact h.fgd hF
    · exact h.fv q hq hF
  · rcases hn q hq with h1 | h1
    · exact h.fv q h1 hF
    · have := hK.lt h.ps q hF
      omega
  · rcases hq with hq | hq | hq
    · exact .inl (.inl hq)
    · exact .inl (.inr (.inl hq))
    · rcases hn q hq with h1 | h1
      · exact .inl (.inr (.inr h1))
      · exact .inr h1
/-- what the law itself does: new memory, or a block of its own, apart from both -/
theorem W6.own {row : Option Nat} (hK : StoreK PS) (h : W6 PS X w0 w F g m gd v md) (hg : w.grownBy w' row) (hr : ∀ q, row = some q → w0.heap.size ≤ q ∧ ¬ (F q ∨ q = gd ∨ v.ownBlock = some q)) (hX : Keep (fun q => F q ∨ q = gd ∨ v.ownBlock = some q) X' w') : W6 PS X' w0 w' F g m gd v md := by
  have ha : Apt (fun q => row = some q) w w' := Apt.of_grown hg fun q hq => hq
  refine ⟨below_apt h.below ha (fun q hq => (hr q hq).1) h.below.size, hK.keep h.ps (ha.mono fun q _ hq hF => (hr q hq).2 (.inl hF)), h.ds.apt ha (fun hq => (hr _ hq).2 (.inr (.inl rfl))) (fun q hq hq' => (hr _ hq').2 (.inr (.inr hq))), h.fge, h.fgd, h.fv, hX⟩
theorem W6.later (hK : StoreK PS) (h : W6 PS X w0 w F g m gd v md) (hb : Below w.heap.size w w') : W6 PS X w0 w' F g m gd v md :=
  h.own (row := none) hK (grown_of_below hb _) (fun q hq => by cases hq) (h.kx.below hb)
theorem W6.say (h : W6 PS X w0 w F g m gd v md) (hX : Keep (fun q => F q ∨ q = gd ∨ v.ownBlock = some q) X' w) : W6 PS X' w0 w F g m gd v md := ⟨h.below, h.ps, h.ds, h.fge, h.fgd, h.fv, hX⟩
theorem W6.x (h : W6 PS X w0 w F g m gd v md) : X w := h.kx.here
end

/-- what a round of StorePlays holds: the deed's cells in block gx, its bytes, and the copy of them of the law's own -/
def Xd (gx : Nat) (d : De) (dv ov : Value) (base : Nat) (u : World) : Prop :=
  u.cell? ⟨gx, 0, none⟩ = some (.int .i64 d.what) ∧ u.cell? ⟨gx, 1, none⟩ = some (.string (Bstr d.nm)) ∧ u.cell? ⟨gx, 2, none⟩ = some (.int .i64 d.n) ∧ u.cell? ⟨gx, 3, none⟩ = some (.int .u8 d.x) ∧ u.cell? ⟨gx, 4, none⟩ = some dv ∧ Bs u dv d.b ∧ Own u base 5 ov d.b
theorem Xd.keep {gx : Nat} {d : De} {dv ov : Value} {base : Nat} {w : World} {bad : Nat → Prop} (h : Xd gx d dv ov base w) (hgx : gx < w.heap.size) (hbx : ¬ bad gx) (hbd : d.b ≠ [] → ∀ q, dv.ownBlock = some q → ¬ bad q) (hbo : ∀ q, ov.ownBlock = some q → ¬ bad q) : Keep bad (Xd gx d dv ov base) w := fun u ha => by
  obtain ⟨h0, h1, h2, h3, h4, h5, h6⟩ := h
  have hc : ∀ j, u.cell? ⟨gx, j, none⟩ = w.cell? ⟨gx, j, none⟩ := fun j => World.cell?_of_block (ha.block gx hgx hbx)
  exact ⟨(hc 0).trans h0, (hc 1).trans h1, (hc 2).trans h2, (hc 3).trans h3, (hc 4).trans h4, h5.apt ha hbd, h6.apt ha hbo⟩

theorem Own.blk_lt {w : World} {base : Nat} {e : TypeId} {v : Value} {l : List UInt8} (h : Own w base e v l) : ∀ z, v.ownBlock = some z → z < w.heap.size := fun z hz => (World.ownsRow.lt h z hz).2
theorem W6.fin {PS : World → (Nat → Prop) → Nat → Sm → Prop} {w0 w : World} {F : Nat → Prop} {g gx gd base : Nat} {m md : Sm} {v dv ov : Value} {d : De} (h : W6 PS (Xd gx d dv ov base) w0 w F g m gd v md) : W6 PS (fun u => Own u base 5 ov d.b) w0 w F g m gd v md :=
  h.say fun u hu => (h.kx u hu).2.2.2.2.2.2
/-- what is apart stays apart -/
theorem apart_more {F F' : Nat → Prop} {gd B : Nat} {v v' ov : Value} (h : ∀ z, ov.ownBlock = some z → ¬ (F z ∨ z = gd ∨ v.ownBlock = some z)) (hlt : ∀ z, ov.ownBlock = some z → z < B) (hF : ∀ q, F' q → F q ∨ B ≤ q) (hv : ∀ q, v'.ownBlock = some q → v.ownBlock = some q ∨ B ≤ q) :
    ∀ z, ov.ownBlock = some z → ¬ (F' z ∨ z = gd ∨ v'.ownBlock = some z) := fun z hz hb => by
  have h1 := hlt z hz
  rcases hb with hb | hb | hb
  · rcases hF z hb with h2 | h2
    · exact h z hz (.inl h2)
    · omega
  · exact h z hz (.inr (.inl hb))
  · rcases hv z hb with h2 | h2
    · exact h z hz (.inr (.inr h2))
    · omega

/-! ### names rise, whatever is done -/
theorem rise_put {m : Sm} (h : Rise m.l) (n b : List UInt8) : Rise (sPut m n b).1.l := by
  by_cases h1 : callB m = true
  · by_cases h2 : nameB n = true
    · by_cases h3 : restU m n + b.length > m.room
      · rw [sPut_e6 h1 h2 h3]
        exact h
      · obtain ⟨l', e, hr, _⟩ := sPut_ok h1 h2 h3 h
        rw [e]
        exact hr
    · rw [sPut_e1 h1 (by simpa using h2)]
      exact h
  · rw [sPut_e8 (by simpa using h1)]
    exact h
theorem rise_del {m : Sm} (h : Rise m.l) (n : List UInt8) : Rise (sDel m n).1.l := by
  by_cases h1 : callB m = true
  · cases hf : fnd n m.l with
    | none =>
      rw [sDel_no h1 hf]
      exact h
    | some o =>
      obtain ⟨l', e, hr, _⟩ := sDel_ok h1 hf h
      rw [e]
      exact hr
  · rw [sDel_fail (by simpa using h1)]
    exact h
theorem rise_alt {m : Sm} (h : Rise m.l) (n : List UInt8) (at_ : Int) (x : UInt8) : Rise (sAlt m n at_ x).1.l := by
  cases hf : fnd n m.l with
  | none =>
    rw [sAlt_no' (.inl hf)]
    exact h
  | some o =>
    by_cases h0 : x = 0 ∨ at_ < 0
    · rw [sAlt_no' (.inr h0)]
      exact h
    · by_cases h1 : (o.b.length : Int) ≤ at_
      · rw [sAlt_out' hf h1]
        exact h
      · obtain ⟨k, rfl⟩ : ∃ k : Nat, at_ = (k : Int) := ⟨at_.toNat, by omega⟩
        obtain ⟨l', e, hr, _⟩ := sAlt_ok (x := x) hf (fun e => h0 (.inl e)) (List.getElem?_eq_getElem (i := k) (by omega)) h
        rw [e]
        exact hr

/-- names rise, and none is long -/
def Good (l : List Ob) : Prop := Rise l ∧ ∀ o ∈ l, o.nm.length ≤ 32
theorem good_of {l l' : List Ob} {n : List UInt8} (h : Good l) (hr : Rise l') (hn : n.length ≤ 32) (ho : ∀ s, s ≠ n → fnd s l' = fnd s l) : Good l' := ⟨hr, fun o hm => by
  by_cases he : o.nm = n
  · rw [he]; exact hn
  · have h1 := fnd_of_mem hr hm
    rw [ho _ he] at h1
    exact h.2 o (fnd_some_mem h1)⟩
theorem good_put {m : Sm} (h : Good m.l) (n b : List UInt8) : Good (sPut m n b).1.l := by
  by_cases h1 : callB m = true
  · by_cases h2 : nameB n = true
    · by_cases h3 : restU m n + b.length > m.room
      · rw [sPut_e6 h1 h2 h3]
        exact h
      · obtain ⟨l', e, hr, _, _, ho⟩ := sPut_ok h1 h2 h3 h.1
        rw [e]
        refine good_of h hr (n := n) ?_ ho
        simp only [nameB, Bool.and_eq_true, decide_eq_true_eq] at h2
        exact h2.2.2
    · rw [sPut_e1 h1 (by simpa using h2)]
      exact h
  · rw [sPut_e8 (by simpa using h1)]
    exact h
theorem good_del {m : Sm} (h : Good m.l) (n : List UInt8) : Good (sDel m n).1.l := by
  refine ⟨rise_del h.1 n, fun o ho => ?_⟩
  by_cases h1 : callB m = true
  · cases hf : fnd n m.l with
    | none =>
      rw [sDel_no h1 hf] at ho
      exact h.2 o ho
    | some x =>
      obtain ⟨l', e, hr, _, hnn, hoo⟩ := sDel_ok h1 hf h.1
      rw [e] at ho
      have h2 := fnd_of_mem hr ho
      by_cases he : o.nm = n
      · rw [he, hnn] at h2
        cases h2
      · rw [hoo _ he] at h2
        exact h.2 o (fnd_some_mem h2)
  · rw [sDel_fail (by simpa using h1)] at ho
    exact h.2 o ho
theorem good_alt {m : Sm} (h : Good m.l) (n : List UInt8) (at_ : Int) (x : UInt8) : Good (sAlt m n at_ x).1.l := by
  cases hf : fnd n m.l with
  | none =>
    rw [sAlt_no' (.inl hf)]
    exact h
  | some o =>
    by_cases h0 : x = 0 ∨ at_ < 0
    · rw [sAlt_no' (.inr h0)]
      exact h
    · by_cases h1 : (o.b.length : Int) ≤ at_
      · rw [sAlt_out' hf h1]
        exact h
      · obtain ⟨k, rfl⟩ : ∃ k : Nat, at_ = (k : Int) := ⟨at_.toNat, by omega⟩
        obtain ⟨l', e, hr, _, _, hoo⟩ := sAlt_ok (x := x) hf (fun e => h0 (.inl e)) (List.getElem?_eq_getElem (i := k) (by omega)) h.1
        rw [e]
        have h2 := fnd_some_nm hf
        exact good_of h hr (n := n) (by rw [← h2]; exact h.2 o (fnd_some_mem hf)) hoo

/-- an error's number -/
theorem Code_err (c : Int) (w : World) (h : 0 ≤ c ∧ c ≤ 10) : Calls Try.prog 21 #[errV c] w fun e w' => e = .returned (.int .i64 c) ∧ w = w' := by
  by_cases h0 : c = 0
  · subst h0
    rw [errV_zero]
    exact Code_nil w
  · rw [errV_code h0]
    exact Code_any c w (by omega) h.2
theorem sPut_code (m : Sm) (n b : List UInt8) : 0 ≤ (sPut m n b).2 ∧ (sPut m n b).2 ≤ 10 := by
  rcases code_le m n b with h | h | h | h <;> rw [h] <;> omega
theorem sDel_code (m : Sm) (n : List UInt8) : 0 ≤ (sDel m n).2 ∧ (sDel m n).2 ≤ 10 := by
  unfold sDel
  split
  · simp
  · split <;> simp
theorem sList_code (m : Sm) (p : List UInt8) : 0 ≤ (sList m p).2 ∧ (sList m p).2 ≤ 10 := by
  unfold sList
  split <;> simp
theorem sGet_code (m : Sm) (n : List UInt8) : 0 ≤ (sGet m n).2 ∧ (sGet m n).2 ≤ 10 := by
  unfold sGet
  split
  · simp
  · split
    · split <;> simp
    · simp
end Go.Proofs.Ytihpnkhkbbakbaa
