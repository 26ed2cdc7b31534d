/-
  CONTRACTS of the document's Meta, Page, All (of a block in a store), where the block isn't there, and where all of it is. Conditions: what each says.
  BlockLast, walked: what is got of a block, whatever call of its Write fails. Conditions: what each says; of the library's tables: Ld.
-/
import Derived.Test.YtfaefacefdkjdaaGreatDoorBkL
import Derived.Test.YtfaefacefdkjdaaGreatDoorPgG
namespace Go.Proofs.YtfaefacefdkjdaaGreatDoor
open Go.RowKit
set_option maxRecDepth 100000

section
variable {α : Type} {k : Nat} {w : World} {base : Nat} {e : TypeId} {bad : Nat → Prop} {E : World → α → List Value → Prop} {v : Value} {l : List α}
theorem wpList_append_Ks {P : Program} {t : TypeId} {bytes : Nat} (HT : ElemT P t e k bytes) {ops : Array Oper} {rest : List Oper} {o : Oper} {a : Act} {Q : Exit → Act → World → Prop} (hgd : o.guard = none) (sx x : Operand)
    (ho : o.op = .call { callee := .builtin .append, args := #[sx, x], argTypes := #[t, t] })
    (hs : a.eval sx = v) (h : OwnK k w base e bad E v l) {bs : List α} {ys : List (List Value)} {V : Value} (hx : a.eval x = V) (hV : Lv k w V ys) (hy : Two (fun b y => Keep (fun q => bad q ∨ v.ownBlock = some q) (fun u => E u b y) w) bs ys)
    (h1 : ∀ y ∈ ys, ∀ u ∈ y, u.oneCell' = true) (hl : l.length + bs.length ≤ 1000000000) (hbytes : bytes ≤ 100) (hbase : base ≤ w.heap.size)
    (hK : ∀ v' w', OwnK k w' base e bad E v' (l ++ bs) → w.grownBy w' v.ownBlock → (v'.ownBlock = v.ownBlock ∨ v'.ownBlock = some w.heap.size) → wpList P ops Q rest (a.put o.dst v') w') : wpList P ops Q (o :: rest) a w := by
  refine wpList_plain hgd fun K hK' => ?_
  obtain ⟨v', w', hrun, h2, h3, h4⟩ := run_append_Ks HT o.type h hV hy h1 hl hbytes hbase
  unfold Oper.wp execOp
  simp only [ho, resolve, invoke, builtin, Sem.run_bind, Sem.run_pure, Result.andThen_ok, List.map_toArray, List.map_cons, List.map_nil, hs, hx, hrun]
  exact hK' _ _ (hK v' w' h2 h3 h4)
end

structure HasBk (m : Sm) (id : Nat) (M : Me) (ps : List (List Tn)) : Prop where
  me : ∃ o, fnd (nmOf id [109] 0) m.l = some o ∧ o.b = sealedOf (meRaw M)
  mb : meB M = true
  mo : M.ok
  mi : M.id = (id : Int)
  mp : M.pg = (ps.length : Nat)
  mt : M.tr = (ps.flatten.length : Nat)
  is : IsT ps.flatten
  pages : ∀ (i : Nat) (p : List Tn), ps[i]? = some p → ∃ o, fnd (nmOf id [112] (i : Int)) m.l = some o ∧ o.b = pgOf p ∧ ValP p ∧ (pgOf p).length ≤ 1048576
  few : ps.length ≤ 200
  many : ps.flatten.length ≤ 1000000
theorem take_flat {α : Type} {ps : List (List α)} {k : Nat} {p : List α} (h : ps[k]? = some p) : (ps.take (k + 1)).flatten = (ps.take k).flatten ++ p := by
  rw [List.take_add_one, h]
  simp
end Go.Proofs.YtfaefacefdkjdaaGreatDoor

namespace Go.Proofs.YtfaefacefdkjdaaGreatDoor
open Go.RowKit
set_option maxRecDepth 100000

theorem used_mem {l : List Ob} {o : Ob} (h : o ∈ l) : o.b.length ≤ usedL l := by
  obtain ⟨i, hi⟩ := List.getElem?_of_mem h
  have h1 := usedL_split l i
  have hil := (List.getElem?_eq_some_iff.1 hi).1
  have hd : l.drop i = o :: l.drop (i + 1) := by rw [List.drop_eq_getElem_cons hil, (List.getElem?_eq_some_iff.1 hi).2]
  rw [hd, usedL_cons] at h1
  omega
theorem fnd_used {n : List UInt8} {l : List Ob} {o : Ob} (h : fnd n l = some o) : o.b.length ≤ usedL l := by
  obtain ⟨i, _, hi⟩ := fnd_at h
  exact used_mem (List.mem_of_getElem? hi)
theorem ids_of {w : World} {v : Value} {l : List Tn} (h : Ts w v l) : ∀ t ∈ l, (0 ≤ t.id ∧ t.id ≤ 18446744073709551615) ∧ ∀ s ∈ t.sp, s.ok := fun t ht => by
  obtain ⟨xs, _, h4⟩ := h
  obtain ⟨i, hi⟩ := List.mem_iff_getElem?.1 ht
  obtain ⟨x, _, hid, d, _, hd⟩ := h4.right hi
  refine ⟨hid, fun s hs => ?_⟩
  obtain ⟨k, hk⟩ := List.mem_iff_getElem?.1 hs
  exact hd.ok hk
theorem pages_valP {l : List Tn} (h : IsT l) (s : Sz) (hok : ∀ t ∈ l, (0 ≤ t.id ∧ t.id ≤ 18446744073709551615) ∧ ∀ s ∈ t.sp, s.ok) : ∀ p ∈ pagesOf l s, ValP p := fun p hp => by
  obtain ⟨h1, h2⟩ := pgB_iff.1 (pages_pgB h s p hp)
  have hm : ∀ t ∈ p, t ∈ l := fun t ht => by
    rw [← pages_flat l s]
    exact List.mem_flatten.2 ⟨p, hp, ht⟩
  exact ⟨h2, h1, fun t ht => (hok t (hm t ht)).1, fun t ht => (hok t (hm t ht)).2⟩
theorem wrA_ok {m : Sm} {id : Nat} {lv : Int} {l : List Tn} {s : Sz} (h : (wrA m id lv l s).2 = 0) : BkOk id lv l s ∧ wrA m id lv l s = wrL m (bkObs id lv l s) := by
  by_cases hk : BkOk id lv l s
  · obtain ⟨h1, _, h3⟩ := bk_ok hk
    exact ⟨hk, by rw [wrA, if_pos h3, h1]⟩
  · obtain ⟨_, _, h3⟩ := bk_no hk
    rw [wrA, if_neg (by rw [h3]; omega), h3] at h
    simp at h
theorem last_has {m : Sm} {id N : Nat} {l : List Tn} {s : Sz} (hF : (wrA m id 0 l s).1.fine N) (hid : id < 18446744073709551616) (hl : l.length ≤ 200) (hok : ∀ t ∈ l, (0 ≤ t.id ∧ t.id ≤ 18446744073709551615) ∧ ∀ s ∈ t.sp, s.ok) (hz : (wrA m id 0 l s).2 = 0) : HasBk (wrA m id 0 l s).1 id (bkMe id 0 l s) (pagesOf l s) := by
  obtain ⟨hk, he⟩ := wrA_ok hz
  have hp : (pagesOf l s).length ≤ 200 := Nat.le_trans (pages_len l s) hl
  have hfu := hF.used
  rw [he] at hz hfu ⊢
  have hall := wrL_all (bkObs id 0 l s) m (bkObs_names hp) hz
  obtain ⟨hmb, hmo⟩ := bkMe_ok hk hid hp (by omega)
  refine ⟨?_, hmb, hmo, rfl, rfl, by rw [pages_flat]; rfl, by rw [pages_flat]; exact hk.is, fun i p hi => ?_, hp, by rw [pages_flat]; omega⟩
  · exact hall (bkMeOb id 0 l s) (by rw [bkObs_fore]; exact List.mem_append_right _ (List.mem_singleton_self _))
  · obtain ⟨o, h1, h2⟩ := hall (obPg id p i) (by rw [bkObs]; exact List.mem_append_left _ (obPages_at hi))
    refine ⟨o, h1, h2, pages_valP hk.is s hok p (List.mem_of_getElem? hi), ?_⟩
    have h3 := fnd_used h1
    rw [h2] at h3
    exact Nat.le_trans h3 hfu
theorem HasBk.same {m m' : Sm} {id : Nat} {M : Me} {ps : List (List Tn)} (h : HasBk m id M ps) (e : m'.l = m.l) : HasBk m' id M ps :=
  ⟨by rw [e]; exact h.me, h.mb, h.mo, h.mi, h.mp, h.mt, h.is, by rw [e]; exact h.pages, h.few, h.many⟩
def nB : World → (Nat → Prop) → Prop := fun _ G => ∀ q, ¬ G q
theorem nB_thing : Thing nB := ⟨fun h _ => h, fun h q hq => (h q hq).elim⟩

end Go.Proofs.YtfaefacefdkjdaaGreatDoor
