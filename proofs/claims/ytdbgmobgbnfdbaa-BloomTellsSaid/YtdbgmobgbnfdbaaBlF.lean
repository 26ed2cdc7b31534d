/-
  THE PROGRAM's FILTER: CONTRACTS of New, Add, Has. Conditions: what each says.
-/
import Derived.Test.YtdbgmobgbnfdbaaBlE
namespace Go.Proofs.Ytdbgmobgbnfdbaa
open Go.RowKit
set_option maxRecDepth 100000

theorem enters_addSee (args : Array Value) (w : World) : (callFunc 21 args).run Try.prog w = .ok (.enter 21 args) w := rfl
theorem enters_hasSee (args : Array Value) (w : World) : (callFunc 23 args).run Try.prog w = .ok (.enter 23 args) w := rfl

/-- a filter with the first k places of an Id -/
def Bl.upto (b : Bl) (id k : Nat) : Bl := { b with set := b.addK id k }
theorem Bl.upto_place (b : Bl) (id k : Nat) : (b.upto id k).place id k = b.place id k := rfl

/-- while Add goes on: k places are set -/
structure AddI (w : World) (F : Nat → Prop) (g q c n : Nat) (b : Bl) (id k : Nat) (u : World) : Prop where
  pb : PBq u F g q c (b.upto id k)
  box : u.cell? ⟨n, 0, none⟩ = some (.pointer (some ⟨g, 0, none⟩))
  goes : Goes w F u F
  lt : n < u.heap.size
  ne : n ≠ q

set_option maxHeartbeats 800000 in
theorem badd_any {w : World} {F : Nat → Prop} {g : Nat} {b : Bl} (id : Nat) (hp : PBt w F g b) (hid : id < 18446744073709551616) :
    Calls Try.prog 10 #[.pointer (some ⟨g, 0, none⟩), .int .u64 (id : Int)] w fun e w' => e = .returned (.tuple #[]) ∧ ∃ F', PBt w' F' g (b.add id) ∧ Goes w F w' F' := by
  obtain ⟨q, c, h⟩ := hp
  have hql := h.qlt
  have hb1 : Below w.heap.size w (w.alloc (.cells #[.pointer (some ⟨g, 0, none⟩)] 25)) := (Below.refl _ w).alloc (Nat.le_refl _) _
  have hk1 : (w.alloc (.cells #[.pointer (some ⟨g, 0, none⟩)] 25)).cell? ⟨w.heap.size, 0, none⟩ = some (.pointer (some ⟨g, 0, none⟩)) := (Blk.new w 25 #[.pointer (some ⟨g, 0, none⟩)]).cell 0
  have HP := places_any (w := w.alloc (.cells #[.pointer (some ⟨g, 0, none⟩)] 25)) (g := g) h.ok id hid 21 #[.pointer (some ⟨w.heap.size, 0, none⟩)] enters_addSee (AddI w F g q c w.heap.size b id)
    (fun k u hI => ⟨_, hI.pb.blk⟩)
    (fun u hu => ⟨(h.later hb1).later hu, (hu.cell (p := ⟨w.heap.size, 0, none⟩) (by simp)).trans hk1, Goes.of_below (hb1.trans (hu.mono (by simp))), by have := hu.size; simp at this; omega, by omega⟩)
    (fun k u hk hI => (addSee_any hI.pb hI.box (by rw [← Bl.upto_place]; exact hI.pb.ok.place_byte id k) rfl).mono fun e u' ⟨he, h1, h2⟩ => ⟨he, ⟨h1, (World.cell?_of_block (h2.block _ hI.lt (by simpa using hI.ne))).trans hI.box, hI.goes.own h2 ((h.F q).2 (.inr rfl)), Nat.lt_of_lt_of_le hI.lt h2.size, hI.ne⟩⟩)
  have HH := Lib.hid HP
  have hmf : ∀ (fn : Fn) (first cap : Array Value) (w : World), (Instr.makeFunc fn first cap).run Try.prog w = .ok (.func fn first cap) w := fun _ _ _ _ => rfl
  clear HP hb1
  go_enter Try.func10, Try.ntmps10
  go_wp2_with fail
  refine HH.out.mono ?_
  rintro e w1 ⟨rfl, hI⟩
  have HI := Lib.hid hI
  clear hI
  go_wp2_with fail
  refine bodyPost_end (results_none rfl _ _ _) rfl ?_
  exact ⟨rfl, F, ⟨q, c, HI.out.pb⟩, HI.out.goes⟩

/-- while Has goes on: k places are seen -/
structure HasI (w : World) (F : Nat → Prop) (g q c n r : Nat) (b : Bl) (id k : Nat) (u : World) : Prop where
  pb : PBq u F g q c b
  box : u.cell? ⟨n, 0, none⟩ = some (.pointer (some ⟨g, 0, none⟩))
  all : Blk u r 4 #[.bool (b.hasK id k)]
  below : Below w.heap.size w u
  lt : n < u.heap.size
  ne : n ≠ r
  ge : w.heap.size ≤ r

set_option maxHeartbeats 800000 in
theorem bhas_any {w : World} {F : Nat → Prop} {g : Nat} {b : Bl} (id : Nat) (hp : PBt w F g b) (hid : id < 18446744073709551616) :
    Calls Try.prog 12 #[.pointer (some ⟨g, 0, none⟩), .int .u64 (id : Int)] w fun e w' => e = .returned (.bool (b.has id)) ∧ Below w.heap.size w w' := by
  obtain ⟨q, c, h⟩ := hp
  have hql := h.qlt
  have hgl := h.blk.lt
  obtain ⟨w0, hw0⟩ : ∃ w0, w0 = w.alloc (.cells #[.pointer (some ⟨g, 0, none⟩)] 25) := ⟨_, rfl⟩
  have hz0 : w0.heap.size = w.heap.size + 1 := by rw [hw0]; simp
  have hb0 : Below w.heap.size w w0 := hw0 ▸ (Below.refl _ w).alloc (Nat.le_refl _) _
  have hk0 : w0.cell? ⟨w.heap.size, 0, none⟩ = some (.pointer (some ⟨g, 0, none⟩)) := by
    rw [hw0]
    exact (Blk.new w 25 #[.pointer (some ⟨g, 0, none⟩)]).cell 0
  obtain ⟨w1, hw1⟩ : ∃ w1, w1 = w0.alloc (.cells #[.bool true] 4) := ⟨_, rfl⟩
  have hz1 : w1.heap.size = w.heap.size + 2 := by rw [hw1]; simp [hz0]
  have hb01 : Below w0.heap.size w0 w1 := hw1 ▸ (Below.refl _ w0).alloc (Nat.le_refl _) _
  have hb1 : Below w.heap.size w w1 := hb0.trans (hb01.mono hb0.size)
  have ha1 : Blk w1 w0.heap.size 4 #[.bool true] := by
    rw [hw1]
    exact Blk.new w0 4 #[.bool true]
  have hk1 : w1.cell? ⟨w.heap.size, 0, none⟩ = some (.pointer (some ⟨g, 0, none⟩)) := (hb01.cell (p := ⟨w.heap.size, 0, none⟩) (by show w.heap.size < _; omega)).trans hk0
  have HP := places_any (w := w1) (g := g) h.ok id hid 23 #[.pointer (some ⟨w0.heap.size, 0, none⟩), .pointer (some ⟨w.heap.size, 0, none⟩)] enters_hasSee (HasI w F g q c w.heap.size w0.heap.size b id)
    (fun k u hI => ⟨_, hI.pb.blk⟩)
    (fun u hu => ⟨(h.later hb1).later hu, (hu.cell (p := ⟨w.heap.size, 0, none⟩) (by show w.heap.size < _; omega)).trans hk1, ha1.below hu (by omega), hb1.trans (hu.mono (by omega)), by have := hu.size; omega, by omega, by omega⟩)
    (fun k u hk hI => (hasSee_any hI.pb _ hI.all hI.box (h.ok.place_byte id k) rfl).mono fun e u' ⟨he, h1⟩ => by
      have h2 : u.grownBy u' (some w0.heap.size) := h1 ▸ grown_set u _ _ _
      have h3 : Blk u' w0.heap.size 4 #[.bool (b.hasK id k && bitAt b.set (b.place id k))] := by
        rw [h1]
        have := hI.all.set_ 0 (.bool (b.hasK id k && bitAt b.set (b.place id k)))
        simpa using this
      exact ⟨he, ⟨hI.pb.keep (Apt.of_grown h2 fun z hz hF => by
        injection hz with hz
        subst hz
        rcases (h.F _).1 hF with e | e <;> omega), (World.cell?_of_block (h2.block _ hI.lt (by simpa using hI.ne))).trans hI.box, h3, hI.below.grown h2 hI.below.size (by intro k hk; injection hk with hk; have := hI.ge; omega), Nat.lt_of_lt_of_le hI.lt h2.size, hI.ne, hI.ge⟩⟩)
  rw [hw1, hw0] at HP
  have HH := Lib.hid HP
  have hmf : ∀ (fn : Fn) (first cap : Array Value) (w : World), (Instr.makeFunc fn first cap).run Try.prog w = .ok (.func fn first cap) w := fun _ _ _ _ => rfl
  clear HP ha1 hk1 hb01 hb1 hk0 hb0 hz1 hw1 hz0 hw0 hgl hql
  simp at HH
  go_enter Try.func12, Try.ntmps12
  go_wp2_with fail
  refine HH.out.mono ?_
  rintro e w2 ⟨rfl, hI⟩
  have k0 := hI.all.cell 0
  simp at k0
  have HI := Lib.hid hI
  clear hI
  go_wp2_with fail
  go_ret
  exact ⟨rfl, HI.out.below⟩
end Go.Proofs.Ytdbgmobgbnfdbaa
