/-
  THE DOCUMENT's FILTER: CONTRACTS of Add, Has. Conditions: what each says.
-/
import Derived.Test.YtdbgmobgbnfdbaaBlK
namespace Go.Proofs.Ytdbgmobgbnfdbaa
open Go.RowKit
set_option maxRecDepth 100000

theorem bit_more {b : Bl} (hok : b.Ok) (id k z : Nat) : bitAt (b.addK id (k + 1)) z = if z = id % b.sh * b.bits + b.spot id k then true else bitAt (b.addK id k) z := by
  rw [Bl.addK, bitAt_setBit _ _ _ (by rw [Bl.addK_length]; exact hok.place_byte id k)]
  rw [show id % b.sh * b.bits + b.spot id k = b.place id k from rfl]
  by_cases h : z = b.place id k
  · rw [if_pos h, decide_eq_true h, Bool.true_or]
  · rw [if_neg h, decide_eq_false h, Bool.false_or]

set_option maxHeartbeats 1600000 in
theorem DAdd_any {w : World} {F : Nat → Prop} {g : Nat} {b : Bl} (id : Nat) (hd : DB w F g b) (hid : id < 18446744073709551616) :
    Calls Try.prog 11 #[.pointer (some ⟨g, 0, none⟩), .int .u64 (id : Int)] w fun e w' => e = .returned (.tuple #[]) ∧ ∃ F', DB w' F' g (b.add id) ∧ Goes w F w' F' := by
  obtain ⟨hok, r, c, q, h, hF⟩ := hd
  have hP := Places_any hok h id hid
  have hql := fun i hi => (h.bits i hi).lt
  have hs1 := hok.s1
  have hb2 := hok.b2
  have hs2 := hok.s2
  have hh2 := hok.h2
  obtain ⟨x, hx⟩ : ∃ x, id % b.sh = x := ⟨_, rfl⟩
  have hxl : x < b.sh := hx ▸ Nat.mod_lt _ (by omega)
  have HM0 := Lib.hid (fun k z => bit_more hok id k z)
  rw [hx] at hP HM0
  have H := Lib.hid h
  have HF := Lib.hid hF
  have HQL := Lib.hid hql
  have HOk := Lib.hid hok
  clear h hF hql hok hx
  go_enter Try.func11, Try.ntmps11
  go_wp2_with fail
  refine hP.mono ?_
  rintro e w1 ⟨v, rfl, ho1, hb1⟩
  obtain ⟨A, cv, rfl, hc1, hc2⟩ := ho1.lv.form
  rw [spotsC_length] at ho1 hc1 ⊢
  have HI : Hid (DBq w1 g r c q b.sh b.bits b.hs (bitAt (b.addK id 0)) ∧ OwnL 1 w1 w.heap.size 3 (.slice A b.hs cv) (spotsC b id b.hs) ∧ Goes w F w1 F) := Lib.hid ⟨H.out.below hb1, ho1, Goes.of_below hb1⟩
  clear hP ho1 hb1
  go_wp2_with fail
  go_loopg [6] b.hs (fun gk iv wr => ∃ k : Nat, k + gk = b.hs ∧ iv = .int .i64 (k : Int) ∧ Hid (DBq wr g r c q b.sh b.bits b.hs (bitAt (b.addK id k)) ∧ OwnL 1 wr w.heap.size 3 (.slice A b.hs cv) (spotsC b id b.hs) ∧ Goes w F wr F))
  case atStart => exact ⟨0, by omega, rfl, HI⟩
  case round =>
    obtain ⟨k, hk, rfl, HM⟩ := hrel
    by_cases hlt : k < b.hs
    · obtain ⟨gk1, hgk1⟩ : ∃ x, gk = x + 1 := ⟨gk - 1, by omega⟩
      obtain ⟨s, hs⟩ : ∃ s, b.spot id k = s := ⟨_, rfl⟩
      have hsl : s < b.bits := hs ▸ HOk.out.spot_lt id k
      obtain ⟨gv, ov, rfl, hgv, hcv⟩ := HM.out.2.1.lv.cells (by omega) (i := k) (x := [.int .i64 (s : Int)]) (by rw [spotsC, List.getElem?_map, List.getElem?_range hlt, ← hs]; rfl)
      have hcv0 := hcv 0 _ rfl
      simp only [Nat.mul_one, Nat.add_zero] at hcv0
      obtain ⟨hbit, hfz⟩ := (HM.out.1.bits x hxl).cell hsl
      have hput := HM.out.1.put_ hxl hsl true (bitAt (b.addK id (k + 1))) (fun z _ => by rw [HM0.out, hs])
      have HPut := Lib.hid hput
      have hgq : w.heap.size ≤ gv := HM.out.2.1.ge gv rfl
      have hqx := HQL.out x hxl
      have hS : Hid (∀ u, Apt (fun z => z = q x) wr u → u.cell? ⟨g, 2, none⟩ = some (.slice (some ⟨r, 0, none⟩) b.sh c) ∧ u.cell? ⟨r, x, none⟩ = some (.slice (some ⟨q x, 0, none⟩) b.bits b.bits) ∧ u.cell? ⟨gv, ov + k, none⟩ = some (.int .i64 (s : Int))) := Lib.hid fun u hu => by
        have hd := HM.out.1
        have k2 := hd.blk.cell 2
        simp at k2
        exact ⟨(World.cell?_of_block (hu.block g hd.blk.lt fun e => hd.qg x hxl e.symm)).trans k2, (World.cell?_of_block (hu.block r (hd.row.lt r rfl) fun e => hd.qr x hxl e.symm)).trans (hd.rowc hxl), (World.cell?_of_block (hu.block gv hgv fun e => by omega)).trans hcv0⟩
      clear hcv hcv0 hput hs
      go_wp2_with fail
      refine wp_region_mix [(0, false), (1, false), (2, false), (3, false), (4, false), (5, false), (6, false), (7, false), (8, false), (9, false), (10, false), (11, false), (12, true)] (fun u => Apt (fun z => z = q x) wr u) (by kernel_rfl) (by kernel_rfl) (by decide +kernel) rfl (Apt.of_below (Below.refl _ _).drew) ?_
      repeat
        (refine mix_read (o := ⟨_, _, _, _, _, _⟩) (v := ?_) rfl (by rfl) (fun w' hU => ?_) ?_
         rotate_left
         have hU' := hS.out _ hU
         obtain ⟨hU1, hU2, hU3⟩ := hU'
         go_simp
         with_reducible rfl
         try simp only [Act.put, List.setIfInBounds_toArray, List.set_cons_zero, List.set_cons_succ])
      refine mix_step (o := ⟨_, _, _, _, _, _⟩) rfl (fun K hK => ?_)
      go_simp
      refine hK.out _ _ ((Apt.of_grown HPut.out.2 fun z hz => by injection hz with hz; exact hz.symm).trans (Apt.of_below (Below.refl _ _).drew)) ?_
      clear hK K
      refine mix_done ?_
      have HN : Hid (DBq (wr.setCell ⟨q x, s, none⟩ (.bool true)).drew g r c q b.sh b.bits b.hs (bitAt (b.addK id (k + 1))) ∧ OwnL 1 (wr.setCell ⟨q x, s, none⟩ (.bool true)).drew w.heap.size 3 (.slice (some ⟨gv, ov, none⟩) b.hs cv) (spotsC b id b.hs) ∧ Goes w F (wr.setCell ⟨q x, s, none⟩ (.bool true)).drew F) :=
        Lib.hid ⟨HPut.out.1.below (Below.refl _ _).drew, (HM.out.2.1.kept HPut.out.2 (.inr fun e => by
          have e' : gv = q x := by simpa [Value.ownBlock] using e
          omega)).below (Below.refl _ _).drew, (HM.out.2.2.own HPut.out.2 ((HF.out _).2 (.inr (.inr ⟨x, hxl, rfl⟩)))).later (Below.refl _ _).drew⟩
      generalize (wr.setCell ⟨q x, s, none⟩ (.bool true)).drew = w3 at *
      clear hbit hfz HPut hS hgv hgq hqx
      go_wp2_with fail
      go_roundg gk1
      case measure => omega
      case rel => exact ⟨k + 1, by omega, by go_num, HN⟩
    · have hkn : k = b.hs := by omega
      subst hkn
      clear hlt
      go_wp2_with fail
      refine bodyPost_end (results_none rfl _ _ _) rfl ?_
      exact ⟨rfl, F, ⟨HOk.out.add id, r, c, q, HM.out.1, HF.out⟩, HM.out.2.2⟩

set_option maxHeartbeats 1600000 in
theorem DHas_any {w : World} {F : Nat → Prop} {g : Nat} {b : Bl} (id : Nat) (hd : DB w F g b) (hid : id < 18446744073709551616) :
    Calls Try.prog 13 #[.pointer (some ⟨g, 0, none⟩), .int .u64 (id : Int)] w fun e w' => e = .returned (.bool (b.has id)) ∧ Below w.heap.size w w' := by
  obtain ⟨hok, r, c, q, h, _⟩ := hd
  have hP := Places_any hok h id hid
  have hs1 := hok.s1
  have hb2 := hok.b2
  have hs2 := hok.s2
  have hh2 := hok.h2
  obtain ⟨x, hx⟩ : ∃ x, id % b.sh = x := ⟨_, rfl⟩
  have hxl : x < b.sh := hx ▸ Nat.mod_lt _ (by omega)
  have HPl : Hid (∀ k, b.place id k = x * b.bits + b.spot id k) := Lib.hid fun k => by rw [Bl.place, hx]
  rw [hx] at hP
  have H := Lib.hid h
  have HOk := Lib.hid hok
  clear h hok hx
  go_enter Try.func13, Try.ntmps13
  go_wp2_with fail
  refine hP.mono ?_
  rintro e w1 ⟨v, rfl, ho1, hb1⟩
  obtain ⟨A, cv, rfl, hc1, hc2⟩ := ho1.lv.form
  rw [spotsC_length] at ho1 hc1 ⊢
  have HI : Hid (OwnL 1 w1 w.heap.size 3 (.slice A b.hs cv) (spotsC b id b.hs) ∧ Below w.heap.size w w1) := Lib.hid ⟨ho1, hb1⟩
  clear hP ho1 hb1
  go_wp2_with fail
  go_loopg [7] b.hs (fun gk iv wr => ∃ k : Nat, k + gk = b.hs ∧ iv = .int .i64 (k : Int) ∧ Hid (OwnL 1 wr w.heap.size 3 (.slice A b.hs cv) (spotsC b id b.hs) ∧ Below w.heap.size w wr ∧ b.hasK id k = true))
  case atStart => exact ⟨0, by omega, rfl, Lib.hid ⟨HI.out.1, HI.out.2, rfl⟩⟩
  case round =>
    obtain ⟨k, hk, rfl, HM⟩ := hrel
    by_cases hlt : k < b.hs
    · obtain ⟨gk1, hgk1⟩ : ∃ x, gk = x + 1 := ⟨gk - 1, by omega⟩
      obtain ⟨s, hs⟩ : ∃ s, b.spot id k = s := ⟨_, rfl⟩
      have hsl : s < b.bits := hs ▸ HOk.out.spot_lt id k
      obtain ⟨gv, ov, rfl, hgv, hcv⟩ := HM.out.1.lv.cells (by omega) (i := k) (x := [.int .i64 (s : Int)]) (by rw [spotsC, List.getElem?_map, List.getElem?_range hlt, ← hs]; rfl)
      have hcv0 := hcv 0 _ rfl
      simp only [Nat.mul_one, Nat.add_zero] at hcv0
      have hd := H.out.below HM.out.2.1
      have k2 := hd.blk.cell 2
      simp at k2
      have krow := hd.rowc hxl
      obtain ⟨hbit, _⟩ := (hd.bits x hxl).cell hsl
      have HE : Hid (b.hasK id (k + 1) = bitAt b.set (x * b.bits + s)) := Lib.hid (by rw [Bl.hasK, HM.out.2.2, HPl.out, hs, Bool.true_and])
      cases hb : bitAt b.set (x * b.bits + s) with
      | false =>
        have HF : Hid (b.has id = false) := Lib.hid (by
          rw [← Bool.not_eq_true]
          intro e
          have := (Bl.hasK_iff _ _ _).1 e k hlt
          rw [HPl.out, hs, hb] at this
          cases this)
        rw [hb] at hbit
        clear hcv hs hd hb
        go_wp2_with fail
        go_quiet (fail)
        go_wp2_with fail
        go_ret
        exact ⟨ret_bool HF.out.symm, below_drewN HM.out.2.1 _⟩
      | true =>
        rw [hb] at hbit HE
        clear hcv hs hd hb
        go_wp2_with fail
        go_quiet (fail)
        have hb7 := below_drewN (Below.refl wr.heap.size wr) nq
        generalize wr.drewN nq = w3 at *
        have HN : Hid (OwnL 1 w3 w.heap.size 3 (.slice (some ⟨gv, ov, none⟩) b.hs cv) (spotsC b id b.hs) ∧ Below w.heap.size w w3 ∧ b.hasK id (k + 1) = true) := Lib.hid ⟨HM.out.1.below hb7, HM.out.2.1.trans (hb7.mono HM.out.2.1.size), HE.out⟩
        clear hb7 k2 krow hbit hcv0 hgv
        go_wp2_with fail
        go_roundg gk1
        case measure => omega
        case rel => exact ⟨k + 1, by omega, by go_num, HN⟩
    · have hkn : k = b.hs := by omega
      subst hkn
      clear hlt
      go_wp2_with fail
      go_ret
      exact ⟨ret_bool HM.out.2.2.symm, HM.out.2.1⟩
end Go.Proofs.Ytdbgmobgbnfdbaa
