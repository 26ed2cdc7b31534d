/-
  tankardlaw01.WordReads returns true for every input, and each argument reads afterwards as it read before. No condition.
-/
import Derived.Test.YtkffefbljmkdjaaLawReads
import Derived.Test.YtkffefbljmkdjaaRow
namespace Go.Proofs.Ytkffefbljmkdjaa
open Go.ChangeShapes Go.WideShapes Go.ChangeAt Go.RowKit

theorem reads_any (l : List UInt8) (b : Value) (A : Option Addr) (n c : Nat) (w : World) (hb : Bs w b l) (ha : AsksAt w A n) (hl : l.length ≤ 9223372036854775807) (hn : n ≤ 9223372036854775807) :
    Calls Try.prog 4 #[b, .slice A n c] w fun e w' => e = .returned (.bool true) ∧ Below w.heap.size w w' := by
  by_cases h : 3000 < l.length ∨ 100 < n
  · exact reads_long l b A n c w hb hl hn h
  · exact reads_main l b A n c w hb ha (by omega) (by omega)

set_option maxRecDepth 100000 in
theorem wordReads_lifted (os : Os) (started : os.Started) (H : Type) (enc : TypeId × Value → H) :
    ReturnsInHanded {} Try.checked os 4 .any (Rows.wordReadsSpec.pre6 enc Try.prog Try.f4 Rows.wordReadsRow.domain false) (Rows.wordReadsSpec.post enc Try.prog Try.f4 false true false false) := by
  refine returnsInHanded_of_change (C := Try.checked) ownK started (by kernel_rfl) Try.func4
    (ChangeSpec.witness6 (enc := enc) (C := Try.checked) false ⟨#[], #[.slice none 0 0, .slice none 0 0], []⟩ 8 (by kernel_rfl) (by kernel_rfl) (by kernel_rfl) (by kernel_rfl)) ?_
  intro W base args ds gs before hval0 hW _ _
  have hval : ∀ (j : Nat) t v, Try.f4.params[j]? = some t → args[j]? = some v → Value.okWide Try.prog W .any base t v := hval0
  have hW' := hW
  obtain ⟨p, q, hA0, hV, rfl, hfz, hnd⟩ := hW
  have hA : DataW.TrodAll enc Try.prog W 0 (fun _ => true) true Try.f4.params.toList args.toList ds p := hA0
  rw [Try.params4] at hA hval
  obtain ⟨v0, v1, d0, d1, p0, p1, rfl, rfl, rfl, h0, h1⟩ := trodAll_two hA
  obtain ⟨rfl, rfl⟩ := trodVars_none hV
  obtain ⟨l, hl, hlm⟩ := bs_of_trod byteT cellsB (hval 0 _ v0 rfl rfl) h0
  obtain ⟨A, n, c, rfl, hnc, hcm, hf⟩ := open_fields Try.underlying36 Try.underlying43 (by kernel_rfl) (by kernel_rfl) (by decide) (hval 1 _ v1 rfl rfl) h1
  have ha : AsksAt W A n := fun i hi => by
    obtain ⟨g, o, hA, hj⟩ := hf i hi
    obtain ⟨u0, n0, y0, c0, t0⟩ := hj 0 _ rfl
    obtain ⟨u1, n1, y1, c1, t1⟩ := hj 1 _ rfl
    obtain ⟨u2, n2, y2, c2, t2⟩ := hj 2 _ rfl
    obtain ⟨b, e0, _⟩ := DataW.trod_bool Try.underlying4 t0
    obtain ⟨k, e1, _⟩ := DataW.trod_int Try.underlying3 t1
    obtain ⟨m, e2, _⟩ := DataW.trod_int Try.underlying3 t2
    simp only [List.cons.injEq, and_true] at e0 e1 e2
    subst e0
    subst e1
    subst e2
    exact ⟨g, o, b, k, m, hA, c0, c1, c2⟩
  refine (reads_any l v0 A n c W hl ha hlm (by omega)).mono fun e W' ⟨he, hb⟩ => ?_
  subst he
  exact ⟨_, rfl, law_post (P := Try.prog) (f := Try.f4) (s := Rows.wordReadsSpec) Try.underlying4 (by kernel_rfl) laidO (by decide +kernel) rfl hW' rfl rfl rfl hb⟩

theorem wordReads_holds : Rows.WordReadsSaid :=
  OpenClaim.holds_of_wide 4 Try.f4 rfl rfl rfl rfl rfl rfl rfl ⟨rfl, rfl, rfl, rfl, rfl⟩ rfl rfl rfl rfl rfl (by kernel_rfl) Try.func4 (by kernel_rfl)
    (of_decide_eq_true (by kernel_rfl)) (by unfold Func.isWrapper; first | (rw [if_pos (by decide +kernel)]; kernel_rfl) | (rw [if_neg (by decide +kernel)]; exact ⟨rfl, rfl⟩))
    (fun os started H enc _ => wordReads_lifted os started H enc)

end Go.Proofs.Ytkffefbljmkdjaa
