/-
  CONTRACTS of errors.Is and tankardlaw00.Is, where the error is a Spot of that Code, at that place. Condition: the package variable errors.errorType holds the handle of 'error' (Hd).
-/
import Derived.Test.YtncbbhbeaangjaaDoorErrA
namespace Go.Proofs.YtncbbhbeaangjaaDoor
open Go.RowKit Go.Extern.Stop Go.Stop Go.Extern

theorem cdTypeOf (v : Value) (w : World) : (ReflectliteType.typeOf #[.iface 36 v]).run Tryd.prog w = .ok (.iface 103 (.agg #[.pointer (some ⟨1, 36, none⟩)])) w := by kernel_rfl
theorem cdMethodComparable (h : Value) (w : World) : (Go.method 247 103 (.agg #[h]) "Comparable").run Tryd.prog w = .ok (85, .agg #[h]) w := by kernel_rfl
theorem spMethodUnwrap (h : Value) (w : World) : (Go.method 247 67 h "Unwrap").run Tryd.prog w = .ok (79, h) w := by kernel_rfl
theorem spNoIs (v : Value) (xT : TypeId) (w : World) : (Instr.typeAssert (.iface 67 v) xT 115 true).run Tryd.prog w = .ok (.tuple #[.nilIface, .bool false]) w :=
  run_typeAssert_lacksB Tryd.underlying115 (by kernel_rfl) (by kernel_rfl) v xT w
theorem spUnwraps (v : Value) (xT : TypeId) (w : World) : (Instr.typeAssert (.iface 67 v) xT 110 true).run Tryd.prog w = .ok (.tuple #[.iface 67 v, .bool true]) w :=
  run_typeAssert_hasB Tryd.underlying110 (by kernel_rfl) v xT w
theorem spNeCode (v x : Value) (w : World) : (binOp .eql 33 (.iface 67 v) (.iface 36 x)).run Tryd.prog w = .ok (.bool false) w :=
  run_eql_iface_types _ _ v x Tryd.underlying33 (by decide) w

theorem unwrap_any (g : Nat) (at_ c : Int) (w : World) (h : Blk w g 72 #[.int .i64 at_, .int .i64 c]) :
    Calls Tryd.prog 79 #[.pointer (some ⟨g, 0, none⟩)] w fun e w' => e = .returned (code c) ∧ w = w' := by
  have h1 := h.cell 1
  simp at h1
  go_enter Tryd.func79, Tryd.ntmps79
  go_wp2
  go_ret
  exact ⟨rfl, rfl⟩

set_option maxHeartbeats 4000000 in
set_option maxRecDepth 100000 in
theorem is_hit (g : Nat) (at_ c : Int) (w : World) (h : Blk w g 72 #[.int .i64 at_, .int .i64 c]) :
    Calls Tryd.prog 40 #[.iface 67 (.pointer (some ⟨g, 0, none⟩)), code c] w fun e w' => e = .returned (.bool true) ∧ w = w' := by
  have h55 := @run_callFunc_extern Tryd.prog 55 _ ReflectliteType.typeOf Tryd.func55 (by kernel_rfl) (by kernel_rfl) (by kernel_rfl) (by kernel_rfl)
  have h85 := @run_callFunc_extern Tryd.prog 85 _ (ReflectliteType.method fun t => do Rtype.noPackHeld "Comparable" t; pure (.bool (← typeInfo t).comparable)) Tryd.func85 (by kernel_rfl) (by kernel_rfl) (by kernel_rfl) (by kernel_rfl)
  have hcmp : ∀ w : World, (ReflectliteType.method (fun t => do Rtype.noPackHeld "Comparable" t; (fun a => Value.bool a.comparable) <$> typeInfo t) #[.agg #[.pointer (some ⟨1, 36, none⟩)]]).run Tryd.prog w = .ok (.bool true) w := fun w => by kernel_rfl
  have x1 := cdTypeOf
  have x2 := cdMethodComparable
  have x3 := spMethodUnwrap
  have x4 := spNoIs
  have x5 := spUnwraps
  have x6 := spNeCode
  have x7 := eqCode
  go_enter Tryd.func40, Tryd.ntmps40
  go_wp2
  refine wp_loop_rounds 2 ?_
  rw [rounds_succ]
  go_wp2_with (go_at_call 79; refine (unwrap_any g at_ c _ h).mono ?_; rintro e w' ⟨rfl, rfl⟩)
  rw [rounds_succ]
  go_wp2
  go_ret
  exact ⟨rfl, rfl⟩

theorem spNeSame (a : Addr) (w : World) : (binOp .neq 33 (.iface 67 (.pointer (some a))) (.iface 67 (.pointer (some a)))).run Tryd.prog w = .ok (.bool false) w := by
  obtain ⟨i, hi, hc⟩ : ∃ i, Tryd.prog.info? 67 = some i ∧ i.comparable = true := by
    have h : (Tryd.prog.info? 67).map (·.comparable) = some true := by kernel_rfl
    exact Option.map_eq_some_iff.1 h
  obtain ⟨j, hj, _⟩ : ∃ j, Tryd.prog.info? 72 = some j ∧ j.size = 2 := by
    have h : (Tryd.prog.info? 72).map (·.size) = some 2 := by kernel_rfl
    exact Option.map_eq_some_iff.1 h
  simp only [binOp]
  simp [Op.equal, Op.maxDepth, run_equalIn_iface_ptr_same w 9998 a Tryd.underlying33 Tryd.underlying67 hi hc hj]

/-- the error is a Spot, at that place, with that Code -/
structure Sp (w : World) (v : Value) (at_ c : Int) : Prop where
  is : ∃ g, v = .iface 67 (.pointer (some ⟨g, 0, none⟩)) ∧ Blk w g 72 #[.int .i64 at_, .int .i64 c]
theorem Sp.below {w w' : World} {v : Value} {at_ c : Int} (h : Sp w v at_ c) (hb : Below w.heap.size w w') : Sp w' v at_ c := by
  obtain ⟨g, rfl, hB⟩ := h.is
  exact ⟨g, rfl, hB.below hb hB.lt⟩

set_option maxHeartbeats 4000000 in
set_option maxRecDepth 100000 in
theorem Is_hit (v : Value) (at_ c : Int) (w : World) (hd : Hd w) (h : Sp w v at_ c) :
    Calls Tryd.prog 20 #[v, .int .i64 at_, .int .i64 c] w fun e w' => e = .returned (.bool true) ∧ Below w.heap.size w w' := by
  obtain ⟨g, rfl, hB⟩ := h.is
  have x1 := spNeSame
  go_enter Tryd.func20, Tryd.ntmps20
  go_wp2_with fail
  refine (as_hit ⟨g, 0, none⟩ w.heap.size _ _ (hd.alloc _) (Blk.new _ _ _)).mono ?_
  rintro e w1 ⟨rfl, u, hb, rfl⟩
  have hz := hb.size
  simp at hz
  have hU : Blk u w.heap.size 67 #[.pointer none] := (Blk.new w _ _).below hb (by simp)
  have hU1 : Blk (u.setCell ⟨w.heap.size, 0, none⟩ (.pointer (some ⟨g, 0, none⟩))) w.heap.size 67 #[.pointer (some ⟨g, 0, none⟩)] := hU.set_ 0 _
  have hB1 : Blk (u.setCell ⟨w.heap.size, 0, none⟩ (.pointer (some ⟨g, 0, none⟩))) g 72 #[.int .i64 at_, .int .i64 c] :=
    (((hB.alloc _).below hb (by have := hB.lt; simp; omega))).far (by have := hB.lt; simp; omega) _
  have hbw : Below w.heap.size w (u.setCell ⟨w.heap.size, 0, none⟩ (.pointer (some ⟨g, 0, none⟩))) := (((Below.refl _ w).alloc (Nat.le_refl _) _).trans (hb.mono (by simp))).setCell (by simp) _
  have HBW := Lib.hid hbw
  clear hU hb hbw hB
  revert hU1 hB1 HBW
  generalize u.setCell ⟨w.heap.size, 0, none⟩ (.pointer (some ⟨g, 0, none⟩)) = w1
  intro hU1 hB1 HBW
  have c0 := hU1.cell 0
  have c1 := hB1.cell 0
  have c2 := hB1.cell 1
  simp at c0 c1 c2
  go_wp2_with (go_at_call 40; refine (is_hit g at_ c _ hB1).mono ?_; rintro e w' ⟨rfl, rfl⟩)
  go_ret
  exact ⟨rfl, HBW.out⟩

end Go.Proofs.YtncbbhbeaangjaaDoor
