/-
  A MAP FROM PLACES TO NUMBERS (layer 19), as what it holds at each place: looked up, and counted up. Conditions: what each says.
-/
import Derived.Test.YtohcbgchloncmaaPlE
import Derived.Maps.OwnSet
import Derived.Maps.OwnOps
import Derived.DeepKeys4
import Derived.WideKeyEntry
namespace Go.Proofs.Ytohcbgchloncmaa
open Go.RowKit Go.Maps
set_option maxRecDepth 100000

abbrev In64 (n : Int) : Prop := -9223372036854775808 ≤ n ∧ n ≤ 9223372036854775807

theorem wf_in64 {n : Int} (h : In64 n) : (Lit.int .i64 n).wf = true := by
  have := h.1
  have := h.2
  simp [Lit.wf, IntKind.min, IntKind.max, IntKind.signed, IntKind.bits]
  omega

/-- what a place reads as, as a key -/
def kL (a c : Int) : Lit := .string (keyBytes [.int .i64 a, .int .i64 c])

theorem widePl : (match Try.prog.underlying 37 with | some (.array _ _) | some (.struct _) => true | _ => false) = true := by kernel_rfl

theorem rowPl : (37 : TypeId) < Try.prog.types.size := of_decide_eq_true (by kernel_rfl)

theorem lawPl : WideMaps.KeyLaw Try.prog 37 := deep_law_laid laidO (m := 2) (by omega) rowPl (by kernel_rfl) widePl

theorem lawPlK : Keyed Try.prog 37 := Keyed.of_law lawPl

theorem zeroN (w : World) : (zeroValue 3).run Try.prog w = .ok (.int .i64 0) w := by kernel_rfl

theorem keyTypePl : Try.prog.keyType 37 = true := by kernel_rfl

theorem cellsPl : Try.prog.cellsOf 37 = 2 := by kernel_rfl

theorem cellsIntP : Try.prog.cellsOf 3 = 1 := by kernel_rfl

theorem cellsI64P : Try.prog.cellsOf 2 = 1 := by kernel_rfl

theorem keyOf_pl {a c : Int} (ha : In64 a) (hc : In64 c) : keyOf Try.prog 37 (plV a c) = some (kL a c) := by
  have wa := wf_in64 ha
  have wc := wf_in64 hc
  obtain ⟨m, hm⟩ : ∃ m, Try.prog.types.size = m + 1 := ⟨Try.prog.types.size - 1, (Nat.sub_add_cancel (Nat.lt_of_le_of_lt (Nat.zero_le _) rowPl)).symm⟩
  unfold keyOf
  simp only [Try.underlying37]
  rw [if_pos (by simp [keyTypePl, Value.formed, Try.underlying37, cellsPl]), hm]
  unfold Program.keyLits
  simp only [Try.underlying37, Value.cells]
  rw [if_pos (by rw [cellsPl]; exact ⟨rfl, by simp⟩)]
  simp [Program.keyLits, cellsIntP, cellsI64P, Try.underlying3, Try.underlying2, wa, wc, kL]

theorem kL_inj {a c b d : Int} (ha : In64 a) (hc : In64 c) (hb : In64 b) (hd : In64 d) (h : kL a c = kL b d) : a = b ∧ c = d := by
  have h1 := keyOf_pl ha hc
  have h2 := keyOf_pl hb hd
  rw [h] at h1
  have := lawPlK.inj h1 h2
  injection this with this
  simp at this
  exact this

/-- block b is a map of at most n entries that holds f a c at the place of a, c -/
def CntM (w : World) (b n : Nat) (f : Int → Int → Int) : Prop :=
  ∃ D : DataW Unit, w.ownsMap Try.prog 37 (plainElem Try.prog 3) b n D ∧ ∀ a c, In64 a → In64 c → D.atKey (kL a c) (.lit (.int .i64 0)) = .lit (.int .i64 (f a c))

theorem CntM.made (w : World) : CntM (w.alloc (.map #[] 0)) w.heap.size 0 (fun _ _ => 0) := ⟨.map [], World.ownsMap_made _ _ _ _, fun _ _ _ _ => rfl⟩

theorem CntM.below {w w' : World} {b n : Nat} {f : Int → Int → Int} (h : CntM w b n f) (hb : Below w.heap.size w w') : CntM w' b n f := by
  obtain ⟨D, ⟨es, clock, h1, r⟩, h2⟩ := h
  have hl : b < w.heap.size := World.ownsMap.lt (H := Unit) ⟨es, clock, h1, r⟩
  exact ⟨D, ⟨es, clock, (hb.block _ hl).trans h1, r⟩, h2⟩

theorem CntM.grown {w w' : World} {b n g : Nat} {f : Int → Int → Int} (h : CntM w b n f) (hb : w.grownBy w' (some g)) (hg : b ≠ g) : CntM w' b n f := by
  obtain ⟨D, h1, h2⟩ := h
  exact ⟨D, h1.kept hb (fun e => hg (Option.some.inj e)), h2⟩

theorem CntM.mono {w : World} {b n m : Nat} {f : Int → Int → Int} (h : CntM w b n f) (hn : n ≤ m) : CntM w b m f := by
  obtain ⟨D, h1, h2⟩ := h
  exact ⟨D, h1.mono hn, h2⟩

theorem CntM.lt {w : World} {b n : Nat} {f : Int → Int → Int} (h : CntM w b n f) : b < w.heap.size := by
  obtain ⟨D, h1, _⟩ := h
  exact h1.lt

theorem CntM.same {w : World} {b n : Nat} {f g : Int → Int → Int} (h : CntM w b n f) (hf : ∀ a c, In64 a → In64 c → f a c = g a c) : CntM w b n g := by
  obtain ⟨D, h1, h2⟩ := h
  exact ⟨D, h1, fun a c ha hc => by rw [h2 a c ha hc, hf a c ha hc]⟩

theorem CntM.look {w : World} {b n : Nat} {f : Int → Int → Int} (h : CntM w b n f) {a c : Int} (ha : In64 a) (hc : In64 c) : (Instr.lookup 41 (.map (some b)) (plV a c) false).run Try.prog w = .ok (.int .i64 (f a c)) w := by
  obtain ⟨D, h1, h2⟩ := h
  obtain ⟨x, hx, hat, _⟩ := h1.lookup_int lawPlK Try.underlying41 Try.underlying3 (zeroN _) (keyOf_pl ha hc)
  rw [h2 a c ha hc] at hat
  injection hat with hat
  injection hat with _ hat
  rw [hx, hat]

theorem wpList_look_cnt {w : World} {ops : Array Oper} {rest : List Oper} {o : Oper} {s : Act} {Q : Exit → Act → World → Prop}
    (hg : o.guard = none) (m x : Operand) (hop : o.op = Op.lookup 41 m x false) {b n : Nat} {f : Int → Int → Int} (hm : s.eval m = .map (some b)) (h : CntM w b n f) {a c : Int} (hx : s.eval x = plV a c) (ha : In64 a) (hc : In64 c) {v : Int} (hv : f a c = v)
    (hK : wpList Try.prog ops Q rest (s.put o.dst (.int .i64 v)) w) : wpList Try.prog ops Q (o :: rest) s w := by
  refine wpList_plain hg fun K' hK' => ?_
  have hrun := h.look ha hc
  rw [hv] at hrun
  unfold Oper.wp
  simp [execOp, hop, hm, hx, hrun, Result.andThen]
  exact hK' _ _ hK

theorem setBlock_twice (w : World) (b : Nat) (o o' : Obj) : ChangeMaps.setBlock (ChangeMaps.setBlock w b o) b o' = ChangeMaps.setBlock w b o' := by
  simp [ChangeMaps.setBlock]

/-- what the two halves of 'm[k] = x' do -/
theorem CntM.entry {w : World} {b n : Nat} {f : Int → Int → Int} (h : CntM w b n f) (hn : n < maxLen) {a c : Int} (ha : In64 a) (hc : In64 c) :
    ∃ (st : Nat) (w1 : World), (Instr.mapEntry 41 (.map (some b)) (plV a c)).run Try.prog w = .ok (.tuple #[.int .i64 (f a c), goInt st]) w1 ∧ w.grownBy w1 (some b) ∧ CntM w1 b (n + 1) f ∧
      ∀ x, In64 x → ∃ w2, (Instr.entryStore 41 (.map (some b)) (goInt st) (.int .i64 x)).run Try.prog w1 = .ok () w2 ∧ w.grownBy w2 (some b) ∧ CntM w2 b (n + 1) (fun a' c' => if a' = a ∧ c' = c then x else f a' c') := by
  obtain ⟨D, hown, hat⟩ := h
  have hkey := keyOf_pl ha hc
  have hput : ∀ (x : Int) (w' : World), w'.ownsMap Try.prog 37 (plainElem Try.prog 3) b (n + 1) (D.put (kL a c) (.lit (.int .i64 x))) → CntM w' b (n + 1) (fun a' c' => if a' = a ∧ c' = c then x else f a' c') := fun x w' ho => by
    refine ⟨_, ho, fun a' c' ha' hc' => ?_⟩
    by_cases e : a' = a ∧ c' = c
    · obtain ⟨rfl, rfl⟩ := e
      simp only [and_self, if_true]
      rw [atKey_put_same hown.isMap (lawPlK.key hkey)]
    · simp only [if_neg e]
      rw [atKey_put_other (fun h => e (kL_inj ha' hc' ha hc h)), hat a' c' ha' hc']
  have hlook := CntM.look ⟨D, hown, hat⟩ ha hc
  obtain ⟨es, clock, hb, F, hs, hD⟩ := id hown
  obtain ⟨v0, st, es1, clock1, hrun, _, hst⟩ := WideElems.entry_then_store lawPl Try.underlying41 (fun u => zeroN u) hb F hkey
  have hup := fun (x : Int) (hx : In64 x) => hown.update lawPlK Try.underlying41 hn hkey (plainElem_int Try.underlying3 (wf_in64 hx))
  have hgb : ∀ o, w.grownBy (ChangeMaps.setBlock w b o) (some b) := fun o => ⟨rfl, rfl, rfl, by simp [ChangeMaps.setBlock], fun i _ hi => ChangeMaps.heap_setBlock_other hb _ (fun e => hi (by rw [e]))⟩
  have hmid : v0 = .int .i64 (f a c) ∧ CntM (ChangeMaps.setBlock w b (.map es1 clock1)) b (n + 1) f := by
    rcases lawPlK.find w hkey es.toList F.keys with ⟨h1, h2⟩ | ⟨j, e0, h1, h2, h3⟩
    · have hme : (Instr.mapEntry 41 (.map (some b)) (plV a c)).run Try.prog w = .ok (.tuple #[.int .i64 0, goInt clock]) (ChangeMaps.setBlock w b (.map (es.push ⟨plV a c, .int .i64 0, clock⟩) (clock + 1))) := by
        simp [Instr.mapEntry, run_underlying Try.underlying41, MapKept.run_getObj_map hb, lawPlK.check w false hkey, h1, MapKept.run_setObj_map _ hb, Result.andThen, ChangeMaps.setBlock]
      have hmu : (Instr.mapUpdate 41 (.map (some b)) (plV a c) (.int .i64 0)).run Try.prog w = .ok () (ChangeMaps.setBlock w b (.map (es.push ⟨plV a c, .int .i64 0, clock⟩) (clock + 1))) := by
        simp [Instr.mapUpdate, run_underlying Try.underlying41, MapKept.run_getObj_map hb, lawPlK.check w false hkey, h1, MapKept.run_setObj_map _ hb, Result.andThen, ChangeMaps.setBlock]
      have hlk : (Instr.lookup 41 (.map (some b)) (plV a c) false).run Try.prog w = .ok (.int .i64 0) w := by
        simp [Instr.lookup, run_underlying Try.underlying41, MapKept.run_getObj_map hb, lawPlK.check w _ hkey, h1, Result.andThen]
      rw [hlook] at hlk
      injection hlk with hf
      injection hf with _ hf
      rw [hrun] at hme
      injection hme with e1 e2
      injection e1 with e1
      simp at e1
      obtain ⟨w', hw', ho', _⟩ := hup 0 ⟨by omega, by omega⟩
      rw [hmu] at hw'
      injection hw' with _ hw'
      refine ⟨by rw [e1.1, hf], ?_⟩
      rw [e2, hw']
      refine (hput 0 w' ho').same fun a' c' _ _ => ?_
      by_cases e : a' = a ∧ c' = c
      · rw [if_pos e, e.1, e.2, hf]
      · rw [if_neg e]
    · have hj : es[j]? = some e0 := by simpa using h2
      have hsame : es.modify j (fun e => { e with key := plV a c }) = es := by
        apply Array.ext'
        rw [Array.toList_modify, ChangeMaps.modify_eq_set _ _ _ _ h2]
        have : ({ e0 with key := plV a c } : MapEntry) = e0 := by rw [← h3]
        rw [this]
        exact WideElems.set_self _ _ _ h2
      have hme : (Instr.mapEntry 41 (.map (some b)) (plV a c)).run Try.prog w = .ok (.tuple #[e0.val, goInt e0.born]) (ChangeMaps.setBlock w b (.map es clock)) := by
        simp [Instr.mapEntry, run_underlying Try.underlying41, MapKept.run_getObj_map hb, lawPlK.check w false hkey, h1, hj, h3, lawPlK.stays w hkey, hsame, MapKept.run_setObj_map _ hb, Result.andThen, ChangeMaps.setBlock]
      have hlk : (Instr.lookup 41 (.map (some b)) (plV a c) false).run Try.prog w = .ok e0.val w := by
        simp [Instr.lookup, run_underlying Try.underlying41, MapKept.run_getObj_map hb, lawPlK.check w _ hkey, h1, Result.andThen]
      rw [hlook] at hlk
      injection hlk with hf
      rw [hrun] at hme
      injection hme with e1 e2
      injection e1 with e1
      simp at e1
      refine ⟨by rw [e1.1, ← hf], ?_⟩
      rw [e2]
      exact ⟨D, ⟨es, clock, ChangeMaps.heap_setBlock_same hb _, F, by omega, hD⟩, hat⟩
  obtain ⟨hv0, hmid⟩ := hmid
  refine ⟨st, _, by rw [hrun, hv0], hgb _, hmid, fun x hx => ?_⟩
  obtain ⟨es', clock', hr1, hr2⟩ := hst _ (.int .i64 x) (ChangeMaps.heap_setBlock_same hb _)
  obtain ⟨w', hw', ho', _⟩ := hup x hx
  rw [hr2] at hw'
  injection hw' with _ hw'
  refine ⟨_, hr1, ?_, ?_⟩
  · rw [setBlock_twice]
    exact hgb _
  · rw [setBlock_twice, hw']
    exact hput x w' ho'

end Go.Proofs.Ytohcbgchloncmaa
