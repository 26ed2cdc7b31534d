/-
  WHAT IS READ APART FROM SOME BLOCKS ('Keep'), over any program; spans all of the call's own ('Acc'): CONTRACTS of trace.apart and trace.Flat, told so. Conditions: at most 10000000 spans, Data of at most 1000000 bytes.
  CONTRACTS of page.one, page.isPage, page.Put, and of the document's One and Page. Conditions: what each says.
  CONTRACTS of page.next and page.read. Conditions: what each says.
  CONTRACTS of page.read and page.Get. Conditions: what each says.
  THE HEAD OF LAYER 5's STATEMENTS; few traces.
-/
import Derived.Test.YtcpbikogccdknaaTrM
import Derived.Test.YtcpbikogccdknaaSpanI
import Derived.Test.YtcpbikogccdknaaPgA
import Derived.Test.YtcpbikogccdknaaSpanH
namespace Go.Proofs.Ytcpbikogccdknaa
open Go.RowKit
set_option maxRecDepth 100000


/-- w' is w, but for what is new and for the blocks that are bad -/
structure Apt (bad : Nat → Prop) (w w' : World) : Prop where
  os : w'.os = w.os
  tape : w'.tape = w.tape
  output : w'.output = w.output
  size : w.heap.size ≤ w'.heap.size
  block : ∀ g, g < w.heap.size → ¬ bad g → w'.heap[g]? = w.heap[g]?
theorem Apt.refl (bad : Nat → Prop) (w : World) : Apt bad w w := ⟨rfl, rfl, rfl, Nat.le_refl _, fun _ _ _ => rfl⟩
theorem Apt.of_below {bad : Nat → Prop} {w w' : World} (h : Below w.heap.size w w') : Apt bad w w' := ⟨h.os, h.tape, h.output, h.size, fun g hg _ => h.block g hg⟩
theorem Apt.of_grown {bad : Nat → Prop} {w w' : World} {row : Option Nat} (h : w.grownBy w' row) (hr : ∀ q, row = some q → bad q) : Apt bad w w' :=
  ⟨h.os, h.tape, h.output, h.size, fun g hg hb => h.block g hg fun e => hb (hr g e.symm)⟩
theorem Apt.trans {bad : Nat → Prop} {a b c : World} (h : Apt bad a b) (k : Apt bad b c) : Apt bad a c :=
  ⟨k.os.trans h.os, k.tape.trans h.tape, k.output.trans h.output, Nat.le_trans h.size k.size, fun g hg hb => (k.block g (Nat.lt_of_lt_of_le hg h.size) hb).trans (h.block g hg hb)⟩
/-- φ holds of w, and of all worlds that are w but for the blocks that are bad -/
def Keep (bad : Nat → Prop) (φ : World → Prop) (w : World) : Prop := ∀ w', Apt bad w w' → φ w'
section
variable {bad bad' : Nat → Prop} {φ ψ : World → Prop} {w w' w0 : World}
theorem Keep.here (h : Keep bad φ w) : φ w := h w (Apt.refl _ _)
theorem Keep.go (h : Keep bad φ w) (ha : Apt bad w w') (hb : ∀ q, bad' q → bad q ∨ w.heap.size ≤ q) : Keep bad' φ w' := fun w'' h2 => by
  refine h w'' ⟨h2.os.trans ha.os, h2.tape.trans ha.tape, h2.output.trans ha.output, Nat.le_trans ha.size h2.size, fun g hg hn => ?_⟩
  refine (h2.block g (Nat.lt_of_lt_of_le hg ha.size) fun hb' => ?_).trans (ha.block g hg hn)
  rcases hb g hb' with h | h
  · exact hn h
  · omega
theorem Keep.less (h : Keep bad φ w) (hb : ∀ q, bad' q → bad q ∨ w.heap.size ≤ q) : Keep bad' φ w := h.go (Apt.refl _ _) hb
theorem Keep.below (h : Keep bad φ w) (hb : Below w.heap.size w w') : Keep bad φ w' := h.go (Apt.of_below hb) fun _ h => .inl h
theorem Keep.of_old (h : ∀ u, Below w0.heap.size w0 u → φ u) (hb : Below w0.heap.size w0 w) (hn : ∀ q, bad q → w0.heap.size ≤ q) : Keep bad φ w := fun w' ha =>
  h w' ⟨ha.os.trans hb.os, ha.tape.trans hb.tape, ha.output.trans hb.output, Nat.le_trans hb.size ha.size, fun g hg => (ha.block g (Nat.lt_of_lt_of_le hg hb.size) fun e => by have := hn g e; omega).trans (hb.block g hg)⟩
theorem Rd.apt {A : Option Addr} {xs : List Value} (h : Rd w A xs) (ha : Apt bad w w') (hb : xs ≠ [] → ∀ a, A = some a → ¬ bad a.block) : Rd w' A xs := by
  rcases xs with _ | ⟨x, xs⟩
  · exact Rd.zero _ _
  · refine h.keep fun p hp hA => ?_
    refine World.cell?_of_block (ha.block p.block hp fun e => ?_)
    obtain ⟨a, e1, _⟩ := h 0 x rfl
    exact hb (by simp) a e1 (by rw [← hA a e1]; exact e)
theorem Bs.apt {v : Value} {l : List UInt8} (h : Bs w v l) (ha : Apt bad w w') (hb : l ≠ [] → ∀ q, v.ownBlock = some q → ¬ bad q) : Bs w' v l := by
  obtain ⟨A, c, rfl, h1, h2, hr⟩ := h
  refine ⟨A, c, rfl, h1, h2, hr.apt ha fun hx a e => ?_⟩
  subst e
  exact hb (fun e => hx (by rw [e]; rfl)) _ rfl
theorem Lv.apt {k : Nat} {v : Value} {xs : List (List Value)} (h : Lv k w v xs) (ha : Apt bad w w') (hb : xs ≠ [] → ∀ q, v.ownBlock = some q → ¬ bad q) : Lv k w' v xs := by
  obtain ⟨A, c, rfl, h1, h2, h3, hr⟩ := h
  refine ⟨A, c, rfl, h1, h2, h3, hr.apt ha fun hx a e => ?_⟩
  subst e
  exact hb (fun e => hx (by rw [e]; rfl)) _ rfl
end

/-- the value v is a slice of these spans, apart from what is bad -/
theorem Ss.keep {w : World} {bad : Nat → Prop} {v : Value} {l : List Sn} {xs : List (List Value)} (h : Lv 5 w v xs) (hb : xs ≠ [] → ∀ q, v.ownBlock = some q → ¬ bad q) (h2 : Two (fun s x => Keep bad (fun u => SpC u s x) w) l xs) : Keep bad (fun u => Ss u v l) w :=
  fun _ ha => ⟨xs, h.apt ha hb, h2.mono fun _ _ hk => hk _ ha⟩

section
variable {w w' : World} {base : Nat} {v : Value} {l : List Sn}
theorem Acc.lower {base' : Nat} (h : Acc w base v l) (hb : base' ≤ base) : Acc w base' v l := by
  obtain ⟨xs, ⟨h1, hk⟩, h2⟩ := h
  refine ⟨xs, ⟨?_, hk⟩, h2.mono fun s x hs => ?_⟩
  · refine ⟨h1.1, ?_⟩
    rcases h1.2 with h0 | ⟨g, cap, cur, hv, hg, hr⟩
    · exact .inl h0
    · exact .inr ⟨g, cap, cur, hv, by omega, hr⟩
  · obtain ⟨ho, d, hx, hd, hn⟩ := hs
    exact ⟨ho, d, hx, hd.lower hb, hn⟩
/-- spans of the call's own lie apart from all that is older -/
theorem Acc.keep (h : Acc w base v l) {bad : Nat → Prop} (hb : ∀ q, bad q → q < base) : Keep bad (fun u => Ss u v l) w := by
  obtain ⟨xs, h1, h2⟩ := h
  refine Ss.keep h1.lv (fun _ q hq hbq => ?_) (h2.mono fun s x hs u ha => ?_)
  · have := h1.ge q hq
    have := hb q hbq
    omega
  · obtain ⟨ho, d, hx, hd, hn⟩ := hs
    refine ⟨ho, d, hx, hd.bs.apt ha fun _ q hq hbq => ?_⟩
    have := hd.ge q hq
    have := hb q hbq
    omega
end

/-- spans of the call's own, the Data of the first k of which is newer than nb -/
structure AccK (w : World) (base nb k : Nat) (v : Value) (l : List Sn) (xs : List (List Value)) : Prop where
  own : OwnL 5 w base 55 v xs
  two : Two (SpF w v.ownBlock) l xs
  new : ∀ (j : Nat) (s : Sn) (x : List Value), j < k → l[j]? = some s → xs[j]? = some x → SpO w nb v.ownBlock s x
theorem SpO.grown {w w' : World} {base : Nat} {row r : Option Nat} {s : Sn} {x : List Value} (h : SpO w base row s x) (hg : w.grownBy w' r) (hr : r = row) : SpO w' base row s x := by
  obtain ⟨ho, d, hx, hd, hn⟩ := h
  subst hr
  exact ⟨ho, d, hx, hd.kept hg hn, hn⟩
theorem AccK.data {w w1 : World} {base nb g n c k : Nat} {l : List Sn} {xs : List (List Value)} (h : AccK w base nb k (.slice (some ⟨g, 0, none⟩) n c) l xs) {s : Sn} (hi : l[k]? = some s) (hb : Below w.heap.size w w1) {d : Value} (hd : Own w1 w.heap.size 5 d s.data) (hnb : nb ≤ w.heap.size) :
    ∃ ys, AccK (w1.setCell ⟨g, k * 5 + 4, none⟩ d) base nb (k + 1) (.slice (some ⟨g, 0, none⟩) n c) l ys := by
  have hlt := h.own.lt g rfl
  obtain ⟨h1', h2', h3'⟩ := h
  have h1 := h1'.below hb
  have h2 := h2'.mono fun s x hs => hs.grown (grown_of_below hb (some g)) 
  obtain ⟨h1, hk⟩ := h1
  have hnx : xs.length = n := by
    rcases h1.2 with ⟨hv, _⟩ | ⟨g', cap, cur, hv, _⟩
    · cases hv
    · injection hv with e1 e2 e3
      exact e2.symm
  obtain ⟨x, hx, hsx⟩ := h2.right hi
  obtain ⟨hok, d0, rfl, hd0, hn0⟩ := hsx
  rw [hnx] at h1
  obtain ⟨h3, h4⟩ := h1.stored (k * 5 + 4) d
  have e := flat_set1 hk d hx (show 4 < 5 by omega)
  rw [e] at h3
  have hdg : ∀ q, d.ownBlock = some q → q ≠ g := fun q hq e => by have := hd.ge q hq; omega
  have hdk : Own (w1.setCell ⟨g, k * 5 + 4, none⟩ d) w.heap.size 5 d s.data := hd.kept h4 (by
    cases hq : d.ownBlock with
    | none => exact .inl rfl
    | some q => exact .inr fun e => by injection e with e; exact hdg q hq e)
  refine ⟨xs.set k (spCells s d), ⟨?_, ?_⟩, ?_, fun j t y hj ht hy => ?_⟩
  · rw [List.length_set, hnx]
    exact h3
  · intro y hy
    rcases List.mem_or_eq_of_mem_set hy with hy | rfl
    · exact hk y hy
    · rfl
  · exact (h2.mono fun s x hs => hs.grown h4).setR hi ⟨hok, d, rfl, hdk.bs, fun _ e => hdg g e rfl⟩
  · rw [List.getElem?_set] at hy
    split at hy
    · rename_i hjk
      subst hjk
      split at hy
      · injection hy with hy
        subst hy
        rw [hi] at ht
        injection ht with ht
        subst ht
        refine ⟨hok, d, rfl, hdk.lower hnb, ?_⟩
        cases hq : d.ownBlock with
        | none => exact .inl rfl
        | some q => exact .inr fun e => by injection e with e; exact hdg q hq e
      · cases hy
    · exact ((h3' j t y (by omega) ht hy).grown (grown_of_below hb (some g)) rfl).grown h4 rfl

set_option maxRecDepth 100000 in
set_option maxHeartbeats 1600000 in
theorem apart_new (v : Value) (l : List Sn) (base nb : Nat) (w : World) (h : Own5 w base v l) (hn : nb ≤ base) (hnw : nb ≤ w.heap.size) (hl : l.length ≤ 1000000000) (hdl : ∀ s ∈ l, s.data.length ≤ 1000000) :
    Calls Try.prog 65 #[v] w fun e w' => e = .returned v ∧ Acc w' nb v l ∧ w.grownBy w' v.ownBlock := by
  rcases h.form with ⟨rfl, rfl⟩ | ⟨g, c, rfl, hc1, hc2, hbg, hgw⟩
  · go_enter Try.func65, Try.ntmps65
    go_wp2_with fail
    refine wp_loop_rounds 1 ?_
    rw [rounds_succ]
    go_wp2_with fail
    go_ret
    exact ⟨rfl, Acc.nil _ _, World.grownBy.refl _ _⟩
  · have HO := Lib.hid h
    have HL := Lib.hid hdl
    clear h hdl
    go_enter Try.func65, Try.ntmps65
    go_wp2_with fail
    go_loopw [3, 6] (fun _ i wr => ∃ k : Nat, k ≤ l.length ∧ i = .int .i64 k ∧ Hid (∃ xs, AccK wr base nb k (.slice (some ⟨g, 0, none⟩) l.length c) l xs) ∧ w.grownBy wr (some g)) (fun _ i _ => l.length - (intOf i).toNat)
    case atStart =>
      obtain ⟨xs, x1, x2⟩ := HO.out
      exact ⟨0, Nat.zero_le _, rfl, Lib.hid ⟨xs, x1, x2, fun j s x hj => absurd hj (Nat.not_lt_zero _)⟩, World.grownBy.refl _ _⟩
    case round =>
      obtain ⟨k, hk, rfl, HX, hG⟩ := hrel
      have hO : Own5 wr base (.slice (some ⟨g, 0, none⟩) l.length c) l := by
        obtain ⟨xs, hX⟩ := HX.out
        exact ⟨xs, hX.own, hX.two⟩
      by_cases hlt : k < l.length
      · obtain ⟨s, hks⟩ : ∃ s, l[k]? = some s := ⟨_, List.getElem?_eq_getElem hlt⟩
        have hsd : s.data.length ≤ 140737488355328 := by
          have := HL.out s (List.mem_of_getElem? hks)
          omega
        obtain ⟨d, c0, c1, c2, c3, c4, hd, hn, hok⟩ := hO.cells hks
        have HO2 := Lib.hid hO
        have HKS := Lib.hid hks
        have HSD := Lib.hid hsd
        have HD := Lib.hid hd
        obtain ⟨A', c', hdv, _⟩ := hd
        subst hdv
        clear hO hks hsd hn c0 c1 c2 c3
        go_wp2_with fail
        refine (bclone_any s.data _ _ HSD.out HD.out).mono ?_
        rintro e w1 ⟨d1, rfl, hown1, hb1⟩
        have h6 := (HO2.out.data HKS.out hb1 hown1).2
        have H5 : Hid (∃ ys, AccK (w1.setCell ⟨g, k * 5 + 4, none⟩ d1) base nb (k + 1) (.slice (some ⟨g, 0, none⟩) l.length c) l ys) := Lib.hid (by
          obtain ⟨xs, hX⟩ := HX.out
          exact hX.data HKS.out hb1 hown1 (Nat.le_trans hnw hG.size))
        have hf := (HO2.out.below hb1).frozen (k * 5 + 4)
        have hcc := ((HO2.out.below hb1).cells HKS.out)
        obtain ⟨d2, x0, x1, x2, x3, x4, _⟩ := hcc
        obtain ⟨A1, cc1, hdv1, _⟩ := hown1.form
        subst hdv1
        have H6 := Lib.hid h6
        clear h6 hown1 x0 x1 x2 x3 c4
        go_wp2_with fail
        exact ⟨⟨k + 1, by omega, by go_num, H5, grown_trans hG H6.out⟩, by simp [intOf]; omega⟩
      · go_wp2_with fail
        go_ret
        refine ⟨rfl, ?_, hG⟩
        obtain ⟨xs, hX⟩ := HX.out
        have hkl : k = l.length := by omega
        subst hkl
        have e1 := hX.two.len
        refine Acc.lower (base := nb) ⟨xs, ?_, e1, fun i s x hs hx => hX.new i s x (List.getElem?_eq_some_iff.1 hs).1 hs hx⟩ (Nat.le_refl _)
        obtain ⟨o1, o2⟩ := hX.own
        refine ⟨⟨o1.1, ?_⟩, o2⟩
        rcases o1.2 with h0 | ⟨g, cap, cur, hv, hg, hr⟩
        · exact .inl h0
        · exact .inr ⟨g, cap, cur, hv, by omega, hr⟩

set_option maxRecDepth 100000 in
set_option maxHeartbeats 1600000 in
theorem flat_new (v : Value) (l : List Tn) (w : World) (h : Ts w v l) (hl : (flatT l).length ≤ 10000000) (hll : l.length ≤ 1000000) (hd : ∀ s ∈ flatT l, s.data.length ≤ 1000000) :
    Calls Try.prog 55 #[v] w fun e w' => ∃ v', e = .returned v' ∧ Acc w' w.heap.size v' (flatT l) ∧ Below w.heap.size w w' := by
  obtain ⟨A, c, rfl, hc1, hc2⟩ := h.form
  have H := Lib.hid h
  clear h
  go_enter Try.func55, Try.ntmps55
  go_wp2_with fail
  go_loopw [3, 8] (fun ov kv wr => ∃ k : Nat, k ≤ l.length ∧ kv = .int .i64 (k : Int) ∧ Own5 wr w.heap.size ov (flatT (l.take k)) ∧ Below w.heap.size w wr) (fun _ kv _ => l.length - (intOf kv).toNat)
  case atStart => exact ⟨0, Nat.zero_le _, rfl, Own5.nil _ _, Below.refl _ _⟩
  case round =>
    obtain ⟨k, hk, rfl, hO, hB⟩ := hrel
    by_cases hlt : k < l.length
    · obtain ⟨t, hkt⟩ : ∃ t, l[k]? = some t := ⟨_, List.getElem?_eq_getElem hlt⟩
      obtain ⟨g, o, d, rfl, hg, c0, c1, hd, _⟩ := H.out.cells hkt
      replace c0 := (hB.cell (p := ⟨g, o + k * 2, none⟩) hg).trans c0
      replace c1 := (hB.cell (p := ⟨g, o + k * 2 + 1, none⟩) hg).trans c1
      have HT := Lib.hid (take_snoc_at hkt)
      have hfl : (flatT (l.take k)).length + t.sp.length ≤ 10000000 := by
        have h1 : l = l.take k ++ ([t] ++ l.drop (k + 1)) := by
          rw [← List.append_assoc, ← take_snoc_at hkt, List.take_append_drop]
        have h2 := congrArg (fun z => (flatT z).length) h1
        simp only [flatT, List.flatMap_append, List.length_append, List.flatMap_cons, List.flatMap_nil, List.append_nil] at h2
        simp only [flatT] at hl ⊢
        omega
      have hb1 : Below w.heap.size w (wr.alloc (.cells #[.int .u64 t.id, d] 49)) := hB.alloc hB.size _
      have HO := Lib.hid (hO.below ((Below.refl wr.heap.size wr).alloc (Nat.le_refl _) (.cells #[.int .u64 t.id, d] 49)))
      have HFL := Lib.hid hfl
      have HSF : Hid (Sf (wr.alloc (.cells #[.int .u64 t.id, d] 49)) u3.ownBlock d t.sp) := Lib.hid (Sf.of_ss hd hb1 (fun q hq => (hO.lt q hq).1))
      obtain ⟨A2, cc2, hdv, _⟩ := hd.form
      subst hdv
      have hgr := Nat.lt_of_lt_of_le hg hB.size
      clear hO hkt hfl hd
      go_wp2_with (at_builtin; refine wpList_append_own5 _ rfl _ _ rfl rfl HO.out rfl HSF.out (by have := HFL.out; omega) hb1.size ?_)
      intro v5 w5 ho5 hg5 _
      go_wp2_with fail
      refine ⟨⟨k + 1, by omega, by go_num, ?_, hb1.grown hg5 hb1.size (fun q hq => (HO.out.lt q hq).1)⟩, by simp [intOf]; omega⟩
      rw [HT.out, flatT, List.flatMap_append]
      simpa [flatT] using ho5
    · have hkk : k = l.length := by omega
      subst hkk
      rw [List.take_length] at hO
      go_wp2_with fail
      refine (apart_new _ _ _ w.heap.size _ hO (Nat.le_refl _) hB.size (by omega) hd).mono ?_
      rintro e w2 ⟨rfl, ho2, hg2⟩
      have hB2 := hB.grown hg2 hB.size (fun q hq => (hO.lt q hq).1)
      go_wp2_with fail
      go_ret
      exact ⟨_, rfl, ho2, hB2⟩

/-- a slice of the call's own, each of whose elements is E, apart from what is bad and from the slice's own block -/
def OwnK {α : Type} (k : Nat) (w : World) (base : Nat) (e : TypeId) (bad : Nat → Prop) (E : World → α → List Value → Prop) (v : Value) (l : List α) : Prop :=
  ∃ xs, OwnL k w base e v xs ∧ Two (fun a x => Keep (fun q => bad q ∨ v.ownBlock = some q) (fun u => E u a x) w) l xs
section
variable {α : Type} {k : Nat} {w w' : World} {base : Nat} {e : TypeId} {bad bad' : Nat → Prop} {E : World → α → List Value → Prop} {v : Value} {l : List α}
theorem OwnK.nil (k : Nat) (w : World) (base : Nat) (e : TypeId) (bad : Nat → Prop) (E : World → α → List Value → Prop) : OwnK k w base e bad E (.slice none 0 0) [] := ⟨[], OwnL.nil _ _ _ _, Two.nil⟩
theorem OwnK.lt (h : OwnK k w base e bad E v l) : ∀ g, v.ownBlock = some g → base ≤ g ∧ g < w.heap.size := fun g hg => by
  obtain ⟨xs, h1, _⟩ := h
  exact ⟨h1.ge g hg, h1.lt g hg⟩
theorem OwnK.kept {row : Option Nat} (h : OwnK k w base e bad E v l) (hg : w.grownBy w' row) (hne : v.ownBlock = none ∨ v.ownBlock ≠ row) (hr : ∀ q, row = some q → bad q) (hb : ∀ q, bad' q → bad q ∨ w.heap.size ≤ q) : OwnK k w' base e bad' E v l := by
  obtain ⟨xs, h1, h2⟩ := h
  refine ⟨xs, h1.kept hg hne, h2.mono fun _ _ hk => hk.go (Apt.of_grown hg fun q hq => .inl (hr q hq)) fun q hq => ?_⟩
  rcases hq with hq | hq
  · rcases hb q hq with h | h
    · exact .inl (.inl h)
    · exact .inr h
  · exact .inl (.inr hq)
theorem OwnK.less (h : OwnK k w base e bad E v l) (hb : ∀ q, bad' q → bad q ∨ w.heap.size ≤ q) : OwnK k w base e bad' E v l :=
  h.kept (row := none) (World.grownBy.refl _ _) (by cases v.ownBlock <;> simp) (fun q h => by cases h) hb
theorem OwnK.below (h : OwnK k w base e bad E v l) (hb : Below w.heap.size w w') : OwnK k w' base e bad E v l :=
  h.kept (row := none) (grown_of_below hb none) (by cases v.ownBlock <;> simp) (fun q h => by cases h) fun _ h => .inl h
theorem OwnK.lv (h : OwnK k w base e bad E v l) : ∃ xs, Lv k w v xs ∧ Two (E w) l xs := by
  obtain ⟨xs, h1, h2⟩ := h
  exact ⟨xs, h1.lv, h2.mono fun _ _ hk => hk.here⟩
theorem OwnK.form (h : OwnK k w base e bad E v l) : ∃ A c, v = .slice A l.length c ∧ l.length ≤ c ∧ c ≤ 9223372036854775807 := by
  obtain ⟨xs, h1, h2⟩ := h
  obtain ⟨A, c, hv, h3, h4⟩ := h1.lv.form
  rw [← h2.len] at hv h3
  exact ⟨A, c, hv, h3, h4⟩
/-- what it reads as lies apart from what is bad, if its own block isn't bad -/
theorem OwnK.keep (h : OwnK k w base e bad E v l) (hn : ∀ q, v.ownBlock = some q → ¬ bad q) : Keep bad (fun u => ∃ xs, Lv k u v xs ∧ Two (E u) l xs) w := fun w' ha => by
  obtain ⟨xs, h1, h2⟩ := h
  exact ⟨xs, h1.lv.apt ha fun _ => hn, h2.mono fun _ _ hk => hk _ ⟨ha.os, ha.tape, ha.output, ha.size, fun g hg hb => ha.block g hg fun e => hb (.inl e)⟩⟩
theorem run_append_K {P : Program} {t : TypeId} {bytes : Nat} (HT : ElemT P t e k bytes) (ty : TypeId) (h : OwnK k w base e bad E v l) {a : α} {y : List Value} {V : Value} (hV : Lv k w V [y]) (hy : Keep (fun q => bad q ∨ v.ownBlock = some q) (fun u => E u a y) w)
    (h1 : ∀ u ∈ y, u.oneCell' = true) (hl : l.length ≤ 1000000000) (hbytes : bytes ≤ 100) (hbase : base ≤ w.heap.size) :
    ∃ v' w', (Builtin.append_ #[t, t] ty #[v, V]).run P w = .ok v' w' ∧ OwnK k w' base e bad E v' (l ++ [a]) ∧ w.grownBy w' v.ownBlock ∧ (v'.ownBlock = v.ownBlock ∨ v'.ownBlock = some w.heap.size) := by
  obtain ⟨xs, o1, o2⟩ := h
  have e1 := o2.len
  have hm : (xs.length + 1) * bytes ≤ 1000000001 * 100 := Nat.mul_le_mul (by omega) hbytes
  obtain ⟨v', w', hrun, ho, hg, hv⟩ := run_append_elems w HT ty base v xs o1 V [y] hV (fun z hz => by
    simp at hz
    subst hz
    exact h1) (by simp only [maxLen, List.length_singleton]; omega) (by simp only [List.length_singleton]; omega) hbase
  refine ⟨v', w', hrun, ⟨xs ++ [y], ho, (o2.snoc hy).mono fun _ _ hk => hk.go (Apt.of_grown hg fun q hq => .inr hq) fun q hq => ?_⟩, hg, hv⟩
  rcases hq with hq | hq
  · exact .inl (.inl hq)
  · rcases hv with h | h
    · exact .inl (.inr (by rw [← h]; exact hq))
    · rw [h] at hq
      injection hq with hq
      exact .inr (by omega)
theorem wpList_append_K {P : Program} {t : TypeId} {bytes : Nat} (HT : ElemT P t e k bytes) {ops : Array Oper} {rest : List Oper} {o : Oper} {a : Act} {Q : Exit → Act → World → Prop} (hgd : o.guard = none) (sx x : Operand)
    (ho : o.op = .call { callee := .builtin .append, args := #[sx, x], argTypes := #[t, t] })
    (hs : a.eval sx = v) (h : OwnK k w base e bad E v l) {b : α} {y : List Value} {V : Value} (hx : a.eval x = V) (hV : Lv k w V [y]) (hy : Keep (fun q => bad q ∨ v.ownBlock = some q) (fun u => E u b y) w)
    (h1 : ∀ u ∈ y, u.oneCell' = true) (hl : l.length ≤ 1000000000) (hbytes : bytes ≤ 100) (hbase : base ≤ w.heap.size)
    (hK : ∀ v' w', OwnK k w' base e bad E v' (l ++ [b]) → w.grownBy w' v.ownBlock → (v'.ownBlock = v.ownBlock ∨ v'.ownBlock = some w.heap.size) → wpList P ops Q rest (a.put o.dst v') w') : wpList P ops Q (o :: rest) a w := by
  refine wpList_plain hgd fun K hK' => ?_
  obtain ⟨v', w', hrun, h2, h3, h4⟩ := run_append_K HT o.type h hV hy h1 hl hbytes hbase
  unfold Oper.wp execOp
  simp only [ho, resolve, invoke, builtin, Sem.run_bind, Sem.run_pure, Result.andThen_ok, List.map_toArray, List.map_cons, List.map_nil, hs, hx, hrun]
  exact hK' _ _ (hK v' w' h2 h3 h4)
end
theorem OwnK.ts {w : World} {base : Nat} {bad : Nat → Prop} {v : Value} {l : List Tn} (h : OwnK 2 w base 49 bad TnC v l) : Ts w v l := h.lv

end Go.Proofs.Ytcpbikogccdknaa

namespace Go.Proofs.Ytcpbikogccdknaa
open Go.RowKit Go.Maps
set_option maxRecDepth 100000


theorem putN4 (n : Nat) (h : n ≤ 4294967295) : putOk 4 (n : Int) = true := by
  have h2 : (n : Int).toNat < 256 ^ (4 : Int).toNat := by
    show (n : Int).toNat < 4294967296
    omega
  simp only [putOk, Bool.and_eq_true, decide_eq_true_iff]
  exact ⟨by decide, h2⟩
theorem CanS.may {i : Int} {l : List Sn} (h : CanS i l) : l.all mayB = true := by
  rw [List.all_eq_true]
  intro s hs
  obtain ⟨k, hk⟩ := List.mem_iff_getElem?.1 hs
  exact (h.one k s hk).2

set_option maxRecDepth 100000 in
set_option maxHeartbeats 1600000 in
theorem pone_any (v : Value) (t : Tn) (w : World) (h : TV w v t) (hc : CanS t.id t.sp) :
    Calls Try.prog 21 #[v] w fun e w' => ∃ x, e = .returned x ∧ Own w' w.heap.size 5 x (pgOne t) ∧ Below w.heap.size w w' := by
  obtain ⟨⟨i0, i1⟩, d, rfl, hd⟩ := h
  have hle := encS_le hc
  have hhi := hc.hi
  have hmay := Lib.hid hc.may
  have P1 := Lib.hid (putOk8 t.id i1)
  have P2 := Lib.hid (putN4 (encS t.sp).length (by omega))
  have hA := Blk.new w 49 #[.int .u64 t.id, d]
  have hb : Below w.heap.size w (w.alloc (.cells #[.int .u64 t.id, d] 49)) := (Below.refl _ _).alloc (Nat.le_refl _) _
  have hd1 := hd.alloc (.cells #[.int .u64 t.id, d] 49)
  have HA := Lib.hid hA
  clear hA hc hd
  go_enter Try.func21, Try.ntmps21
  go_wp2_with fail
  refine (sput_any d t.sp _ hd1 (by omega)).mono ?_
  rintro e w1 ⟨x1, er, rfl, hP, hb1⟩
  obtain ⟨rfl, hown1⟩ := hP.yes hmay.out
  have hB1 := hb.trans (hb1.mono hb.size)
  have c0 := (HA.out.below hb1 HA.out.lt).cell 0
  simp at c0
  clear hP
  go_wp2_with fail
  refine (put_ok [] _ _ _ _ i0 P1.out (by simp) (Bs.nil _)).mono ?_
  rintro e w2 ⟨v2, rfl, hown2, hb2⟩
  have hB2 := hB1.trans (hb2.mono hB1.size)
  have hown12 := hown1.below hb2
  obtain ⟨A1, k1, hv1, _⟩ := hown1.form
  subst hv1
  clear hown1 c0
  go_wp2_with fail
  refine (put_ok _ _ _ _ _ (by omega) P2.out (by simp [bet_length]) hown2.bs).mono ?_
  rintro e w3 ⟨v3, rfl, hown3, hb3⟩
  have hB3 := hB2.trans (hb3.mono hB2.size)
  have hown13 := hown12.below hb3
  have ho3 : Own w3 w.heap.size 5 v3 (bet t.id.toNat 8 ++ bet (encS t.sp).length 4) := by
    have := hown3.lower hB2.size
    simpa using this
  clear hown3 hown12
  go_wp2_with (at_builtin; refine wpList_append_v _ byteT rfl _ _ rfl w.heap.size _ _ rfl ho3 _ _ rfl hown13.bs ?c1 hB3.size ?_)
  case c1 => simp only [List.length_append, bet_length]; omega
  intro v4 w4 hown4 hg4 _
  have hB4 := hB3.grown hg4 hB3.size ho3.ge
  go_wp2_with fail
  go_ret
  refine ⟨_, rfl, ?_, hB4⟩
  rw [pgOne, ← List.append_assoc]
  exact hown4

set_option maxRecDepth 100000 in
set_option maxHeartbeats 1600000 in
theorem One_any (v : Value) (t : Tn) (w : World) (h : TV w v t) (hc : CanS t.id t.sp) :
    Calls Try.prog 27 #[v] w fun e w' => ∃ x, e = .returned x ∧ Own w' w.heap.size 5 x (pgOne t) ∧ Below w.heap.size w w' := by
  obtain ⟨⟨i0, i1⟩, d, rfl, hd⟩ := h
  have hle := encS_le hc
  have hhi := hc.hi
  have hmay := Lib.hid hc.may
  have hA := Blk.new w 49 #[.int .u64 t.id, d]
  have hb : Below w.heap.size w (w.alloc (.cells #[.int .u64 t.id, d] 49)) := (Below.refl _ _).alloc (Nat.le_refl _) _
  have hd1 := hd.alloc (.cells #[.int .u64 t.id, d] 49)
  have HA := Lib.hid hA
  have I1 : t.id < 18446744073709551616 := by omega
  have HI1 := Lib.hid I1
  clear hA hc hd i1 I1
  go_enter Try.func27, Try.ntmps27
  go_wp2_with fail
  refine (SBytes_any d t.sp _ hd1 (by omega) hmay.out).mono ?_
  rintro e w1 ⟨x1, rfl, hown1, hb1⟩
  have hB1 := hb.trans (hb1.mono hb.size)
  have c0 := (HA.out.below hb1 HA.out.lt).cell 0
  simp at c0
  go_wp2_with fail
  refine (Bytes_any 8 t.id _ (by omega) (by omega) i0 HI1.out).mono ?_
  rintro e w2 ⟨v2, rfl, hown2, hb2⟩
  have hB2 := hB1.trans (hb2.mono hB1.size)
  have hown12 := hown1.below hb2
  have hsep : x1.ownBlock = none ∨ x1.ownBlock ≠ v2.ownBlock := by
    cases hq : x1.ownBlock with
    | none => exact .inl rfl
    | some q =>
      refine .inr fun e => ?_
      have h1 := (World.ownsRow.lt hown1 q hq).2
      have h2 := hown2.ge q e.symm
      omega
  obtain ⟨A1, k1, hv1, _⟩ := hown1.form
  subst hv1
  clear hown1 c0
  go_wp2_with fail
  refine (Bytes_any 4 _ _ (by omega) (by omega) (by omega) (by omega)).mono ?_
  rintro e w3 ⟨v3, rfl, hown3, hb3⟩
  have hB3 := hB2.trans (hb3.mono hB2.size)
  have hown13 := hown12.below hb3
  have ho2 : Own w3 w.heap.size 5 v2 (bet t.id.toNat 8) := by
    have := (hown2.below hb3).lower hB1.size
    simpa using this
  have ho3 : Own w3 w2.heap.size 5 v3 (bet (encS t.sp).length 4) := by simpa using hown3
  clear hown3 hown12 hown2
  go_wp2_with (at_builtin; refine wpList_append_v _ byteT rfl _ _ rfl w.heap.size _ _ rfl ho2 _ _ rfl ho3.bs ?c0 hB3.size ?_)
  case c0 => simp only [bet_length]; omega
  intro v4 w4 hown4 hg4 hv4
  have hB4 := hB3.grown hg4 hB3.size ho2.ge
  have hown14 := hown13.kept hg4 hsep
  clear hown13 ho2 ho3
  go_wp2_with (at_builtin; refine wpList_append_v _ byteT rfl _ _ rfl w.heap.size _ _ rfl hown4 _ _ rfl hown14.bs ?c1 hB4.size ?_)
  case c1 => simp only [List.length_append, bet_length]; omega
  intro v5 w5 hown5 hg5 hv5
  have hB5 := hB4.grown hg5 hB4.size hown4.ge
  go_wp2_with fail
  go_ret
  refine ⟨_, rfl, ?_, hB5⟩
  rw [pgOne, ← List.append_assoc]
  exact hown5

theorem one_le {l : List Tn} (h : IsT l) (k : Nat) : ((l.take k).flatMap pgOne).length ≤ 9814 * k := by
  induction k with
  | zero => simp
  | succ k ih =>
    by_cases hk : k < l.length
    · have hks : l[k]? = some l[k] := List.getElem?_eq_getElem hk
      have h1 := encS_le (h.each k _ hks)
      have h2 := pgOne_length l[k]
      rw [take_snoc_at hks, List.flatMap_append, List.length_append]
      simp only [List.flatMap_cons, List.flatMap_nil, List.append_nil]
      omega
    · rw [List.take_of_length_le (by omega)]
      rw [List.take_of_length_le (by omega)] at ih
      omega

/-- may these be written? -/
noncomputable def pgB (l : List Tn) : Bool := decide (l.length ≤ 64) && isB l
theorem pgB_iff {l : List Tn} : pgB l = true ↔ l.length ≤ 64 ∧ IsT l := by
  simp [pgB, isB]

set_option maxHeartbeats 800000 in
theorem isPage_any (v : Value) (l : List Tn) (w : World) (h : Ts w v l) :
    Calls Try.prog 19 #[v] w fun e w' => e = .returned (.bool (pgB l)) ∧ Below w.heap.size w w' := by
  have H := Lib.hid h
  obtain ⟨A, c, rfl, hc1, hc2⟩ := h.form
  clear h
  by_cases hl : l.length ≤ 64
  · have e : Hid (pgB l = isB l) := Lib.hid (by simp [pgB, hl])
    go_enter Try.func19, Try.ntmps19
    go_wp2_with fail
    refine (is_any _ l _ H.out).mono ?_
    rintro e w1 ⟨rfl, hb1⟩
    go_wp2_with fail
    go_ret
    exact ⟨by rw [e.out]; rfl, hb1⟩
  · have e : Hid (pgB l = false) := Lib.hid (by simp [pgB, hl])
    go_enter Try.func19, Try.ntmps19
    go_wp2_with fail
    go_ret
    exact ⟨by rw [e.out]; rfl, Below.refl _ _⟩

/-- what Put tells -/
structure PutP (w : World) (base : Nat) (l : List Tn) (x e : Value) : Prop where
  no : pgB l = false → x = .slice none 0 0 ∧ e = code 1
  yes : pgB l = true → e = .nilIface ∧ Own w base 5 x (pgOf l)

set_option maxHeartbeats 3200000 in
theorem pput_any (v : Value) (l : List Tn) (w : World) (h : Ts w v l) :
    Calls Try.prog 9 #[v] w fun e w' => ∃ x er, e = .returned (.tuple #[x, er]) ∧ PutP w' w.heap.size l x er ∧ Below w.heap.size w w' := by
  have H := Lib.hid h
  obtain ⟨A, c, rfl, hc1, hc2⟩ := h.form
  clear h
  go_enter Try.func9, Try.ntmps9
  go_wp2_with fail
  refine (isPage_any _ l _ H.out).mono ?_
  rintro e w1 ⟨rfl, hb1⟩
  cases hp : pgB l with
  | false =>
    have HP := Lib.hid hp
    clear hp
    go_wp2_with fail
    go_ret2
    exact ⟨_, _, rfl, ⟨fun _ => ⟨rfl, rfl⟩, (fun h => by rw [HP.out] at h; cases h)⟩, hb1⟩
  | true =>
    have HP := Lib.hid hp
    obtain ⟨hl64, hIs⟩ := pgB_iff.1 hp
    have HIS := Lib.hid hIs
    have P := Lib.hid (putOk2 l.length (by omega))
    clear hp hIs
    go_wp2_with fail
    refine (put_ok [] _ _ _ _ (by omega) P.out (by simp) (Bs.nil _)).mono ?_
    rintro e w2 ⟨v2, rfl, hown2, hb2⟩
    have hB2 := hb1.trans (hb2.mono hb1.size)
    have ho2 : Own w2 w.heap.size 5 v2 (bet l.length 2) := by simpa using hown2.lower hb1.size
    have HO := Lib.hid ho2
    clear hown2 ho2 hb1 hb2
    go_wp2_with fail
    go_loopw [4, 21] (fun bv i wr => ∃ k : Nat, k ≤ l.length ∧ i = .int .i64 k ∧ Own wr w.heap.size 5 bv (bet l.length 2 ++ (l.take k).flatMap pgOne) ∧ Below w.heap.size w wr) (fun _ i _ => l.length - (intOf i).toNat)
    case atStart => exact ⟨0, Nat.zero_le _, rfl, by simpa using HO.out, hB2⟩
    case round =>
      obtain ⟨k, hk, rfl, hown, hB⟩ := hrel
      by_cases hlt : k < l.length
      · obtain ⟨t, hks⟩ : ∃ t, l[k]? = some t := ⟨_, List.getElem?_eq_getElem hlt⟩
        obtain ⟨g, o, d, rfl, hg, c0, c1, hd, hid⟩ := (H.out.below hB).cells hks
        obtain ⟨A', c', rfl, hd1, hd2⟩ := hd.form
        have HT := Lib.hid (take_snoc_at hks)
        have HC := Lib.hid (HIS.out.each k t hks)
        have hWB : Below w.heap.size w (wr.alloc (.cells #[.int .u64 t.id, .slice A' t.sp.length c'] 49)) := hB.alloc hB.size _
        have hV : TV (wr.alloc (.cells #[.int .u64 t.id, .slice A' t.sp.length c'] 49)) (.agg #[.int .u64 t.id, .slice A' t.sp.length c']) t := ⟨hid, _, rfl, hd.below ((Below.refl _ _).alloc (Nat.le_refl _) _)⟩
        have HV := Lib.hid hV
        have HOw1 := Lib.hid (hown.alloc (.cells #[.int .u64 t.id, .slice A' t.sp.length c'] 49))
        have hle := one_le HIS.out k
        have hle1 : (pgOne t).length ≤ 9814 := by
          have h1 := encS_le HC.out
          have h2 := pgOne_length t
          omega
        clear hks hd hV hown
        go_wp2_with fail
        refine (pone_any _ t _ HV.out HC.out).mono ?_
        rintro e w3 ⟨v3, rfl, hown3, hb3⟩
        have hW3 := hWB.trans (hb3.mono hWB.size)
        have hown := HOw1.out.below hb3
        go_wp2_with (at_builtin; refine wpList_append_v _ byteT rfl _ _ rfl w.heap.size _ _ rfl hown v3 _ rfl hown3.bs ?c1 hW3.size ?_)
        case c1 =>
          rw [List.length_append, bet_length]
          omega
        intro v4 w4 hown4 hg4 _
        go_wp2_with fail
        refine ⟨⟨k + 1, by omega, by go_num, ?_, hW3.grown hg4 hW3.size hown.ge⟩, by simp [intOf]; omega⟩
        rw [HT.out, List.flatMap_append, ← List.append_assoc]
        simpa using hown4
      · have hkk : k = l.length := by omega
        subst hkk
        have hle := one_le HIS.out l.length
        rw [List.take_length] at hown hle
        have HOw := Lib.hid hown
        clear hown hlt
        go_wp2_with fail
        refine (seal_any (pgBody l) _ _ (by rw [pgBody_length]; omega) HOw.out.bs).mono ?_
        rintro e w4 ⟨v4, rfl, hown4, hb4⟩
        go_wp2_with fail
        go_ret2
        exact ⟨_, _, rfl, ⟨(fun h => by rw [HP.out] at h; cases h), fun _ => ⟨rfl, hown4.lower hB.size⟩⟩, hB.trans (hb4.mono hB.size)⟩

set_option maxHeartbeats 3200000 in
theorem Page_any (v : Value) (l : List Tn) (w : World) (h : Ts w v l) (hIs : IsT l) (hl : l.length ≤ 65535) :
    Calls Try.prog 11 #[v] w fun e w' => ∃ x, e = .returned x ∧ Own w' w.heap.size 5 x (pgOf l) ∧ Below w.heap.size w w' := by
  have H := Lib.hid h
  obtain ⟨A, c, rfl, hc1, hc2⟩ := h.form
  have HIS := Lib.hid hIs
  clear h hIs
  go_enter Try.func11, Try.ntmps11
  go_wp2_with fail
  refine (Bytes_any 2 _ _ (by omega) (by omega) (by omega) (by omega)).mono ?_
  rintro e w2 ⟨v2, rfl, hown2, hB2⟩
  have ho2 : Own w2 w.heap.size 5 v2 (bet l.length 2) := by simpa using hown2
  have HO := Lib.hid ho2
  clear hown2 ho2
  go_wp2_with fail
  go_loopw [3, 4] (fun bv i wr => ∃ k : Nat, k ≤ l.length ∧ i = .int .i64 k ∧ Own wr w.heap.size 5 bv (bet l.length 2 ++ (l.take k).flatMap pgOne) ∧ Below w.heap.size w wr) (fun _ i _ => l.length - (intOf i).toNat)
  case atStart => exact ⟨0, Nat.zero_le _, rfl, by simpa using HO.out, hB2⟩
  case round =>
    obtain ⟨k, hk, rfl, hown, hB⟩ := hrel
    by_cases hlt : k < l.length
    · obtain ⟨t, hks⟩ : ∃ t, l[k]? = some t := ⟨_, List.getElem?_eq_getElem hlt⟩
      obtain ⟨g, o, d, rfl, hg, c0, c1, hd, hid⟩ := (H.out.below hB).cells hks
      obtain ⟨A', c', rfl, hd1, hd2⟩ := hd.form
      have HT := Lib.hid (take_snoc_at hks)
      have HC := Lib.hid (HIS.out.each k t hks)
      have hV : TV wr (.agg #[.int .u64 t.id, .slice A' t.sp.length c']) t := ⟨hid, _, rfl, hd⟩
      have HV := Lib.hid hV
      have HOw1 := Lib.hid hown
      have hle := one_le HIS.out k
      have hle1 : (pgOne t).length ≤ 9814 := by
        have h1 := encS_le HC.out
        have h2 := pgOne_length t
        omega
      clear hks hd hV hown
      go_wp2_with fail
      refine (One_any _ t _ HV.out HC.out).mono ?_
      rintro e w3 ⟨v3, rfl, hown3, hb3⟩
      have hW3 := hB.trans (hb3.mono hB.size)
      have hown := HOw1.out.below hb3
      go_wp2_with (at_builtin; refine wpList_append_v _ byteT rfl _ _ rfl w.heap.size _ _ rfl hown v3 _ rfl hown3.bs ?c1 hW3.size ?_)
      case c1 =>
        rw [List.length_append, bet_length]
        omega
      intro v4 w4 hown4 hg4 _
      go_wp2_with fail
      refine ⟨⟨k + 1, by omega, by go_num, ?_, hW3.grown hg4 hW3.size hown.ge⟩, by simp [intOf]; omega⟩
      rw [HT.out, List.flatMap_append, ← List.append_assoc]
      simpa using hown4
    · have hkk : k = l.length := by omega
      subst hkk
      have hle := one_le HIS.out l.length
      rw [List.take_length] at hown hle
      have HOw := Lib.hid hown
      clear hown hlt
      go_wp2_with fail
      refine (Seal_any (pgBody l) _ _ (by rw [pgBody_length]; omega) HOw.out.bs).mono ?_
      rintro e w4 ⟨v4, rfl, hown4, hb4⟩
      go_wp2_with fail
      go_ret
      exact ⟨_, rfl, hown4.lower hB.size, hB.trans (hb4.mono hB.size)⟩

end Go.Proofs.Ytcpbikogccdknaa

namespace Go.Proofs.Ytcpbikogccdknaa
open Go.RowKit Go.Maps
set_option maxRecDepth 100000

theorem slice_bytes_toK {P : Program} (w : World) {t e : TypeId} (HT : ByteT P t e) (he : P.elem t = e) {A : Option Addr} {c : Nat} {l : List UInt8} (hr : Rd w A (BV l)) (h2 : l.length ≤ c) (h3 : c ≤ 9223372036854775807) (k : IntKind) (hi : Nat) (h1 : hi ≤ l.length) (y : Int) (hy : y = (hi : Int)) :
    ∃ V, (∀ u : World, (Instr.slice t (.slice A l.length c) none (some (.int k y)) none).run P u = .ok V u) ∧ Bs w V (l.take hi) ∧ V.ownBlock = (Value.slice A l.length c).ownBlock := by
  subst hy
  obtain ⟨i, hi', hz, hs, hb⟩ := HT.info
  refine ⟨.slice A hi c, fun u => ?_, ?_, ?_⟩
  · rw [run_slice_h (P := P) (w := u) (t := t) (a := A) (len := l.length) (cap := c) (ht := by rw [he]; exact HT.under) k hi (by omega) (by omega)]
    simp [sizeOf, typeInfo, he, hi', hs, sliced]
    intro _
    cases A <;> simp [Addr.add]
  · have h := Bs.cut (p := 0) (k := hi) hr (by omega) h2 h3 A (fun a ha _ => by rw [ha]; simp [Addr.add])
    simpa using h
  · cases A <;> rfl
theorem slice_bytes_fromK {P : Program} (w : World) {t e : TypeId} (HT : ByteT P t e) (he : P.elem t = e) {A : Option Addr} {c : Nat} {l : List UInt8} (hr : Rd w A (BV l)) (h2 : l.length ≤ c) (h3 : c ≤ 9223372036854775807) (k : IntKind) (lo : Nat) (h1 : lo ≤ l.length) (x : Int) (hx : x = (lo : Int)) :
    ∃ V, (∀ u : World, (Instr.slice t (.slice A l.length c) (some (.int k x)) none none).run P u = .ok V u) ∧ Bs w V (l.drop lo) ∧ V.ownBlock = (Value.slice A l.length c).ownBlock := by
  subst hx
  obtain ⟨i, hi', hz, hs, hb⟩ := HT.info
  refine ⟨.slice (if c = lo then A else A.map (·.add lo)) (l.length - lo) (c - lo), fun u => ?_, ?_, ?_⟩
  · rw [run_slice_l (P := P) (w := u) (t := t) (a := A) (len := l.length) (cap := c) (ht := by rw [he]; exact HT.under) k lo (by omega) (by omega)]
    simp [sizeOf, typeInfo, he, hi', hs, sliced]
  · have h := Bs.cut (k := l.length - lo) (p := lo) hr (by omega) h2 h3 (if c = lo then A else A.map (·.add lo)) ?_
    · rw [List.take_of_length_le (by simp)] at h
      exact h
    · intro a ha hk
      subst ha
      rw [if_neg (by omega)]
      rfl
  · split <;> cases A <;> simp [Value.ownBlock, add_block]

/-- spans that can be put are of one list of bytes alone -/
theorem encS_inj (x y : List Sn) (hx : okS x) (hy : okS y) (h : encS x = encS y) : x = y := by
  have h1 := get_enc 65535 (by omega) x hx.1 hx.2.1 hx.2.2
  have h2 := get_enc 65535 (by omega) y hy.1 hy.2.1 hy.2.2
  rw [h, h2] at h1
  injection h1 with h1
  exact h1.symm

/-- the size of what stands next -/
def nxMany (b : List UInt8) : Nat := num ((b.drop 8).take 4)
theorem nxMany_lt (b : List UInt8) : nxMany b < 4294967296 := by
  have h := num_lt ((b.drop 8).take 4)
  have hl : ((b.drop 8).take 4).length ≤ 4 := by rw [List.length_take]; omega
  have hp := Nat.pow_le_pow_right (show 0 < 256 by omega) hl
  have : (256 : Nat) ^ 4 = 4294967296 := by decide
  unfold nxMany
  omega
theorem nxId_lt (b : List UInt8) : num (b.take 8) < 18446744073709551616 := by
  have h := num_lt (b.take 8)
  have hl : (b.take 8).length ≤ 8 := by rw [List.length_take]; omega
  have hp := Nat.pow_le_pow_right (show 0 < 256 by omega) hl
  have : (256 : Nat) ^ 8 = 18446744073709551616 := by decide
  omega
/-- what next tells -/
structure NextP (w0 w' : World) (base : Nat) (b : List UInt8) (x r : Value) (ok : Bool) : Prop where
  no : ok = false → (x = .agg #[.int .u64 0, .slice none 0 0] ∧ r = .slice none 0 0) ∧ (b.length < 12 ∨ b.length < 12 + nxMany b ∨ ∀ sp, okS sp → encS sp ≠ (b.drop 12).take (nxMany b))
  yes : ok = true → ∃ d sp, x = .agg #[.int .u64 (num (b.take 8)), d] ∧ Acc w' base d sp ∧ 12 + nxMany b ≤ b.length ∧ okS sp ∧ encS sp = (b.drop 12).take (nxMany b) ∧ Bs w0 r (b.drop (12 + nxMany b))

theorem spot2 {w u : World} {g base : Nat} {t : TypeId} {a0 a1 : Value} (hC : Blk u g t #[a0, a1]) (hB : Below base w u) (hbu : base ≤ u.heap.size) (hg : base ≤ g) (x y : Value) :
    ((u.setCell ⟨g, 0, none⟩ x).setCell ⟨g, 1, none⟩ y).cell? ⟨g, 0, none⟩ = some x ∧ ((u.setCell ⟨g, 0, none⟩ x).setCell ⟨g, 1, none⟩ y).cell? ⟨g, 1, none⟩ = some y ∧ Below base w ((u.setCell ⟨g, 0, none⟩ x).setCell ⟨g, 1, none⟩ y) ∧
      u.grownBy ((u.setCell ⟨g, 0, none⟩ x).setCell ⟨g, 1, none⟩ y) (some g) := by
  have hC4 := (hC.set_ 0 x).set_ 1 y
  have hg1 := grown_set u g 0 x
  have hg2 := grown_set (u.setCell ⟨g, 0, none⟩ x) g 1 y
  have c0 := hC4.cell 0
  have c1 := hC4.cell 1
  simp at c0 c1
  exact ⟨c0, c1, hB.grown (grown_trans hg1 hg2) hbu (by intro k hk; injection hk; omega), grown_trans hg1 hg2⟩

set_option maxHeartbeats 1600000 in
theorem pnext_any (v : Value) (b : List UInt8) (w0 w : World) (hB : Below w0.heap.size w0 w) (h : Bs w0 v b) (hl : b.length ≤ 140737488355328) :
    Calls Try.prog 51 #[v] w fun e w' => ∃ x r ok, e = .returned (.tuple #[x, r, .bool ok]) ∧ NextP w0 w' w.heap.size b x r ok ∧ Below w.heap.size w w' := by
  have HB0 := Lib.hid h
  have hv := h.below hB
  have HV := Lib.hid hv
  clear hv
  have hb0 : Below w.heap.size w (w.alloc (.cells #[.int .u64 0, .slice none 0 0] 49)) := (Below.refl _ _).alloc (Nat.le_refl _) _
  have hC0 := Blk.new w 49 #[.int .u64 0, .slice none 0 0]
  have hz0 : (w.alloc (.cells #[.int .u64 0, .slice none 0 0] 49)).heap.size = w.heap.size + 1 := by simp
  by_cases h12 : b.length < 12
  · have hbad : wordOk b (wNext b 0 false 8) (!wordOk b 0 false 8) 4 = false := by
      by_cases h8 : b.length < 8
      · simp [wordOk, wNext, isW]
        omega
      · have : (8 : Int) ≤ b.length := by omega
        simp [wordOk, wNext, isW, this]
        omega
    have HBAD := Lib.hid hbad
    clear hbad h
    go_enter Try.func51, Try.ntmps51
    go_wp2_with fail
    have hr := read_any v b _ (HV.out.below hb0)
    generalize w.alloc (.cells #[.int .u64 0, .slice none 0 0] 49) = W at *
    refine hr.mono ?_
    clear hr
    rintro e w1 ⟨rfl, hW1, hb1⟩
    rw [hz0] at hW1
    have hC1 := hC0.below hb1 hC0.lt
    have hB1 := hb0.trans (hb1.mono hb0.size)
    go_wp2_with fail
    refine (word_all _ v b _ _ _ _ hW1).mono ?_
    rintro e w2 ⟨rfl, hW2, hg2⟩
    have hC2 := hC1.grown hg2 (by intro e; injection e; omega)
    have hB2 := hB1.grown hg2 hB1.size (by intro k hk; injection hk; omega)
    go_wp2_with fail
    refine (word_all _ v b _ _ _ _ hW2).mono ?_
    rintro e w3 ⟨rfl, hW3, hg3⟩
    have hC3 := hC2.grown hg3 (by intro e; injection e; omega)
    have hB3 := hB2.grown hg3 hB2.size (by intro k hk; injection hk; omega)
    rw [HBAD.out] at hW3
    go_wp2_with fail
    refine (bad_true _ _ _ _ _ hW3).mono ?_
    rintro e w4 ⟨rfl, rfl⟩
    have c0 := hC3.cell 0
    have c1 := hC3.cell 1
    have f0 := hC3.frozen 0
    have f1 := hC3.frozen 1
    simp at c0 c1
    go_wp2_with fail
    obtain ⟨c0, c1, hB5, _⟩ := spot2 hC3 hB3 hB3.size (Nat.le_refl _) (.int .u64 0) (.slice none 0 0)
    generalize ((w3.setCell ⟨w.heap.size, 0, none⟩ (.int .u64 0)).setCell ⟨w.heap.size, 1, none⟩ (.slice none 0 0)) = w5 at *
    refine bodyPost_ret (v := .tuple #[.agg #[.int .u64 0, .slice none 0 0], .slice none 0 0, .bool false]) (by simp [results, Try.results51, go_sem, c0, c1]; try rfl) rfl ?_
    exact ⟨_, _, _, rfl, ⟨fun _ => ⟨⟨rfl, rfl⟩, .inl h12⟩, fun h => by cases h⟩, hB5⟩
  · obtain ⟨i, hi⟩ : ∃ i, i = num (b.take 8) := ⟨_, rfl⟩
    obtain ⟨m, hm⟩ : ∃ m, m = nxMany b := ⟨_, rfl⟩
    have hi2 : num ((b.drop 0).take (Int.toNat 8)) = i := by rw [hi]; rfl
    have hm2 : num ((b.drop (0 + Int.toNat 8)).take (Int.toNat 4)) = m := by rw [hm]; rfl
    have hil : i < 18446744073709551616 := by rw [hi]; exact nxId_lt b
    have hml : m < 4294967296 := by rw [hm]; exact nxMany_lt b
    have ok8 : wordOk b 0 false 8 = true := by simp [wordOk, isW]; omega
    have ok4 : wordOk b (0 + Int.toNat 8) false 4 = true := by simp [wordOk, isW]; omega
    have HI := Lib.hid hi
    have HM := Lib.hid hm
    have HI2 := Lib.hid hi2
    have HM2 := Lib.hid hm2
    have HIL := Lib.hid hil
    have OK8 := Lib.hid ok8
    have OK4 := Lib.hid ok4
    clear hi hm hi2 hm2 ok8 ok4 hil
    obtain ⟨A, c, hv, hc1, hc2, hr⟩ := h
    obtain ⟨V1, hs1, hV1, _⟩ := slice_bytes_fromK (P := Try.prog) w0 byteT elemB hr hc1 hc2 .i64 12 (by omega) 12 rfl
    obtain ⟨A1, c1, rfl, hd1, hd2, hr1⟩ := hV1
    obtain ⟨q, hq⟩ : ∃ q, q = b.length - 12 := ⟨_, rfl⟩
    have hlr : (b.drop 12).length = q := by rw [List.length_drop, hq]
    rw [hlr] at hs1 hd1
    have hql : q ≤ 140737488355328 := by omega
    have hq1 : (b.length : Int) - ((0 + Int.toNat 8 + Int.toNat 4 : Nat) : Int) = q := by show (b.length : Int) - 12 = _; omega
    have HQ1 := Lib.hid hq1
    have HQ := Lib.hid hq
    clear hq hq1
    subst hv
    clear hr
    go_enter Try.func51, Try.ntmps51
    go_wp2_with fail
    have hr := read_any _ b _ (HV.out.below hb0)
    generalize w.alloc (.cells #[.int .u64 0, .slice none 0 0] 49) = W at *
    refine hr.mono ?_
    clear hr
    rintro e w1 ⟨rfl, hW1, hb1⟩
    rw [hz0] at hW1
    have hC1 := hC0.below hb1 hC0.lt
    have hB1 := hb0.trans (hb1.mono hb0.size)
    go_wp2_with fail
    refine (word_yes _ _ b _ _ _ _ hW1 OK8.out).mono ?_
    rintro e w2 ⟨rfl, hW2, hg2⟩
    rw [HI2.out]
    have hC2 := hC1.grown hg2 (by intro e; injection e; omega)
    have hB2 := hB1.grown hg2 hB1.size (by intro k hk; injection hk; omega)
    go_wp2_with fail
    refine (word_yes _ _ b _ _ _ _ hW2 OK4.out).mono ?_
    rintro e w3 ⟨rfl, hW3, hg3⟩
    rw [HM2.out]
    have hC3 := hC2.grown hg3 (by intro e; injection e; omega)
    have hB3 := hB2.grown hg3 hB2.size (by intro k hk; injection hk; omega)
    go_wp2_with fail
    refine (bad_false _ _ _ _ _ hW3).mono ?_
    rintro e w4 ⟨rfl, rfl⟩
    go_wp2_with fail
    refine (left_any _ _ _ _ _ _ hW3).mono ?_
    rintro e w4 ⟨rfl, n4, rfl⟩
    rw [HQ1.out]
    clear hW1 hW2 hg2 hg3 hC1 hC2 hb1 hB1 hB2
    by_cases hlt : q < m
    · have c0 := hC3.cell 0
      have c1 := hC3.cell 1
      have f0 := hC3.frozen 0
      have f1 := hC3.frozen 1
      simp at c0 c1
      clear hs1
      go_wp2_with fail
      obtain ⟨c0, c1, hB5, _⟩ := spot2 (hC3.drewN n4) (below_drewN hB3 n4) hB3.size (Nat.le_refl _) (.int .u64 0) (.slice none 0 0)
      generalize (((w3.drewN n4).setCell ⟨w.heap.size, 0, none⟩ (.int .u64 0)).setCell ⟨w.heap.size, 1, none⟩ (.slice none 0 0)) = w5 at *
      refine bodyPost_ret (v := .tuple #[.agg #[.int .u64 0, .slice none 0 0], .slice none 0 0, .bool false]) (by simp [results, Try.results51, go_sem, c0, c1]; try rfl) rfl ?_
      exact ⟨_, _, _, rfl, ⟨fun _ => ⟨⟨rfl, rfl⟩, .inr (.inl (by have := HQ.out; have := HM.out; omega))⟩, fun h => by cases h⟩, hB5⟩
    · have hmq : m ≤ q := by omega
      obtain ⟨V2, hs2, hV2, _⟩ := slice_bytes_toK (P := Try.prog) w0 byteT elemB hr1 (by rw [hlr]; exact hd1) hd2 .u64 m (by rw [hlr]; exact hmq) (m : Int) rfl
      obtain ⟨V3, hs3, hV3, _⟩ := slice_bytes_fromK (P := Try.prog) w0 byteT elemB hr1 (by rw [hlr]; exact hd1) hd2 .u64 m (by rw [hlr]; exact hmq) (m : Int) rfl
      rw [hlr] at hs2 hs3
      have HV3 := Lib.hid hV3
      have hG := sget_acc V2 ((b.drop 12).take m) (w3.drewN n4) ((hV2.below hB).below (below_drewN hB3 n4)) (by rw [List.length_take]; omega)
      clear hV2 hV3 hr1 hd1 hd2 hlt
      go_wp2_with fail
      refine hG.mono ?_
      clear hG
      rintro e w5 ⟨x, er, rfl, hG, hb5⟩
      have hC5 : Blk w5 w.heap.size 49 #[.int .u64 0, .slice none 0 0] := (hC3.drewN n4).below hb5 hC3.lt
      have hB5 := (below_drewN hB3 n4).trans (hb5.mono hB3.size)
      have c0 := hC5.cell 0
      have c1 := hC5.cell 1
      have f0 := hC5.frozen 0
      have f1 := hC5.frozen 1
      simp at c0 c1
      cases hg : getS nextMost ((b.drop 12).take m) with
      | error p =>
        obtain ⟨rfl, hSp⟩ := hG.no p hg
        obtain ⟨ge, rfl, _⟩ := hSp.is
        have HG := Lib.hid hg
        clear hg hG hs1 hs2 hs3
        go_wp2_with fail
        obtain ⟨c0, c1, hB6, _⟩ := spot2 hC5 hB5 hB5.size (Nat.le_refl _) (.int .u64 0) (.slice none 0 0)
        generalize ((w5.setCell ⟨w.heap.size, 0, none⟩ (.int .u64 0)).setCell ⟨w.heap.size, 1, none⟩ (.slice none 0 0)) = w6 at *
        refine bodyPost_ret (v := .tuple #[.agg #[.int .u64 0, .slice none 0 0], .slice none 0 0, .bool false]) (by simp [results, Try.results51, go_sem, c0, c1]; try rfl) rfl ?_
        refine ⟨_, _, _, rfl, ⟨fun _ => ⟨⟨rfl, rfl⟩, .inr (.inr fun sp hok e => ?_)⟩, fun h => by cases h⟩, hB6⟩
        rw [← HM.out] at e
        have h1 := get_enc nextMost (by decide) sp hok.1 hok.2.1 hok.2.2
        rw [e, HG.out] at h1
        cases h1
      | ok sp =>
        obtain ⟨rfl, hA⟩ := hG.yes sp hg
        have HG := Lib.hid hg
        obtain ⟨Ax, cx, hvx, _⟩ := hA.ss.form
        subst hvx
        clear hg hG
        go_wp2_with fail
        refine wp_region_mix [(0, false), (1, false), (2, false), (3, false), (4, false), (5, false), (6, true), (7, true), (8, true)] (fun _ => True) (by kernel_rfl) (by kernel_rfl) (by kernel_rfl) rfl trivial ?_
        repeat
          (refine mix_read (o := ⟨_, _, _, _, _, _⟩) (v := ?_) rfl (by rfl) (fun w' hS => ?_) ?_
           rotate_left
           go_simp
           with_reducible rfl
           try simp only [Act.put, List.setIfInBounds_toArray, List.set_cons_zero, List.set_cons_succ])
        refine mix_step (o := ⟨_, _, _, _, _, _⟩) rfl (fun K hK => ?_)
        go_simp
        refine hK.out _ _ trivial ?_
        clear hK K
        try simp only [Act.put, List.setIfInBounds_toArray, List.set_cons_zero, List.set_cons_succ]
        repeat
          (refine mix_step (o := ⟨_, _, _, _, _, _⟩) rfl (fun K hK => ?_)
           go_simp
           refine hK.out _ _ trivial ?_
           clear hK K
           try simp only [Act.put, List.setIfInBounds_toArray, List.set_cons_zero, List.set_cons_succ])
        refine mix_done ?_
        obtain ⟨c0, c1, hB6, hgr⟩ := spot2 hC5 hB5 hB5.size (Nat.le_refl _) (.int .u64 (i : Int)) (.slice Ax sp.length cx)
        have hsz : w.heap.size < (w3.drewN n4).heap.size + 1 := Nat.lt_of_lt_of_le hC3.lt (Nat.le_succ _)
        have hA6 := hA.grown hgr hsz
        have hB7 : Below w.heap.size w ((w5.setCell ⟨w.heap.size, 0, none⟩ (.int .u64 (i : Int))).setCell ⟨w.heap.size, 1, none⟩ (.slice Ax sp.length cx)).drew := hB6.drew
        have hA7 : Acc ((w5.setCell ⟨w.heap.size, 0, none⟩ (.int .u64 (i : Int))).setCell ⟨w.heap.size, 1, none⟩ (.slice Ax sp.length cx)).drew ((w3.drewN n4).heap.size + 1) (.slice Ax sp.length cx) sp := hA6.drewN 1
        have d0 : ((w5.setCell ⟨w.heap.size, 0, none⟩ (.int .u64 (i : Int))).setCell ⟨w.heap.size, 1, none⟩ (.slice Ax sp.length cx)).drew.cell? ⟨w.heap.size, 0, none⟩ = _ := c0
        have d1 : ((w5.setCell ⟨w.heap.size, 0, none⟩ (.int .u64 (i : Int))).setCell ⟨w.heap.size, 1, none⟩ (.slice Ax sp.length cx)).drew.cell? ⟨w.heap.size, 1, none⟩ = _ := c1
        generalize ((w5.setCell ⟨w.heap.size, 0, none⟩ (.int .u64 (i : Int))).setCell ⟨w.heap.size, 1, none⟩ (.slice Ax sp.length cx)).drew = w6 at *
        clear hB6 hA6 hs1 hs2 hs3 hA hW3 hC3 hC5 hB5 hb5 hB3 hgr f0 f1 c0 c1
        go_wp2_with fail
        refine bodyPost_ret (v := .tuple #[.agg #[.int .u64 (i : Int), .slice Ax sp.length cx], V3, .bool true]) (by simp [results, Try.results51, go_sem, d0, d1]; try rfl) rfl ?_
        have hmq' : 12 + m ≤ b.length := by have := HQ.out; omega
        obtain ⟨e1, e2, e3⟩ := enc_get nextMost _ sp HG.out
        refine ⟨_, _, _, rfl, ⟨(fun h => by cases h), fun _ => ⟨_, sp, by rw [HI.out], hA7.lower (by omega), by rw [← HM.out]; exact hmq', ⟨e1, fun s hs => ?_, e2⟩, by rw [← HM.out]; exact e3, ?_⟩⟩, hB7⟩
        · obtain ⟨k, hk⟩ := List.mem_iff_getElem?.1 hs
          exact hA7.ss.ok hk
        · have := HV3.out
          rw [List.drop_drop] at this
          rw [← HM.out]
          exact this

end Go.Proofs.Ytcpbikogccdknaa

namespace Go.Proofs.Ytcpbikogccdknaa
open Go.RowKit Go.Maps
set_option maxRecDepth 100000

theorem Acc.ok {w : World} {base : Nat} {v : Value} {l : List Sn} (h : Acc w base v l) : ∀ s ∈ l, s.ok := fun s hs => by
  obtain ⟨k, hk⟩ := List.mem_iff_getElem?.1 hs
  exact h.ss.ok hk

/-- what read tells -/
structure ReadP (w : World) (b : List UInt8) (x : Value) (ok : Bool) : Prop where
  no : ok = false → ∀ m, ValP m → pgBody m ≠ b
  yes : ok = true → ∃ r, Ts w x r ∧ pgBody r = b ∧ ∀ m, ValP m → pgBody m = b → m = r

theorem pgBody_ge (m : List Tn) : 2 ≤ (pgBody m).length := by rw [pgBody_length]; omega

set_option maxHeartbeats 3200000 in
theorem pread_any (v : Value) (b : List UInt8) (w : World) (h : Bs w v b) (hl : b.length ≤ 140737488355328) :
    Calls Try.prog 30 #[v] w fun e w' => ∃ x ok, e = .returned (.tuple #[x, .bool ok]) ∧ ReadP w' b x ok ∧ Below w.heap.size w w' := by
  have HV := Lib.hid h
  obtain ⟨A, c, hv, hc1, hc2, hr⟩ := h
  subst hv
  by_cases h2 : b.length < 2
  · have hbad : wordOk b 0 false 2 = false := by simp [wordOk, isW]; omega
    have HBAD := Lib.hid hbad
    have HNO : Hid (∀ m, ValP m → pgBody m ≠ b) := Lib.hid fun m _ e => by have := pgBody_ge m; rw [e] at this; omega
    clear hbad hr
    go_enter Try.func30, Try.ntmps30
    go_wp2_with fail
    refine (read_any _ b _ HV.out).mono ?_
    rintro e w1 ⟨rfl, hW1, hb1⟩
    go_wp2_with fail
    refine (word_no _ _ b _ _ _ _ hW1 HBAD.out).mono ?_
    rintro e w2 ⟨rfl, hW2, hg2⟩
    have hB2 := hb1.grown hg2 hb1.size (by intro k hk; injection hk; omega)
    go_wp2_with fail
    refine (bad_true _ _ _ _ _ hW2).mono ?_
    rintro e w3 ⟨rfl, rfl⟩
    go_wp2_with fail
    go_ret2
    exact ⟨_, _, rfl, ⟨fun _ => HNO.out, (fun h => by cases h)⟩, hB2⟩
  · obtain ⟨n, hn⟩ : ∃ n, n = num (b.take 2) := ⟨_, rfl⟩
    have hn2 : num ((b.drop 0).take (Int.toNat 2)) = n := by rw [hn]; rfl
    have hok : wordOk b 0 false 2 = true := by simp [wordOk, isW]; omega
    have hnl : n < 65536 := by
      have h1 := num_lt (b.take 2)
      have h3 : (b.take 2).length ≤ 2 := by rw [List.length_take]; omega
      have hp := Nat.pow_le_pow_right (show 0 < 256 by omega) h3
      have : (256 : Nat) ^ 2 = 65536 := by decide
      omega
    obtain ⟨V1, hs1, hV1, _⟩ := slice_bytes_fromK (P := Try.prog) w byteT elemB hr hc1 hc2 .i64 2 (by omega) 2 rfl
    have HN := Lib.hid hn
    have HN2 := Lib.hid hn2
    have HOK := Lib.hid hok
    have HV1 := Lib.hid hV1
    clear hn hn2 hok hr hV1
    go_enter Try.func30, Try.ntmps30
    go_wp2_with fail
    refine (read_any _ b _ HV.out).mono ?_
    rintro e w1 ⟨rfl, hW1, hb1⟩
    go_wp2_with fail
    refine (word_yes _ _ b _ _ _ _ hW1 HOK.out).mono ?_
    rintro e w2 ⟨rfl, hW2, hg2⟩
    rw [HN2.out]
    have hB2 := hb1.grown hg2 hb1.size (by intro k hk; injection hk; omega)
    go_wp2_with fail
    refine (bad_false _ _ _ _ _ hW2).mono ?_
    rintro e w3 ⟨rfl, rfl⟩
    by_cases h64 : 64 < n
    · have HNO : Hid (∀ m, ValP m → pgBody m ≠ b) := Lib.hid fun m hv e => by
        have := (pg_first (by have := hv.most; omega) e).2.1
        have h3 := hv.most
        have h4 := HN.out
        omega
      clear hs1 hb1 hW1 hW2 hg2
      go_wp2_with fail
      go_ret2
      exact ⟨_, _, rfl, ⟨fun _ => HNO.out, (fun h => by cases h)⟩, hB2⟩
    · have hn64 : n ≤ 64 := by omega
      clear h64 hb1 hW1 hW2 hg2 hnl
      go_wp2_with fail
      go_loopw [6, 7, 25] (fun rv lv i wr => ∃ (k q : Nat) (o : List Tn), k ≤ n ∧ i = .int .u64 (k : Int) ∧ Hid (PgAt b n k q o) ∧ OwnK 2 wr w.heap.size 49 (fun _ => False) TnC lv o ∧ Hid (Bs w rv (b.drop q)) ∧ Below w.heap.size w wr) (fun _ _ i _ => n - (intOf i).toNat)
      case atStart =>
        refine ⟨0, 2, [], Nat.zero_le _, rfl, Lib.hid ?_, OwnK.nil _ _ _ _ _ _, HV1, hB2⟩
        rw [HN.out]
        exact PgAt.start (by omega)
      case round =>
        obtain ⟨k, q, o, hk, rfl, HP, hO, HR, hB⟩ := hrel
        by_cases hlt : k < n
        · have hol : o.length = k := HP.out.len
          go_wp2_with fail
          refine (pnext_any _ (b.drop q) w _ hB HR.out (by rw [List.length_drop]; omega)).mono ?_
          rintro e w4 ⟨x, r, ok, rfl, hN, hb4⟩
          have hB4 := hB.trans (hb4.mono hB.size)
          cases ok with
          | false =>
            obtain ⟨⟨rfl, rfl⟩, hbad⟩ := hN.no rfl
            have HNO : Hid (∀ m, ValP m → pgBody m ≠ b) := Lib.hid (HP.out.none hlt (by
              have h1 : (b.drop q).length = b.length - q := List.length_drop ..
              have h2 : nxMany (b.drop q) = num ((b.drop (q + 8)).take 4) := by rw [nxMany, List.drop_drop]
              rw [← h2]
              rw [List.drop_drop] at hbad
              have hle := HP.out.le
              rcases hbad with h | h | h
              · exact .inl (by omega)
              · exact .inr (.inl (by omega))
              · exact .inr (.inr h)))
            clear hbad hN hO
            go_wp2_with fail
            go_ret2
            exact ⟨_, _, rfl, ⟨fun _ => HNO.out, (fun h => by cases h)⟩, hB4.alloc hB4.size _⟩
          | true =>
            obtain ⟨d, sp, rfl, hA, hm, hok, he, hR⟩ := hN.yes rfl
            have hil := nxId_lt (b.drop q)
            obtain ⟨m, hmm⟩ : ∃ m, m = nxMany (b.drop q) := ⟨_, rfl⟩
            have hm2 : num ((b.drop (q + 8)).take 4) = m := by rw [hmm, nxMany, List.drop_drop]
            rw [← hmm] at hm he hR
            rw [List.drop_drop] at he hR
            have hlq : (b.drop q).length = b.length - q := List.length_drop ..
            have hqle := HP.out.le
            have HG := Lib.hid (HP.out.go encS_inj hlt (sp := sp) (many := m) (by omega) hm2 he hok)
            obtain ⟨i, hi⟩ : ∃ i, i = num ((b.drop q).take 8) := ⟨_, rfl⟩
            rw [← hi] at HG hil ⊢
            have HR2 : Hid (Bs w r (b.drop (q + 12 + m))) := Lib.hid (by rw [Nat.add_assoc]; exact hR)
            obtain ⟨Ad, cd, hdv, _⟩ := hA.ss.form
            have hKd : Keep (fun g => False ∨ u7.ownBlock = some g) (fun u => TnC u ⟨(i : Int), sp⟩ [.int .u64 (i : Int), d]) w4 := fun u ha =>
              ⟨⟨by show (0 : Int) ≤ (i : Int); omega, by show (i : Int) ≤ _; omega⟩, d, rfl, (hA.keep (bad := fun g => False ∨ u7.ownBlock = some g) fun g hg => by
                rcases hg with hg | hg
                · cases hg
                · exact (hO.lt g hg).2) u ha⟩
            have ha1 : Below w4.heap.size w4 ((w4.alloc (.cells #[.int .u64 (i : Int), d] 49)).alloc (.cells #[.int .u64 (i : Int), d] 49)) := ((Below.refl _ _).alloc (Nat.le_refl _) _).alloc (by simp) _
            have hO6 := (hO.below hb4).below ha1
            have hK6 := hKd.below ha1
            have hB6 := hB4.trans (ha1.mono hB4.size)
            have hLv : Lv 2 ((w4.alloc (.cells #[.int .u64 (i : Int), d] 49)).alloc (.cells #[.int .u64 (i : Int), d] 49)) (.slice (some ⟨w4.heap.size + 1, 0, none⟩) 1 1) [[.int .u64 (i : Int), d]] := by
              have := Lv.lit1 (w4.alloc (.cells #[.int .u64 (i : Int), d] 49)) [.int .u64 (i : Int), d] 49
              simpa using this
            have HO6 := Lib.hid hO6
            have HK6 := Lib.hid hK6
            have HLV := Lib.hid hLv
            have HB6 := Lib.hid hB6
            have HB4 := Lib.hid hB4
            have HLT := Lib.hid hO.lt
            clear hi hmm hm2 he hR hok hqle hlq hm hO hO6 hK6 hLv hB6 hB4 hKd hA ha1 hN HP HR hb4 hB hB2
            subst hdv
            go_wp2_with (at_builtin; refine wpList_append_K trT rfl _ _ rfl rfl HO6.out rfl HLV.out HK6.out (by simp [Value.oneCell']) (by omega) (by decide) HB6.out.size ?_)
            intro v7 w7 hO7 hg7 hv7
            go_wp2_with fail
            refine ⟨⟨k + 1, q + 12 + m, o ++ [⟨(i : Int), sp⟩], by omega, by go_num, HG, hO7, HR2, HB6.out.grown hg7 HB6.out.size fun g hg => (HLT.out g hg).1⟩, by simp [intOf]; omega⟩
        · have hkn : k = n := by omega
          subst hkn
          have HT := Lib.hid hO.ts
          have HD := Lib.hid HP.out.done
          have hle := HP.out.le
          have hrf := HR.out
          obtain ⟨Ar, cr, hrv, _⟩ := hrf
          subst hrv
          have hlq : (b.drop q).length = b.length - q := List.length_drop ..
          clear hO HP HR
          by_cases hq : q = b.length
          · have h0 : (b.drop q).length = 0 := by omega
            rw [h0]
            go_wp2_with fail
            go_ret2
            exact ⟨_, _, rfl, ⟨(fun h => by cases h), fun _ => ⟨o, HT.out, HD.out.1 hq, fun m hv he => (HD.out.2 m hv he).1⟩⟩, hB⟩
          · have h0 : ((b.drop q).length : Int) ≠ 0 := by omega
            go_wp2_with fail
            go_ret2
            refine ⟨_, _, rfl, ⟨fun _ m hv he => hq (HD.out.2 m hv he).2, fun h => ?_⟩, hB⟩
            simp at h
            omega

theorem Ts.valP {w : World} {v : Value} {l : List Tn} (h : Ts w v l) (hp : pgB l = true) : ValP l := by
  obtain ⟨h1, h2⟩ := pgB_iff.1 hp
  obtain ⟨xs, _, h4⟩ := h
  have key : ∀ t ∈ l, (0 ≤ t.id ∧ t.id ≤ 18446744073709551615) ∧ ∀ s ∈ t.sp, s.ok := fun t ht => by
    obtain ⟨i, hi⟩ := List.mem_iff_getElem?.1 ht
    obtain ⟨x, _, hid, d, _, hd⟩ := h4.right hi
    refine ⟨hid, fun s hs => ?_⟩
    obtain ⟨k, hk⟩ := List.mem_iff_getElem?.1 hs
    exact hd.ok hk
  exact ⟨h2, h1, fun t ht => (key t ht).1, fun t ht => (key t ht).2⟩
theorem ValP.pgB {l : List Tn} (h : ValP l) : pgB l = true := pgB_iff.2 ⟨h.most, h.is⟩

/-- what Get tells -/
structure GetP (w : World) (x : List UInt8) (l e : Value) : Prop where
  short : x.length < 4 → l = .slice none 0 0 ∧ e = code 2
  sum : 4 ≤ x.length → tailOf x ≠ crcOf (bodyOf x) → l = .slice none 0 0 ∧ e = code 7
  form : 4 ≤ x.length → tailOf x = crcOf (bodyOf x) → (∀ m, ValP m → pgBody m ≠ bodyOf x) → l = .slice none 0 0 ∧ e = code 2
  yes : ∀ m, 4 ≤ x.length → tailOf x = crcOf (bodyOf x) → ValP m → pgBody m = bodyOf x → e = .nilIface ∧ Ts w l m

set_option maxHeartbeats 1600000 in
theorem pget_any (v : Value) (x : List UInt8) (w : World) (h : Bs w v x) (hl : x.length ≤ 140737488355328) :
    Calls Try.prog 12 #[v] w fun e w' => ∃ l er, e = .returned (.tuple #[l, er]) ∧ GetP w' x l er ∧ Below w.heap.size w w' := by
  by_cases h4 : x.length < 4
  · go_enter Try.func12, Try.ntmps12
    go_wp2_with fail
    refine (open_short x v _ h4 h).mono ?_
    rintro e w1 ⟨rfl, rfl⟩
    go_wp2_with fail
    go_ret2
    exact ⟨_, _, rfl, ⟨fun _ => ⟨rfl, rfl⟩, fun h => absurd h (by omega), fun h => absurd h (by omega), fun _ h => absurd h (by omega)⟩, Below.refl _ _⟩
  · have hx4 : 4 ≤ x.length := by omega
    have hbl : Hid ((bodyOf x).length ≤ 140737488355328) := Lib.hid (by rw [bodyOf_length]; omega)
    go_enter Try.func12, Try.ntmps12
    go_wp2_with fail
    refine (open_long x v _ hx4 hl h).mono ?_
    rintro e w1 ⟨b, f, rfl, hO, hb1⟩
    by_cases heq : tailOf x = crcOf (bodyOf x)
    · obtain ⟨rfl, hown⟩ := hO.yes heq
      have HE := Lib.hid heq
      obtain ⟨Ab, cb, hbv, _⟩ := hown.form
      subst hbv
      clear hO heq
      go_wp2_with fail
      refine (pread_any _ (bodyOf x) _ hown.bs hbl.out).mono ?_
      rintro e w2 ⟨l, ok, rfl, hR, hb2⟩
      have hB2 := hb1.trans (hb2.mono hb1.size)
      cases ok with
      | false =>
        have HN := Lib.hid (hR.no rfl)
        clear hR
        go_wp2_with fail
        go_ret2
        exact ⟨_, _, rfl, ⟨fun h => absurd h h4, fun _ h => absurd HE.out h, fun _ _ _ => ⟨rfl, rfl⟩, fun m _ _ hv he => absurd he (HN.out m hv)⟩, hB2⟩
      | true =>
        obtain ⟨r, hT, hr1, hr2⟩ := hR.yes rfl
        have HT := Lib.hid hT
        have HR1 := Lib.hid hr1
        have HR2 := Lib.hid hr2
        obtain ⟨Al, cl, hlv, _⟩ := hT.form
        subst hlv
        clear hR hT hr1 hr2
        go_wp2_with fail
        refine (isPage_any _ r _ HT.out).mono ?_
        rintro e w3 ⟨rfl, hb3⟩
        have hB3 := hB2.trans (hb3.mono hB2.size)
        cases hp : pgB r with
        | false =>
          have HP := Lib.hid hp
          clear hp
          go_wp2_with fail
          go_ret2
          refine ⟨_, _, rfl, ⟨fun h => absurd h h4, fun _ h => absurd HE.out h, fun _ _ _ => ⟨rfl, rfl⟩, fun m _ _ hv he => ?_⟩, hB3⟩
          have e := HR2.out m hv he
          subst e
          have := hv.pgB
          rw [HP.out] at this
          cases this
        | true =>
          have HV := Lib.hid (HT.out.valP hp)
          clear hp
          go_wp2_with fail
          go_ret2
          refine ⟨_, _, rfl, ⟨fun h => absurd h h4, fun _ h => absurd HE.out h, fun _ _ hn => absurd HR1.out (hn r HV.out), fun m _ _ hv he => ?_⟩, hB3⟩
          have e := HR2.out m hv he
          subst e
          exact ⟨rfl, HT.out.below hb3⟩
    · obtain ⟨rfl, rfl⟩ := hO.no heq
      have HE := Lib.hid heq
      clear hO heq
      go_wp2_with fail
      go_ret2
      exact ⟨_, _, rfl, ⟨fun h => absurd h h4, fun _ _ => ⟨rfl, rfl⟩, fun _ h => absurd h HE.out, fun _ _ h => absurd h HE.out⟩, hb1⟩

end Go.Proofs.Ytcpbikogccdknaa

namespace Go.Proofs.Ytcpbikogccdknaa
open Go.RowKit Go.Maps
set_option maxRecDepth 100000

theorem pfew {l : List Tn} {n : Nat} (h : fewT l (n : Int) = true) : l.length ≤ 100 ∧ (flatT l).length ≤ n ∧ ∀ s ∈ flatT l, s.data.length ≤ 200 := by
  simp only [fewT, fewB, Bool.and_eq_true, decide_eq_true_iff, List.all_eq_true] at h
  refine ⟨by omega, by omega, fun s hs => ?_⟩
  simp only [flatT, List.mem_flatMap] at hs
  obtain ⟨t, ht, hs⟩ := hs
  exact (h.1 t ht).1 s hs

theorem isT_nil : IsT [] := ⟨fun k t h => by simp at h, fun k t u h => by simp at h⟩
theorem pgOf_nil : pgOf [] = [0, 0] ++ bet (crcOf (pgBody [])) 4 := rfl
theorem pgOf_nil_length : (pgOf []).length = 6 := by rw [pgOf_length]; rfl

set_option maxHeartbeats 800000 in
theorem up5_any (w : World) : Calls Try.prog 7 #[] w fun e w' => e = .returned (.bool true) ∧ Below w.heap.size w w' := by
  have eqc := eqCode
  go_enter Try.func7, Try.ntmps7
  go_wp2_with fail
  refine (pput_any _ [] _ (Ts.nil _)).mono ?_
  rintro e w1 ⟨x, er, rfl, hP, hb1⟩
  obtain ⟨rfl, hown⟩ := hP.yes (pgB_iff.2 ⟨by simp, isT_nil⟩)
  clear hP
  go_wp2_with fail
  refine (pget_any _ [] _ (Bs.nil _) (by simp)).mono ?_
  rintro e w2 ⟨l, er, rfl, hG, hb2⟩
  obtain ⟨rfl, rfl⟩ := hG.short (by simp)
  have hB2 := hb1.trans (hb2.mono hb1.size)
  have ho2 := hown.below hb2
  clear hG hown
  rcases ho2.2 with ⟨_, h0⟩ | ⟨g, c, cur, rfl, _, _, hc1, hc2, _⟩
  · rw [pgOf_nil_length] at h0
    cases h0
  have hr := ho2.rd
  rw [pgOf_nil_length] at hc1 ⊢
  have r0 := hr.cells 0 (.int .u8 0) (by rw [pgOf_nil]; rfl)
  have r1 := hr.cells 1 (.int .u8 0) (by rw [pgOf_nil]; rfl)
  rw [Addr.add_lit] at r0 r1
  simp only [maxLen] at hc2
  clear hr hb1 hb2 ho2
  go_wp2_with fail
  go_ret
  exact ⟨rfl, hB2⟩

end Go.Proofs.Ytcpbikogccdknaa
