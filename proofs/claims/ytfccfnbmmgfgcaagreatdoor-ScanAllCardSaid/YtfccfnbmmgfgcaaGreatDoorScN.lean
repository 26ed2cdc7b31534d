/-
  THE PROGRAM's scan.Each over its scanner: the sequence keeps ScanK. Conditions: what each says.
  THE PROGRAM's SCANNER IN MEMORY; CONTRACTS of read.Meta of no store, and of nextPage, Done, Open, Next; it keeps ScanN, and with its sequence ScanK. Conditions: what each says; of the library's tables: Ld.
  CONTRACT of the program's Next. Conditions: what it says; of the library's tables: Ld.
-/
import Derived.Test.YtfccfnbmmgfgcaaGreatDoorScA
import Derived.OwnWalkIn
import Derived.TacticsInMore
import Derived.WalkKit
import Derived.RangeFuncCalls
namespace Go.Proofs.YtfccfnbmmgfgcaaGreatDoor
open Go.RowKit
set_option maxRecDepth 100000

def PSqt (w : World) (F : Nat → Prop) (g : Nat) (m : Sm) (fv : Value) (id : Nat) : Prop :=
  ∃ (Fs : Nat → Prop) (b : Nat), PSt w Fs g m ∧ fv = .func (.func 33) #[] #[.pointer (some ⟨b, 0, none⟩), .pointer (some ⟨b + 1, 0, none⟩)] ∧ Blk w b 28 #[.pointer (some ⟨g, 0, none⟩)] ∧ Blk w (b + 1) 22 #[.int .u64 (id : Int)] ∧ (∀ q, Fs q → F q) ∧ F b ∧ F (b + 1) ∧ (∀ q, F q → q < w.heap.size)

theorem seqT_thing (g : Nat) (m : Sm) (fv : Value) (id : Nat) : Thing fun w F => PSqt w F g m fv id := by
  refine ⟨fun h ha => ?_, fun h => ?_⟩
  · obtain ⟨Fs, b, h1, h2, h3, h4, h5, h6, h7, h8⟩ := h
    exact ⟨Fs, b, h1.keep (ha.mono fun q _ hq hF => hq (h5 q hF)), h2, (ha.block _ h3.lt fun hn => hn h6).trans h3, (ha.block _ h4.lt fun hn => hn h7).trans h4, h5, h6, h7, fun q hq => Nat.lt_of_lt_of_le (h8 q hq) ha.size⟩
  · obtain ⟨_, _, _, _, _, _, _, _, _, h8⟩ := h
    exact h8

set_option maxHeartbeats 1600000 in
theorem each_t {w : World} {F : Nat → Prop} {g : Nat} {m : Sm} (id : Nat) (h : PSt w F g m) :
    Calls Tryz.prog 15 #[.pointer (some ⟨g, 0, none⟩), .int .u64 (id : Int)] w fun e w' => ∃ (fv : Value) (F' : Nat → Prop), e = .returned fv ∧ PSqt w' F' g m fv id ∧ Goes w F w' F' := by
  have hmf : ∀ (fn : Fn) (first cap : Array Value) (w : World), (Instr.makeFunc fn first cap).run Tryz.prog w = .ok (.func fn first cap) w := fun _ _ _ _ => rfl
  have H := Lib.hid h
  clear h
  go_enter Tryz.func15, Tryz.ntmps15
  go_wp2_with fail
  have hb : Below w.heap.size w ((w.alloc (.cells #[.pointer (some ⟨g, 0, none⟩)] 28)).alloc (.cells #[.int .u64 (id : Int)] 22)) := ((Below.refl _ _).alloc (Nat.le_refl _) _).alloc (by simp) _
  have h1 : Blk ((w.alloc (.cells #[.pointer (some ⟨g, 0, none⟩)] 28)).alloc (.cells #[.int .u64 (id : Int)] 22)) w.heap.size 28 #[.pointer (some ⟨g, 0, none⟩)] := (Blk.new w _ _).alloc _
  have h2 : Blk ((w.alloc (.cells #[.pointer (some ⟨g, 0, none⟩)] 28)).alloc (.cells #[.int .u64 (id : Int)] 22)) (w.heap.size + 1) 22 #[.int .u64 (id : Int)] := by
    have := Blk.new (w.alloc (.cells #[.pointer (some ⟨g, 0, none⟩)] 28)) 22 #[.int .u64 (id : Int)]
    simpa using this
  go_ret
  refine ⟨_, fun q => F q ∨ q = w.heap.size ∨ q = w.heap.size + 1, rfl, ⟨F, w.heap.size, H.out.below hb, rfl, h1, h2, fun q hq => .inl hq, .inr (.inl rfl), .inr (.inr rfl), fun q hq => ?_⟩, ⟨Apt.of_below hb, fun q hq => ?_⟩⟩
  · rcases hq with hq | hq | hq
    · exact Nat.lt_of_lt_of_le (H.out.lt q hq) hb.size
    · rw [hq]
      exact h1.lt
    · rw [hq]
      exact h2.lt
  · rcases hq with hq | hq | hq
    · exact .inl hq
    · exact .inr (by omega)
    · exact .inr (by omega)

theorem Goes.wider {w w' : World} {Fs F F2 : Nat → Prop} (h : Goes w Fs w' F2) (hs : ∀ q, Fs q → F q) : Goes w F w' (fun q => F q ∨ F2 q) :=
  ⟨h.apt.mono fun q _ hq => hs q hq, fun q hq => hq.elim .inl fun h2 => (h.new q h2).elim (fun h3 => .inl (hs q h3)) .inr⟩

set_option maxHeartbeats 6400000 in
theorem seq_t {PSc : World → (Nat → Prop) → Nat → Nat → List Tn → Int → Sm → Bool → Prop} (hN : ScanN PSc) {w : World} {F : Nat → Prop} {g : Nat} {m : Sm} {fv : Value} {id : Nat} (h : PSqt w F g m fv id) : ∃ (gf : Nat) (lb : Array Value), fv = .func (.func gf) #[] lb ∧ (∀ args u, (callFunc gf args).run Tryz.prog u = .ok (.enter gf args) u) ∧
    ∀ (N l : Nat) (J Jx : List Tn → (Nat → Prop) → World → Prop), m.fine N → N ≤ 10000 → id < 18446744073709551616 →
      (∀ pre F W F' W', J pre F W → Goes W F W' F' → (∀ q, F' q → q < W'.heap.size) → J pre F' W') → (∀ pre F W F' W', Jx pre F W → Goes W F W' F' → (∀ q, F' q → q < W'.heap.size) → Jx pre F' W') → (∀ pre F W, J pre F W → Keep F Ld W) →
      (∀ pre t d F W, J pre F W → (tlR m id).1.2[pre.length]? = some t → Keep (fun q => ¬ F q) (fun u => Ss u d t.sp) W → (0 ≤ t.id ∧ t.id ≤ 18446744073709551615) → YieldAt Fence.wide 1 Tryz.prog l #[.int .u64 t.id, d] W fun e W' => Apt (fun q => ¬ F q) W W' ∧ ((e = .returned (.bool true) ∧ J (pre ++ [t]) F W') ∨ (e = .returned (.bool false) ∧ Jx (pre ++ [t]) F W'))) →
      J [] F w → Calls Tryz.prog gf (#[.func (.yield l) #[] #[]] ++ lb) w fun e W' => (∃ v, e = .returned v) ∧ ∃ F', J (tlR m id).1.2 F' W' ∨ ∃ pre, pre <+: (tlR m id).1.2 ∧ Jx pre F' W' := by
  obtain ⟨Fs, b, hP, rfl, hb1, hb2, h5, h6, h7, h8⟩ := h
  refine ⟨_, _, rfl, fun args u => rfl, fun N l J Jx hm hN2 hid hJ _ hJL hY h0 => ?_⟩
  have k0 := hb1.cell 0
  have k1 := hb2.cell 0
  simp at k0 k1
  have hTN : (meR m id).1 ≠ 0 → (tlR m id).1.2 = [] := fun h => by rw [tlR, if_pos h]
  have hLd := (hJL _ _ _ h0).less (bad' := Fs) fun q hq => .inl (h5 q hq)
  have hOn := fun hz => hN.open_no id hP hm hN2 hid hLd hz
  have hOk := fun hz => hN.open_ok id hP hm hN2 hid hLd hz
  have HJ := Lib.hid hJ
  have HJL := Lib.hid hJL
  have HY := Lib.hid hY
  have H0 := Lib.hid h0
  have H5 := Lib.hid h5
  have H8 := Lib.hid h8
  obtain ⟨L, hL⟩ : ∃ z, z = (tlR m id).1.2 := ⟨_, rfl⟩
  obtain ⟨cd, hcd⟩ : ∃ z, z = (tlR m id).1.1 := ⟨_, rfl⟩
  rw [← hL] at HY hTN hOk ⊢
  rw [← hcd] at hOk
  generalize (tlR m id).2 = mf at hOk
  have HTN := Lib.hid hTN
  clear hJ hJL hY h0 h5 h6 h7 h8 hb1 hb2 hP hLd hL hcd hTN hm
  show Calls Tryz.prog 33 #[.func (.yield l) #[] #[], .pointer (some ⟨b, 0, none⟩), .pointer (some ⟨b + 1, 0, none⟩)] w _
  by_cases hz : (meR m id).1 = 0
  rotate_left
  · have hO := hOn hz
    have HL : Hid (L = []) := Lib.hid (HTN.out hz)
    have hce := errV_code hz
    rw [hce] at hO
    clear hOn hOk HTN hce
    go_enter Tryz.func33, Tryz.ntmps33
    go_wp2_with fail
    refine hO.mono ?_
    rintro e w2 ⟨rfl, F2, hP2, hG2⟩
    have hG3 := hG2.wider H5.out
    have HJ2 := Lib.hid (HJ.out _ _ _ _ _ H0.out hG3 fun q hq => hq.elim (fun h => Nat.lt_of_lt_of_le (H8.out q h) hG2.apt.size) (hP2.lt q))
    clear hO hP2 hG2 hG3
    go_wp2_with fail
    refine bodyPost_ret (results_none rfl _ _ _) rfl ?_
    exact ⟨⟨_, rfl⟩, _, .inl (by rw [HL.out]; exact HJ2.out)⟩
  · have hO := hOk hz
    clear hOn hOk HTN
    go_enter Tryz.func33, Tryz.ntmps33
    go_wp2_with fail
    refine hO.mono ?_
    rintro e w2 ⟨c, F2, rfl, hC2, hG2⟩
    have hG3 := hG2.wider H5.out
    have hl2 := (hN.thing _ _ _ _ _ _).lt hC2
    have HJ2 := Lib.hid (HJ.out _ _ _ _ _ H0.out hG3 fun q hq => hq.elim (fun h => Nat.lt_of_lt_of_le (H8.out q h) hG2.apt.size) (hl2 q))
    have HC2 := Lib.hid hC2
    have HB2 : Hid (∀ q, F q ∨ F2 q → q < w2.heap.size) := Lib.hid fun q hq => hq.elim (fun h => Nat.lt_of_lt_of_le (H8.out q h) hG2.apt.size) (hl2 q)
    clear hO hC2 hG2 hG3 hl2
    go_wp2_with fail
    go_loopg [6] L.length (fun gk _ wr => ∃ (pre rest : List Tn) (Fc Fx : Nat → Prop), rest.length = gk ∧ Hid (L = pre ++ rest ∧ PSc wr Fc g c rest cd mf false ∧ J pre Fx wr ∧ (∀ q, Fc q → Fx q) ∧ ∀ q, Fx q → q < wr.heap.size))
    case atStart => exact ⟨[], L, F2, _, rfl, Lib.hid ⟨rfl, HC2.out, HJ2.out, fun q hq => .inr hq, HB2.out⟩⟩
    case round =>
      obtain ⟨pre, rest, Fc, Fx, hgk, HW⟩ := hrel
      clear HJ2 HC2 HB2
      have hLd := (HJL.out _ _ _ HW.out.2.2.1).less (bad' := Fc) fun q hq => .inl (HW.out.2.2.2.1 q hq)
      refine (wpIn_wide (n := 2)).1 ?_
      have hsem := @Oper.semAt_some
      cases rest with
      | nil =>
        have hNx := hN.next_end HW.out.2.1 hLd
        have HL : Hid (L = pre) := Lib.hid (by rw [HW.out.1, List.append_nil])
        clear hLd
        gi_wp2_with fail
        refine ⟨trivial, (callsIn_wide.2 hNx).mono ?_⟩
        rintro e w3 ⟨F3, rfl, hC3, hG3⟩
        have hG4 := hG3.wider HW.out.2.2.2.1
        have hl3 := (hN.thing _ _ _ _ _ _).lt hC3
        have HJ3 := Lib.hid (HJ.out _ _ _ _ _ HW.out.2.2.1 hG4 fun q hq => hq.elim (fun h => Nat.lt_of_lt_of_le (HW.out.2.2.2.2 q h) hG3.apt.size) (hl3 q))
        have hb4 : Below w3.heap.size w3 (w3.alloc (.cells #[.int .u64 0, .slice none 0 0] 43)) := (Below.refl _ _).alloc (Nat.le_refl _) _
        have HJ4 := Lib.hid (HJ.out _ _ _ _ _ HJ3.out (Goes.of_below hb4) fun q hq => Nat.lt_of_lt_of_le (hq.elim (fun h => Nat.lt_of_lt_of_le (HW.out.2.2.2.2 q h) hG3.apt.size) (hl3 q)) hb4.size)
        clear hNx hC3 hG3 hG4 hl3 hb4
        gi_wp2_with fail
        refine ⟨fun _ h => (by cases h), ?_⟩
        gi_wp2_with fail
        refine bodyPost_ret (results_none rfl _ _ _) rfl ?_
        exact ⟨⟨_, rfl⟩, _, .inl (by rw [HL.out]; exact HJ4.out)⟩
      | cons t rest =>
        have hNx := hN.next_on HW.out.2.1 hLd
        have HT : Hid (L[pre.length]? = some t) := Lib.hid (by rw [HW.out.1, List.getElem?_append_right (Nat.le_refl _)]; simp)
        have HL : Hid (L = pre ++ [t] ++ rest) := Lib.hid (by rw [HW.out.1, List.append_assoc]; rfl)
        clear hLd
        gi_wp2_with fail
        refine ⟨trivial, (callsIn_wide.2 hNx).mono ?_⟩
        rintro e w3 ⟨d, F3, rfl, hC3, hS3, hid3, hG3⟩
        have hG4 := hG3.wider HW.out.2.2.2.1
        have hl3 := (hN.thing _ _ _ _ _ _).lt hC3
        have hbd : ∀ q, Fx q ∨ F3 q → q < w3.heap.size := fun q hq => hq.elim (fun h => Nat.lt_of_lt_of_le (HW.out.2.2.2.2 q h) hG3.apt.size) (hl3 q)
        obtain ⟨Ad, cdd, rfl, _, _⟩ := hS3.here.form
        have hb4 : Below w3.heap.size w3 (w3.alloc (.cells #[.int .u64 t.id, .slice Ad t.sp.length cdd] 43)) := (Below.refl _ _).alloc (Nat.le_refl _) _
        have HJ3 := HJ.out _ _ _ _ _ HW.out.2.2.1 hG4 hbd
        have HB4 : Hid (∀ q, Fx q ∨ F3 q → q < (w3.alloc (.cells #[.int .u64 t.id, .slice Ad t.sp.length cdd] 43)).heap.size) := Lib.hid fun q hq => Nat.lt_of_lt_of_le (hbd q hq) hb4.size
        have HJ4 := Lib.hid (HJ.out _ _ _ _ _ HJ3 (Goes.of_below hb4) HB4.out)
        have HC4 := Lib.hid ((hN.thing _ _ _ _ _ _).keep hC3 (Apt.of_below hb4))
        have hS4 : Keep (fun q => ¬ (Fx q ∨ F3 q)) (fun u => Ss u (.slice Ad t.sp.length cdd) t.sp) (w3.alloc (.cells #[.int .u64 t.id, .slice Ad t.sp.length cdd] 43)) := (hS3.below hb4).less fun q hq => .inl fun h => hq (.inr h)
        obtain ⟨f1, t1, a1, b1, hy, hR⟩ := HY.out pre t (.slice Ad t.sp.length cdd) (fun q => Fx q ∨ F3 q) (w3.alloc (.cells #[.int .u64 t.id, .slice Ad t.sp.length cdd] 43)) HJ4.out HT.out hS4 hid3
        have HIN : Hid (∀ q, F3 q → Fx q ∨ F3 q) := Lib.hid fun q hq => .inr hq
        clear hNx hC3 hS3 hG3 hG4 hl3 hbd hb4 HJ3 hS4 hid3 HW HT
        gi_wp2_with fail
        refine hR.mono ?_
        rintro e W' ⟨hA, ⟨rfl, hJ2⟩ | ⟨rfl, hJx⟩⟩
        · have HA := Lib.hid hA
          have HJ5 := Lib.hid hJ2
          clear hA hJ2 hR hy
          gi_wp2_with fail
          go_roundg rest.length
          case measure =>
            have := hgk
            simp at this
            omega
          case rel => exact ⟨pre ++ [t], rest, F3, fun q => Fx q ∨ F3 q, rfl, Lib.hid ⟨HL.out, (hN.thing _ _ _ _ _ _).keep HC4.out (HA.out.mono fun q _ hq hF => hq (HIN.out q hF)), HJ5.out, HIN.out, fun q hq => Nat.lt_of_lt_of_le (HB4.out q hq) HA.out.size⟩⟩
        · have HX := Lib.hid hJx
          clear hJx hR hy hA
          gi_wp2_with fail
          refine bodyPost_ret (results_none rfl _ _ _) rfl ?_
          exact ⟨⟨_, rfl⟩, _, .inr ⟨_, ⟨rest, HL.out.symm⟩, HX.out⟩⟩

theorem scanK_t {PSc : World → (Nat → Prop) → Nat → Nat → List Tn → Int → Sm → Bool → Prop} (hN : ScanN PSc) : ScanK PSc PSqt :=
  { hN with
    thing_q := seqT_thing
    each := fun id h _ => each_t id h
    seq := fun h => seq_t hN h }

def Tk (bad : Nat → Prop) (v : Value) (l : List Tn) (w : World) : Prop := ∃ xs, Keep bad (fun u => Lv 2 u v xs ∧ Two (TnC u) l xs) w

theorem Tk.nil (bad : Nat → Prop) (w : World) : Tk bad (.slice none 0 0) [] w := ⟨[], fun u _ => ⟨Lv.nil 2 u, Two.nil⟩⟩

theorem Tk.go {bad bad' : Nat → Prop} {v : Value} {l : List Tn} {w w' : World} (h : Tk bad v l w) (ha : Apt bad w w') (hb : ∀ q, bad' q → bad q ∨ w.heap.size ≤ q) : Tk bad' v l w' := by
  obtain ⟨xs, h⟩ := h
  exact ⟨xs, h.go ha hb⟩

theorem Tk.ts {bad : Nat → Prop} {v : Value} {l : List Tn} {w : World} (h : Tk bad v l w) : Ts w v l := by
  obtain ⟨xs, h⟩ := h
  exact ⟨xs, h.here⟩

theorem OwnK.tk {w : World} {B : Nat} {e : TypeId} {v : Value} {l : List Tn} (h : OwnK 2 w B e (fun q => q < B) TnC v l) : Tk (fun q => ¬ (B ≤ q ∧ q < w.heap.size)) v l w := by
  obtain ⟨xs, h1, h2⟩ := h
  exact ⟨xs, fun u ha => ⟨h1.lv.apt ha fun _ q hq hn => hn ⟨h1.ge q hq, h1.lt q hq⟩, h2.mono fun _ _ hk => hk u (ha.mono fun q hq hb => .inl (by omega))⟩⟩

theorem Tk.first {bad : Nat → Prop} {A : Option Addr} {n c : Nat} {t : Tn} {l : List Tn} {w : World} (h : Tk bad (.slice A n c) (t :: l) w) :
    n = l.length + 1 ∧ n ≤ c ∧ (0 ≤ t.id ∧ t.id ≤ 18446744073709551615) ∧ ∃ g o d, A = some ⟨g, o, none⟩ ∧ g < w.heap.size ∧ w.cell? ⟨g, o, none⟩ = some (.int .u64 t.id) ∧ w.cell? ⟨g, o + 1, none⟩ = some d ∧ Keep bad (fun u => Ss u d t.sp) w ∧
      ∃ A' c', (∀ u, (Instr.slice 23 (.slice A n c) (some (.int .i64 1)) none none).run Tryz.prog u = .ok (.slice A' l.length c') u) ∧ Tk bad (.slice A' l.length c') l w := by
  obtain ⟨xs, h⟩ := h
  obtain ⟨h1, h2⟩ := h.here
  have hln : n = l.length + 1 := by
    obtain ⟨A', c', hv, _⟩ := h1.form
    injection hv with e1 e2 e3
    rw [e2, ← h2.len, List.length_cons]
  have hnc : n ≤ c := by
    obtain ⟨A', c', hv, h3, _⟩ := h1.form
    injection hv with e1 e2 e3
    omega
  obtain ⟨x, hx, ho, d, rfl, hd⟩ := h2.right (i := 0) (a := t) rfl
  obtain ⟨g, o, hA, hg, hc⟩ := h1.cells (by omega) hx
  have hc0 := hc 0 _ rfl
  have hc1 := hc 1 _ rfl
  simp only [Nat.zero_mul, Nat.add_zero] at hc0 hc1
  refine ⟨hln, hnc, ho, g, o, d, hA, hg, hc0, hc1, fun u hu => ?_, ?_⟩
  · obtain ⟨_, h4⟩ := h u hu
    obtain ⟨x', hx', _, d', hxd, hd'⟩ := h4.right (i := 0) (a := t) rfl
    rw [hx] at hx'
    injection hx' with hx'
    rw [hxd] at hx'
    simp only [List.cons.injEq, and_true, true_and] at hx'
    rw [hx']
    exact hd'
  · have hs := fun u => run_slice_from (P := Tryz.prog) trT rfl (A := A) 1 (show 1 ≤ n by omega) hnc u
    have e1 : n - 1 = l.length := by omega
    rw [e1] at hs
    refine ⟨_, _, hs, xs.drop 1, fun u hu => ?_⟩
    obtain ⟨h3, h4⟩ := h u hu
    have h5 := h3.from_ 1 (by omega)
    rw [e1] at h5
    exact ⟨h5, h4.drop 1⟩

def LastT (out : List Tn) (told : Bool) (last : Int) : Prop := ∀ t : Tn, upT out t = (!told || decide (last < t.id))

theorem LastT.none : LastT [] false 0 := fun _ => rfl

theorem LastT.some (out : List Tn) (t : Tn) : LastT (out ++ [t]) true t.id := fun x => by simp [upT]

structure Scn (w : World) (F : Nat → Prop) (g c : Nat) (Fs Fp : Nat → Prop) (m : Sm) (N id pages got : Nat) (out l : List Tn) (A : Option Addr) (ca : Nat) (told : Bool) (last : Int) (ev : Value) : Prop where
  st : PSt w Fs g m
  fine : m.fine N
  most : ev = .nilIface → N + (pages - got) ≤ 20000
  idb : id < 18446744073709551616
  gotb : got ≤ pages
  pagesb : pages ≤ 200
  blk : Blk w c 83 #[.pointer (some ⟨g, 0, none⟩), .int .u64 (id : Int), .int .i64 (pages : Int), .int .i64 (got : Int), .slice A l.length ca, .bool told, .int .u64 last, ev]
  rest : Tk (fun q => ¬ Fp q) (.slice A l.length ca) l w
  lastT : LastT out told last
  fs : ∀ q, Fs q → F q
  fp : ∀ q, Fp q → F q
  fc : F c
  nc : ¬ Fs c
  np : ∀ q, Fp q → ¬ Fs q ∧ q ≠ c
  lt : ∀ q, F q → q < w.heap.size

theorem Scn.keep {w w' : World} {F : Nat → Prop} {g c : Nat} {Fs Fp : Nat → Prop} {m : Sm} {N id pages got : Nat} {out l : List Tn} {A : Option Addr} {ca : Nat} {told : Bool} {last : Int} {ev : Value} (h : Scn w F g c Fs Fp m N id pages got out l A ca told last ev) (ha : Apt (fun q => ¬ F q) w w') : Scn w' F g c Fs Fp m N id pages got out l A ca told last ev :=
  { h with
    st := h.st.keep (ha.mono fun q _ hq hF => hq (h.fs q hF))
    blk := (ha.block _ h.blk.lt fun hn => hn h.fc).trans h.blk
    rest := h.rest.go (ha.mono fun q _ hq hF => hq (h.fp q hF)) fun _ => .inl
    lt := fun q hq => Nat.lt_of_lt_of_le (h.lt q hq) ha.size }

def Left (rest : List Tn) (cd : Int) (mf : Sm) (m : Sm) (id pages got : Nat) (out l : List Tn) (ev : Value) : Prop :=
  (ev = errV cd ∧ cd ≠ 0 ∧ rest = [] ∧ mf = m) ∨ (ev = .nilIface ∧ scR id (pages - got) got m out l = ((cd, out ++ rest), mf))

def Over (en : Bool) (pages got : Nat) (l : List Tn) (ev : Value) : Prop := en = true → ev = .nilIface → got = pages ∧ l = []

theorem errV_some {cd : Int} (h : cd ≠ 0) : errV cd ≠ .nilIface := by
  rw [errV_code h]
  intro e
  cases e

theorem Left.nil {rest : List Tn} {cd : Int} {mf m : Sm} {id pages got : Nat} {out l : List Tn} (h : Left rest cd mf m id pages got out l .nilIface) : scR id (pages - got) got m out l = ((cd, out ++ rest), mf) := by
  rcases h with ⟨h1, h2, _⟩ | ⟨_, h⟩
  · exact absurd h1.symm (errV_some h2)
  · exact h

theorem Left.end_ {rest : List Tn} {cd : Int} {mf m : Sm} {id pages : Nat} {out : List Tn} (h : Left rest cd mf m id pages pages out [] .nilIface) : rest = [] ∧ cd = 0 ∧ mf = m := by
  have h := h.nil
  rw [Nat.sub_self, scR_nil, toR] at h
  have h1 := (Prod.mk.inj h).1
  have h2 := (Prod.mk.inj h1).2
  exact ⟨(List.self_eq_append_right.1 h2), (Prod.mk.inj h1).1.symm, (Prod.mk.inj h).2.symm⟩

theorem Left.page {rest : List Tn} {cd : Int} {mf m : Sm} {id pages got : Nat} {out : List Tn} (h : Left rest cd mf m id pages got out [] .nilIface) (hg : got < pages) (hp : (pgR m id got).1 = 0) : Left rest cd mf (callS m) id pages (got + 1) out (pgR m id got).2 .nilIface := by
  have h := h.nil
  rw [show pages - got = (pages - (got + 1)) + 1 by omega, scR_page hp] at h
  exact .inr ⟨rfl, h⟩

theorem Left.fail {rest : List Tn} {cd : Int} {mf m : Sm} {id pages got : Nat} {out : List Tn} (h : Left rest cd mf m id pages got out [] .nilIface) (hg : got < pages) (hp : (pgR m id got).1 ≠ 0) (got' : Nat) (l' : List Tn) : Left rest cd mf (callS m) id pages got' out l' (errV (pgR m id got).1) := by
  have h := h.nil
  rw [show pages - got = (pages - (got + 1)) + 1 by omega, scR_fail hp] at h
  have h1 := (Prod.mk.inj h).1
  have h2 := (Prod.mk.inj h1).1
  have h3 := List.self_eq_append_right.1 (Prod.mk.inj h1).2
  exact .inl ⟨by rw [h2], by rw [← h2]; exact hp, h3, (Prod.mk.inj h).2.symm⟩

theorem Left.up {rest : List Tn} {cd : Int} {mf m : Sm} {id pages got : Nat} {out l : List Tn} {t : Tn} (h : Left rest cd mf m id pages got out (t :: l) .nilIface) (hu : upT out t = true) : ∃ s, rest = t :: s ∧ Left s cd mf m id pages got (out ++ [t]) l .nilIface := by
  have h := h.nil
  rw [scR_on hu] at h
  obtain ⟨s, e⟩ := scR_more id (pages - got) got m (out ++ [t]) l
  rw [h, List.append_assoc] at e
  have e2 := List.append_cancel_left e
  refine ⟨s, by simpa using e2, .inr ⟨rfl, ?_⟩⟩
  rw [h, show rest = t :: s by simpa using e2, List.append_assoc]
  rfl

theorem Left.low {rest : List Tn} {cd : Int} {mf m : Sm} {id pages got : Nat} {out l : List Tn} {t : Tn} (h : Left rest cd mf m id pages got out (t :: l) .nilIface) (hu : upT out t = false) : rest = [] ∧ cd = 2 ∧ mf = m := by
  have h := h.nil
  rw [scR_no hu] at h
  have h1 := (Prod.mk.inj h).1
  exact ⟨List.self_eq_append_right.1 (Prod.mk.inj h1).2, (Prod.mk.inj h1).1.symm, (Prod.mk.inj h).2.symm⟩

def PSc (w : World) (F : Nat → Prop) (g c : Nat) (rest : List Tn) (cd : Int) (mf : Sm) (en : Bool) : Prop :=
  ∃ (Fs Fp : Nat → Prop) (m : Sm) (N id pages got : Nat) (out l : List Tn) (A : Option Addr) (ca : Nat) (told : Bool) (last : Int) (ev : Value),
    Scn w F g c Fs Fp m N id pages got out l A ca told last ev ∧ Left rest cd mf m id pages got out l ev ∧ Over en pages got l ev

theorem psc_thing (g c : Nat) (rest : List Tn) (cd : Int) (mf : Sm) (en : Bool) : Thing fun w F => PSc w F g c rest cd mf en := by
  refine ⟨fun h ha => ?_, fun h => ?_⟩
  · obtain ⟨Fs, Fp, m, N, id, pages, got, out, l, A, ca, told, last, ev, h1, h2, h3⟩ := h
    exact ⟨Fs, Fp, m, N, id, pages, got, out, l, A, ca, told, last, ev, h1.keep ha, h2, h3⟩
  · obtain ⟨Fs, Fp, m, N, id, pages, got, out, l, A, ca, told, last, ev, h1, h2, h3⟩ := h
    exact h1.lt

theorem psc_store {w : World} {F : Nat → Prop} {g c : Nat} {cd : Int} {mf : Sm} (h : PSc w F g c [] cd mf true) : ∃ F', PSt w F' g mf ∧ ∀ q, F' q → F q := by
  obtain ⟨Fs, Fp, m, N, id, pages, got, out, l, A, ca, told, last, ev, h1, h2, h3⟩ := h
  rcases h2 with ⟨_, _, _, rfl⟩ | ⟨e1, e2⟩
  · exact ⟨Fs, h1.st, h1.fs⟩
  · obtain ⟨e3, e4⟩ := h3 rfl e1
    rw [e4, e3, Nat.sub_self, scR_nil, toR] at e2
    have e5 := (Prod.mk.inj e2).2
    subst e5
    exact ⟨Fs, h1.st, h1.fs⟩

set_option maxHeartbeats 3200000 in
theorem rgetM_nil (n : Value) (f : Value) (w : World) :
    Calls Tryz.prog 53 #[.pointer none, n, f] w fun e w' => e = .returned (.tuple #[.agg #[.int .u64 0, .int .i64 0, .int .i64 0, .int .i64 0, .int .i64 0, .int .i64 0], code 1]) ∧ Below w.heap.size w w' := by
  have hb0 : Below w.heap.size w ((w.alloc (.cells meZ 62)).alloc (.cells meZ 62)) := ((Below.refl _ _).alloc (Nat.le_refl _) _).alloc (by simp) _
  have HR0 : Hid (Blk ((w.alloc (.cells meZ 62)).alloc (.cells meZ 62)) w.heap.size 62 meZ) := Lib.hid ((Blk.new w _ _).alloc _)
  have HZ0 : Hid (Blk ((w.alloc (.cells meZ 62)).alloc (.cells meZ 62)) (w.heap.size + 1) 62 meZ) := Lib.hid (by
    have := Blk.new (w.alloc (.cells meZ 62)) 62 meZ
    simpa using this)
  have HB0 := Lib.hid hb0
  clear hb0
  go_enter Tryz.func53, Tryz.ntmps53
  go_wp2_with fail
  refine bodyPost_ret (v := .tuple #[.agg #[.int .u64 0, .int .i64 0, .int .i64 0, .int .i64 0, .int .i64 0, .int .i64 0], code 1]) (by have c := HR0.out.cell; simp [results, go_sem, c, meZ]; try rfl) rfl ?_
  exact ⟨rfl, HB0.out⟩

set_option maxHeartbeats 3200000 in
theorem rmeta_nil (id : Nat) (w : World) (hid : id < 18446744073709551616) (hL : Ld w) :
    Calls Tryz.prog 30 #[.pointer none, .int .u64 (id : Int)] w fun e w' => e = .returned (.tuple #[.agg #[.int .u64 0, .int .i64 0, .int .i64 0, .int .i64 0, .int .i64 0, .int .i64 0], code 1]) ∧ Below w.heap.size w w' := by
  have hb0 : Below w.heap.size w (w.alloc (.cells meZ 62)) := (Below.refl _ _).alloc (Nat.le_refl _) _
  have HR0 : Hid (Blk (w.alloc (.cells meZ 62)) w.heap.size 62 meZ) := Lib.hid (Blk.new _ _ _)
  have HB0 := Lib.hid hb0
  have HLD := Lib.hid (hL.below hb0)
  clear hL hb0
  go_enter Tryz.func30, Tryz.ntmps30
  go_wp2_with fail
  revert HR0 HB0 HLD
  generalize w.alloc (.cells meZ 62) = w0
  intro HR0 HB0 HLD
  refine (mname_any id [109] 0 _ hid HLD.out).mono ?_
  rintro e w1 ⟨rfl, hb1⟩
  have HR1 := Lib.hid (HR0.out.below hb1 HR0.out.lt)
  have HB1 := Lib.hid (HB0.out.trans (hb1.mono HB0.out.size))
  clear hb1 HR0 HB0 HLD
  go_wp2_with fail
  refine (rgetM_nil _ _ _).mono ?_
  rintro e w2 ⟨rfl, hb2⟩
  have hb3 : Below w2.heap.size w2 (w2.alloc (.cells #[.int .u64 0, .int .i64 0, .int .i64 0, .int .i64 0, .int .i64 0, .int .i64 0] 62)) := (Below.refl _ _).alloc (Nat.le_refl _) _
  have HR3 := Lib.hid ((HR1.out.below hb2 HR1.out.lt).below hb3 (HR1.out.below hb2 HR1.out.lt).lt)
  have HB3 := Lib.hid ((HB1.out.trans (hb2.mono HB1.out.size)).trans (hb3.mono (HB1.out.trans (hb2.mono HB1.out.size)).size))
  clear hb2 hb3 HR1 HB1
  have hfz := fun i => HR3.out.frozen i
  have r0 := HR3.out.cell 0
  have r1 := HR3.out.cell 1
  have r2 := HR3.out.cell 2
  have r3 := HR3.out.cell 3
  have r4 := HR3.out.cell 4
  have r5 := HR3.out.cell 5
  simp at r0 r1 r2 r3 r4 r5
  go_wp2_with fail
  clear hfz r0 r1 r2 r3 r4 r5
  revert HR3 HB3
  generalize w2.alloc (.cells #[.int .u64 0, .int .i64 0, .int .i64 0, .int .i64 0, .int .i64 0, .int .i64 0] 62) = w3
  intro HR3 HB3
  have hm2 := setall6 _ HR3.out (.int .u64 0) (.int .i64 0) (.int .i64 0) (.int .i64 0) (.int .i64 0) (.int .i64 0)
  have hg2 := gset6 w3 w.heap.size (.int .u64 0) (.int .i64 0) (.int .i64 0) (.int .i64 0) (.int .i64 0) (.int .i64 0)
  refine bodyPost_ret (v := .tuple #[.agg #[.int .u64 0, .int .i64 0, .int .i64 0, .int .i64 0, .int .i64 0, .int .i64 0], code 1]) (by have c := hm2.cell; simp [results, go_sem, c]; try rfl) rfl ?_
  exact ⟨rfl, HB3.out.grown hg2 HB3.out.size (by intro k hk; injection hk; omega)⟩

set_option maxHeartbeats 3200000 in
theorem npage_any {w : World} {Fs : Nat → Prop} {g c N id pages got : Nat} {m : Sm} {v : Value} {told : Bool} {last : Int} {ev : Value} (hP : PSt w Fs g m)
    (hC : Blk w c 83 #[.pointer (some ⟨g, 0, none⟩), .int .u64 (id : Int), .int .i64 (pages : Int), .int .i64 (got : Int), v, .bool told, .int .u64 last, ev]) (hnc : ¬ Fs c) (hm : m.fine N) (hN : N ≤ 100000) (hid : id < 18446744073709551616) (hgot : got < 1000) (hL : Keep (fun q => Fs q ∨ q = c) Ld w) :
    Calls Tryz.prog 31 #[.pointer (some ⟨c, 0, none⟩)] w fun e w' => ∃ (y : Value) (Fs' : Nat → Prop) (B got' : Nat), e = .returned (.tuple #[y, errV (pgR m id got).1]) ∧ ((pgR m id got).1 = 0 → got' = got + 1) ∧ got ≤ got' ∧ got' ≤ got + 1 ∧ PSt w' Fs' g (callS m) ∧ ¬ Fs' c ∧
      Blk w' c 83 #[.pointer (some ⟨g, 0, none⟩), .int .u64 (id : Int), .int .i64 (pages : Int), .int .i64 (got' : Int), v, .bool told, .int .u64 last, ev] ∧ Goes w (fun q => Fs q ∨ q = c) w' Fs' ∧ w.heap.size ≤ B ∧ (∀ q, Fs' q → q < B) ∧ OwnK 2 w' B 43 (fun q => q < B) TnC y (pgR m id got).2 := by
  have hG := fun u (hu : PSt u Fs g m) => stGet_any (n := nmOf id [112] (got : Int)) hu hm hN (by have := nm_p id got; omega)
  have hlen : (sGet m (nmOf id [112] (got : Int))).1.length ≤ 1048576 := Nat.le_trans (sGet_len _ _) hm.used
  have HE : Hid (pgR m id got = if (sGet m (nmOf id [112] (got : Int))).2 ≠ 0 then ((sGet m (nmOf id [112] (got : Int))).2, []) else pgX (sGet m (nmOf id [112] (got : Int))).1) := Lib.hid rfl
  generalize (sGet m (nmOf id [112] (got : Int))).1 = sb at hG hlen HE
  generalize (sGet m (nmOf id [112] (got : Int))).2 = bc at hG HE
  have hrd := fun u x (hx : Bs u x sb) => pget_x x sb u hx (by omega)
  have HP := Lib.hid hP
  have HC := Lib.hid hC
  have HNC := Lib.hid hnc
  have HL := Lib.hid hL
  have k0 := hC.cell 0
  have k1 := hC.cell 1
  have k3 := hC.cell 3
  simp at k0 k1 k3
  have hcl : ∀ u, Apt Fs w u → u.cell? ⟨c, 0, none⟩ = some (.pointer (some ⟨g, 0, none⟩)) ∧ u.cell? ⟨c, 1, none⟩ = some (.int .u64 (id : Int)) ∧ u.cell? ⟨c, 3, none⟩ = some (.int .i64 (got : Int)) := fun u hu =>
    ⟨(World.cell?_of_block (a := ⟨c, 0, none⟩) (hu.block c hC.lt hnc)).trans k0, (World.cell?_of_block (a := ⟨c, 1, none⟩) (hu.block c hC.lt hnc)).trans k1, (World.cell?_of_block (a := ⟨c, 3, none⟩) (hu.block c hC.lt hnc)).trans k3⟩
  clear hP hC hnc hm hL
  go_enter Tryz.func31, Tryz.ntmps31
  go_wp2_with fail
  refine wp_region_mix [(0, false), (1, false), (2, false), (3, false), (4, false), (5, false), (6, false), (7, false), (8, false), (9, false), (10, false), (11, false), (12, true), (13, true), (14, false), (15, false), (16, false), (17, false), (18, false)] (fun u => Apt Fs w u) (by kernel_rfl) (by kernel_rfl) (by kernel_rfl) rfl (Apt.of_below (Below.refl _ _).drew) ?_
  iterate 12
    (refine mix_read (o := ⟨_, _, _, _, _, _⟩) (v := ?_) rfl (by rfl) (fun w' hS => ?_) ?_
     rotate_left
     obtain ⟨j0, j1, j3⟩ := hcl w' hS
     go_simp
     with_reducible rfl
     try simp only [Act.put, List.setIfInBounds_toArray, List.set_cons_zero, List.set_cons_succ])
  refine mix_step (o := ⟨_, _, _, _, _, _⟩) rfl (fun K hK => ?_)
  go_simp
  refine (mname_any id [112] got _ hid (HL.out.here.below (Below.refl _ w).drew)).mono ?_
  rintro e w1 ⟨rfl, hb1⟩
  have hb1' : Below w.heap.size w w1 := (Below.refl _ w).drew.trans hb1
  have HP1 := Lib.hid (HP.out.below hb1')
  refine hK.out _ _ (Apt.of_below hb1') ?_
  clear hK K
  try simp only [Act.put, List.setIfInBounds_toArray, List.set_cons_zero, List.set_cons_succ]
  refine mix_step (o := ⟨_, _, _, _, _, _⟩) rfl (fun K hK => ?_)
  go_simp
  refine (hG _ HP1.out).mono ?_
  rintro e w2 ⟨x, F2, rfl, hox, hP2, hA2, hn2, _⟩
  have hA2' : Apt Fs w w2 := (Apt.of_below hb1').trans hA2
  have hs1 := hb1'.size
  have HG2 : Hid (Goes w Fs w2 F2) := Lib.hid ⟨hA2', fun q hq => (hn2 q hq).elim .inl fun h => .inr (Nat.le_trans hs1 h)⟩
  have HP2 := Lib.hid hP2
  have HBS := Lib.hid hox.bs
  have HXC : Hid (∀ q, x.ownBlock = some q → ¬ q = c) := Lib.hid fun q hq e => by
    have h1 := (World.ownsRow.lt hox q hq).1
    have h2 := HC.out.lt
    omega
  refine hK.out _ _ hA2' ?_
  clear hK K hG hox hP2 hA2 hn2 hb1 hs1 HP1
  try simp only [Act.put, List.setIfInBounds_toArray, List.set_cons_zero, List.set_cons_succ]
  iterate 5
    (refine mix_read (o := ⟨_, _, _, _, _, _⟩) (v := ?_) rfl (by rfl) (fun w' hS => ?_) ?_
     rotate_left
     go_simp
     with_reducible rfl
     try simp only [Act.put, List.setIfInBounds_toArray, List.set_cons_zero, List.set_cons_succ])
  refine mix_done ?_
  have HC2 : Hid (Blk w2 c 83 #[.pointer (some ⟨g, 0, none⟩), .int .u64 (id : Int), .int .i64 (pages : Int), .int .i64 (got : Int), v, .bool told, .int .u64 last, ev]) := Lib.hid ((hA2'.block c HC.out.lt HNC.out).trans HC.out)
  have HN2 : Hid (¬ F2 c) := Lib.hid fun hF => (HG2.out.new c hF).elim HNC.out fun h => by
    have := HC.out.lt
    omega
  clear hcl hA2' hb1' k0 k1 k3
  have HG2' : Hid (Goes w (fun q => Fs q ∨ q = c) w2 F2) := Lib.hid ⟨HG2.out.apt.mono fun q _ hq => .inl hq, fun q hq => (HG2.out.new q hq).elim (fun h => .inl (.inl h)) .inr⟩
  by_cases hbc : bc = 0
  rotate_left
  · have hce := errV_code hbc
    have HE2 : Hid (pgR m id got = (bc, [])) := Lib.hid (by rw [HE.out, if_pos hbc])
    have HBC := Lib.hid hbc
    rw [hce]
    clear hrd HE hbc
    go_wp2_with fail
    go_ret2
    rw [HE2.out]
    exact ⟨_, F2, w2.heap.size, got, by rw [hce] <;> rfl, fun h => absurd h HBC.out, Nat.le_refl _, Nat.le_succ _, HP2.out, HN2.out, HC2.out, HG2'.out, HG2.out.apt.size, HP2.out.lt, OwnK.nil _ _ _ _ _ _⟩
  subst hbc
  have HE2 : Hid (pgR m id got = pgX sb) := Lib.hid (by rw [HE.out, if_neg (by simp)])
  simp only [errV_zero]
  have k3 := HC2.out.cell 3
  have f3 := HC2.out.frozen 3
  simp at k3
  have c0 : (0 : Int) ≤ (got : Int) := by omega
  have c1 : (got : Int) < 1000 := by omega
  have hgr := grown_set w2 c 3 (.int .i64 ((got : Int) + 1))
  have HP3 : Hid (PSt (w2.setCell ⟨c, 3, none⟩ (.int .i64 ((got : Int) + 1))) F2 g (callS m)) := Lib.hid (HP2.out.keep (Apt.of_grown hgr fun q hq => Option.some.inj hq ▸ HN2.out))
  have HG3 : Hid (Goes w (fun q => Fs q ∨ q = c) (w2.setCell ⟨c, 3, none⟩ (.int .i64 ((got : Int) + 1))) F2) := Lib.hid ⟨⟨hgr.os.trans HG2'.out.apt.os, hgr.tape.trans HG2'.out.apt.tape, hgr.output.trans HG2'.out.apt.output, Nat.le_trans HG2'.out.apt.size hgr.size, fun q hq hF => (hgr.block q (Nat.lt_of_lt_of_le hq HG2'.out.apt.size) fun e => hF (.inr (Option.some.inj e))).trans (HG2'.out.apt.block q hq hF)⟩, HG2'.out.new⟩
  have HC3 : Hid (Blk (w2.setCell ⟨c, 3, none⟩ (.int .i64 ((got : Int) + 1))) c 83 #[.pointer (some ⟨g, 0, none⟩), .int .u64 (id : Int), .int .i64 (pages : Int), .int .i64 ((got + 1 : Nat) : Int), v, .bool told, .int .u64 last, ev]) := Lib.hid (by
    have := HC2.out.set_ 3 (.int .i64 ((got : Int) + 1))
    simpa using this)
  have HBS3 := HBS.out.apt (bad := fun q => q = c) (Apt.of_grown hgr fun q hq => (Option.some.inj hq).symm) fun _ => HXC.out
  have HR3 := hrd _ _ HBS3
  clear HE hrd hgr HBS3 HBS HXC HC2 HP2 HG2 HG2'
  go_wp2_with fail
  refine HR3.mono ?_
  rintro e w4 ⟨y, rfl, hO, hb4⟩
  have hcl3 := HC3.out.lt
  have HC4 := Lib.hid (HC3.out.below hb4 HC3.out.lt)
  have HP4 := Lib.hid (HP3.out.below hb4)
  have HG4 := Lib.hid (HG3.out.later hb4)
  have HO4 := Lib.hid hO
  clear HR3 hO hb4 hcl3
  go_wp2_with fail
  go_ret2
  rw [HE2.out]
  exact ⟨_, F2, _, got + 1, rfl, fun _ => rfl, Nat.le_succ _, Nat.le_refl _, HP4.out, HN2.out, HC4.out, HG4.out, HG3.out.apt.size, HP3.out.lt, HO4.out⟩

set_option maxHeartbeats 1600000 in
theorem sdone_any {w : World} {g c id pages got n ca : Nat} {A : Option Addr} {told : Bool} {last : Int} {cd : Int}
    (hC : Blk w c 83 #[.pointer (some ⟨g, 0, none⟩), .int .u64 (id : Int), .int .i64 (pages : Int), .int .i64 (got : Int), .slice A n ca, .bool told, .int .u64 last, errV cd]) :
    Calls Tryz.prog 12 #[.pointer (some ⟨c, 0, none⟩)] w fun e w' => e = .returned (.bool (decide (cd ≠ 0) || (decide (got = pages) && decide (n = 0)))) ∧ Below w.heap.size w w' := by
  have k2 := hC.cell 2
  have k3 := hC.cell 3
  have k4 := hC.cell 4
  have k7 := hC.cell 7
  simp at k2 k3 k4 k7
  by_cases hz : cd = 0
  · subst hz
    rw [errV_zero] at k7
    clear hC
    by_cases hg : got = pages
    · subst hg
      have hbe : ((got : Int) == (got : Int)) = true := by simp
      cases n with
      | zero =>
        go_enter Tryz.func12, Tryz.ntmps12
        go_wp2_with fail
        go_quiet (fail)
        go_wp2_with fail
        go_ret
        exact ⟨by simp, below_drewN (Below.refl _ _) _⟩
      | succ n =>
        have hne : (((n + 1 : Nat) : Int) == 0) = false := by simpa using (by omega : ¬ ((n + 1 : Nat) : Int) = 0)
        go_enter Tryz.func12, Tryz.ntmps12
        go_wp2_with fail
        go_quiet (fail)
        go_wp2_with fail
        go_ret
        exact ⟨by simp; omega, below_drewN (Below.refl _ _) _⟩
    · have hbe : ((got : Int) == (pages : Int)) = false := by simpa using (by omega : ¬ (got : Int) = (pages : Int))
      have HG := Lib.hid hg
      clear hg
      go_enter Tryz.func12, Tryz.ntmps12
      go_wp2_with fail
      go_quiet (fail)
      go_wp2_with fail
      go_ret
      exact ⟨by simp [HG.out], below_drewN (Below.refl _ _) _⟩
  · rw [errV_code hz] at k7
    have HZ := Lib.hid hz
    clear hC hz
    go_enter Tryz.func12, Tryz.ntmps12
    go_wp2_with fail
    go_quiet (fail)
    go_wp2_with fail
    go_ret
    exact ⟨by simp [HZ.out], below_drewN (Below.refl _ _) _⟩

set_option maxHeartbeats 1600000 in
theorem sopen_nil (id : Nat) (w : World) (hid : id < 18446744073709551616) (hL : Ld w) :
    Calls Tryz.prog 10 #[.pointer none, .int .u64 (id : Int)] w fun e w' => e = .returned (.tuple #[.pointer none, code 1]) ∧ Below w.heap.size w w' := by
  have HM := rmeta_nil id w hid hL
  clear hL
  go_enter Tryz.func10, Tryz.ntmps10
  go_wp2_with fail
  refine HM.mono ?_
  rintro e w1 ⟨rfl, hb1⟩
  have HB : Hid (Below w.heap.size w (w1.alloc (.cells #[.int .u64 0, .int .i64 0, .int .i64 0, .int .i64 0, .int .i64 0, .int .i64 0] 62))) := Lib.hid (hb1.alloc hb1.size _)
  clear HM hb1
  go_wp2_with fail
  go_ret2
  exact ⟨rfl, HB.out⟩

set_option maxHeartbeats 1600000 in
theorem sopen_no {w : World} {F : Nat → Prop} {g : Nat} {m : Sm} {N : Nat} (id : Nat) (hst : PSt w F g m) (hm : m.fine N) (hN : N ≤ 10000) (hid : id < 18446744073709551616) (hL : Keep F Ld w) (hz : (meR m id).1 ≠ 0) :
    Calls Tryz.prog 10 #[.pointer (some ⟨g, 0, none⟩), .int .u64 (id : Int)] w fun e w' => e = .returned (.tuple #[.pointer none, errV (meR m id).1]) ∧ ∃ F', PSt w' F' g (callS m) ∧ Goes w F w' F' := by
  have hM := rmeta_any id hst hm (by omega) hid hL.here
  clear hst hm hL
  generalize meR m id = mr at hM hz ⊢
  obtain ⟨mc, mi, ml, ms, mn, mp, mt⟩ := mr
  simp only [meV] at hM
  simp only at hz ⊢
  rw [errV_code hz] at hM ⊢
  clear hz
  go_enter Tryz.func10, Tryz.ntmps10
  go_wp2_with fail
  refine hM.mono ?_
  rintro e w1 ⟨rfl, F1, hP1, hG1⟩
  have hb2 : Below w1.heap.size w1 (w1.alloc (.cells #[.int .u64 mi, .int .i64 ml, .int .i64 ms, .int .i64 mn, .int .i64 mp, .int .i64 mt] 62)) := (Below.refl _ _).alloc (Nat.le_refl _) _
  have HG2 := Lib.hid (hG1.later hb2)
  have HP2 := Lib.hid (hP1.below hb2)
  clear hM hP1 hG1 hb2
  go_wp2_with fail
  go_ret2
  exact ⟨rfl, F1, HP2.out, HG2.out⟩

set_option maxHeartbeats 1600000 in
theorem sopen_ok {w : World} {F : Nat → Prop} {g : Nat} {m : Sm} {N : Nat} (id : Nat) (hst : PSt w F g m) (hm : m.fine N) (hN : N ≤ 10000) (hid : id < 18446744073709551616) (hL : Keep F Ld w) (hz : (meR m id).1 = 0) :
    Calls Tryz.prog 10 #[.pointer (some ⟨g, 0, none⟩), .int .u64 (id : Int)] w fun e w' => ∃ (c : Nat) (F' : Nat → Prop), e = .returned (.tuple #[.pointer (some ⟨c, 0, none⟩), .nilIface]) ∧ PSc w' F' g c (tlR m id).1.2 (tlR m id).1.1 (tlR m id).2 false ∧ Goes w F w' F' := by
  have hM := rmeta_any id hst hm (by omega) hid hL.here
  have HT : Hid (tlR m id = toR id (meR m id).2.pg.toNat 0 (callS m) []) := Lib.hid (by rw [tlR, if_neg (by rw [hz]; simp)])
  have hpg := meR_pages hz
  have HM := Lib.hid hm.call
  clear hst hm hL
  generalize meR m id = mr at hM hz hpg HT
  obtain ⟨mc, mi, ml, ms, mn, mp, mt⟩ := mr
  simp only [meV] at hM
  simp only at hz hpg
  subst hz
  obtain ⟨hp0, hp1⟩ := hpg
  obtain ⟨n, rfl⟩ := nat_of (n := mp) hp0
  have HT2 : Hid (tlR m id = toR id n 0 (callS m) []) := HT
  have HN : Hid (n ≤ 200) := Lib.hid (by omega)
  rw [errV_zero] at hM
  clear HT hp0 hp1
  go_enter Tryz.func10, Tryz.ntmps10
  go_wp2_with fail
  refine hM.mono ?_
  rintro e w1 ⟨rfl, F1, hP1, hG1⟩
  have hb2 : Below w1.heap.size w1 (w1.alloc (.cells #[.int .u64 mi, .int .i64 ml, .int .i64 ms, .int .i64 mn, .int .i64 (n : Int), .int .i64 mt] 62)) := (Below.refl _ _).alloc (Nat.le_refl _) _
  have HG2 := Lib.hid (hG1.later hb2)
  have HP2 := Lib.hid (hP1.below hb2)
  clear hM hP1 hG1 hb2
  go_wp2_with fail
  revert HG2 HP2
  obtain ⟨W, hW⟩ : ∃ W, W = w1.alloc (.cells #[.int .u64 mi, .int .i64 ml, .int .i64 ms, .int .i64 mn, .int .i64 (n : Int), .int .i64 mt] 62) := ⟨_, rfl⟩
  have hs : w1.heap.size + 1 = W.heap.size := by rw [hW]; simp
  rw [← hW, hs]
  clear hW
  intro HG2 HP2
  have hC := Blk.new W 83 #[.pointer (some ⟨g, 0, none⟩), .int .u64 (id : Int), .int .i64 (n : Int), .int .i64 0, .slice none 0 0, .bool false, .int .u64 0, .nilIface]
  have hb : Below W.heap.size W (W.alloc (.cells #[.pointer (some ⟨g, 0, none⟩), .int .u64 (id : Int), .int .i64 (n : Int), .int .i64 0, .slice none 0 0, .bool false, .int .u64 0, .nilIface] 83)) := (Below.refl _ _).alloc (Nat.le_refl _) _
  have hP := HP2.out.below hb
  have hlt := HP2.out.lt
  have hs1 := HG2.out.apt.size
  go_ret2
  refine ⟨W.heap.size, fun q => F1 q ∨ q = W.heap.size, rfl, ⟨F1, fun _ => False, callS m, N + 1, id, n, 0, [], [], none, 0, false, 0, .nilIface, ⟨hP, HM.out, fun _ => by have := HN.out; omega, hid, Nat.zero_le _, HN.out, hC, Tk.nil _ _, LastT.none, fun q hq => .inl hq, fun q hq => hq.elim, .inr rfl, fun h => Nat.lt_irrefl _ (hlt _ h), fun q hq => hq.elim, fun q hq => ?_⟩, .inr ⟨rfl, ?_⟩, fun h => (by cases h)⟩, (HG2.out.later hb).more fun q hq => ?_⟩
  · rcases hq with hq | hq
    · exact hP.lt q hq
    · rw [hq]
      exact hC.lt
  · rw [HT2.out, Nat.sub_zero, scR_nil, List.nil_append]
  · rcases hq with hq | hq
    · exact .inl hq
    · exact .inr (.inr (by omega))

def NxtP (e : Ending) (w w' : World) (F : Nat → Prop) (g c : Nat) (rest : List Tn) (cd : Int) (mf : Sm) : Prop :=
  ∃ F', Goes w F w' F' ∧ ((rest = [] ∧ e = .returned (.tuple #[.agg #[.int .u64 0, .slice none 0 0], .bool false, errV cd]) ∧ PSc w' F' g c [] cd mf true) ∨
    ∃ (t : Tn) (s : List Tn) (d : Value), rest = t :: s ∧ e = .returned (.tuple #[.agg #[.int .u64 t.id, d], .bool true, .nilIface]) ∧ PSc w' F' g c s cd mf false ∧ Keep (fun q => ¬ F' q) (fun u => Ss u d t.sp) w' ∧ (0 ≤ t.id ∧ t.id ≤ 18446744073709551615))

theorem PSc.keep {w w' : World} {F : Nat → Prop} {g c : Nat} {rest : List Tn} {cd : Int} {mf : Sm} {en : Bool} (h : PSc w F g c rest cd mf en) (ha : Apt (fun q => ¬ F q) w w') : PSc w' F g c rest cd mf en := (psc_thing g c rest cd mf en).keep h ha

theorem grown_two (w : World) (g : Nat) (i j : Nat) (x y : Value) : w.grownBy ((w.setCell ⟨g, i, none⟩ x).setCell ⟨g, j, none⟩ y) (some g) := grown_trans (grown_set w g i x) (grown_set _ g j y)

theorem Scn.paged {w w3 : World} {F : Nat → Prop} {g c : Nat} {Fs Fp : Nat → Prop} {m : Sm} {N id pages got : Nat} {out : List Tn} {A : Option Addr} {ca : Nat} {told : Bool} {last : Int} {ev : Value} (h : Scn w F g c Fs Fp m N id pages got out [] A ca told last ev)
    {Fs' : Nat → Prop} {B got' n : Nat} {l : List Tn} {A' : Option Addr} {ca' : Nat} (hg : got < pages) (hg' : got' ≤ got + 1) (hg2 : got ≤ got') (hP : PSt w3 Fs' g (callS m)) (hn : ¬ Fs' c)
    (hC : Blk w3 c 83 #[.pointer (some ⟨g, 0, none⟩), .int .u64 (id : Int), .int .i64 (pages : Int), .int .i64 (got' : Int), .slice A 0 ca, .bool told, .int .u64 last, ev]) (hG : Goes w (fun q => Fs q ∨ q = c) w3 Fs') (hB : w.heap.size ≤ B) (hFB : ∀ q, Fs' q → q < B)
    (hO : OwnK 2 w3 B 43 (fun q => q < B) TnC (.slice A' n ca') l) (hnl : n = l.length) {ev' : Value} (hev : ev = .nilIface) (hev' : ev' = .nilIface → got' = got + 1) :
    ∃ F', Scn ((w3.setCell ⟨c, 4, none⟩ (.slice A' l.length ca')).setCell ⟨c, 7, none⟩ ev') F' g c Fs' (fun q => B ≤ q ∧ q < w3.heap.size) (callS m) (N + 1) id pages got' out l A' ca' told last ev' ∧ Goes w F ((w3.setCell ⟨c, 4, none⟩ (.slice A' l.length ca')).setCell ⟨c, 7, none⟩ ev') F' := by
  subst hnl
  have hgr := grown_two w3 c 4 7 (.slice A' l.length ca') ev'
  have hcw := h.blk.lt
  have hac : Apt (fun q => q = c) w3 ((w3.setCell ⟨c, 4, none⟩ (.slice A' l.length ca')).setCell ⟨c, 7, none⟩ ev') := Apt.of_grown hgr fun q hq => (Option.some.inj hq).symm
  refine ⟨fun q => F q ∨ Fs' q ∨ (B ≤ q ∧ q < w3.heap.size), ⟨hP.keep (hac.mono fun q _ hq hF => hn (hq ▸ hF)), h.fine.call, fun e => ?_, h.idb, by omega, h.pagesb, ?_, ?_, h.lastT, fun q hq => .inr (.inl hq), fun q hq => .inr (.inr hq), .inl h.fc, hn, fun q hq => ⟨fun hF => ?_, ?_⟩, fun q hq => ?_⟩, ?_⟩
  · have := h.most hev
    have := hev' e
    omega
  · have := (hC.set_ 4 (.slice A' l.length ca')).set_ 7 ev'
    simpa using this
  · exact hO.tk.go (hac.mono fun q _ hq hn2 => by
      have := hn2.1
      omega) fun _ => .inl
  · have := hFB q hF
    omega
  · have := hq.1
    omega
  · refine Nat.lt_of_lt_of_le ?_ hgr.size
    rcases hq with hq | hq | hq
    · exact Nat.lt_of_lt_of_le (h.lt q hq) hG.apt.size
    · exact hP.lt q hq
    · exact hq.2
  · refine ⟨⟨hac.os.trans hG.apt.os, hac.tape.trans hG.apt.tape, hac.output.trans hG.apt.output, Nat.le_trans hG.apt.size hac.size, fun q hq hF => ?_⟩, fun q hq => ?_⟩
    · refine (hac.block q (Nat.lt_of_lt_of_le hq hG.apt.size) fun e => hF (e ▸ h.fc)).trans (hG.apt.block q hq fun e => hF ?_)
      rcases e with e | e
      · exact h.fs q e
      · exact e ▸ h.fc
    · rcases hq with hq | hq | hq
      · exact .inl hq
      · rcases hG.new q hq with (e | e) | e
        · exact .inl (h.fs q e)
        · exact .inl (e ▸ h.fc)
        · exact .inr e
      · exact .inr (by omega)

theorem Scn.turn {w w' : World} {F : Nat → Prop} {g c : Nat} {Fs Fp : Nat → Prop} {m : Sm} {N id pages got : Nat} {out l : List Tn} {A : Option Addr} {ca : Nat} {told : Bool} {last : Int} {ev : Value} (h : Scn w F g c Fs Fp m N id pages got out l A ca told last ev) (ha : Apt (fun q => ¬ F q ∨ q = c) w w')
    {out2 l2 : List Tn} {A2 : Option Addr} {ca2 : Nat} {told2 : Bool} {last2 : Int} {ev2 : Value} (hC : Blk w' c 83 #[.pointer (some ⟨g, 0, none⟩), .int .u64 (id : Int), .int .i64 (pages : Int), .int .i64 (got : Int), .slice A2 l2.length ca2, .bool told2, .int .u64 last2, ev2])
    (hr : Tk (fun q => ¬ Fp q) (.slice A2 l2.length ca2) l2 w) (hl : LastT out2 told2 last2) (hev : ev2 = .nilIface → ev = .nilIface) : Scn w' F g c Fs Fp m N id pages got out2 l2 A2 ca2 told2 last2 ev2 :=
  ⟨h.st.keep (ha.mono fun q _ hq hF => hq.elim (fun hn => hn (h.fs q hF)) fun e => h.nc (e ▸ hF)), h.fine, fun e => h.most (hev e), h.idb, h.gotb, h.pagesb, hC, hr.go (ha.mono fun q _ hq hF => hq.elim (fun hn => hn (h.fp q hF)) (h.np q hF).2) fun _ => .inl, hl, h.fs, h.fp, h.fc, h.nc, h.np, fun q hq => Nat.lt_of_lt_of_le (h.lt q hq) ha.size⟩

set_option maxHeartbeats 6400000 in
theorem snext_any {w : World} {F : Nat → Prop} {g c : Nat} {rest : List Tn} {cd : Int} {mf : Sm} {en : Bool} (h : PSc w F g c rest cd mf en) (hL : Keep F Ld w) :
    Calls Tryz.prog 13 #[.pointer (some ⟨c, 0, none⟩)] w fun e w' => NxtP e w w' F g c rest cd mf := by
  obtain ⟨Fs, Fp, m, N, id, pages, got, out, l, A, ca, told, last, ev, h1, h2, _⟩ := h
  have hb0 : Below w.heap.size w (w.alloc (.cells #[.int .u64 0, .slice none 0 0] 43)) := (Below.refl _ _).alloc (Nat.le_refl _) _
  have HR0 : Hid (Blk (w.alloc (.cells #[.int .u64 0, .slice none 0 0] 43)) w.heap.size 43 #[.int .u64 0, .slice none 0 0]) := Lib.hid (Blk.new _ _ _)
  have HG0 : Hid (Goes w F (w.alloc (.cells #[.int .u64 0, .slice none 0 0] 43)) F) := Lib.hid (Goes.of_below hb0)
  have HS0 := Lib.hid (h1.keep (Apt.of_below hb0))
  have HL0 := Lib.hid (hL.below hb0)
  have HF2 := Lib.hid h2
  have HLT := Lib.hid h1.lt
  clear hb0 h1 h2 hL
  go_enter Tryz.func13, Tryz.ntmps13
  go_wp2_with fail
  revert HR0 HG0 HS0 HL0
  generalize w.alloc (.cells #[.int .u64 0, .slice none 0 0] 43) = w0
  intro HR0 HG0 HS0 HL0
  go_loopg [] 201 (fun gk wr => ∃ (Fx Fs Fp : Nat → Prop) (m : Sm) (N got : Nat) (l : List Tn) (A : Option Addr) (ca : Nat) (ev : Value), (ev = .nilIface → pages - got ≤ gk) ∧ Hid (Scn wr Fx g c Fs Fp m N id pages got out l A ca told last ev ∧ Left rest cd mf m id pages got out l ev ∧ Goes w0 F wr Fx))
  case atStart => exact ⟨F, Fs, Fp, m, N, got, l, A, ca, ev, fun _ => by have := HS0.out.pagesb; omega, Lib.hid ⟨HS0.out, HF2.out, Goes.refl _ _⟩⟩
  case round =>
    obtain ⟨Fx, Fs, Fp, m, N, got, l, A, ca, ev, hgk, HW⟩ := hrel
    have hC := HW.out.1.blk
    have hlt := hC.lt
    have hcase : (ev = errV cd ∧ rest = [] ∧ mf = m ∧ Left [] cd m m id pages got out l ev ∧ Over true pages got l ev ∧ ∀ u, Below wr.heap.size wr u → Calls Tryz.prog 12 #[.pointer (some ⟨c, 0, none⟩)] u fun e w' => e = .returned (.bool true) ∧ Below u.heap.size u w') ∨
        (ev = .nilIface ∧ (l = [] → got < pages) ∧ ∀ u, Below wr.heap.size wr u → Calls Tryz.prog 12 #[.pointer (some ⟨c, 0, none⟩)] u fun e w' => e = .returned (.bool false) ∧ Below u.heap.size u w') := by
      have hF := HW.out.2.1
      have hgb := HW.out.1.gotb
      rcases hF with ⟨he, hcd, hr, hmf⟩ | ⟨he, hsc⟩
      · refine .inl ⟨he, hr, hmf, .inl ⟨he, hcd, rfl, rfl⟩, fun _ e => absurd (he ▸ e) (errV_some hcd), fun u hu => ?_⟩
        have hD := sdone_any (w := u) (by rw [← he]; exact hC.below hu hC.lt)
        simpa [hcd] using hD
      · subst he
        by_cases hov : got = pages ∧ l = []
        · obtain ⟨rfl, rfl⟩ := hov
          obtain ⟨h1, h2, h3⟩ := Left.end_ (.inr ⟨rfl, hsc⟩)
          subst h1 h2 h3
          refine .inl ⟨errV_zero.symm, rfl, rfl, .inr ⟨rfl, hsc⟩, fun _ _ => ⟨rfl, rfl⟩, fun u hu => ?_⟩
          have hD := sdone_any (w := u) (cd := 0) (by rw [errV_zero]; exact hC.below hu hC.lt)
          simpa using hD
        · refine .inr ⟨rfl, fun e => ?_, fun u hu => ?_⟩
          · have : ¬ got = pages := fun h => hov ⟨h, e⟩
            omega
          · have hD := sdone_any (w := u) (cd := 0) (by rw [errV_zero]; exact hC.below hu hC.lt)
            have hb : (decide (got = pages) && decide (l.length = 0)) = false := by
              by_cases h1 : got = pages
              · have : l ≠ [] := fun h => hov ⟨h1, h⟩
                simp [this]
              · simp [h1]
            have e0 : (decide ((0 : Int) ≠ 0) || (decide (got = pages) && decide (l.length = 0))) = false := by rw [hb]; simp
            rw [e0] at hD
            exact hD
    have k4 := hC.cell 4
    have k7 := hC.cell 7
    simp at k4 k7
    have hGF : ¬ Fx w.heap.size := fun h => by
      rcases HW.out.2.2.new _ h with h | h
      · have := HLT.out _ h
        omega
      · have := HR0.out.lt
        omega
    have hR : Blk wr w.heap.size 43 #[.int .u64 0, .slice none 0 0] := (HW.out.2.2.apt.block _ HR0.out.lt fun h => by have := HLT.out _ h; omega).trans HR0.out
    have HGF := Lib.hid hGF
    have HR := Lib.hid hR
    have HC := Lib.hid hC
    clear hGF hR hC
    rcases hcase with ⟨hev, hr, hmf, hle, hov, hD⟩ | ⟨hev, hgp, hD⟩
    · subst hev hr hmf
      have HE := Lib.hid (And.intro hle hov)
      clear hle hov hgk
      cases l with
      | nil =>
        go_wp2_with fail
        refine (hD _ (Below.refl _ _)).mono ?_
        rintro e w1 ⟨rfl, hb1⟩
        go_wp2_with fail
        refine (hD _ hb1).mono ?_
        rintro e w2 ⟨rfl, hb2⟩
        have hb12 := hb1.trans (hb2.mono hb1.size)
        go_wp2_with fail
        have HS2 := Lib.hid (HW.out.1.keep (Apt.of_below hb12))
        have HG2 := Lib.hid ((HG0.out.trans HW.out.2.2).later hb12)
        have HR2 := Lib.hid (HR.out.below hb12 HR.out.lt)
        have q7 := (hb12.cell (World.block_lt_of_cell? wr _ k7)).trans k7
        have c0 := HR2.out.cell 0
        have c1 := HR2.out.cell 1
        have f0 := HR2.out.frozen 0
        have f1 := HR2.out.frozen 1
        simp at c0 c1
        have hgc : ¬ w.heap.size = c := fun e => HGF.out (e ▸ HS2.out.fc)
        have hst : ∀ (u : World) (x y : Value), u.cell? ⟨c, 7, none⟩ = some (errV cd) → ((u.setCell ⟨w.heap.size, 0, none⟩ x).setCell ⟨w.heap.size, 1, none⟩ y).cell? ⟨c, 7, none⟩ = some (errV cd) := fun u x y h =>
          (World.cell?_of_block (a := ⟨c, 7, none⟩) ((Below.heap_setCell _ _ _ c fun e => hgc e.symm).trans (Below.heap_setCell _ _ _ c fun e => hgc e.symm))).trans h
        clear hD hb1 hb2 hb12 k4 k7 HW HR HC HF2 hlt
        refine wp_region_mix [(0, false), (1, false), (2, false), (3, false), (4, false), (5, true), (6, false), (7, false)] (fun u => u.cell? ⟨c, 7, none⟩ = some (errV cd)) (by kernel_rfl) (by kernel_rfl) (by kernel_rfl) rfl q7 ?_
        iterate 5
          (refine mix_read (o := ⟨_, _, _, _, _, _⟩) (v := ?_) rfl (by rfl) (fun w' hS => ?_) ?_
           rotate_left
           go_simp
           with_reducible rfl
           try simp only [Act.put, List.setIfInBounds_toArray, List.set_cons_zero, List.set_cons_succ])
        refine mix_step (o := ⟨_, _, _, _, _, _⟩) rfl (fun K hK => ?_)
        go_simp
        refine hK.out _ _ (hst _ _ _ q7) ?_
        clear hK K
        try simp only [Act.put, List.setIfInBounds_toArray, List.set_cons_zero, List.set_cons_succ]
        iterate 2
          (refine mix_read (o := ⟨_, _, _, _, _, _⟩) (v := ?_) rfl (by rfl) (fun w' hS => ?_) ?_
           rotate_left
           go_simp
           with_reducible rfl
           try simp only [Act.put, List.setIfInBounds_toArray, List.set_cons_zero, List.set_cons_succ])
        refine mix_done ?_
        have hgr := grown_two w2 w.heap.size 0 1 (.int .u64 0) (.slice none 0 0)
        have hR3 : Blk ((w2.setCell ⟨w.heap.size, 0, none⟩ (.int .u64 0)).setCell ⟨w.heap.size, 1, none⟩ (.slice none 0 0)) w.heap.size 43 #[.int .u64 0, .slice none 0 0] := by
          have := (HR2.out.set_ 0 (.int .u64 0)).set_ 1 (.slice none 0 0)
          simpa using this
        have HS3 := Lib.hid (HS2.out.keep (Apt.of_grown hgr fun q hq hF => HGF.out (Option.some.inj hq ▸ hF)))
        have HG3 := Lib.hid (HG2.out.newset hgr (Nat.le_refl _))
        have d0 := hR3.cell 0
        have d1 := hR3.cell 1
        simp at d0 d1
        clear hst q7 f0 f1 c0 c1 hgc hgr hR3 HR2 HS2 HG2
        revert HS3 HG3 d0 d1
        generalize (w2.setCell ⟨w.heap.size, 0, none⟩ (.int .u64 0)).setCell ⟨w.heap.size, 1, none⟩ (.slice none 0 0) = w3
        intro HS3 HG3 d0 d1
        go_wp2_with fail
        have e0 : w3.drew.cell? ⟨w.heap.size, 0, none⟩ = some (.int .u64 0) := d0
        have e1 : w3.drew.cell? ⟨w.heap.size, 1, none⟩ = some (.slice none 0 0) := d1
        refine bodyPost_ret (v := .tuple #[.agg #[.int .u64 0, .slice none 0 0], .bool false, errV cd]) (by simp [results, Tryz.results13, go_sem, e0, e1]; try rfl) rfl ?_
        exact ⟨Fx, HG3.out.later (Below.refl _ _).drew, .inl ⟨rfl, rfl, Fs, Fp, mf, N, id, pages, got, out, [], A, ca, told, last, errV cd, HS3.out.keep (Apt.of_below (Below.refl _ _).drew), HE.out.1, HE.out.2⟩⟩
      | cons t l =>
        have hne : (((t :: l).length : Int) == 0) = false := by simp; omega
        obtain ⟨n, hn⟩ : ∃ n, n = (t :: l).length := ⟨_, rfl⟩
        rw [← hn] at hne
        simp only [← hn] at k4
        clear hn
        go_wp2_with fail
        refine (hD _ (Below.refl _ _)).mono ?_
        rintro e w2 ⟨rfl, hb12⟩
        go_wp2_with fail
        have HS2 := Lib.hid (HW.out.1.keep (Apt.of_below hb12))
        have HG2 := Lib.hid ((HG0.out.trans HW.out.2.2).later hb12)
        have HR2 := Lib.hid (HR.out.below hb12 HR.out.lt)
        have q7 := (hb12.cell (World.block_lt_of_cell? wr _ k7)).trans k7
        have c0 := HR2.out.cell 0
        have c1 := HR2.out.cell 1
        have f0 := HR2.out.frozen 0
        have f1 := HR2.out.frozen 1
        simp at c0 c1
        have hgc : ¬ w.heap.size = c := fun e => HGF.out (e ▸ HS2.out.fc)
        have hst : ∀ (u : World) (x y : Value), u.cell? ⟨c, 7, none⟩ = some (errV cd) → ((u.setCell ⟨w.heap.size, 0, none⟩ x).setCell ⟨w.heap.size, 1, none⟩ y).cell? ⟨c, 7, none⟩ = some (errV cd) := fun u x y h =>
          (World.cell?_of_block (a := ⟨c, 7, none⟩) ((Below.heap_setCell _ _ _ c fun e => hgc e.symm).trans (Below.heap_setCell _ _ _ c fun e => hgc e.symm))).trans h
        clear hD hb12 hne k4 k7 HW HR HC HF2 hlt
        refine wp_region_mix [(0, false), (1, false), (2, false), (3, false), (4, false), (5, true), (6, false), (7, false)] (fun u => u.cell? ⟨c, 7, none⟩ = some (errV cd)) (by kernel_rfl) (by kernel_rfl) (by kernel_rfl) rfl q7 ?_
        iterate 5
          (refine mix_read (o := ⟨_, _, _, _, _, _⟩) (v := ?_) rfl (by rfl) (fun w' hS => ?_) ?_
           rotate_left
           go_simp
           with_reducible rfl
           try simp only [Act.put, List.setIfInBounds_toArray, List.set_cons_zero, List.set_cons_succ])
        refine mix_step (o := ⟨_, _, _, _, _, _⟩) rfl (fun K hK => ?_)
        go_simp
        refine hK.out _ _ (hst _ _ _ q7) ?_
        clear hK K
        try simp only [Act.put, List.setIfInBounds_toArray, List.set_cons_zero, List.set_cons_succ]
        iterate 2
          (refine mix_read (o := ⟨_, _, _, _, _, _⟩) (v := ?_) rfl (by rfl) (fun w' hS => ?_) ?_
           rotate_left
           go_simp
           with_reducible rfl
           try simp only [Act.put, List.setIfInBounds_toArray, List.set_cons_zero, List.set_cons_succ])
        refine mix_done ?_
        have hgr := grown_two w2 w.heap.size 0 1 (.int .u64 0) (.slice none 0 0)
        have hR3 : Blk ((w2.setCell ⟨w.heap.size, 0, none⟩ (.int .u64 0)).setCell ⟨w.heap.size, 1, none⟩ (.slice none 0 0)) w.heap.size 43 #[.int .u64 0, .slice none 0 0] := by
          have := (HR2.out.set_ 0 (.int .u64 0)).set_ 1 (.slice none 0 0)
          simpa using this
        have HS3 := Lib.hid (HS2.out.keep (Apt.of_grown hgr fun q hq hF => HGF.out (Option.some.inj hq ▸ hF)))
        have HG3 := Lib.hid (HG2.out.newset hgr (Nat.le_refl _))
        have d0 := hR3.cell 0
        have d1 := hR3.cell 1
        simp at d0 d1
        clear hst q7 f0 f1 c0 c1 hgc hgr hR3 HR2 HS2 HG2
        revert HS3 HG3 d0 d1
        generalize (w2.setCell ⟨w.heap.size, 0, none⟩ (.int .u64 0)).setCell ⟨w.heap.size, 1, none⟩ (.slice none 0 0) = w3
        intro HS3 HG3 d0 d1
        go_wp2_with fail
        have e0 : w3.drew.cell? ⟨w.heap.size, 0, none⟩ = some (.int .u64 0) := d0
        have e1 : w3.drew.cell? ⟨w.heap.size, 1, none⟩ = some (.slice none 0 0) := d1
        refine bodyPost_ret (v := .tuple #[.agg #[.int .u64 0, .slice none 0 0], .bool false, errV cd]) (by simp [results, Tryz.results13, go_sem, e0, e1]; try rfl) rfl ?_
        exact ⟨Fx, HG3.out.later (Below.refl _ _).drew, .inl ⟨rfl, rfl, Fs, Fp, mf, N, id, pages, got, out, t :: l, A, ca, told, last, errV cd, HS3.out.keep (Apt.of_below (Below.refl _ _).drew), HE.out.1, HE.out.2⟩⟩
    · subst hev
      cases l with
      | nil =>
        have hgp := hgp rfl
        have hgk := hgk rfl
        obtain ⟨gk1, hgk1⟩ : ∃ x, gk = x + 1 := ⟨gk - 1, by omega⟩
        have hpb := HW.out.1.pagesb
        have hmo := HW.out.1.most rfl
        have HN := Lib.hid fun (u : World) (hu : Below wr.heap.size wr u) => npage_any (w := u) (HW.out.1.st.below hu) (HC.out.below hu HC.out.lt) HW.out.1.nc HW.out.1.fine (by omega) HW.out.1.idb (by omega) (((HL0.out.go HW.out.2.2.apt fun q hq => HW.out.2.2.new q hq).less (bad' := fun q => Fs q ∨ q = c) fun q hq => .inl (hq.elim (HW.out.1.fs q) fun e => e ▸ HW.out.1.fc)).below hu)
        clear hpb hmo
        go_wp2_with fail
        refine (hD _ (Below.refl _ _)).mono ?_
        rintro e w1 ⟨rfl, hb1⟩
        go_wp2_with fail
        refine (HN.out _ hb1).mono ?_
        rintro e w3 ⟨y, Fs', B, got', rfl, hg1, hg2, hg3, hP3, hn3, hC3, hG3, hB3, hF3, hO3⟩
        obtain ⟨A', ca', rfl, _, _⟩ := hO3.form
        have k4 := hC3.cell 4
        have k7 := hC3.cell 7
        have f4 := hC3.frozen 4
        have f7 := hC3.frozen 7
        simp at k4 k7
        have hLn : Left rest cd mf (callS m) id pages got' out (pgR m id got).2 (errV (pgR m id got).1) := by
          by_cases hz : (pgR m id got).1 = 0
          · rw [hz, errV_zero, hg1 hz]
            exact HW.out.2.1.page (hgp trivial) hz
          · exact HW.out.2.1.fail (hgp trivial) hz got' _
        have hev' : errV (pgR m id got).1 = .nilIface → got' = got + 1 := fun e => by
          by_cases hz : (pgR m id got).1 = 0
          · exact hg1 hz
          · exact absurd e (errV_some hz)
        have hgk2 : errV (pgR m id got).1 = .nilIface → pages - got' ≤ gk1 := fun e => by
          have := hev' e
          have := hgk trivial
          omega
        obtain ⟨F4, hS4, hG4⟩ := HW.out.1.paged (w3 := w3) (hgp trivial) hg3 hg2 hP3 hn3 hC3 ((Goes.of_below hb1).trans hG3) (Nat.le_trans hb1.size hB3) hF3 hO3 rfl rfl hev'
        have HG4 := Lib.hid (HW.out.2.2.trans hG4)
        have HS4 := Lib.hid hS4
        have HLN := Lib.hid hLn
        have HGK2 := Lib.hid hgk2
        clear hLn hev' hgk2 hS4 hG4 hg1 hg2 hg3 hP3 hn3 hC3 hG3 hB3 hF3 hO3 HN hD hgk hgp HW HC HR HGF hb1
        generalize (pgR m id got).2 = pl at HS4 HG4 HLN ⊢
        generalize (pgR m id got).1 = pc at HS4 HG4 HLN HGK2 ⊢
        have hfin : errV pc = .nilIface ∨ ∃ n, errV pc = code n := by
          by_cases hz : pc = 0
          · exact .inl (by rw [hz, errV_zero])
          · exact .inr ⟨_, errV_code hz⟩
        rcases hfin with he | ⟨n, he⟩
        · rw [he] at HS4 HG4 HLN HGK2 ⊢
          clear he
          go_wp2_with fail
          go_roundg gk1
          case measure => omega
          case rel => exact ⟨F4, Fs', _, callS m, N + 1, got', pl, A', ca', .nilIface, fun _ => HGK2.out trivial, Lib.hid ⟨HS4.out, HLN.out, HG4.out⟩⟩
        · rw [he] at HS4 HG4 HLN HGK2 ⊢
          clear he
          go_wp2_with fail
          go_roundg gk1
          case measure => omega
          case rel => exact ⟨F4, Fs', _, callS m, N + 1, got', pl, A', ca', code n, (fun e => by cases e), Lib.hid ⟨HS4.out, HLN.out, HG4.out⟩⟩
      | cons t l =>
        obtain ⟨hln, hlc, hid, gx, ox, d, hA, hgx, x0, x1, hd, A', c', hsl, hTk⟩ := HW.out.1.rest.first
        subst hA
        obtain ⟨Ad, cdd, rfl, _, _⟩ := hd.here.form
        have hne : ((l.length : Int) + 1 == 0) = false := by simp; omega
        simp only [List.length_cons] at k4 hsl hlc
        have hup := HW.out.1.lastT t
        have HX : Hid (Keep (fun q => ¬ Fp q) (fun u => Ss u (.slice Ad t.sp.length cdd) t.sp) wr) := Lib.hid hd
        have HTK := Lib.hid hTk
        have HID := Lib.hid hid
        clear hid hd hTk hln hgk hgp
        go_wp2_with fail
        refine (hD _ (Below.refl _ _)).mono ?_
        rintro e w1 ⟨rfl, hb1⟩
        have y0 := (hb1.cell (World.block_lt_of_cell? wr _ x0)).trans x0
        have y1 := (hb1.cell (World.block_lt_of_cell? wr _ x1)).trans x1
        have y4 := (hb1.cell (World.block_lt_of_cell? wr _ k4)).trans k4
        go_wp2_with fail
        obtain ⟨g5, hg5⟩ : ∃ z, z = w1.heap.size := ⟨_, rfl⟩
        obtain ⟨w2, hw2⟩ : ∃ z, z = w1.alloc (.cells #[.int .u64 t.id, .slice Ad t.sp.length cdd] 43) := ⟨_, rfl⟩
        have hb12 : Below wr.heap.size wr w2 := by rw [hw2]; exact hb1.alloc hb1.size _
        have hT : Blk w2 g5 43 #[.int .u64 t.id, .slice Ad t.sp.length cdd] := by rw [hw2, hg5]; exact Blk.new _ _ _
        have hg5r : wr.heap.size ≤ g5 := by rw [hg5]; exact hb1.size
        rw [← hg5, ← hw2]
        clear hw2 hg5 y0 y1 y4 hb1 w1 hD x0 x1 k4 k7
        have HC2 : Hid (Blk w2 c 83 #[.pointer (some ⟨g, 0, none⟩), .int .u64 (id : Int), .int .i64 (pages : Int), .int .i64 (got : Int), .slice (some ⟨gx, ox, none⟩) (t :: l).length ca, .bool told, .int .u64 last, .nilIface]) := Lib.hid (HC.out.below hb12 HC.out.lt)
        have z4 := HC2.out.cell 4
        have z5 := HC2.out.cell 5
        have z6 := HC2.out.cell 6
        have z7 := HC2.out.cell 7
        have hfz := fun i => HC2.out.frozen i
        have t0 := hT.cell 0
        have t1 := hT.cell 1
        simp at z4 z5 z6 z7 t0 t1
        by_cases hu : upT out t = true
        · obtain ⟨s, rfl, hLs⟩ := HW.out.2.1.up hu
          have HLS := Lib.hid hLs
          have hcs : told = false ∨ (told = true ∧ decide (t.id ≤ last) = false) := by
            rw [hup] at hu
            cases told
            · exact .inl rfl
            · simp at hu
              exact .inr ⟨rfl, decide_eq_false (by omega)⟩
          clear hu hup hLs
          rcases hcs with rfl | ⟨rfl, hlx⟩
          all_goals
            go_wp2_with fail
            go_quiet (fail)
            go_wp2_with fail
            have hgc : ¬ g5 = c := fun e => by omega
            have hst : ∀ (u : World) (i : Nat) (x : Value), u.cell? ⟨g5, 0, none⟩ = some (.int .u64 t.id) → (u.setCell ⟨c, i, none⟩ x).cell? ⟨g5, 0, none⟩ = some (.int .u64 t.id) := fun u i x h =>
              (World.cell?_of_block (a := ⟨g5, 0, none⟩) (Below.heap_setCell _ _ _ g5 hgc)).trans h
            have q0 := hst (w2.drewN nq) 4 (.slice A' l.length c') t0
            have hC4 := (HC2.out.drewN nq).set_ 4 (.slice A' l.length c')
            have g5' := hC4.cell 5
            have g6' := hC4.cell 6
            have hfy := fun i => hC4.frozen i
            simp at g5' g6'
            refine wp_region_mix [(0, false), (1, false), (2, false), (3, false), (4, false), (5, false), (6, true), (7, false), (8, false), (9, true)] (fun u => u.cell? ⟨g5, 0, none⟩ = some (.int .u64 t.id)) (by kernel_rfl) (by kernel_rfl) (by kernel_rfl) rfl q0 ?_
            iterate 6
              (refine mix_read (o := ⟨_, _, _, _, _, _⟩) (v := ?_) rfl (by rfl) (fun w' hS => ?_) ?_
               rotate_left
               go_simp
               with_reducible rfl
               try simp only [Act.put, List.setIfInBounds_toArray, List.set_cons_zero, List.set_cons_succ])
            refine mix_step (o := ⟨_, _, _, _, _, _⟩) rfl (fun K hK => ?_)
            go_simp
            refine hK.out _ _ (hst _ 5 (.bool true) q0) ?_
            clear hK K
            try simp only [Act.put, List.setIfInBounds_toArray, List.set_cons_zero, List.set_cons_succ]
            iterate 2
              (refine mix_read (o := ⟨_, _, _, _, _, _⟩) (v := ?_) rfl (by rfl) (fun w' hS => ?_) ?_
               rotate_left
               go_simp
               with_reducible rfl
               try simp only [Act.put, List.setIfInBounds_toArray, List.set_cons_zero, List.set_cons_succ])
            refine mix_step (o := ⟨_, _, _, _, _, _⟩) rfl (fun K hK => ?_)
            go_simp
            refine hK.out _ _ (hst _ 6 (.int .u64 t.id) (hst _ 5 (.bool true) q0)) ?_
            clear hK K
            try simp only [Act.put, List.setIfInBounds_toArray, List.set_cons_zero, List.set_cons_succ]
            refine mix_done ?_
            have hgr4 := grown_trans (grown_trans (grown_set (w2.drewN nq) c 4 (.slice A' l.length c')) (grown_set _ c 5 (.bool true))) (grown_set _ c 6 (.int .u64 t.id))
            have hA24 := (Apt.of_grown (bad := fun q => q = c) hgr4 fun q hq => (Option.some.inj hq).symm).trans (Apt.of_below (Below.refl _ _).drew)
            have hA4 := (Apt.of_below (below_drewN hb12 nq)).trans hA24
            have hT4 := (hA24.block g5 (hT.drewN nq).lt hgc).trans (hT.drewN nq)
            have HS4 := Lib.hid (HW.out.1.turn (hA4.mono fun q _ hq => .inr hq) (out2 := out ++ [t]) (l2 := l) (A2 := A') (ca2 := c') (told2 := true) (last2 := t.id) (ev2 := .nilIface) (by
              have := (hC4.set_ 5 (.bool true)).set_ 6 (.int .u64 t.id)
              simp at this
              exact this.drewN 1) HTK.out (LastT.some _ _) (fun _ => rfl))
            have HG4 := Lib.hid ((HG0.out.trans HW.out.2.2).trans (F2 := Fx) ⟨hA4.mono fun q _ hq => hq ▸ HW.out.1.fc, fun q => .inl⟩)
            have HX4 := Lib.hid (HX.out.go (hA4.mono fun q _ hq hF => (HW.out.1.np q hF).2 hq) (bad' := fun q => ¬ Fx q) fun q hn => .inl fun hF => hn (HW.out.1.fp q hF))
            have HR4 := Lib.hid ((hA4.block _ HR.out.lt fun e => HGF.out (e ▸ HW.out.1.fc)).trans HR.out)
            clear hA4 hA24 hgr4 hC4 hfy g5' g6' q0 hst hgc z4 z5 z6 z7 t0 t1 hT HC HC2 HW HTK HX HR hb12 hg5r hsl hne hfz hlt
            generalize ((((w2.drewN nq).setCell ⟨c, 4, none⟩ (.slice A' l.length c')).setCell ⟨c, 5, none⟩ (.bool true)).setCell ⟨c, 6, none⟩ (.int .u64 t.id)).drew = w4 at hT4 HS4 HG4 HX4 HR4 ⊢
            have t0 := Blk.cell hT4 0
            have t1 := Blk.cell hT4 1
            have c0 := Blk.cell HR4.out 0
            have c1 := Blk.cell HR4.out 1
            have f0 := Blk.frozen HR4.out 0
            have f1 := Blk.frozen HR4.out 1
            simp at t0 t1 c0 c1
            go_wp2_with fail
            have hgr := grown_two w4 w.heap.size 0 1 (.int .u64 t.id) (.slice Ad t.sp.length cdd)
            have hR6 := (Blk.set_ HR4.out 0 (.int .u64 t.id)).set_ 1 (.slice Ad t.sp.length cdd)
            have e0 := hR6.cell 0
            have e1 := hR6.cell 1
            simp at e0 e1
            refine bodyPost_ret (v := .tuple #[.agg #[.int .u64 t.id, .slice Ad t.sp.length cdd], .bool true, .nilIface]) (by simp [results, Tryz.results13, go_sem, e0, e1]; try rfl) rfl ?_
            exact ⟨Fx, HG4.out.newset hgr (Nat.le_refl _), .inr ⟨t, s, _, rfl, rfl, ⟨Fs, Fp, m, N, id, pages, got, out ++ [t], l, A', c', true, t.id, .nilIface, HS4.out.keep (Apt.of_grown hgr fun q hq hF => HGF.out (Option.some.inj hq ▸ hF)), HLS.out, fun h => (by cases h)⟩, HX4.out.go (Apt.of_grown hgr fun q hq => Option.some.inj hq ▸ HGF.out) fun _ => .inl, HID.out⟩⟩
        · obtain ⟨rfl, rfl, rfl⟩ := HW.out.2.1.low (by simpa using hu)
          have hle : t.id ≤ last ∧ told = true := by
            rw [hup] at hu
            cases told
            · simp at hu
            · simp at hu
              exact ⟨by omega, rfl⟩
          obtain ⟨hle, rfl⟩ := hle
          have hlx : decide (t.id ≤ last) = true := decide_eq_true hle
          clear hu hup hle
          go_wp2_with fail
          go_quiet (fail)
          go_wp2_with fail
          have HLE : Hid (Left [] 2 mf mf id pages got out (t :: l) (code 2)) := Lib.hid (.inl ⟨(errV_code (by omega)).symm, by omega, rfl, rfl⟩)
          have hgr4 := grown_set (w2.drewN nq) c 7 (code 2)
          have hA4 : Apt (fun q => q = c) wr ((w2.drewN nq).setCell ⟨c, 7, none⟩ (code 2)) := (Apt.of_below (below_drewN hb12 nq)).trans (Apt.of_grown hgr4 fun q hq => (Option.some.inj hq).symm)
          have HS2 := Lib.hid (HW.out.1.turn (hA4.mono fun q _ hq => .inr hq) (out2 := out) (l2 := t :: l) (A2 := some ⟨gx, ox, none⟩) (ca2 := ca) (told2 := true) (last2 := last) (ev2 := code 2) (by
            have := (HC2.out.drewN nq).set_ 7 (code 2)
            simpa using this) HW.out.1.rest HW.out.1.lastT (fun e => by cases e))
          have HG2 := Lib.hid ((HG0.out.trans HW.out.2.2).trans (F2 := Fx) ⟨hA4.mono fun q _ hq => hq ▸ HW.out.1.fc, fun q => .inl⟩)
          have HR2 : Hid (Blk ((w2.drewN nq).setCell ⟨c, 7, none⟩ (code 2)) w.heap.size 43 #[.int .u64 0, .slice none 0 0]) := Lib.hid ((hA4.block _ HR.out.lt fun e => HGF.out (e ▸ HW.out.1.fc)).trans HR.out)
          have q7 := HS2.out.blk.cell 7
          simp at q7
          clear hgr4 hA4
          generalize (w2.drewN nq).setCell ⟨c, 7, none⟩ (code 2) = w4 at HS2 HG2 HR2 q7 ⊢
          have c0 := HR2.out.cell 0
          have c1 := HR2.out.cell 1
          have f0 := HR2.out.frozen 0
          have f1 := HR2.out.frozen 1
          simp at c0 c1
          have hgc : ¬ w.heap.size = c := fun e => HGF.out (e ▸ HS2.out.fc)
          have hst : ∀ (u : World) (x y : Value), u.cell? ⟨c, 7, none⟩ = some (code 2) → ((u.setCell ⟨w.heap.size, 0, none⟩ x).setCell ⟨w.heap.size, 1, none⟩ y).cell? ⟨c, 7, none⟩ = some (code 2) := fun u x y h =>
            (World.cell?_of_block (a := ⟨c, 7, none⟩) ((Below.heap_setCell _ _ _ c fun e => hgc e.symm).trans (Below.heap_setCell _ _ _ c fun e => hgc e.symm))).trans h
          clear HW HR HC HF2 hlt HC2 HX HTK HID hsl hne hlx hg5r hfz hT t0 t1 z4 z5 z6 z7 hb12
          refine wp_region_mix [(0, false), (1, false), (2, false), (3, false), (4, false), (5, true), (6, false), (7, false)] (fun u => u.cell? ⟨c, 7, none⟩ = some (code 2)) (by kernel_rfl) (by kernel_rfl) (by kernel_rfl) rfl q7 ?_
          iterate 5
            (refine mix_read (o := ⟨_, _, _, _, _, _⟩) (v := ?_) rfl (by rfl) (fun w' hS => ?_) ?_
             rotate_left
             go_simp
             with_reducible rfl
             try simp only [Act.put, List.setIfInBounds_toArray, List.set_cons_zero, List.set_cons_succ])
          refine mix_step (o := ⟨_, _, _, _, _, _⟩) rfl (fun K hK => ?_)
          go_simp
          refine hK.out _ _ (hst _ _ _ q7) ?_
          clear hK K
          try simp only [Act.put, List.setIfInBounds_toArray, List.set_cons_zero, List.set_cons_succ]
          iterate 2
            (refine mix_read (o := ⟨_, _, _, _, _, _⟩) (v := ?_) rfl (by rfl) (fun w' hS => ?_) ?_
             rotate_left
             go_simp
             with_reducible rfl
             try simp only [Act.put, List.setIfInBounds_toArray, List.set_cons_zero, List.set_cons_succ])
          refine mix_done ?_
          have hgr := grown_two w4 w.heap.size 0 1 (.int .u64 0) (.slice none 0 0)
          have hR3 : Blk ((w4.setCell ⟨w.heap.size, 0, none⟩ (.int .u64 0)).setCell ⟨w.heap.size, 1, none⟩ (.slice none 0 0)) w.heap.size 43 #[.int .u64 0, .slice none 0 0] := by
            have := (HR2.out.set_ 0 (.int .u64 0)).set_ 1 (.slice none 0 0)
            simpa using this
          have HS3 := Lib.hid (HS2.out.keep (Apt.of_grown hgr fun q hq hF => HGF.out (Option.some.inj hq ▸ hF)))
          have HG3 := Lib.hid (HG2.out.newset hgr (Nat.le_refl _))
          have d0 := hR3.cell 0
          have d1 := hR3.cell 1
          simp at d0 d1
          clear hst q7 f0 f1 c0 c1 hgc hgr hR3 HR2 HS2 HG2
          revert HS3 HG3 d0 d1
          generalize (w4.setCell ⟨w.heap.size, 0, none⟩ (.int .u64 0)).setCell ⟨w.heap.size, 1, none⟩ (.slice none 0 0) = w6
          intro HS3 HG3 d0 d1
          go_wp2_with fail
          have e0 : w6.drew.cell? ⟨w.heap.size, 0, none⟩ = some (.int .u64 0) := d0
          have e1 : w6.drew.cell? ⟨w.heap.size, 1, none⟩ = some (.slice none 0 0) := d1
          refine bodyPost_ret (v := .tuple #[.agg #[.int .u64 0, .slice none 0 0], .bool false, code 2]) (by simp [results, Tryz.results13, go_sem, e0, e1]; try rfl) rfl ?_
          exact ⟨Fx, HG3.out.later (Below.refl _ _).drew, .inl ⟨rfl, by rw [errV_code (by omega)], Fs, Fp, mf, N, id, pages, got, out, t :: l, _, ca, true, last, code 2, HS3.out.keep (Apt.of_below (Below.refl _ _).drew), HLE.out, fun _ e => by cases e⟩⟩

theorem scanN_t : ScanN PSc where
  thing := psc_thing
  open_nil := fun id h hL => sopen_nil id _ h hL
  open_no := fun id h hm hN hid hL hz => sopen_no id h hm hN hid hL hz
  open_ok := fun id h hm hN hid hL hz => sopen_ok id h hm hN hid hL hz
  next_on := fun h hL => (snext_any h hL).mono fun e w' ⟨F', hG, hc⟩ => by
    rcases hc with ⟨hr, _⟩ | ⟨t, s, d, hr, he, hP, hS, hid⟩
    · cases hr
    · injection hr with h1 h2
      subst h1 h2
      exact ⟨d, F', he, hP, hS, hid, hG⟩
  next_end := fun h hL => (snext_any h hL).mono fun e w' ⟨F', hG, hc⟩ => by
    rcases hc with ⟨_, he, hP⟩ | ⟨t, s, d, hr, _⟩
    · exact ⟨F', he, hP, hG⟩
    · cases hr
  done_no := fun h => by
    obtain ⟨Fs, Fp, m, N, id, pages, got, out, l, A, ca, told, last, ev, h1, h2, h3⟩ := h
    rcases h2 with ⟨_, _, hr, _⟩ | ⟨rfl, hsc⟩
    · cases hr
    · have hD := sdone_any (cd := 0) (by rw [errV_zero]; exact h1.blk)
      have hb : (decide ((0 : Int) ≠ 0) || (decide (got = pages) && decide (l.length = 0))) = false := by
        by_cases hov : got = pages ∧ l = []
        · obtain ⟨rfl, rfl⟩ := hov
          have := (Left.end_ (.inr ⟨rfl, hsc⟩)).1
          cases this
        · by_cases h4 : got = pages
          · have : l ≠ [] := fun h => hov ⟨h4, h⟩
            simp [this]
          · simp [h4]
      rw [hb] at hD
      exact hD
  done_yes := fun h => by
    obtain ⟨Fs, Fp, m, N, id, pages, got, out, l, A, ca, told, last, ev, h1, h2, h3⟩ := h
    rcases h2 with ⟨rfl, hz, _, _⟩ | ⟨rfl, hsc⟩
    · have hD := sdone_any h1.blk
      simpa [hz] using hD
    · obtain ⟨rfl, rfl⟩ := h3 rfl rfl
      have hD := sdone_any (cd := 0) (by rw [errV_zero]; exact h1.blk)
      simpa using hD
  store := psc_store

theorem theScanner : ScanK PSc PSqt := scanK_t scanN_t

end Go.Proofs.YtfccfnbmmgfgcaaGreatDoor
