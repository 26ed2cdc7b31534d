/-
  CONTRACTS of page.read and page.Get. Conditions: what each says.
-/
import Derived.Test.YtcpbikogccdknaaPgD
namespace Go.Proofs.Ytcpbikogccdknaa
open Go.RowKit Go.Maps
set_option maxRecDepth 100000

theorem Acc.ok {w : World} {base : Nat} {v : Value} {l : List Sn} (h : Acc w base v l) : ∀ s ∈ l, s.ok := fun s hs => by
  obtain ⟨k, hk⟩ := List.mem_iff_getElem?.1 hs
  exact h.ss.ok hk

/-- what read tells -/
structure ReadP (w : World) (b : List UInt8) (x : Value) (ok : Bool) : Prop where
  no : ok = false → ∀ m, ValP m → pgBody m ≠ b
  yes : ok = true → ∃ r, Ts w x r ∧ pgBody r = b ∧ ∀ m, ValP m → pgBody m = b → m = r

theorem pgBody_ge (m : List Tn) : 2 ≤ (pgBody m).length := by rw [pgBody_length]; omega

set_option maxHeartbeats 3200000 in
theorem pread_any (v : Value) (b : List UInt8) (w : World) (h : Bs w v b) (hl : b.length ≤ 140737488355328) :
    Calls Try.prog 30 #[v] w fun e w' => ∃ x ok, e = .returned (.tuple #[x, .bool ok]) ∧ ReadP w' b x ok ∧ Below w.heap.size w w' := by
  have HV := Lib.hid h
  obtain ⟨A, c, hv, hc1, hc2, hr⟩ := h
  subst hv
  by_cases h2 : b.length < 2
  · have hbad : wordOk b 0 false 2 = false := by simp [wordOk, isW]; omega
    have HBAD := Lib.hid hbad
    have HNO : Hid (∀ m, ValP m → pgBody m ≠ b) := Lib.hid fun m _ e => by have := pgBody_ge m; rw [e] at this; omega
    clear hbad hr
    go_enter Try.func30, Try.ntmps30
    go_wp2_with fail
    refine (read_any _ b _ HV.out).mono ?_
    rintro e w1 ⟨rfl, hW1, hb1⟩
    go_wp2_with fail
    refine (word_no _ _ b _ _ _ _ hW1 HBAD.out).mono ?_
    rintro e w2 ⟨rfl, hW2, hg2⟩
    have hB2 := hb1.grown hg2 hb1.size (by intro k hk; injection hk; omega)
    go_wp2_with fail
    refine (bad_true _ _ _ _ _ hW2).mono ?_
    rintro e w3 ⟨rfl, rfl⟩
    go_wp2_with fail
    go_ret2
    exact ⟨_, _, rfl, ⟨fun _ => HNO.out, (fun h => by cases h)⟩, hB2⟩
  · obtain ⟨n, hn⟩ : ∃ n, n = num (b.take 2) := ⟨_, rfl⟩
    have hn2 : num ((b.drop 0).take (Int.toNat 2)) = n := by rw [hn]; rfl
    have hok : wordOk b 0 false 2 = true := by simp [wordOk, isW]; omega
    have hnl : n < 65536 := by
      have h1 := num_lt (b.take 2)
      have h3 : (b.take 2).length ≤ 2 := by rw [List.length_take]; omega
      have hp := Nat.pow_le_pow_right (show 0 < 256 by omega) h3
      have : (256 : Nat) ^ 2 = 65536 := by decide
      omega
    obtain ⟨V1, hs1, hV1, _⟩ := slice_bytes_fromK (P := Try.prog) w byteT elemB hr hc1 hc2 .i64 2 (by omega) 2 rfl
    have HN := Lib.hid hn
    have HN2 := Lib.hid hn2
    have HOK := Lib.hid hok
    have HV1 := Lib.hid hV1
    clear hn hn2 hok hr hV1
    go_enter Try.func30, Try.ntmps30
    go_wp2_with fail
    refine (read_any _ b _ HV.out).mono ?_
    rintro e w1 ⟨rfl, hW1, hb1⟩
    go_wp2_with fail
    refine (word_yes _ _ b _ _ _ _ hW1 HOK.out).mono ?_
    rintro e w2 ⟨rfl, hW2, hg2⟩
    rw [HN2.out]
    have hB2 := hb1.grown hg2 hb1.size (by intro k hk; injection hk; omega)
    go_wp2_with fail
    refine (bad_false _ _ _ _ _ hW2).mono ?_
    rintro e w3 ⟨rfl, rfl⟩
    by_cases h64 : 64 < n
    · have HNO : Hid (∀ m, ValP m → pgBody m ≠ b) := Lib.hid fun m hv e => by
        have := (pg_first (by have := hv.most; omega) e).2.1
        have h3 := hv.most
        have h4 := HN.out
        omega
      clear hs1 hb1 hW1 hW2 hg2
      go_wp2_with fail
      go_ret2
      exact ⟨_, _, rfl, ⟨fun _ => HNO.out, (fun h => by cases h)⟩, hB2⟩
    · have hn64 : n ≤ 64 := by omega
      clear h64 hb1 hW1 hW2 hg2 hnl
      go_wp2_with fail
      go_loopw [6, 7, 25] (fun rv lv i wr => ∃ (k q : Nat) (o : List Tn), k ≤ n ∧ i = .int .u64 (k : Int) ∧ Hid (PgAt b n k q o) ∧ OwnK 2 wr w.heap.size 49 (fun _ => False) TnC lv o ∧ Hid (Bs w rv (b.drop q)) ∧ Below w.heap.size w wr) (fun _ _ i _ => n - (intOf i).toNat)
      case atStart =>
        refine ⟨0, 2, [], Nat.zero_le _, rfl, Lib.hid ?_, OwnK.nil _ _ _ _ _ _, HV1, hB2⟩
        rw [HN.out]
        exact PgAt.start (by omega)
      case round =>
        obtain ⟨k, q, o, hk, rfl, HP, hO, HR, hB⟩ := hrel
        by_cases hlt : k < n
        · have hol : o.length = k := HP.out.len
          go_wp2_with fail
          refine (pnext_any _ (b.drop q) w _ hB HR.out (by rw [List.length_drop]; omega)).mono ?_
          rintro e w4 ⟨x, r, ok, rfl, hN, hb4⟩
          have hB4 := hB.trans (hb4.mono hB.size)
          cases ok with
          | false =>
            obtain ⟨⟨rfl, rfl⟩, hbad⟩ := hN.no rfl
            have HNO : Hid (∀ m, ValP m → pgBody m ≠ b) := Lib.hid (HP.out.none hlt (by
              have h1 : (b.drop q).length = b.length - q := List.length_drop ..
              have h2 : nxMany (b.drop q) = num ((b.drop (q + 8)).take 4) := by rw [nxMany, List.drop_drop]
              rw [← h2]
              rw [List.drop_drop] at hbad
              have hle := HP.out.le
              rcases hbad with h | h | h
              · exact .inl (by omega)
              · exact .inr (.inl (by omega))
              · exact .inr (.inr h)))
            clear hbad hN hO
            go_wp2_with fail
            go_ret2
            exact ⟨_, _, rfl, ⟨fun _ => HNO.out, (fun h => by cases h)⟩, hB4.alloc hB4.size _⟩
          | true =>
            obtain ⟨d, sp, rfl, hA, hm, hok, he, hR⟩ := hN.yes rfl
            have hil := nxId_lt (b.drop q)
            obtain ⟨m, hmm⟩ : ∃ m, m = nxMany (b.drop q) := ⟨_, rfl⟩
            have hm2 : num ((b.drop (q + 8)).take 4) = m := by rw [hmm, nxMany, List.drop_drop]
            rw [← hmm] at hm he hR
            rw [List.drop_drop] at he hR
            have hlq : (b.drop q).length = b.length - q := List.length_drop ..
            have hqle := HP.out.le
            have HG := Lib.hid (HP.out.go encS_inj hlt (sp := sp) (many := m) (by omega) hm2 he hok)
            obtain ⟨i, hi⟩ : ∃ i, i = num ((b.drop q).take 8) := ⟨_, rfl⟩
            rw [← hi] at HG hil ⊢
            have HR2 : Hid (Bs w r (b.drop (q + 12 + m))) := Lib.hid (by rw [Nat.add_assoc]; exact hR)
            obtain ⟨Ad, cd, hdv, _⟩ := hA.ss.form
            have hKd : Keep (fun g => False ∨ u7.ownBlock = some g) (fun u => TnC u ⟨(i : Int), sp⟩ [.int .u64 (i : Int), d]) w4 := fun u ha =>
              ⟨⟨by show (0 : Int) ≤ (i : Int); omega, by show (i : Int) ≤ _; omega⟩, d, rfl, (hA.keep (bad := fun g => False ∨ u7.ownBlock = some g) fun g hg => by
                rcases hg with hg | hg
                · cases hg
                · exact (hO.lt g hg).2) u ha⟩
            have ha1 : Below w4.heap.size w4 ((w4.alloc (.cells #[.int .u64 (i : Int), d] 49)).alloc (.cells #[.int .u64 (i : Int), d] 49)) := ((Below.refl _ _).alloc (Nat.le_refl _) _).alloc (by simp) _
            have hO6 := (hO.below hb4).below ha1
            have hK6 := hKd.below ha1
            have hB6 := hB4.trans (ha1.mono hB4.size)
            have hLv : Lv 2 ((w4.alloc (.cells #[.int .u64 (i : Int), d] 49)).alloc (.cells #[.int .u64 (i : Int), d] 49)) (.slice (some ⟨w4.heap.size + 1, 0, none⟩) 1 1) [[.int .u64 (i : Int), d]] := by
              have := Lv.lit1 (w4.alloc (.cells #[.int .u64 (i : Int), d] 49)) [.int .u64 (i : Int), d] 49
              simpa using this
            have HO6 := Lib.hid hO6
            have HK6 := Lib.hid hK6
            have HLV := Lib.hid hLv
            have HB6 := Lib.hid hB6
            have HB4 := Lib.hid hB4
            have HLT := Lib.hid hO.lt
            clear hi hmm hm2 he hR hok hqle hlq hm hO hO6 hK6 hLv hB6 hB4 hKd hA ha1 hN HP HR hb4 hB hB2
            subst hdv
            go_wp2_with (at_builtin; refine wpList_append_K trT rfl _ _ rfl rfl HO6.out rfl HLV.out HK6.out (by simp [Value.oneCell']) (by omega) (by decide) HB6.out.size ?_)
            intro v7 w7 hO7 hg7 hv7
            go_wp2_with fail
            refine ⟨⟨k + 1, q + 12 + m, o ++ [⟨(i : Int), sp⟩], by omega, by go_num, HG, hO7, HR2, HB6.out.grown hg7 HB6.out.size fun g hg => (HLT.out g hg).1⟩, by simp [intOf]; omega⟩
        · have hkn : k = n := by omega
          subst hkn
          have HT := Lib.hid hO.ts
          have HD := Lib.hid HP.out.done
          have hle := HP.out.le
          have hrf := HR.out
          obtain ⟨Ar, cr, hrv, _⟩ := hrf
          subst hrv
          have hlq : (b.drop q).length = b.length - q := List.length_drop ..
          clear hO HP HR
          by_cases hq : q = b.length
          · have h0 : (b.drop q).length = 0 := by omega
            rw [h0]
            go_wp2_with fail
            go_ret2
            exact ⟨_, _, rfl, ⟨(fun h => by cases h), fun _ => ⟨o, HT.out, HD.out.1 hq, fun m hv he => (HD.out.2 m hv he).1⟩⟩, hB⟩
          · have h0 : ((b.drop q).length : Int) ≠ 0 := by omega
            go_wp2_with fail
            go_ret2
            refine ⟨_, _, rfl, ⟨fun _ m hv he => hq (HD.out.2 m hv he).2, fun h => ?_⟩, hB⟩
            simp at h
            omega

theorem Ts.valP {w : World} {v : Value} {l : List Tn} (h : Ts w v l) (hp : pgB l = true) : ValP l := by
  obtain ⟨h1, h2⟩ := pgB_iff.1 hp
  obtain ⟨xs, _, h4⟩ := h
  have key : ∀ t ∈ l, (0 ≤ t.id ∧ t.id ≤ 18446744073709551615) ∧ ∀ s ∈ t.sp, s.ok := fun t ht => by
    obtain ⟨i, hi⟩ := List.mem_iff_getElem?.1 ht
    obtain ⟨x, _, hid, d, _, hd⟩ := h4.right hi
    refine ⟨hid, fun s hs => ?_⟩
    obtain ⟨k, hk⟩ := List.mem_iff_getElem?.1 hs
    exact hd.ok hk
  exact ⟨h2, h1, fun t ht => (key t ht).1, fun t ht => (key t ht).2⟩
theorem ValP.pgB {l : List Tn} (h : ValP l) : pgB l = true := pgB_iff.2 ⟨h.most, h.is⟩

/-- what Get tells -/
structure GetP (w : World) (x : List UInt8) (l e : Value) : Prop where
  short : x.length < 4 → l = .slice none 0 0 ∧ e = code 2
  sum : 4 ≤ x.length → tailOf x ≠ crcOf (bodyOf x) → l = .slice none 0 0 ∧ e = code 7
  form : 4 ≤ x.length → tailOf x = crcOf (bodyOf x) → (∀ m, ValP m → pgBody m ≠ bodyOf x) → l = .slice none 0 0 ∧ e = code 2
  yes : ∀ m, 4 ≤ x.length → tailOf x = crcOf (bodyOf x) → ValP m → pgBody m = bodyOf x → e = .nilIface ∧ Ts w l m

set_option maxHeartbeats 1600000 in
theorem pget_any (v : Value) (x : List UInt8) (w : World) (h : Bs w v x) (hl : x.length ≤ 140737488355328) :
    Calls Try.prog 12 #[v] w fun e w' => ∃ l er, e = .returned (.tuple #[l, er]) ∧ GetP w' x l er ∧ Below w.heap.size w w' := by
  by_cases h4 : x.length < 4
  · go_enter Try.func12, Try.ntmps12
    go_wp2_with fail
    refine (open_short x v _ h4 h).mono ?_
    rintro e w1 ⟨rfl, rfl⟩
    go_wp2_with fail
    go_ret2
    exact ⟨_, _, rfl, ⟨fun _ => ⟨rfl, rfl⟩, fun h => absurd h (by omega), fun h => absurd h (by omega), fun _ h => absurd h (by omega)⟩, Below.refl _ _⟩
  · have hx4 : 4 ≤ x.length := by omega
    have hbl : Hid ((bodyOf x).length ≤ 140737488355328) := Lib.hid (by rw [bodyOf_length]; omega)
    go_enter Try.func12, Try.ntmps12
    go_wp2_with fail
    refine (open_long x v _ hx4 hl h).mono ?_
    rintro e w1 ⟨b, f, rfl, hO, hb1⟩
    by_cases heq : tailOf x = crcOf (bodyOf x)
    · obtain ⟨rfl, hown⟩ := hO.yes heq
      have HE := Lib.hid heq
      obtain ⟨Ab, cb, hbv, _⟩ := hown.form
      subst hbv
      clear hO heq
      go_wp2_with fail
      refine (pread_any _ (bodyOf x) _ hown.bs hbl.out).mono ?_
      rintro e w2 ⟨l, ok, rfl, hR, hb2⟩
      have hB2 := hb1.trans (hb2.mono hb1.size)
      cases ok with
      | false =>
        have HN := Lib.hid (hR.no rfl)
        clear hR
        go_wp2_with fail
        go_ret2
        exact ⟨_, _, rfl, ⟨fun h => absurd h h4, fun _ h => absurd HE.out h, fun _ _ _ => ⟨rfl, rfl⟩, fun m _ _ hv he => absurd he (HN.out m hv)⟩, hB2⟩
      | true =>
        obtain ⟨r, hT, hr1, hr2⟩ := hR.yes rfl
        have HT := Lib.hid hT
        have HR1 := Lib.hid hr1
        have HR2 := Lib.hid hr2
        obtain ⟨Al, cl, hlv, _⟩ := hT.form
        subst hlv
        clear hR hT hr1 hr2
        go_wp2_with fail
        refine (isPage_any _ r _ HT.out).mono ?_
        rintro e w3 ⟨rfl, hb3⟩
        have hB3 := hB2.trans (hb3.mono hB2.size)
        cases hp : pgB r with
        | false =>
          have HP := Lib.hid hp
          clear hp
          go_wp2_with fail
          go_ret2
          refine ⟨_, _, rfl, ⟨fun h => absurd h h4, fun _ h => absurd HE.out h, fun _ _ _ => ⟨rfl, rfl⟩, fun m _ _ hv he => ?_⟩, hB3⟩
          have e := HR2.out m hv he
          subst e
          have := hv.pgB
          rw [HP.out] at this
          cases this
        | true =>
          have HV := Lib.hid (HT.out.valP hp)
          clear hp
          go_wp2_with fail
          go_ret2
          refine ⟨_, _, rfl, ⟨fun h => absurd h h4, fun _ h => absurd HE.out h, fun _ _ hn => absurd HR1.out (hn r HV.out), fun m _ _ hv he => ?_⟩, hB3⟩
          have e := HR2.out m hv he
          subst e
          exact ⟨rfl, HT.out.below hb3⟩
    · obtain ⟨rfl, rfl⟩ := hO.no heq
      have HE := Lib.hid heq
      clear hO heq
      go_wp2_with fail
      go_ret2
      exact ⟨_, _, rfl, ⟨fun h => absurd h h4, fun _ _ => ⟨rfl, rfl⟩, fun _ h => absurd h HE.out, fun _ _ h => absurd h HE.out⟩, hb1⟩

end Go.Proofs.Ytcpbikogccdknaa
