/- HivePins: the walk. -/
import Derived.Test.YtaceemaedpkigaaDoorN21
namespace Go.Proofs.YtaceemaedpkigaaDoor
open Go.RowKit Go.Maps
set_option linter.unusedVariables false
set_option linter.unusedSimpArgs false
attribute [local go_sem ↓] zeroDg
attribute [local go_sem ↓] empty9


/-- what the first loop knows -/
structure P1 (N : Nat) (l1 : List (List UInt8)) (i : Nat) (kept : List (List UInt8)) (A : Ag) : Prop where
  p : PI N kept A
  o : ∀ (j : Nat) (t : List UInt8) (u : Nat), A.g[j]? = some (some (t, u)) → t ∈ kept
  s : ∀ t ∈ kept, t ∈ l1
  n : A.pins.length ≤ i
theorem put_at {A : Ag} {i j : Nat} {s t : List UInt8} {u : Nat} (h : (A.put i s).g[j]? = some (some (t, u))) : t = s ∨ A.g[j]? = some (some (t, u)) := by
  simp only [Ag.put] at h
  by_cases e : i = j
  · subst e
    rw [List.getElem?_set] at h
    split at h
    · split at h
      · simp only [Option.some.injEq, Prod.mk.injEq] at h; exact .inl h.1.symm
      · cases h
    · exact .inr h
  · rw [List.getElem?_set_ne e] at h; exact .inr h
theorem P1.use {N i : Nat} {l1 kept : List (List UInt8)} {A : Ag} (h : P1 N l1 i kept A) {j : Nat} {s : List UInt8} {u : Nat} (hg : A.g[j]? = some (some (s, u))) (hs : s ∈ kept) : P1 N l1 (i + 1) kept ((A.put j s).pin (S.sha s)) :=
  ⟨(h.p.put (fun t u' hg' _ => by rw [hg] at hg'; simp only [Option.some.injEq, Prod.mk.injEq] at hg'; exact hg'.1.symm)).pin hs, fun j' t u' hj => by
    rcases put_at (A := A) (i := j) (s := s) (j := j') (t := t) (u := u') hj with e | e
    · rw [e]; exact hs
    · exact h.o j' t u' e, h.s, by have := h.n; simp [Ag.pin, Ag.put]; exact this⟩
theorem P1.more {N i : Nat} {l1 kept : List (List UInt8)} {A : Ag} (h : P1 N l1 i kept A) {j : Nat} {s : List UInt8} (hj : j < N) (hf : ∀ (t : List UInt8) (u : Nat), A.g[j]? = some (some (t, u)) → t ∉ kept) (hs : s ∉ kept) (hl : s ∈ l1) : P1 N l1 (i + 1) (kept ++ [s]) ((A.put j s).pin (S.sha s)) :=
  ⟨h.p.more hj hf hs, fun j' t u' hj' => by
    rcases put_at (A := A) (i := j) (s := s) (j := j') (t := t) (u := u') hj' with e | e
    · rw [e]; simp
    · exact List.mem_append_left _ (h.o j' t u' e), fun t ht => by
    rcases List.mem_append.1 ht with ht | ht
    · exact h.s t ht
    · simp at ht; rw [ht]; exact hl, by have := h.n; simp [Ag.pin, Ag.put]; exact this⟩
theorem P1.same {N i : Nat} {l1 kept : List (List UInt8)} {A : Ag} (h : P1 N l1 i kept A) : P1 N l1 (i + 1) kept A := ⟨h.p, h.o, h.s, by have := h.n; omega⟩
theorem ts_one (W : World) (s : List UInt8) (T : TypeId) : TS (W.alloc (.cells #[.string (M.bs s)] T)) (some ⟨W.heap.size, 0, none⟩) [s] := fun i t ht => by
  cases i with
  | zero => simp at ht; subst ht; exact ⟨_, 0, rfl, by simp, cell_new1 _ _ _⟩
  | succ i => simp at ht

set_option maxRecDepth 8000 in
set_option maxHeartbeats 8000000 in
theorem hivePins_core (x : Int) (hx : -9223372036854775808 ≤ x ∧ x ≤ 9223372036854775807) (l1 : List (List UInt8)) (a1 : Option Addr) (c1 : Nat) (l2 : List (List UInt8)) (a2 : Option Addr) (c2 : Nat) (w : World) (hG : GW w) (T1 : TS w a1 l1) (hn1 : l1.length ≤ 9223372036854775807) (hl1 : ∀ t ∈ l1, t.length ≤ 9223372036854775807) (T2 : TS w a2 l2) (hn2 : l2.length ≤ 9223372036854775807) (hl2 : ∀ t ∈ l2, t.length ≤ 9223372036854775807) :
    Calls Tryd.prog 4 #[.int .i64 x, .slice a1 l1.length c1, .slice a2 l2.length c2] w fun e w' => e = .returned (.bool true) ∧ Below w.heap.size w w' := by
  have hz := hG.z
  have hu := um_lt x 10 (by omega)
  have hw10 := um_wrap10 x
  obtain ⟨N, hN⟩ : ∃ N, N = 1 + um x 10 := ⟨_, rfl⟩
  have hN1 : 1 ≤ N := by omega
  have hN2 : N ≤ 10 := by omega
  have e1 : IntKind.i64.wrap ((um x 10 : Nat) : Int) = ((um x 10 : Nat) : Int) := wrap_i64_ofH (by omega) (by omega)
  have e2 : IntKind.i64.wrap (1 + ((um x 10 : Nat) : Int)) = (N : Int) := by rw [wrap_i64_ofH (by omega) (by omega), hN]; omega
  have e3 : 1 + ((um x 10 : Nat) : Int) = (N : Int) := by rw [hN]; omega
  clear hN
  have HG : GB w w := GB.refl hG
  have HT1 : Hid (∀ W, Below w.heap.size w W → TS W a1 l1) := fun W h => T1.below h
  have HT2 : Hid (∀ W, Below w.heap.size w W → TS W a2 l2) := fun W h => T2.below h
  have CA : Hid (∀ W, GB w W → Calls Tryd.prog 11 #[] W fun e w' => e = .returned (.bool true) ∧ GB w w') := fun W h => awake_h h
  have CN : Hid (∀ W, GB w W → Calls Tryd.prog 13 #[.int .i64 (N : Int)] W fun e w' => ∃ b c, e = .returned (.pointer (some ⟨b, 0, none⟩)) ∧ (w.heap.size ≤ b ∧ w.heap.size ≤ c) ∧ SW w b c (new N) w') := fun W h => by
    refine (New_u N (by omega) h.b).mono ?_
    rintro e w' ⟨b, c, rfl, h1, h2, h3⟩
    exact ⟨b, c, rfl, ⟨h1, h2⟩, h3⟩
  have CO : Hid (∀ {b c : Nat} W, (w.heap.size ≤ b ∧ w.heap.size ≤ c) → SW w b c (new N) W → Calls Tryd.prog 12 #[.pointer (some ⟨b, 0, none⟩)] W fun e w' => ∃ k, e = .returned (.tuple #[.pointer (some ⟨k + 2, 0, none⟩), .int .i64 0]) ∧ AW w 0 (newB b c k) (agN N) 0 [] w') := fun W hbc x => Open_new x hbc.1 hbc.2 hG (by omega)
  have CW1 : Hid (∀ {b : HB} W, AW w 0 b (agN N) 0 [] W → Calls Tryd.prog 14 #[.slice a1 l1.length c1] W fun e w' => e = .returned (.bool (wideB l1)) ∧ w' = W) := fun W h => wide_at a1 c1 l1 W (HT1.out W h.o) hn1 hl1
  have CW2 : Hid (∀ {b : HB} W, AW w 0 b (agN N) 0 [] W → Calls Tryd.prog 14 #[.slice a2 l2.length c2] W fun e w' => e = .returned (.bool (wideB l2)) ∧ w' = W) := fun W h => wide_at a2 c2 l2 W (HT2.out W h.o) hn2 hl2
  have HW1 : Hid (wideB l1 = false → ∀ t ∈ l1, t.length ≤ 512) := fun h t ht => by
    unfold wideB at h; rw [List.any_eq_false] at h; have := h t ht; simp at this; exact this
  have HW2 : Hid (wideB l2 = false → ∀ t ∈ l2, t.length ≤ 512) := fun h t ht => by
    unfold wideB at h; rw [List.any_eq_false] at h; have := h t ht; simp at this; exact this
  have CC : Hid (∀ {b : HB} W, l1.length ≤ 20 → l2.length ≤ 70 → wideB l1 = false → wideB l2 = false → AW w 0 b (agN N) 0 [] W → Calls Tryd.prog 15 #[.slice a1 l1.length c1, .slice a2 l2.length c2] W fun e w' => ∃ q, e = .returned (.bool q) ∧ (q = false → NC (l1 ++ l2) (l1 ++ l2).length) ∧ AW w 0 b (agN N) 0 [] w') := fun W h1 h2 h3 h4 h => by
    refine (clash_at a1 a2 c1 c2 l1 l2 (GB.refl h.gw) (HT1.out W h.o) (HT2.out W h.o) (by omega) (by omega) (HW1.out h3) (HW2.out h4)).mono ?_
    rintro e w' ⟨q, rfl, hq, hg⟩
    exact ⟨q, rfl, hq, h.step hg.b⟩
  obtain ⟨q1, hq1⟩ : ∃ q, wideB l1 = q := ⟨_, rfl⟩
  obtain ⟨q2, hq2⟩ : ∃ q, wideB l2 = q := ⟨_, rfl⟩
  rw [hq1] at CW1
  rw [hq2] at CW2
  clear T1 T2 hl1 hl2 hu
  have HF : Hid (∀ {b : HB} W, AW w 0 b (agN N) 0 [] W → Below w.heap.size w W) := fun W h => h.o
  by_cases hb1 : 20 < l1.length
  · have hc1 : (20 : Int) < (l1.length : Int) := by omega
    go_enter Tryd.func4, Tryd.ntmps4
    go_wp2_with (first
      | (go_at_call 11; refine (CA.out _ HG).mono ?_; clear CA HG; rintro e w1 ⟨rfl, HG⟩)
      | (go_at_call 13; refine (CN.out _ HG).mono ?_; clear CN HG; rintro e w2 ⟨b, c, rfl, hbc, LX⟩)
      | (go_at_call 12; refine (CO.out _ hbc LX).mono ?_; clear CO LX; rintro e w3 ⟨k, rfl, LX⟩; have hk : (newB b c k).hv = k + 2 := rfl; generalize newB b c k = nb at LX hk))
    go_ret
    exact ⟨rfl, HF.out _ LX⟩

  have hc1 : ¬ (20 : Int) < (l1.length : Int) := by omega
  by_cases hb2 : 70 < l2.length
  · have hc2 : (70 : Int) < (l2.length : Int) := by omega
    go_enter Tryd.func4, Tryd.ntmps4
    go_wp2_with (first
      | (go_at_call 11; refine (CA.out _ HG).mono ?_; clear CA HG; rintro e w1 ⟨rfl, HG⟩)
      | (go_at_call 13; refine (CN.out _ HG).mono ?_; clear CN HG; rintro e w2 ⟨b, c, rfl, hbc, LX⟩)
      | (go_at_call 12; refine (CO.out _ hbc LX).mono ?_; clear CO LX; rintro e w3 ⟨k, rfl, LX⟩; have hk : (newB b c k).hv = k + 2 := rfl; generalize newB b c k = nb at LX hk))
    go_ret
    exact ⟨rfl, HF.out _ LX⟩

  have hc2 : ¬ (70 : Int) < (l2.length : Int) := by omega
  cases q1 with
  | true =>
    go_enter Tryd.func4, Tryd.ntmps4
    go_wp2_with (first
      | (go_at_call 11; refine (CA.out _ HG).mono ?_; clear CA HG; rintro e w1 ⟨rfl, HG⟩)
      | (go_at_call 13; refine (CN.out _ HG).mono ?_; clear CN HG; rintro e w2 ⟨b, c, rfl, hbc, LX⟩)
      | (go_at_call 12; refine (CO.out _ hbc LX).mono ?_; clear CO LX; rintro e w3 ⟨k, rfl, LX⟩; have hk : (newB b c k).hv = k + 2 := rfl; generalize newB b c k = nb at LX hk)
      | (go_at_call 14; refine (CW1.out _ LX).mono ?_; clear CW1; rintro e w4 ⟨rfl, rfl⟩))
    go_ret
    exact ⟨rfl, HF.out _ LX⟩

  | false =>
  cases q2 with
  | true =>
    go_enter Tryd.func4, Tryd.ntmps4
    go_wp2_with (first
      | (go_at_call 11; refine (CA.out _ HG).mono ?_; clear CA HG; rintro e w1 ⟨rfl, HG⟩)
      | (go_at_call 13; refine (CN.out _ HG).mono ?_; clear CN HG; rintro e w2 ⟨b, c, rfl, hbc, LX⟩)
      | (go_at_call 12; refine (CO.out _ hbc LX).mono ?_; clear CO LX; rintro e w3 ⟨k, rfl, LX⟩; have hk : (newB b c k).hv = k + 2 := rfl; generalize newB b c k = nb at LX hk)
      | (go_at_call 14; refine (CW1.out _ LX).mono ?_; clear CW1; rintro e w4 ⟨rfl, rfl⟩)
      | (go_at_call 14; refine (CW2.out _ LX).mono ?_; clear CW2; rintro e w4 ⟨rfl, rfl⟩))
    go_ret
    exact ⟨rfl, HF.out _ LX⟩

  | false =>
  replace hb1 : l1.length ≤ 20 := by omega
  replace hb2 : l2.length ≤ 70 := by omega
  go_enter Tryd.func4, Tryd.ntmps4
  go_wp2_with (first
    | (go_at_call 11; refine (CA.out _ HG).mono ?_; clear CA HG; rintro e w1 ⟨rfl, HG⟩)
    | (go_at_call 13; refine (CN.out _ HG).mono ?_; clear CN HG; rintro e w2 ⟨b, c, rfl, hbc, LX⟩)
    | (go_at_call 12; refine (CO.out _ hbc LX).mono ?_; clear CO LX; rintro e w3 ⟨k, rfl, LX⟩; have hk : (newB b c k).hv = k + 2 := rfl; generalize newB b c k = nb at LX hk)
    | (go_at_call 14; refine (CW1.out _ LX).mono ?_; clear CW1; rintro e w4 ⟨rfl, rfl⟩)
    | (go_at_call 14; refine (CW2.out _ LX).mono ?_; clear CW2; rintro e w4 ⟨rfl, rfl⟩)
    | (go_at_call 15; refine (CC.out _ hb1 hb2 hq1 hq2 LX).mono ?_; clear CC LX; rintro e w5 ⟨q, rfl, hnc, LX⟩; cases q))
  · have HNC : Hid (∀ x ∈ l1 ++ l2, ∀ y ∈ l1 ++ l2, S.sha x = S.sha y → x = y) := nc_inj (hnc trivial)
    have hw5 := LX.o.size
    have PX0 : Hid (PX w (k + 2) (100 * 0) nb (agN N) [] (.slice (some ⟨w5.heap.size, 0, none⟩) 0 0) (w5.alloc (.cells #[] 9))) := by
      have y := LX.alloc (.cells #[] 9)
      refine ⟨hk, y, World.ownsRow_lit w5 #[] 0 hw5 (by unfold maxLen; omega) (by simp), fun g hg hm => ?_, hG⟩
      have e : w5.heap.size = g := Option.some.inj hg
      have := LX.B.lt hm
      omega
    have P10 : Hid (P1 N l1 0 [] (agN N)) := ⟨PI.new N, fun j t u h => absurd h (agN_none N j t u), (fun t ht => by cases ht), by simp [agN]⟩
    have HB1 : Hid (∀ t ∈ l1, t.length ≤ 512) := HW1.out hq1
    have HB2 : Hid (∀ t ∈ l2, t.length ≤ 512) := HW2.out hq2
    have HST0 : Hid (∀ W : World, (W.alloc (.cells zero32 23)).heap[W.heap.size]? = some (.cells zero32 23 (0, 0))) := hst32
    have hz3 := zero32_size
    clear LX hnc HF hG hw5 HW1 HW2 hq1 hq2 e1 e2 e3 hw10 hx
    generalize k + 2 = K at *
    clear hk
    go_loopw [10, 11] (fun u10 u11 wr => ∃ (i : Nat) (b : HB) (A : Ag) (kept : List (List UInt8)), i ≤ l1.length ∧ u11 = .int .i64 i ∧ PX w K (100 * i) b A kept u10 wr ∧ P1 N l1 i kept A) (fun _ u11 _ => l1.length - (intOf u11).toNat)
    case atStart => exact ⟨0, nb, agN N, [], Nat.zero_le _, rfl, PX0.out, P10.out⟩
    case round =>
      obtain ⟨i, b, A, kept, hi, rfl, hpx, hp1⟩ := hrel
      obtain ⟨va, vc, hv, hts⟩ := hpx.ts
      subst hv
      have LX := hpx
      have HP1 : Hid (P1 N l1 i kept A) := hp1
      have hkl : kept.length ≤ N := hp1.p.le
      have HU : Hid (V.Uq A.es) := hpx.x.B.uq
      have hpn := hp1.n
      clear PX0 P10 hpx hts hp1
      by_cases hlt : i < l1.length
      · obtain ⟨s, hs⟩ : ∃ s, l1[i]? = some s := ⟨l1[i], List.getElem?_eq_getElem hlt⟩
        have hsm : s ∈ l1 := List.mem_of_getElem? hs
        have hs5 := HB1.out s hsm
        obtain ⟨sb, off, ha1, _, _⟩ := HT1.out _ LX.x.o i s hs
        subst ha1
        have HC : Hid (∀ W, Below w.heap.size w W → W.cell? ⟨sb, off + i, none⟩ = some (.string (M.bs s))) := fun W hb => by
          obtain ⟨s1, o1, e1, _, q1⟩ := HT1.out W hb i s hs
          cases e1; exact q1
        have hc := HC.out _ LX.x.o
        have HST := HST0
        have i0 : (0 : Int) ≤ (i : Int) := by omega
        have i1 : (i : Int) < (l1.length : Int) := by omega
        have hlD := S.sha_length s
        have HM : Hid (s ∈ l1) := hsm
        clear hs hsm
        by_cases hsk : s ∈ kept
        · obtain ⟨j, u, hg⟩ := HP1.out.p.k s hsk
          have HF1 : Hid (P1 N l1 (i + 1) kept ((A.put j s).pin (S.sha s))) := HP1.out.use hg hsk
          have C1 : Hid (∀ W', PX w K (100 * i) b A kept (.slice va kept.length vc) W' → Calls Tryd.prog 16 #[.pointer (some ⟨K, 0, none⟩), .string (M.bs s)] W' fun e' w' => e' = .returned (.tuple #[.agg (dg (S.sha s)), .int .i64 0]) ∧ PX w K (100 * i + 3) b (A.put j s) kept (.slice va kept.length vc) w') := fun W' h => h.putIs (by omega) s hs5 (Ag.fnd_of HU.out hg) hg
          have CH : Hid (∀ {m b A} W', PX w K m b A kept (.slice va kept.length vc) W' → Calls Tryd.prog 17 #[.slice va kept.length vc, .string (M.bs s)] W' fun e' w' => e' = .returned (.bool true) ∧ w' = W') := fun W' h => by have := h.has s (by omega); rw [decide_eq_true hsk] at this; exact this
          have CP : Hid (∀ {m b} W', PX w K m b (A.put j s) kept (.slice va kept.length vc) W' → Calls Tryd.prog 18 #[.pointer (some ⟨K, 0, none⟩), .slice (some ⟨W'.heap.size, 0, none⟩) 1 1] (W'.alloc (.cells (dg (S.sha s)) 23)) fun e' w' => e' = .returned (.tuple #[]) ∧ ∃ b', PX w K m b' ((A.put j s).pin (S.sha s)) kept (.slice va kept.length vc) w') := fun W' h => h.pin hlD (by show A.pins.length < _; omega)
          clear hsk hg hpn hlt hkl HU HP1
          generalize S.sha s = D at *
          have hDs : (dg D).size = 32 := by rw [dg_size, hlD]
          have hD1 := dg_one D
          go_wp2_with (first
            | (go_at_call 16; refine (C1.out _ LX).mono ?_; clear C1 LX hc; rintro e w6 ⟨rfl, LX⟩)
            | (refine wpList_store_row rfl 23 _ _ rfl w6.heap.size (dg D) rfl rfl 23 zero32 (HST.out w6) (by rw [hDs]; exact info27) (by rw [hz3, hDs]) hD1 ?_; clear HST; rw [World.setRow_alloc_new]; replace LX := LX.alloc (.cells (dg D) 23); have hc := HC.out _ LX.x.o; have HROW : Hid ((w6.alloc (.cells (dg D) 23)).heap[w6.heap.size]? = some (.cells (dg D) 23 (0, 0))) := heap_alloc_new _ _; generalize w6.alloc (.cells (dg D) 23) = y6 at LX hc HROW ⊢)
            | (go_at_call 17; refine (CH.out _ LX).mono ?_; rintro e w7 ⟨rfl, rfl⟩)
            | (refine wpList_load_row rfl 23 _ rfl w6.heap.size rfl 23 (dg D) (0, 0) _ HROW.out und27 rfl (by rw [hDs]; exact info27) ?_)
            | (refine wl_bs33 rfl _ rfl D hlD rfl ?_)
            | (go_at_call 18; refine (CP.out _ LX).mono ?_; clear CP LX hc; clear HROW; rintro e w8 ⟨rfl, b8, LX⟩; have hc := HC.out _ LX.x.o))
          go_roundw
          case rel => exact ⟨i + 1, b8, _, kept, by omega, by go_num, LX.wider (by omega), HF1.out⟩
          case measure => simp [intOf]; omega
        · by_cases hkn : kept.length < N
          · obtain ⟨j, hr, hj, hf⟩ := HP1.out.p.room HU.out hkn
            have hnf : A.fnd (S.sha s) = none := Ag.fnd_none (fun i' t u hg e => hsk (by
              have ht := HP1.out.o i' t u hg
              have := HNC.out t (List.mem_append_left _ (HP1.out.s t ht)) s (List.mem_append_left _ HM.out) e
              rw [← this]; exact ht))
            have HF1 : Hid (P1 N l1 (i + 1) (kept ++ [s]) ((A.put j s).pin (S.sha s))) := HP1.out.more hj hf hsk HM.out
            have hkn' : (kept.length : Int) < (N : Int) := by omega
            have C1 : Hid (∀ W', PX w K (100 * i) b A kept (.slice va kept.length vc) W' → Calls Tryd.prog 16 #[.pointer (some ⟨K, 0, none⟩), .string (M.bs s)] W' fun e' w' => e' = .returned (.tuple #[.agg (dg (S.sha s)), .int .i64 0]) ∧ PX w K (100 * i + 3) b (A.put j s) kept (.slice va kept.length vc) w') := fun W' h => h.putNew (by omega) s hs5 hnf hr
            have CH : Hid (∀ {m b A} W', PX w K m b A kept (.slice va kept.length vc) W' → Calls Tryd.prog 17 #[(.slice va kept.length vc), .string (M.bs s)] W' fun e' w' => e' = .returned (.bool false) ∧ w' = W') := fun W' h => by have := h.has s (by omega); rw [decide_eq_false hsk] at this; exact this
            have CP : Hid (∀ {m b} W', PX w K m b (A.put j s) kept (.slice va kept.length vc) W' → Calls Tryd.prog 18 #[.pointer (some ⟨K, 0, none⟩), .slice (some ⟨W'.heap.size, 0, none⟩) 1 1] (W'.alloc (.cells (dg (S.sha s)) 23)) fun e' w' => e' = .returned (.tuple #[]) ∧ ∃ b', PX w K m b' ((A.put j s).pin (S.sha s)) kept (.slice va kept.length vc) w') := fun W' h => h.pin hlD (by show A.pins.length < _; omega)
            have HKL : Hid (kept.length ≤ N) := hkl
            clear hsk hpn hlt hkl HU HP1 hnf hr hf hkn
            generalize S.sha s = D at *
            have hDs : (dg D).size = 32 := by rw [dg_size, hlD]
            have hD1 := dg_one D
            go_wp2_with (first
              | (go_at_call 16; refine (C1.out _ LX).mono ?_; clear C1 LX hc; rintro e w6 ⟨rfl, LX⟩)
              | (refine wpList_store_row rfl 23 _ _ rfl w6.heap.size (dg D) rfl rfl 23 zero32 (HST.out w6) (by rw [hDs]; exact info27) (by rw [hz3, hDs]) hD1 ?_; clear HST; rw [World.setRow_alloc_new]; replace LX := LX.alloc (.cells (dg D) 23); have hc := HC.out _ LX.x.o; have HROW : Hid ((w6.alloc (.cells (dg D) 23)).heap[w6.heap.size]? = some (.cells (dg D) 23 (0, 0))) := heap_alloc_new _ _; generalize w6.alloc (.cells (dg D) 23) = y6 at LX hc HROW ⊢)
              | (go_at_call 17; refine (CH.out _ LX).mono ?_; rintro e w7 ⟨rfl, rfl⟩)
              | (refine wpList_load_row rfl 23 _ rfl w6.heap.size rfl 23 (dg D) (0, 0) _ HROW.out und27 rfl (by rw [hDs]; exact info27) ?_)
              | (refine wl_bs33 rfl _ rfl D hlD rfl ?_)
              | (go_at_call 18; refine (CP.out _ LX).mono ?_; clear CP LX hc; clear HROW; rintro e w8 ⟨rfl, b8, LX⟩; have hc := HC.out _ LX.x.o)
              | (at_builtin; refine wl_app rfl _ _ rfl w.heap.size kept _ rfl (LX.alloc (.cells #[.string (M.bs s)] 9)).o (some ⟨_, 0, none⟩) [s] 1 rfl (ts_one _ _ _) (by have := LX.x.o.size; simp; omega) (by have := HKL.out; simp; omega) ?_; intro v9 w9 hown9 hg9 hv9; have LY := (LX.alloc (.cells #[.string (M.bs s)] 9)).app hown9 hg9 hv9; clear hown9 hg9 hv9 LX))
            go_roundw
            case rel => exact ⟨i + 1, b8, _, kept ++ [s], by omega, by go_num, LY.wider (by omega), HF1.out⟩
            case measure => simp [intOf]; omega
          · obtain ⟨hr, _⟩ := HP1.out.p.full (by omega)
            have hnf : A.fnd (S.sha s) = none := Ag.fnd_none (fun i' t u hg e => hsk (by
              have ht := HP1.out.o i' t u hg
              have := HNC.out t (List.mem_append_left _ (HP1.out.s t ht)) s (List.mem_append_left _ HM.out) e
              rw [← this]; exact ht))
            have HF1 : Hid (P1 N l1 (i + 1) kept A) := HP1.out.same
            have hkn' : ¬ (kept.length : Int) < (N : Int) := by omega
            have C1 : Hid (∀ W', PX w K (100 * i) b A kept (.slice va kept.length vc) W' → Calls Tryd.prog 16 #[.pointer (some ⟨K, 0, none⟩), .string (M.bs s)] W' fun e' w' => e' = .returned (.tuple #[.agg (dg V.zd), .int .i64 11]) ∧ PX w K (100 * i + 3) b A kept (.slice va kept.length vc) w') := fun W' h => h.putFull (by omega) s hs5 hnf hr
            have CH : Hid (∀ {m b A} W', PX w K m b A kept (.slice va kept.length vc) W' → Calls Tryd.prog 17 #[(.slice va kept.length vc), .string (M.bs s)] W' fun e' w' => e' = .returned (.bool false) ∧ w' = W') := fun W' h => by have := h.has s (by omega); rw [decide_eq_false hsk] at this; exact this
            have hlz := zd_length
            clear hsk hpn hlt hkl HU HP1 hnf hr hkn
            generalize V.zd = D at *
            have hDs : (dg D).size = 32 := by rw [dg_size, hlz]
            have hD1 := dg_one D
            go_wp2_with (first
              | (go_at_call 16; refine (C1.out _ LX).mono ?_; clear C1 LX hc; rintro e w6 ⟨rfl, LX⟩)
              | (refine wpList_store_row rfl 23 _ _ rfl w6.heap.size (dg D) rfl rfl 23 zero32 (HST.out w6) (by rw [hDs]; exact info27) (by rw [hz3, hDs]) hD1 ?_; clear HST; rw [World.setRow_alloc_new]; replace LX := LX.alloc (.cells (dg D) 23); have hc := HC.out _ LX.x.o; have HROW : Hid ((w6.alloc (.cells (dg D) 23)).heap[w6.heap.size]? = some (.cells (dg D) 23 (0, 0))) := heap_alloc_new _ _; generalize w6.alloc (.cells (dg D) 23) = y6 at LX hc HROW ⊢)
              | (go_at_call 17; refine (CH.out _ LX).mono ?_; rintro e w7 ⟨rfl, rfl⟩))
            go_roundw
            case rel => exact ⟨i + 1, b, _, kept, by omega, by go_num, LX.wider (by omega), HF1.out⟩
            case measure => simp [intOf]; omega
      · obtain rfl : i = l1.length := by omega
        have HPI : Hid (PI N kept A) := HP1.out.p
        have HSUB : Hid (∀ t ∈ kept, t ∈ l1) := HP1.out.s
        have HX1 : Hid (PX w K (10000 + 100 * 0) b A kept (.slice va kept.length vc) wr) := LX.wider (by omega)
        have HKN : Hid (kept.length ≤ N) := hkl
        clear HP1 LX hkl HU hpn hlt hi
        go_wp2_with fail
        go_loopw [14] (fun u14 wr => ∃ (i : Nat) (b : HB) (A : Ag), i ≤ l2.length ∧ u14 = .int .i64 i ∧ PX w K (10000 + 100 * i) b A kept (.slice va kept.length vc) wr ∧ PI N kept A) (fun u14 _ => l2.length - (intOf u14).toNat)
        case atStart => exact ⟨0, b, A, Nat.zero_le _, rfl, HX1.out, HPI.out⟩
        case round =>
          obtain ⟨i, b, A, hi, rfl, LX, hpi⟩ := hrel
          have HPI : Hid (PI N kept A) := hpi
          have HU : Hid (V.Uq A.es) := LX.x.B.uq
          have hkn0 := HKN.out
          clear HX1 hpi
          by_cases hlt : i < l2.length
          · obtain ⟨s, hs⟩ : ∃ s, l2[i]? = some s := ⟨l2[i], List.getElem?_eq_getElem hlt⟩
            have hsm : s ∈ l2 := List.mem_of_getElem? hs
            have hs5 := HB2.out s hsm
            obtain ⟨sb, off, ha2, _, _⟩ := HT2.out _ LX.x.o i s hs
            subst ha2
            have HC : Hid (∀ W, Below w.heap.size w W → W.cell? ⟨sb, off + i, none⟩ = some (.string (M.bs s))) := fun W hb => by
              obtain ⟨s1, o1, e1, _, q1⟩ := HT2.out W hb i s hs
              cases e1; exact q1
            have hc := HC.out _ LX.x.o
            have HST := HST0
            have i0 : (0 : Int) ≤ (i : Int) := by omega
            have i1 : (i : Int) < (l2.length : Int) := by omega
            have hlD := S.sha_length s
            obtain ⟨er, Dg, A2, q, hDl, hok, hP2, hcn, C1⟩ : ∃ (er : Int) (Dg : List UInt8) (A2 : Ag) (q : Bool), Dg.length = 32 ∧ ((er = 0 ∧ (q = true ∨ (q = false ∧ kept.length < N))) ∨ (er = 11 ∧ q = false ∧ ¬ kept.length < N ∧ A2 = A)) ∧ PI N kept A2 ∧ decide (s ∈ kept) = q ∧ Hid (∀ W', PX w K (10000 + 100 * i) b A kept (.slice va kept.length vc) W' → Calls Tryd.prog 16 #[.pointer (some ⟨K, 0, none⟩), .string (M.bs s)] W' fun e' w' => e' = .returned (.tuple #[.agg (dg Dg), .int .i64 er]) ∧ PX w K (10000 + 100 * i + 3) b A2 kept (.slice va kept.length vc) w') := by
              by_cases hsk : s ∈ kept
              · obtain ⟨j, u, hg⟩ := HPI.out.k s hsk
                exact ⟨0, S.sha s, A.put j s, true, hlD, .inl ⟨rfl, .inl rfl⟩, HPI.out.put (fun t u' hg' _ => by rw [hg] at hg'; simp only [Option.some.injEq, Prod.mk.injEq] at hg'; exact hg'.1.symm), decide_eq_true hsk, fun W' h => h.putIs (by omega) s hs5 (Ag.fnd_of HU.out hg) hg⟩
              · by_cases hkn : kept.length < N
                · cases hfd : A.fnd (S.sha s) with
                  | some j =>
                    obtain ⟨t, u, hg, _⟩ := Ag.fnd_some hfd
                    exact ⟨0, S.sha s, A.put j t, false, hlD, .inl ⟨rfl, .inr ⟨rfl, hkn⟩⟩, HPI.out.put (fun t' u' hg' _ => by rw [hg] at hg'; simp only [Option.some.injEq, Prod.mk.injEq] at hg'; exact hg'.1.symm), decide_eq_false hsk, fun W' h => h.putIs (by omega) s hs5 hfd hg⟩
                  | none =>
                    obtain ⟨j, hr, hj, hf⟩ := HPI.out.room HU.out hkn
                    exact ⟨0, S.sha s, A.put j s, false, hlD, .inl ⟨rfl, .inr ⟨rfl, hkn⟩⟩, HPI.out.put (fun t u hg ht => absurd ht (hf t u hg)), decide_eq_false hsk, fun W' h => h.putNew (by omega) s hs5 hfd hr⟩
                · obtain ⟨hr, hall⟩ := HPI.out.full (by omega)
                  have hnf : A.fnd (S.sha s) = none := Ag.fnd_none (fun i' t u hg e => hsk (by
                    have ht := hall i' t u hg
                    have := HNC.out t (List.mem_append_left _ (HSUB.out t ht)) s (List.mem_append_right _ hsm) e
                    rw [← this]; exact ht))
                  exact ⟨11, V.zd, A, false, zd_length, .inr ⟨rfl, rfl, hkn, rfl⟩, HPI.out, decide_eq_false hsk, fun W' h => h.putFull (by omega) s hs5 hnf hr⟩
            have CH : Hid (∀ {m b A} W', PX w K m b A kept (.slice va kept.length vc) W' → Calls Tryd.prog 17 #[(.slice va kept.length vc), .string (M.bs s)] W' fun e' w' => e' = .returned (.bool q) ∧ w' = W') := fun W' h => by have := h.has s (by omega); rw [hcn] at this; exact this
            have CL : Hid (∀ {m b A} W', PX w K m b A kept (.slice va kept.length vc) W' → Calls Tryd.prog 19 #[.pointer (some ⟨K, 0, none⟩)] W' fun e' w' => e' = .returned (.int .i64 ((V.cntN A.es : Nat) : Int)) ∧ w' = W') := fun W' h => h.lenC
            have hcnt : ¬ (N : Int) < ((V.cntN A2.es : Nat) : Int) := by
              have h1 := V.cntN_le A2.es
              rw [A2.len, hP2.l] at h1
              omega
            have hcm : V.cntN A2.es ≤ 10 := by have h1 := V.cntN_le A2.es; rw [A2.len, hP2.l] at h1; omega
            have hcm0 : V.cntN A.es ≤ 10 := by have h1 := V.cntN_le A.es; rw [A.len, HPI.out.l] at h1; omega
            have HP2 : Hid (PI N kept A2) := hP2
            have hDs : (dg Dg).size = 32 := by rw [dg_size, hDl]
            have hD1 := dg_one Dg
            clear hs hsm hP2 hcn HU HPI
            rcases hok with ⟨rfl, hq⟩ | ⟨rfl, rfl, hkn, rfl⟩
            · rcases hq with rfl | ⟨rfl, hkn⟩
              · skip
                go_wp2_with (first
                  | (go_at_call 19; refine (CL.out _ LX).mono ?_; rintro e w5' ⟨rfl, rfl⟩)
                  | (go_at_call 16; refine (C1.out _ LX).mono ?_; clear C1 LX hc; rintro e w6 ⟨rfl, LX⟩)
                  | (refine wpList_store_row rfl 23 _ _ rfl w6.heap.size (dg Dg) rfl rfl 23 zero32 (HST.out w6) (by rw [hDs]; exact info27) (by rw [hz3, hDs]) hD1 ?_; clear HST; rw [World.setRow_alloc_new]; replace LX := LX.alloc (.cells (dg Dg) 23); have hc := HC.out _ LX.x.o; have HROW : Hid ((w6.alloc (.cells (dg Dg) 23)).heap[w6.heap.size]? = some (.cells (dg Dg) 23 (0, 0))) := heap_alloc_new _ _; generalize w6.alloc (.cells (dg Dg) 23) = y6 at LX hc HROW ⊢)
                  | (go_at_call 17; refine (CH.out _ LX).mono ?_; clear CH; rintro e w7 ⟨rfl, rfl⟩))
                clear CL hc HC HROW hDs hD1 hDl
                (try clear hcnt)
                (try clear hcm)
                (try clear hcm0)
                (try (rename ¬ N < V.cntN _ => hz9; clear hz9))
                (try (rename V.cntN _ ≤ N => hz9; clear hz9))
                (try clear hkn')
                (try (rename ¬ kept.length < N => hz9; clear hz9))
                (try (rename N ≤ kept.length => hz9; clear hz9))
                (try (rename ¬ kept.length < N ∧ _ => hz9; clear hz9))
                (try (rename (N : Int) ≤ (kept.length : Int) => hz9; clear hz9))
                have HY0 : Hid (PX w K (10000 + 100 * i + 3 + 3 * 0) b A2 kept (.slice va kept.length vc) _) := LX
                clear LX
                go_loopw [18] (fun u18 wr => ∃ (k : Nat) (b : HB) (A : Ag), k ≤ kept.length ∧ u18 = .int .i64 k ∧ PX w K (10000 + 100 * i + 3 + 3 * k) b A kept (.slice va kept.length vc) wr ∧ PI N kept A) (fun u18 _ => kept.length - (intOf u18).toNat)
                case atStart => exact ⟨0, b, A2, Nat.zero_le _, rfl, HY0.out, HP2.out⟩
                case round =>
                  obtain ⟨k, b, A, hk, rfl, LX, hpi⟩ := hrel
                  clear HY0 HP2
                  by_cases hlk : k < kept.length
                  · obtain ⟨t, ht⟩ : ∃ t, kept[k]? = some t := ⟨kept[k], List.getElem?_eq_getElem hlk⟩
                    have htm := List.mem_of_getElem? ht
                    have ht5 := HB1.out t (HSUB.out t htm)
                    obtain ⟨j, u, hg⟩ := hpi.k t htm
                    have HP3 : Hid (PI N kept (A.put j t)) := hpi.put (fun t' u' hg' _ => by rw [hg] at hg'; simp only [Option.some.injEq, Prod.mk.injEq] at hg'; exact hg'.1.symm)
                    obtain ⟨a9, c9, e9, ts9⟩ := LX.ts
                    obtain ⟨sk, ok, hva, _, _⟩ := ts9 k t ht
                    simp only [Value.slice.injEq, true_and] at e9
                    have hva' : va = some ⟨sk, ok, none⟩ := e9.1.trans hva
                    clear e9 hva ts9
                    subst hva'
                    have HCK : Hid (∀ {m b A} W', PX w K m b A kept (.slice (some ⟨sk, ok, none⟩) kept.length vc) W' → W'.cell? ⟨sk, ok + k, none⟩ = some (.string (M.bs t))) := fun W' h => by
                      obtain ⟨a9, c9, e9, ts9⟩ := h.ts
                      obtain ⟨s9, o9, h9, _, q9⟩ := ts9 k t ht
                      simp only [Value.slice.injEq, true_and] at e9
                      rw [h9] at e9
                      simp only [Option.some.injEq, Addr.mk.injEq, and_true] at e9
                      rw [e9.1.1, e9.1.2]; exact q9
                    have hck := HCK.out _ LX
                    have k0 : (0 : Int) ≤ (k : Int) := by omega
                    have k1 : (k : Int) < (kept.length : Int) := by omega
                    have CF : Hid (∀ {m b A} W' T, PX w K m b A kept (.slice (some ⟨sk, ok, none⟩) kept.length vc) W' → Calls Tryd.prog 21 #[.slice (some ⟨W'.heap.size, 0, none⟩) 1 1] (W'.alloc (.cells #[.string (M.bs t)] T)) fun e' w' => e' = .returned (.agg (dg (S.sha t))) ∧ PX w K m b A kept (.slice (some ⟨sk, ok, none⟩) kept.length vc) w') := fun W' T h => h.of t T ht5
                    have CB : Hid (∀ {m} W', m ≤ 900000 → PX w K m b A kept (.slice (some ⟨sk, ok, none⟩) kept.length vc) W' → Calls Tryd.prog 20 #[.pointer (some ⟨K, 0, none⟩), .agg (dg (S.sha t))] W' fun e' w' => e' = .returned (.tuple #[.string (M.bs t), .bool true]) ∧ PX w K (m + 3) b (A.put j t) kept (.slice (some ⟨sk, ok, none⟩) kept.length vc) w') := fun W' hm h => h.blob hm hg
                    have hmm : 10000 + 100 * i + 3 + 3 * k ≤ 900000 := by omega
                    clear hpi hg ht htm
                    generalize S.sha t = dt at *
                    go_wp2_with (first
                      | (go_at_call 21; refine (CF.out _ _ LX).mono ?_; clear CF LX hck; rintro e w8 ⟨rfl, LX⟩)
                      | (go_at_call 20; refine (CB.out _ hmm LX).mono ?_; clear CB LX; rintro e w9 ⟨rfl, LX⟩; have hck := HCK.out _ LX))
                    go_roundw
                    case rel => exact ⟨k + 1, b, _, by omega, by go_num, LX.wider (by omega), HP3.out⟩
                    case measure => simp [intOf]; omega
                  · obtain rfl : k = kept.length := by omega
                    have HPE : Hid (PI N kept A) := hpi
                    clear hpi
                    go_wp2_with fail
                    go_roundw
                    case rel => exact ⟨i + 1, b, A, by omega, by go_num, LX.wider (by omega), HPE.out⟩
                    case measure => simp [intOf]; omega
              · have hkn' : (kept.length : Int) < (N : Int) := by omega
                clear hkn
                go_wp2_with (first
                  | (go_at_call 19; refine (CL.out _ LX).mono ?_; rintro e w5' ⟨rfl, rfl⟩)
                  | (go_at_call 16; refine (C1.out _ LX).mono ?_; clear C1 LX hc; rintro e w6 ⟨rfl, LX⟩)
                  | (refine wpList_store_row rfl 23 _ _ rfl w6.heap.size (dg Dg) rfl rfl 23 zero32 (HST.out w6) (by rw [hDs]; exact info27) (by rw [hz3, hDs]) hD1 ?_; clear HST; rw [World.setRow_alloc_new]; replace LX := LX.alloc (.cells (dg Dg) 23); have hc := HC.out _ LX.x.o; have HROW : Hid ((w6.alloc (.cells (dg Dg) 23)).heap[w6.heap.size]? = some (.cells (dg Dg) 23 (0, 0))) := heap_alloc_new _ _; generalize w6.alloc (.cells (dg Dg) 23) = y6 at LX hc HROW ⊢)
                  | (go_at_call 17; refine (CH.out _ LX).mono ?_; clear CH; rintro e w7 ⟨rfl, rfl⟩))
                clear CL hc HC HROW hDs hD1 hDl
                (try clear hcnt)
                (try clear hcm)
                (try clear hcm0)
                (try (rename ¬ N < V.cntN _ => hz9; clear hz9))
                (try (rename V.cntN _ ≤ N => hz9; clear hz9))
                (try clear hkn')
                (try (rename ¬ kept.length < N => hz9; clear hz9))
                (try (rename N ≤ kept.length => hz9; clear hz9))
                (try (rename ¬ kept.length < N ∧ _ => hz9; clear hz9))
                (try (rename (N : Int) ≤ (kept.length : Int) => hz9; clear hz9))
                have HY0 : Hid (PX w K (10000 + 100 * i + 3 + 3 * 0) b A2 kept (.slice va kept.length vc) _) := LX
                clear LX
                go_loopw [18] (fun u18 wr => ∃ (k : Nat) (b : HB) (A : Ag), k ≤ kept.length ∧ u18 = .int .i64 k ∧ PX w K (10000 + 100 * i + 3 + 3 * k) b A kept (.slice va kept.length vc) wr ∧ PI N kept A) (fun u18 _ => kept.length - (intOf u18).toNat)
                case atStart => exact ⟨0, b, A2, Nat.zero_le _, rfl, HY0.out, HP2.out⟩
                case round =>
                  obtain ⟨k, b, A, hk, rfl, LX, hpi⟩ := hrel
                  clear HY0 HP2
                  by_cases hlk : k < kept.length
                  · obtain ⟨t, ht⟩ : ∃ t, kept[k]? = some t := ⟨kept[k], List.getElem?_eq_getElem hlk⟩
                    have htm := List.mem_of_getElem? ht
                    have ht5 := HB1.out t (HSUB.out t htm)
                    obtain ⟨j, u, hg⟩ := hpi.k t htm
                    have HP3 : Hid (PI N kept (A.put j t)) := hpi.put (fun t' u' hg' _ => by rw [hg] at hg'; simp only [Option.some.injEq, Prod.mk.injEq] at hg'; exact hg'.1.symm)
                    obtain ⟨a9, c9, e9, ts9⟩ := LX.ts
                    obtain ⟨sk, ok, hva, _, _⟩ := ts9 k t ht
                    simp only [Value.slice.injEq, true_and] at e9
                    have hva' : va = some ⟨sk, ok, none⟩ := e9.1.trans hva
                    clear e9 hva ts9
                    subst hva'
                    have HCK : Hid (∀ {m b A} W', PX w K m b A kept (.slice (some ⟨sk, ok, none⟩) kept.length vc) W' → W'.cell? ⟨sk, ok + k, none⟩ = some (.string (M.bs t))) := fun W' h => by
                      obtain ⟨a9, c9, e9, ts9⟩ := h.ts
                      obtain ⟨s9, o9, h9, _, q9⟩ := ts9 k t ht
                      simp only [Value.slice.injEq, true_and] at e9
                      rw [h9] at e9
                      simp only [Option.some.injEq, Addr.mk.injEq, and_true] at e9
                      rw [e9.1.1, e9.1.2]; exact q9
                    have hck := HCK.out _ LX
                    have k0 : (0 : Int) ≤ (k : Int) := by omega
                    have k1 : (k : Int) < (kept.length : Int) := by omega
                    have CF : Hid (∀ {m b A} W' T, PX w K m b A kept (.slice (some ⟨sk, ok, none⟩) kept.length vc) W' → Calls Tryd.prog 21 #[.slice (some ⟨W'.heap.size, 0, none⟩) 1 1] (W'.alloc (.cells #[.string (M.bs t)] T)) fun e' w' => e' = .returned (.agg (dg (S.sha t))) ∧ PX w K m b A kept (.slice (some ⟨sk, ok, none⟩) kept.length vc) w') := fun W' T h => h.of t T ht5
                    have CB : Hid (∀ {m} W', m ≤ 900000 → PX w K m b A kept (.slice (some ⟨sk, ok, none⟩) kept.length vc) W' → Calls Tryd.prog 20 #[.pointer (some ⟨K, 0, none⟩), .agg (dg (S.sha t))] W' fun e' w' => e' = .returned (.tuple #[.string (M.bs t), .bool true]) ∧ PX w K (m + 3) b (A.put j t) kept (.slice (some ⟨sk, ok, none⟩) kept.length vc) w') := fun W' hm h => h.blob hm hg
                    have hmm : 10000 + 100 * i + 3 + 3 * k ≤ 900000 := by omega
                    clear hpi hg ht htm
                    generalize S.sha t = dt at *
                    go_wp2_with (first
                      | (go_at_call 21; refine (CF.out _ _ LX).mono ?_; clear CF LX hck; rintro e w8 ⟨rfl, LX⟩)
                      | (go_at_call 20; refine (CB.out _ hmm LX).mono ?_; clear CB LX; rintro e w9 ⟨rfl, LX⟩; have hck := HCK.out _ LX))
                    go_roundw
                    case rel => exact ⟨k + 1, b, _, by omega, by go_num, LX.wider (by omega), HP3.out⟩
                    case measure => simp [intOf]; omega
                  · obtain rfl : k = kept.length := by omega
                    have HPE : Hid (PI N kept A) := hpi
                    clear hpi
                    go_wp2_with fail
                    go_roundw
                    case rel => exact ⟨i + 1, b, A, by omega, by go_num, LX.wider (by omega), HPE.out⟩
                    case measure => simp [intOf]; omega
            · have hkn' : ¬ (kept.length : Int) < (N : Int) := by omega
              clear hkn
              go_wp2_with (first
                | (go_at_call 19; refine (CL.out _ LX).mono ?_; rintro e w5' ⟨rfl, rfl⟩)
                | (go_at_call 16; refine (C1.out _ LX).mono ?_; clear C1 LX hc; rintro e w6 ⟨rfl, LX⟩)
                | (refine wpList_store_row rfl 23 _ _ rfl w6.heap.size (dg Dg) rfl rfl 23 zero32 (HST.out w6) (by rw [hDs]; exact info27) (by rw [hz3, hDs]) hD1 ?_; clear HST; rw [World.setRow_alloc_new]; replace LX := LX.alloc (.cells (dg Dg) 23); have hc := HC.out _ LX.x.o; have HROW : Hid ((w6.alloc (.cells (dg Dg) 23)).heap[w6.heap.size]? = some (.cells (dg Dg) 23 (0, 0))) := heap_alloc_new _ _; generalize w6.alloc (.cells (dg Dg) 23) = y6 at LX hc HROW ⊢)
                | (go_at_call 17; refine (CH.out _ LX).mono ?_; clear CH; rintro e w7 ⟨rfl, rfl⟩))
              clear CL hc HC HROW hDs hD1 hDl
              (try clear hcnt)
              (try clear hcm)
              (try clear hcm0)
              (try (rename ¬ N < V.cntN _ => hz9; clear hz9))
              (try (rename V.cntN _ ≤ N => hz9; clear hz9))
              (try clear hkn')
              (try (rename ¬ kept.length < N => hz9; clear hz9))
              (try (rename N ≤ kept.length => hz9; clear hz9))
              (try (rename ¬ kept.length < N ∧ _ => hz9; clear hz9))
              (try (rename (N : Int) ≤ (kept.length : Int) => hz9; clear hz9))
              have HY0 : Hid (PX w K (10000 + 100 * i + 3 + 3 * 0) b A2 kept (.slice va kept.length vc) _) := LX
              clear LX
              go_loopw [18] (fun u18 wr => ∃ (k : Nat) (b : HB) (A : Ag), k ≤ kept.length ∧ u18 = .int .i64 k ∧ PX w K (10000 + 100 * i + 3 + 3 * k) b A kept (.slice va kept.length vc) wr ∧ PI N kept A) (fun u18 _ => kept.length - (intOf u18).toNat)
              case atStart => exact ⟨0, b, A2, Nat.zero_le _, rfl, HY0.out, HP2.out⟩
              case round =>
                obtain ⟨k, b, A, hk, rfl, LX, hpi⟩ := hrel
                clear HY0 HP2
                by_cases hlk : k < kept.length
                · obtain ⟨t, ht⟩ : ∃ t, kept[k]? = some t := ⟨kept[k], List.getElem?_eq_getElem hlk⟩
                  have htm := List.mem_of_getElem? ht
                  have ht5 := HB1.out t (HSUB.out t htm)
                  obtain ⟨j, u, hg⟩ := hpi.k t htm
                  have HP3 : Hid (PI N kept (A.put j t)) := hpi.put (fun t' u' hg' _ => by rw [hg] at hg'; simp only [Option.some.injEq, Prod.mk.injEq] at hg'; exact hg'.1.symm)
                  obtain ⟨a9, c9, e9, ts9⟩ := LX.ts
                  obtain ⟨sk, ok, hva, _, _⟩ := ts9 k t ht
                  simp only [Value.slice.injEq, true_and] at e9
                  have hva' : va = some ⟨sk, ok, none⟩ := e9.1.trans hva
                  clear e9 hva ts9
                  subst hva'
                  have HCK : Hid (∀ {m b A} W', PX w K m b A kept (.slice (some ⟨sk, ok, none⟩) kept.length vc) W' → W'.cell? ⟨sk, ok + k, none⟩ = some (.string (M.bs t))) := fun W' h => by
                    obtain ⟨a9, c9, e9, ts9⟩ := h.ts
                    obtain ⟨s9, o9, h9, _, q9⟩ := ts9 k t ht
                    simp only [Value.slice.injEq, true_and] at e9
                    rw [h9] at e9
                    simp only [Option.some.injEq, Addr.mk.injEq, and_true] at e9
                    rw [e9.1.1, e9.1.2]; exact q9
                  have hck := HCK.out _ LX
                  have k0 : (0 : Int) ≤ (k : Int) := by omega
                  have k1 : (k : Int) < (kept.length : Int) := by omega
                  have CF : Hid (∀ {m b A} W' T, PX w K m b A kept (.slice (some ⟨sk, ok, none⟩) kept.length vc) W' → Calls Tryd.prog 21 #[.slice (some ⟨W'.heap.size, 0, none⟩) 1 1] (W'.alloc (.cells #[.string (M.bs t)] T)) fun e' w' => e' = .returned (.agg (dg (S.sha t))) ∧ PX w K m b A kept (.slice (some ⟨sk, ok, none⟩) kept.length vc) w') := fun W' T h => h.of t T ht5
                  have CB : Hid (∀ {m} W', m ≤ 900000 → PX w K m b A kept (.slice (some ⟨sk, ok, none⟩) kept.length vc) W' → Calls Tryd.prog 20 #[.pointer (some ⟨K, 0, none⟩), .agg (dg (S.sha t))] W' fun e' w' => e' = .returned (.tuple #[.string (M.bs t), .bool true]) ∧ PX w K (m + 3) b (A.put j t) kept (.slice (some ⟨sk, ok, none⟩) kept.length vc) w') := fun W' hm h => h.blob hm hg
                  have hmm : 10000 + 100 * i + 3 + 3 * k ≤ 900000 := by omega
                  clear hpi hg ht htm
                  generalize S.sha t = dt at *
                  go_wp2_with (first
                    | (go_at_call 21; refine (CF.out _ _ LX).mono ?_; clear CF LX hck; rintro e w8 ⟨rfl, LX⟩)
                    | (go_at_call 20; refine (CB.out _ hmm LX).mono ?_; clear CB LX; rintro e w9 ⟨rfl, LX⟩; have hck := HCK.out _ LX))
                  go_roundw
                  case rel => exact ⟨k + 1, b, _, by omega, by go_num, LX.wider (by omega), HP3.out⟩
                  case measure => simp [intOf]; omega
                · obtain rfl : k = kept.length := by omega
                  have HPE : Hid (PI N kept A) := hpi
                  clear hpi
                  go_wp2_with fail
                  go_roundw
                  case rel => exact ⟨i + 1, b, A, by omega, by go_num, LX.wider (by omega), HPE.out⟩
                  case measure => simp [intOf]; omega
          · obtain rfl : i = l2.length := by omega
            go_wp2_with fail
            go_ret
            exact ⟨rfl, LX.x.o⟩
  · go_ret
    exact ⟨rfl, HF.out _ LX⟩
end Go.Proofs.YtaceemaedpkigaaDoor
