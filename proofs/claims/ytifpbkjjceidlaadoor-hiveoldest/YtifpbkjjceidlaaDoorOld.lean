/- HiveOldest: the walk. -/
import Derived.Test.YtifpbkjjceidlaaDoorN19
import Derived.Test.YtifpbkjjceidlaaDoorN22
namespace Go.Proofs.YtifpbkjjceidlaaDoor
open Go.RowKit Go.Maps
set_option linter.unusedVariables false
set_option linter.unusedSimpArgs false
attribute [local go_sem ↓] zeroDg
attribute [local go_sem ↓] empty9

/-- the line in memory, in no block of the store's -/
def LN (W : World) (b : HB) (va : Option Addr) (line : List (List UInt8)) : Prop := ∀ (i : Nat) (t : List UInt8), line[i]? = some t → ∃ sb off, va = some ⟨sb, off, none⟩ ∧ sb < W.heap.size ∧ ¬ b.mem sb ∧ W.cell? ⟨sb, off + i, none⟩ = some (.string (M.bs t))
/-- the law's state: the store, the line beside it -/
structure OX (w : World) (K m : Nat) (b : HB) (A : Ag) (line : List (List UInt8)) (va : Option Addr) (W : World) : Prop where
  k : b.hv = K
  x : AW w 0 b A m [] W
  n : LN W b va line
section
variable {w W : World} {K m : Nat} {b : HB} {A : Ag} {line : List (List UInt8)} {va : Option Addr}
theorem OX.next (h : OX w K m b A line va W) {A' : Ag} {m' : Nat} {w' : World} (B' : BH 0 b A' m' w') (o' : OffB b W w') : OX w K m' b A' line va w' :=
  ⟨h.k, h.x.next B' o', fun i t ht => by
    obtain ⟨sb, off, h1, h2, h3, h4⟩ := h.n i t ht
    refine ⟨sb, off, h1, Nat.lt_of_lt_of_le h2 o'.size, h3, ?_⟩
    rw [World.cell?_of_block (w := W) (a := ⟨sb, off + i, none⟩) (o'.block sb h2 h3)]; exact h4⟩
theorem OX.step (h : OX w K m b A line va W) {W' : World} (hb : Below W.heap.size W W') : OX w K m b A line va W' := h.next (h.x.B.step hb) (OffB.of_below hb)
theorem OX.alloc (h : OX w K m b A line va W) (o : Obj) : OX w K m b A line va (W.alloc o) := h.step ((Below.refl _ W).alloc (Nat.le_refl _) _)
theorem OX.wider (h : OX w K m b A line va W) {m' : Nat} (hm : m ≤ m') : OX w K m' b A line va W := ⟨h.k, h.x.wider hm, h.n⟩
theorem OX.putIs (h : OX w K m b A line va W) (hm : m ≤ 900000) (s : List UInt8) (hs : s.length ≤ 512) {i : Nat} (hf : A.fnd (S.sha s) = some i) {t : List UInt8} {u : Nat} (hg : A.g[i]? = some (some (t, u))) :
    Calls Tryd.prog 19 #[.pointer (some ⟨K, 0, none⟩), .string (M.bs s)] W fun e' w' => e' = .returned (.tuple #[.agg (dg (S.sha s)), .int .i64 0]) ∧ OX w K (m + 3) b (A.put i t) line va w' := by
  have hk := h.k; subst hk
  refine (PutBlob_is h.x.B hm s hs hf hg).mono ?_
  rintro e' w' ⟨rfl, B, o⟩
  exact ⟨rfl, h.next B o⟩
theorem OX.putNew (h : OX w K m b A line va W) (hm : m ≤ 900000) (s : List UInt8) (hs : s.length ≤ 512) (hf : A.fnd (S.sha s) = none) {i : Nat} (hr : A.room = some i) :
    Calls Tryd.prog 19 #[.pointer (some ⟨K, 0, none⟩), .string (M.bs s)] W fun e' w' => e' = .returned (.tuple #[.agg (dg (S.sha s)), .int .i64 0]) ∧ OX w K (m + 3) b (A.put i s) line va w' := by
  have hk := h.k; subst hk
  refine (PutBlob_new h.x.B hm s hs hf hr).mono ?_
  rintro e' w' ⟨rfl, B, o⟩
  exact ⟨rfl, h.next B o⟩
theorem OX.blob (h : OX w K m b A line va W) (hm : m ≤ 900000) {i : Nat} {t : List UInt8} {u : Nat} (hg : A.g[i]? = some (some (t, u))) :
    Calls Tryd.prog 25 #[.pointer (some ⟨K, 0, none⟩), .agg (dg (S.sha t))] W fun e' w' => e' = .returned (.tuple #[.string (M.bs t), .bool true]) ∧ OX w K (m + 3) b (A.put i t) line va w' := by
  have hk := h.k; subst hk
  have hU : V.Uq A.es := by obtain ⟨a, sl, B⟩ := h.x.B; exact B.x.u
  refine (Blob_yes h.x.B hm (Ag.fnd_of hU hg) hg).mono ?_
  rintro e' w' ⟨rfl, B, o⟩
  exact ⟨rfl, h.next B o⟩
theorem OX.uq (h : OX w K m b A line va W) : V.Uq A.es := by obtain ⟨a, sl, B⟩ := h.x.B; exact B.x.u
theorem OX.lenC (h : OX w K m b A line va W) : Calls Tryd.prog 30 #[.pointer (some ⟨K, 0, none⟩)] W fun e' w' => e' = .returned (.int .i64 ((V.cntN A.es : Nat) : Int)) ∧ w' = W := by
  have hk := h.k; subst hk
  exact Len_g h.x.B
theorem OX.of (h : OX w K m b A line va W) (t : List UInt8) (T : TypeId) (ht : t.length ≤ 512) : Calls Tryd.prog 24 #[.slice (some ⟨W.heap.size, 0, none⟩) 1 1] (W.alloc (.cells #[.string (M.bs t)] T)) fun e' w' => e' = .returned (.agg (dg (S.sha t))) ∧ OX w K m b A line va w' := by
  refine (Of_g t T (GB.refl h.x.B.gw) (by omega)).mono ?_
  rintro e' w' ⟨rfl, hg⟩
  exact ⟨rfl, h.step hg.b⟩
end
/-- the line without s, so far -/
def wo (line : List (List UInt8)) (s : List UInt8) (k : Nat) : List (List UInt8) := (line.take k).filter (fun t => decide (t ≠ s))
theorem wo_same (line : List (List UInt8)) (s : List UInt8) (k : Nat) (h : line[k]? = some s) : wo line s (k + 1) = wo line s k := by
  unfold wo; rw [List.take_add_one, h]; simp
theorem wo_other (line : List (List UInt8)) (s t : List UInt8) (k : Nat) (h : line[k]? = some t) (hn : t ≠ s) : wo line s (k + 1) = wo line s k ++ [t] := by
  unfold wo; rw [List.take_add_one, h]; simp [hn]
theorem wo_all (line : List (List UInt8)) (s : List UInt8) : wo line s line.length = line.filter (fun t => decide (t ≠ s)) := by unfold wo; rw [List.take_of_length_le (Nat.le_refl _)]
theorem wo_le (line : List (List UInt8)) (s : List UInt8) (k : Nat) : (wo line s k).length ≤ line.length := Nat.le_trans (List.length_filter_le _ _) (List.length_take_le' _ _)
/-- the line behind a text that was put or asked for -/
def nxL (N : Nat) (line : List (List UInt8)) (s : List UInt8) : List (List UInt8) := if N < (line.filter (fun t => decide (t ≠ s)) ++ [s]).length then (line.filter (fun t => decide (t ≠ s)) ++ [s]).tail else line.filter (fun t => decide (t ≠ s)) ++ [s]
theorem LI.useN {N : Nat} {line : List (List UInt8)} {A : Ag} (h : LI N line A) (hU : V.Uq A.es) {i : Nat} {s : List UInt8} {u : Nat} (hg : A.g[i]? = some (some (s, u))) (hU2 : V.Uq (A.put i s).es) : LI N (nxL N line s) (A.put i s) := by
  have h1 := h.use hU hg
  unfold nxL
  rw [if_neg (by have := h1.le hU2; omega)]
  exact h1
theorem LI.roomN {N : Nat} {line : List (List UInt8)} {A : Ag} (h : LI N line A) (hU : V.Uq A.es) (hN : 1 ≤ N) {s : List UInt8} (hs : s ∉ line) : ∃ i, A.room = some i ∧ LI N (nxL N line s) (A.put i s) := by
  have hfl : line.filter (fun t => decide (t ≠ s)) = line := List.filter_eq_self.2 (fun t ht => by simp; exact fun e => hs (e ▸ ht))
  obtain ⟨i, hr, ⟨h1, h2⟩ | ⟨h1, h2⟩⟩ := h.room hU hN hs
  · refine ⟨i, hr, ?_⟩
    unfold nxL
    rw [hfl, if_neg (by simp; omega)]; exact h2
  · refine ⟨i, hr, ?_⟩
    unfold nxL
    rw [hfl, if_pos (by simp; omega)]
    cases line with
    | nil => simp at h1; omega
    | cons t r => exact h2
theorem nxL_sub {N : Nat} {line : List (List UInt8)} {s : List UInt8} {l : List (List UInt8)} (h : ∀ t ∈ line, t ∈ l) (hs : s ∈ l) : ∀ t ∈ nxL N line s, t ∈ l := fun t ht => by
  have h2 : t ∈ line.filter (fun t => decide (t ≠ s)) ++ [s] := by
    unfold nxL at ht
    split at ht
    · exact List.mem_of_mem_tail ht
    · exact ht
  rcases List.mem_append.1 h2 with h3 | h3
  · exact h t (List.mem_filter.1 h3).1
  · simp at h3; rw [h3]; exact hs
theorem ts_oneO (W : World) (s : List UInt8) (T : TypeId) : TS (W.alloc (.cells #[.string (M.bs s)] T)) (some ⟨W.heap.size, 0, none⟩) [s] := fun i t ht => by
  cases i with
  | zero => simp at ht; subst ht; exact ⟨_, 0, rfl, by simp, cell_new1 _ _ _⟩
  | succ i => simp at ht
/-- a row of one's own that isn't empty -/
theorem owns_someO {W : World} {N : Nat} {v : Value} {ks : List (List UInt8)} (h : W.ownsRow N 9 1 v ks.length (ks.map encS)) (hk : 0 < ks.length) : ∃ g cap, v = .slice (some ⟨g, 0, none⟩) ks.length cap ∧ N ≤ g ∧ g < W.heap.size ∧ ks.length ≤ cap ∧ ∀ (i : Nat) (t : List UInt8), ks[i]? = some t → W.cell? ⟨g, i, none⟩ = some (.string (M.bs t)) := by
  have hs := strs_of_owns h
  obtain ⟨_, ⟨_, h2⟩ | ⟨g, cap, cur, h1, h2, h3, h4, _⟩⟩ := h
  · omega
  · subst h1
    refine ⟨g, cap, rfl, h2, lt_of_heap h3, h4, fun i t ht => ?_⟩
    obtain ⟨b', off', e, _, hc⟩ := strs_at hs i t ht
    simp only [Option.some.injEq, Addr.mk.injEq, and_true] at e
    obtain ⟨rfl, rfl⟩ := e
    simpa using hc
theorem keepM {A : Ag} {line : List (List UInt8)} (hm : ∀ t ∈ line, ∃ (j u : Nat), A.g[j]? = some (some (t, u))) {j : Nat} {t : List UInt8} {u : Nat} (hg : A.g[j]? = some (some (t, u))) : ∀ t' ∈ line, ∃ (j' u' : Nat), (A.put j t).g[j']? = some (some (t', u')) := fun t' ht => by
  obtain ⟨j', u', h'⟩ := hm t' ht
  have hj : j < A.g.length := (List.getElem?_eq_some_iff.1 hg).1
  by_cases e : j = j'
  · subst e
    rw [hg] at h'
    simp only [Option.some.injEq, Prod.mk.injEq] at h'
    exact ⟨j, A.uses + 1, by simp only [Ag.put]; rw [List.getElem?_set_self hj, h'.1]⟩
  · exact ⟨j', u', by simp only [Ag.put]; rw [List.getElem?_set_ne e]; exact h'⟩
theorem OX.line {w W W' : World} {K m : Nat} {b : HB} {A : Ag} {line : List (List UInt8)} {va : Option Addr} (h : OX w K m b A line va W) (hb : Below W.heap.size W W') {g o : Nat} {ks : List (List UInt8)} (hg : W.heap.size ≤ g) (hl : g < W'.heap.size) (hc : ∀ (i : Nat) (t : List UInt8), ks[i]? = some t → W'.cell? ⟨g, o + i, none⟩ = some (.string (M.bs t))) : OX w K m b A ks (some ⟨g, o, none⟩) W' :=
  ⟨(h.step hb).k, (h.step hb).x, fun i t ht => ⟨g, o, rfl, hl, fun hm => by have := h.x.B.lt hm; omega, hc i t ht⟩⟩

set_option maxRecDepth 8000 in
set_option maxHeartbeats 8000000 in
theorem hiveOldest_core (x : Int) (hx : -9223372036854775808 ≤ x ∧ x ≤ 9223372036854775807) (l1 : List (List UInt8)) (a1 : Option Addr) (c1 : Nat) (l2 : List Int) (a2 : Option Addr) (c2 : Nat) (w : World) (hG : GW w) (T1 : TS w a1 l1) (hn1 : l1.length ≤ 9223372036854775807) (hl1 : ∀ t ∈ l1, t.length ≤ 9223372036854775807) (T2 : FI w a2 l2) (hn2 : l2.length ≤ 9223372036854775807) :
    Calls Tryd.prog 5 #[.int .i64 x, .slice a1 l1.length c1, .slice a2 l2.length c2] w fun e w' => e = .returned (.bool true) ∧ Below w.heap.size w w' := by
  have hz := hG.z
  have hu := um_lt x 10 (by omega)
  have hw10 : Int.tmod (IntKind.u64.wrap x) 10 = (um x 10 : Int) := um_wrap x 10
  obtain ⟨N, hN⟩ : ∃ N, N = 1 + um x 10 := ⟨_, rfl⟩
  have hN1 : 1 ≤ N := by omega
  have hN2 : N ≤ 10 := by omega
  have e1 : IntKind.i64.wrap ((um x 10 : Nat) : Int) = ((um x 10 : Nat) : Int) := wrap_i64_ofH (by omega) (by omega)
  have e2 : IntKind.i64.wrap (1 + ((um x 10 : Nat) : Int)) = (N : Int) := by rw [wrap_i64_ofH (by omega) (by omega), hN]; omega
  have e3 : 1 + ((um x 10 : Nat) : Int) = (N : Int) := by rw [hN]; omega
  clear hN
  have HG : GB w w := GB.refl hG
  have HT1 : Hid (∀ W, Below w.heap.size w W → TS W a1 l1) := fun W h => T1.below h
  have HT2 : Hid (∀ W, Below w.heap.size w W → FI W a2 l2) := fun W h i z hz => by
    obtain ⟨sb, off, h1, h2, h3⟩ := T2 i z hz
    exact ⟨sb, off, h1, by have := h.size; omega, by rw [h.cell (p := ⟨sb, off + i, none⟩) h2]; exact h3⟩
  have CA : Hid (∀ W, GB w W → Calls Tryd.prog 15 #[] W fun e w' => e = .returned (.bool true) ∧ GB w w') := fun W h => awake_h h
  have CN : Hid (∀ W, GB w W → Calls Tryd.prog 17 #[.int .i64 (N : Int)] W fun e w' => ∃ b c, e = .returned (.pointer (some ⟨b, 0, none⟩)) ∧ (w.heap.size ≤ b ∧ w.heap.size ≤ c) ∧ SW w b c (new N) w') := fun W h => by
    refine (New_u N (by omega) h.b).mono ?_
    rintro e w' ⟨b, c, rfl, h1, h2, h3⟩
    exact ⟨b, c, rfl, ⟨h1, h2⟩, h3⟩
  have CO : Hid (∀ {b c : Nat} W, (w.heap.size ≤ b ∧ w.heap.size ≤ c) → SW w b c (new N) W → Calls Tryd.prog 18 #[.pointer (some ⟨b, 0, none⟩)] W fun e w' => ∃ k, e = .returned (.tuple #[.pointer (some ⟨k + 2, 0, none⟩), .int .i64 0]) ∧ AW w 0 (newB b c k) (agN N) 0 [] w') := fun W hbc x => Open_new x hbc.1 hbc.2 hG (by omega)
  have CW1 : Hid (∀ {b : HB} W, AW w 0 b (agN N) 0 [] W → Calls Tryd.prog 32 #[.slice a1 l1.length c1] W fun e w' => e = .returned (.bool (wideB l1)) ∧ w' = W) := fun W h => wide_at a1 c1 l1 W (HT1.out W h.o) hn1 hl1
  have HW1 : Hid (wideB l1 = false → ∀ t ∈ l1, t.length ≤ 512) := fun h t ht => by
    unfold wideB at h; rw [List.any_eq_false] at h; have := h t ht; simp at this; exact this
  have CC : Hid (∀ {b : HB} W, l1.length ≤ 70 → wideB l1 = false → AW w 0 b (agN N) 0 [] W → Calls Tryd.prog 33 #[.slice a1 l1.length c1, .slice none 0 0] W fun e w' => ∃ q, e = .returned (.bool q) ∧ (q = false → NC l1 l1.length) ∧ AW w 0 b (agN N) 0 [] w') := fun W h1 h3 h => by
    refine (clash_at a1 none c1 0 l1 [] (GB.refl h.gw) (HT1.out W h.o) (fun i t ht => by simp at ht) (by omega) (by simp) (HW1.out h3) (by simp)).mono ?_
    rintro e w' ⟨q, rfl, hq, hg⟩
    exact ⟨q, rfl, by simpa using hq, h.step hg.b⟩
  obtain ⟨q1, hq1⟩ : ∃ q, wideB l1 = q := ⟨_, rfl⟩
  rw [hq1] at CW1
  clear T1 T2 hl1 hu
  have HF : Hid (∀ {b : HB} W, AW w 0 b (agN N) 0 [] W → Below w.heap.size w W) := fun W h => h.o
  by_cases hb1 : 70 < l1.length
  · have hc1 : (70 : Int) < (l1.length : Int) := by omega
    go_enter Tryd.func5, Tryd.ntmps5
    go_wp2_with (first
      | (go_at_call 15; refine (CA.out _ HG).mono ?_; clear CA HG; rintro e w1 ⟨rfl, HG⟩)
      | (go_at_call 17; refine (CN.out _ HG).mono ?_; clear CN HG; rintro e w2 ⟨b, c, rfl, hbc, LX⟩)
      | (go_at_call 18; refine (CO.out _ hbc LX).mono ?_; clear CO LX; rintro e w3 ⟨k, rfl, LX⟩; have hk : (newB b c k).hv = k + 2 := rfl; generalize newB b c k = nb at LX hk))
    go_ret
    exact ⟨rfl, HF.out _ LX⟩
  have hc1 : ¬ (70 : Int) < (l1.length : Int) := by omega
  cases q1 with
  | true =>
    go_enter Tryd.func5, Tryd.ntmps5
    go_wp2_with (first
      | (go_at_call 15; refine (CA.out _ HG).mono ?_; clear CA HG; rintro e w1 ⟨rfl, HG⟩)
      | (go_at_call 17; refine (CN.out _ HG).mono ?_; clear CN HG; rintro e w2 ⟨b, c, rfl, hbc, LX⟩)
      | (go_at_call 18; refine (CO.out _ hbc LX).mono ?_; clear CO LX; rintro e w3 ⟨k, rfl, LX⟩; have hk : (newB b c k).hv = k + 2 := rfl; generalize newB b c k = nb at LX hk)
      | (go_at_call 32; refine (CW1.out _ LX).mono ?_; clear CW1; rintro e w4 ⟨rfl, rfl⟩))
    go_ret
    exact ⟨rfl, HF.out _ LX⟩
  | false =>
  replace hb1 : l1.length ≤ 70 := by omega
  go_enter Tryd.func5, Tryd.ntmps5
  go_wp2_with (first
      | (go_at_call 15; refine (CA.out _ HG).mono ?_; clear CA HG; rintro e w1 ⟨rfl, HG⟩)
      | (go_at_call 17; refine (CN.out _ HG).mono ?_; clear CN HG; rintro e w2 ⟨b, c, rfl, hbc, LX⟩)
      | (go_at_call 18; refine (CO.out _ hbc LX).mono ?_; clear CO LX; rintro e w3 ⟨k, rfl, LX⟩; have hk : (newB b c k).hv = k + 2 := rfl; generalize newB b c k = nb at LX hk)
      | (go_at_call 32; refine (CW1.out _ LX).mono ?_; clear CW1; rintro e w4 ⟨rfl, rfl⟩)
      | (go_at_call 33; refine (CC.out _ hb1 hq1 LX).mono ?_; clear CC LX; rintro e w5 ⟨q, rfl, hnc, LX⟩; cases q))
  · have HNC : Hid (∀ x ∈ l1, ∀ y ∈ l1, S.sha x = S.sha y → x = y) := nc_inj (hnc trivial)
    have OX0 : Hid (OX w (k + 2) (100 * 0) nb (agN N) [] (some ⟨w5.heap.size, 0, none⟩) (w5.alloc (.cells #[] 9))) :=
      ⟨hk, (LX.alloc (.cells #[] 9)), fun i t ht => by simp at ht⟩
    have HB1 : Hid (∀ t ∈ l1, t.length ≤ 512) := HW1.out hq1
    have HST0 : Hid (∀ W : World, (W.alloc (.cells zero32 23)).heap[W.heap.size]? = some (.cells zero32 23 (0, 0))) := hst32
    have hz3 := zero32_size
    have HLI0 : Hid (LI N [] (agN N)) := LI.new N
    clear LX hnc HF hG HW1 hq1 e1 e2 e3 hw10 hx
    generalize k + 2 = K at *
    clear hk
    go_loopw [10, 11, 12, 13, 14, 15, 16, 17, 18] (fun u10 u11 u12 u13 u14 u15 u16 u17 u18 wr => ∃ (i : Nat) (A : Ag) (line : List (List UInt8)) (va : Option Addr) (vc : Nat), i ≤ l1.length ∧ u11 = .int .i64 i ∧ u10 = .slice va line.length vc ∧ line.length ≤ vc ∧ OX w K (100 * i) nb A line va wr ∧ LI N line A ∧ ∀ t ∈ line, t ∈ l1) (fun _ u11 _ _ _ _ _ _ _ _ => l1.length - (intOf u11).toNat)
    case atStart => exact ⟨0, agN N, [], _, 0, Nat.zero_le _, rfl, rfl, by simp, OX0.out, HLI0.out, fun t ht => by cases ht⟩
    case round =>
      obtain ⟨i, A, line, va, vc, hi, rfl, rfl, hvc, LX, hli, hsub⟩ := hrel
      have HLI : Hid (LI N line A) := hli
      have HSUB : Hid (∀ t ∈ line, t ∈ l1) := hsub
      have HU : Hid (V.Uq A.es) := LX.uq
      have hll : line.length ≤ N := hli.le LX.uq
      clear OX0 HLI0 hli hsub
      by_cases hlt : i < l1.length
      · obtain ⟨s0, hs0⟩ : ∃ s0, l1[i]? = some s0 := ⟨l1[i], List.getElem?_eq_getElem hlt⟩
        have HSM0 : Hid (s0 ∈ l1) := List.mem_of_getElem? hs0
        obtain ⟨sb, off, ha1, _, hc⟩ := HT1.out _ LX.x.o i s0 hs0
        cases ha1
        have i0 : (0 : Int) ≤ (i : Int) := by omega
        have i1 : (i : Int) < (l1.length : Int) := by omega
        clear hs0
        by_cases hask : i < l2.length ∧ 0 < line.length
        · clear HSM0
          obtain ⟨z, hz⟩ : ∃ z, l2[i]? = some z := ⟨l2[i]'hask.1, List.getElem?_eq_getElem hask.1⟩
          obtain ⟨qb, qo, ha2, _, hzc⟩ := HT2.out _ LX.x.o i z hz
          cases ha2
          have hjl := um_lt z line.length hask.2
          have f2 := um_wrap z line.length
          obtain ⟨j, hj⟩ : ∃ j, j = um z line.length := ⟨_, rfl⟩
          rw [← hj] at hjl f2
          obtain ⟨s, hs⟩ : ∃ s, line[j]? = some s := ⟨line[j], List.getElem?_eq_getElem hjl⟩
          have hsl := List.mem_of_getElem? hs
          have HSM : Hid (s ∈ l1) := HSUB.out s hsl
          have hs5 := HB1.out s HSM.out
          obtain ⟨lb, lo, hva, _, _, hlc⟩ := LX.n j s hs
          cases hva
          have f1 : IntKind.u64.wrap (line.length : Int) = (line.length : Int) := by simp only [IntKind.wrap, IntKind.bits, IntKind.signed]; simp; omega
          have f3 : IntKind.i64.wrap (j : Int) = (j : Int) := wrap_i64_ofH (by omega) (by omega)
          have f4 : ((line.length : Int) == 0) = false := beq_eq_false_iff_ne.2 (by omega)
          have f5 : (0 : Int) < (line.length : Int) := by omega
          have f6 : (i : Int) < (l2.length : Int) := by omega
          have f7 : (j : Int) < (line.length : Int) := by omega
          have f8 : (0 : Int) ≤ (j : Int) := by omega
          obtain ⟨i9, u9, hg⟩ := (HLI.out.m s).1 hsl
          obtain ⟨A2, hA2⟩ : ∃ A2, A2 = A.put i9 s := ⟨_, rfl⟩
          have HL2 : Hid (V.Uq A2.es → LI N (nxL N line s) A2) := fun h => by rw [hA2] at h ⊢; exact HLI.out.useN HU.out hg h
          have CF : Hid (∀ W' T, OX w K (100 * i) nb A line (some ⟨lb, lo, none⟩) W' → Calls Tryd.prog 24 #[.slice (some ⟨W'.heap.size, 0, none⟩) 1 1] (W'.alloc (.cells #[.string (M.bs s)] T)) fun e' w' => e' = .returned (.agg (dg (S.sha s))) ∧ OX w K (100 * i) nb A line (some ⟨lb, lo, none⟩) w') := fun W' T h => h.of s T hs5
          have CB : Hid (∀ W', OX w K (100 * i) nb A line (some ⟨lb, lo, none⟩) W' → Calls Tryd.prog 25 #[.pointer (some ⟨K, 0, none⟩), .agg (dg (S.sha s))] W' fun e' w' => e' = .returned (.tuple #[.string (M.bs s), .bool true]) ∧ OX w K (100 * i + 3) nb A2 line (some ⟨lb, lo, none⟩) w') := fun W' h => by rw [hA2]; exact h.blob (by omega) hg
          have hbq : ((M.bs s).toList == (M.bs s).toList) = true := by simp
          clear hz hg hsl hs hj hA2 hask HLI HU
          generalize S.sha s = D at *
          go_wp2_with (first
            | (go_at_call 24; refine (CF.out _ _ LX).mono ?_; clear CF LX hc hzc hlc; rintro e w6 ⟨rfl, LX⟩)
            | (go_at_call 25; refine (CB.out _ LX).mono ?_; clear CB LX; rintro e w7 ⟨rfl, LX⟩))
          clear f1 f2 f3 f4 f5 f6 f7 f8
          have HL3 : Hid (LI N (nxL N line s) A2) := HL2.out LX.uq
          have HX7 : Hid (OX w K (100 * i + 3) nb A2 line (some ⟨lb, lo, none⟩) w7) := LX
          have HOW0 : Hid ((w7.alloc (.cells #[] 9)).ownsRow w7.heap.size 9 1 (.slice (some ⟨w7.heap.size, 0, none⟩) 0 0) (wo line s 0).length ((wo line s 0).map encS)) := World.ownsRow_made w7 #[] 0 (Nat.le_refl _) (Nat.zero_le _) rfl
          have HBE0 : Hid (Below w7.heap.size w7 (w7.alloc (.cells #[] 9))) := (Below.refl _ w7).alloc (Nat.le_refl _) _
          clear HL2 LX
          go_loopw [17, 18] (fun u17 u18 wr => ∃ k : Nat, k ≤ line.length ∧ u18 = .int .i64 (k : Int) ∧ wr.ownsRow w7.heap.size 9 1 u17 (wo line s k).length ((wo line s k).map encS) ∧ Below w7.heap.size w7 wr) (fun _ u18 _ => line.length - (intOf u18).toNat)
          case atStart => exact ⟨0, Nat.zero_le _, rfl, HOW0.out, HBE0.out⟩
          case round =>
            obtain ⟨k, hk, rfl, hown, hbe⟩ := hrel
            clear HOW0 HBE0
            have HOW : Hid (wr.ownsRow w7.heap.size 9 1 u17 (wo line s k).length ((wo line s k).map encS)) := hown
            have HBE : Hid (Below w7.heap.size w7 wr) := hbe
            have hszw := hbe.size
            have hwl := wo_le line s k
            clear hown hbe
            by_cases hlk : k < line.length
            · obtain ⟨t, ht⟩ : ∃ t, line[k]? = some t := ⟨line[k], List.getElem?_eq_getElem hlk⟩
              obtain ⟨sk, ok, hva, hsk, _, hck⟩ := HX7.out.n k t ht
              cases hva
              have hckr : wr.cell? ⟨lb, lo + k, none⟩ = some (.string (M.bs t)) := by rw [HBE.out.cell (p := ⟨lb, lo + k, none⟩) hsk]; exact hck
              have k0 : (0 : Int) ≤ (k : Int) := by omega
              have k1 : (k : Int) < (line.length : Int) := by omega
              clear hck
              by_cases hts : t = s
              · have hq := bs_eqQ t s true (by simpa using hts)
                have HW : Hid (wo line s (k + 1) = wo line s k) := wo_same line s k (by rw [← hts]; exact ht)
                clear hts ht
                go_wp2_with fail
                go_roundw
                case rel => exact ⟨k + 1, by omega, by go_num, by rw [HW.out]; exact HOW.out, HBE.out⟩
                case measure => simp [intOf]; omega
              · have hq := bs_eqQ t s false (by simpa using hts)
                have HW : Hid (wo line s (k + 1) = wo line s k ++ [t]) := wo_other line s t k ht hts
                have HO2 : Hid ((wr.alloc (.cells #[.string (M.bs t)] 9)).ownsRow w7.heap.size 9 1 u17 (wo line s k).length ((wo line s k).map encS)) := World.ownsRow.alloc (w := wr) HOW.out _
                have HB2 : Hid (Below w7.heap.size w7 (wr.alloc (.cells #[.string (M.bs t)] 9))) := HBE.out.alloc hszw _
                have hwl2 : (wo line s k).length + 1 ≤ 100000 := by omega
                clear hts ht
                generalize wo line s k = ks at *
                go_wp2_with (at_builtin; refine wl_app rfl _ _ rfl w7.heap.size ks _ rfl HO2.out (some ⟨_, 0, none⟩) [t] 1 rfl (ts_oneO _ _ _) (by simp; omega) (by simpa using hwl2) ?_; intro v9 w9 hown9 hg9 hv9; have HO9 : Hid _ := hown9; have HB9 : Hid (Below w7.heap.size w7 w9) := HB2.out.grown hg9 (by simp; omega) (fun q hq => (HO2.out.lt q hq).1); clear hown9 hg9 hv9 HO2 HB2)
                go_roundw
                case rel => exact ⟨k + 1, by omega, by go_num, by rw [HW.out]; exact HO9.out, HB9.out⟩
                case measure => simp [intOf]; omega
            · obtain rfl : k = line.length := by omega
              have HWA := wo_all line s
              obtain ⟨nl, hnl⟩ : ∃ nl, nl = wo line s line.length ++ [s] := ⟨_, rfl⟩
              have HNL : Hid (nl = line.filter (fun t => decide (t ≠ s)) ++ [s]) := by show _ = _; rw [hnl, HWA]
              have hnl1 : 0 < nl.length := by rw [hnl]; simp
              have hnl2 : nl.length ≤ 11 := by rw [hnl]; simp; omega
              have HO2 : Hid ((wr.alloc (.cells #[.string (M.bs s)] 9)).ownsRow w7.heap.size 9 1 u17 (wo line s line.length).length ((wo line s line.length).map encS)) := World.ownsRow.alloc (w := wr) HOW.out _
              have HB2 : Hid (Below w7.heap.size w7 (wr.alloc (.cells #[.string (M.bs s)] 9))) := HBE.out.alloc hszw _
              have hwl2 : (wo line s line.length).length + 1 ≤ 100000 := by omega
              have HNE : Hid (wo line s line.length ++ [s] = nl) := hnl.symm
              clear HWA hnl HOW hlk hwl
              generalize wo line s line.length = ks at *
              by_cases hgt : N < nl.length
              · have HNX : Hid (nxL N line s = nl.tail) := by show _ = _; unfold nxL; rw [← HNL.out, if_pos hgt]
                have hgt' : (N : Int) < (nl.length : Int) := by omega
                clear HNL hgt
                go_wp2_with (at_builtin; refine wl_app rfl _ _ rfl w7.heap.size ks _ rfl HO2.out (some ⟨_, 0, none⟩) [s] 1 rfl (ts_oneO _ _ _) (by simp; omega) (by simpa using hwl2) ?_; intro v9 w9 hown9 hg9 hv9; rw [HNE.out] at hown9; have HB9 : Hid (Below w7.heap.size w7 w9) := HB2.out.grown hg9 (by simp; omega) (fun q hq => (HO2.out.lt q hq).1); obtain ⟨g9, c9, hv, hgB, hgl, hcap, hcells⟩ := owns_someO hown9 hnl1; subst hv; have HC9 : Hid _ := hcells; clear hown9 hg9 hv9 HO2 HB2 hcells)
                go_roundw
                case rel =>
                  refine ⟨i + 1, A2, nl.tail, some ⟨g9, 1, none⟩, c9 - 1, by omega, by go_num, by rw [List.length_tail], by rw [List.length_tail]; omega, (HX7.out.line (o := 1) HB9.out hgB hgl (fun j t ht => ?_)).wider (by omega), by rw [← HNX.out]; exact HL3.out, by rw [← HNX.out]; exact nxL_sub HSUB.out HSM.out⟩
                  rw [Nat.add_comm]
                  exact HC9.out (j + 1) t (by rw [List.getElem?_tail] at ht; exact ht)
                case measure => simp [intOf]; omega
              · have HNX : Hid (nxL N line s = nl) := by show _ = _; unfold nxL; rw [← HNL.out, if_neg hgt]
                have hgt' : ¬ (N : Int) < (nl.length : Int) := by omega
                clear HNL hgt
                go_wp2_with (at_builtin; refine wl_app rfl _ _ rfl w7.heap.size ks _ rfl HO2.out (some ⟨_, 0, none⟩) [s] 1 rfl (ts_oneO _ _ _) (by simp; omega) (by simpa using hwl2) ?_; intro v9 w9 hown9 hg9 hv9; rw [HNE.out] at hown9; have HB9 : Hid (Below w7.heap.size w7 w9) := HB2.out.grown hg9 (by simp; omega) (fun q hq => (HO2.out.lt q hq).1); obtain ⟨g9, c9, hv, hgB, hgl, hcap, hcells⟩ := owns_someO hown9 hnl1; subst hv; have HC9 : Hid _ := hcells; clear hown9 hg9 hv9 HO2 HB2 hcells)
                go_roundw
                case rel => exact ⟨i + 1, A2, nl, some ⟨g9, 0, none⟩, c9, by omega, by go_num, rfl, hcap, (HX7.out.line (o := 0) HB9.out hgB hgl (fun j t ht => by rw [Nat.zero_add]; exact HC9.out j t ht)).wider (by omega), by rw [← HNX.out]; exact HL3.out, by rw [← HNX.out]; exact nxL_sub HSUB.out HSM.out⟩
                case measure => simp [intOf]; omega
        · have HSM := HSM0
          clear HSM0
          by_cases hg2 : i < l2.length
          · have hl0 : line.length = 0 := by omega
            have f6 : (i : Int) < (l2.length : Int) := by omega
            have f5 : ¬ (0 : Int) < (line.length : Int) := by omega
            clear hask hg2
            have hs5 := HB1.out s0 HSM.out
            obtain ⟨A2, HL2, C1⟩ : ∃ A2, Hid (V.Uq A2.es → LI N (nxL N line s0) A2) ∧ Hid (∀ W', OX w K (100 * i) nb A line va W' → Calls Tryd.prog 19 #[.pointer (some ⟨K, 0, none⟩), .string (M.bs s0)] W' fun e' w' => e' = .returned (.tuple #[.agg (dg (S.sha s0)), .int .i64 0]) ∧ OX w K (100 * i + 3) nb A2 line va w') := by
              by_cases hsk : s0 ∈ line
              · obtain ⟨i9, u9, hg⟩ := (HLI.out.m s0).1 hsk
                exact ⟨A.put i9 s0, fun h => HLI.out.useN HU.out hg h, fun W' h => h.putIs (by omega) s0 hs5 (Ag.fnd_of HU.out hg) hg⟩
              · obtain ⟨i9, hr, h9⟩ := HLI.out.roomN HU.out hN1 hsk
                have hnf : A.fnd (S.sha s0) = none := Ag.fnd_none (fun i' t u hg e => hsk (by
                  have ht := (HLI.out.m t).2 ⟨i', u, hg⟩
                  have := HNC.out t (HSUB.out t ht) s0 HSM.out e
                  rw [← this]; exact ht))
                exact ⟨A.put i9 s0, fun _ => h9, fun W' h => h.putNew (by omega) s0 hs5 hnf hr⟩
            have hlD := S.sha_length s0
            have HST := HST0
            clear HLI HU
            generalize S.sha s0 = D at *
            have hDs : (dg D).size = 32 := by rw [dg_size, hlD]
            have hD1 := dg_one D
            go_wp2_with (first
              | (go_at_call 19; refine (C1.out _ LX).mono ?_; clear C1 LX hc; rintro e w6 ⟨rfl, LX⟩)
              | (refine wpList_store_row rfl 23 _ _ rfl w6.heap.size (dg D) rfl rfl 23 zero32 (HST.out w6) (by rw [hDs]; exact info27) (by rw [hz3, hDs]) hD1 ?_; clear HST; rw [World.setRow_alloc_new]; replace LX := LX.alloc (.cells (dg D) 23); generalize w6.alloc (.cells (dg D) 23) = w7 at LX ⊢))
            clear hDs hD1 hlD
            have HL3 : Hid (LI N (nxL N line s0) A2) := HL2.out LX.uq
            have HX7 : Hid (OX w K (100 * i + 3) nb A2 line va w7) := LX
            have HOW0 : Hid ((w7.alloc (.cells #[] 9)).ownsRow w7.heap.size 9 1 (.slice (some ⟨w7.heap.size, 0, none⟩) 0 0) (wo line s0 0).length ((wo line s0 0).map encS)) := World.ownsRow_made w7 #[] 0 (Nat.le_refl _) (Nat.zero_le _) rfl
            have HBE0 : Hid (Below w7.heap.size w7 (w7.alloc (.cells #[] 9))) := (Below.refl _ w7).alloc (Nat.le_refl _) _
            clear HL2 LX
            go_loopw [17, 18] (fun u17 u18 wr => ∃ k : Nat, k ≤ line.length ∧ u18 = .int .i64 (k : Int) ∧ wr.ownsRow w7.heap.size 9 1 u17 (wo line s0 k).length ((wo line s0 k).map encS) ∧ Below w7.heap.size w7 wr) (fun _ u18 _ => line.length - (intOf u18).toNat)
            case atStart => exact ⟨0, Nat.zero_le _, rfl, HOW0.out, HBE0.out⟩
            case round =>
              obtain ⟨k, hk, rfl, hown, hbe⟩ := hrel
              clear HOW0 HBE0
              have HOW : Hid (wr.ownsRow w7.heap.size 9 1 u17 (wo line s0 k).length ((wo line s0 k).map encS)) := hown
              have HBE : Hid (Below w7.heap.size w7 wr) := hbe
              have hszw := hbe.size
              have hwl := wo_le line s0 k
              clear hown hbe
              by_cases hlk : k < line.length
              · exact absurd hlk (by omega)
              · obtain rfl : k = line.length := by omega
                have HWA := wo_all line s0
                obtain ⟨nl, hnl⟩ : ∃ nl, nl = wo line s0 line.length ++ [s0] := ⟨_, rfl⟩
                have HNL : Hid (nl = line.filter (fun t => decide (t ≠ s0)) ++ [s0]) := by show _ = _; rw [hnl, HWA]
                have hnl1 : 0 < nl.length := by rw [hnl]; simp
                have hnl2 : nl.length ≤ 11 := by rw [hnl]; simp; omega
                have HO2 : Hid ((wr.alloc (.cells #[.string (M.bs s0)] 9)).ownsRow w7.heap.size 9 1 u17 (wo line s0 line.length).length ((wo line s0 line.length).map encS)) := World.ownsRow.alloc (w := wr) HOW.out _
                have HB2 : Hid (Below w7.heap.size w7 (wr.alloc (.cells #[.string (M.bs s0)] 9))) := HBE.out.alloc hszw _
                have hwl2 : (wo line s0 line.length).length + 1 ≤ 100000 := by omega
                have HNE : Hid (wo line s0 line.length ++ [s0] = nl) := hnl.symm
                clear HWA hnl HOW hlk hwl
                generalize wo line s0 line.length = ks at *
                by_cases hgt : N < nl.length
                · have HNX : Hid (nxL N line s0 = nl.tail) := by show _ = _; unfold nxL; rw [← HNL.out, if_pos hgt]
                  have hgt' : (N : Int) < (nl.length : Int) := by omega
                  clear HNL hgt
                  go_wp2_with (at_builtin; refine wl_app rfl _ _ rfl w7.heap.size ks _ rfl HO2.out (some ⟨_, 0, none⟩) [s0] 1 rfl (ts_oneO _ _ _) (by simp; omega) (by simpa using hwl2) ?_; intro v9 w9 hown9 hg9 hv9; rw [HNE.out] at hown9; have HB9 : Hid (Below w7.heap.size w7 w9) := HB2.out.grown hg9 (by simp; omega) (fun q hq => (HO2.out.lt q hq).1); obtain ⟨g9, c9, hv, hgB, hgl, hcap, hcells⟩ := owns_someO hown9 hnl1; subst hv; have HC9 : Hid _ := hcells; clear hown9 hg9 hv9 HO2 HB2 hcells)
                  go_roundw
                  case rel =>
                    refine ⟨i + 1, A2, nl.tail, some ⟨g9, 1, none⟩, c9 - 1, by omega, by go_num, by rw [List.length_tail], by rw [List.length_tail]; omega, (HX7.out.line (o := 1) HB9.out hgB hgl (fun j t ht => ?_)).wider (by omega), by rw [← HNX.out]; exact HL3.out, by rw [← HNX.out]; exact nxL_sub HSUB.out HSM.out⟩
                    rw [Nat.add_comm]
                    exact HC9.out (j + 1) t (by rw [List.getElem?_tail] at ht; exact ht)
                  case measure => simp [intOf]; omega
                · have HNX : Hid (nxL N line s0 = nl) := by show _ = _; unfold nxL; rw [← HNL.out, if_neg hgt]
                  have hgt' : ¬ (N : Int) < (nl.length : Int) := by omega
                  clear HNL hgt
                  go_wp2_with (at_builtin; refine wl_app rfl _ _ rfl w7.heap.size ks _ rfl HO2.out (some ⟨_, 0, none⟩) [s0] 1 rfl (ts_oneO _ _ _) (by simp; omega) (by simpa using hwl2) ?_; intro v9 w9 hown9 hg9 hv9; rw [HNE.out] at hown9; have HB9 : Hid (Below w7.heap.size w7 w9) := HB2.out.grown hg9 (by simp; omega) (fun q hq => (HO2.out.lt q hq).1); obtain ⟨g9, c9, hv, hgB, hgl, hcap, hcells⟩ := owns_someO hown9 hnl1; subst hv; have HC9 : Hid _ := hcells; clear hown9 hg9 hv9 HO2 HB2 hcells)
                  go_roundw
                  case rel => exact ⟨i + 1, A2, nl, some ⟨g9, 0, none⟩, c9, by omega, by go_num, rfl, hcap, (HX7.out.line (o := 0) HB9.out hgB hgl (fun j t ht => by rw [Nat.zero_add]; exact HC9.out j t ht)).wider (by omega), by rw [← HNX.out]; exact HL3.out, by rw [← HNX.out]; exact nxL_sub HSUB.out HSM.out⟩
                  case measure => simp [intOf]; omega
          · have f6 : ¬ (i : Int) < (l2.length : Int) := by omega
            clear hask hg2
            have hs5 := HB1.out s0 HSM.out
            obtain ⟨A2, HL2, C1⟩ : ∃ A2, Hid (V.Uq A2.es → LI N (nxL N line s0) A2) ∧ Hid (∀ W', OX w K (100 * i) nb A line va W' → Calls Tryd.prog 19 #[.pointer (some ⟨K, 0, none⟩), .string (M.bs s0)] W' fun e' w' => e' = .returned (.tuple #[.agg (dg (S.sha s0)), .int .i64 0]) ∧ OX w K (100 * i + 3) nb A2 line va w') := by
              by_cases hsk : s0 ∈ line
              · obtain ⟨i9, u9, hg⟩ := (HLI.out.m s0).1 hsk
                exact ⟨A.put i9 s0, fun h => HLI.out.useN HU.out hg h, fun W' h => h.putIs (by omega) s0 hs5 (Ag.fnd_of HU.out hg) hg⟩
              · obtain ⟨i9, hr, h9⟩ := HLI.out.roomN HU.out hN1 hsk
                have hnf : A.fnd (S.sha s0) = none := Ag.fnd_none (fun i' t u hg e => hsk (by
                  have ht := (HLI.out.m t).2 ⟨i', u, hg⟩
                  have := HNC.out t (HSUB.out t ht) s0 HSM.out e
                  rw [← this]; exact ht))
                exact ⟨A.put i9 s0, fun _ => h9, fun W' h => h.putNew (by omega) s0 hs5 hnf hr⟩
            have hlD := S.sha_length s0
            have HST := HST0
            clear HLI HU
            generalize S.sha s0 = D at *
            have hDs : (dg D).size = 32 := by rw [dg_size, hlD]
            have hD1 := dg_one D
            go_wp2_with (first
              | (go_at_call 19; refine (C1.out _ LX).mono ?_; clear C1 LX hc; rintro e w6 ⟨rfl, LX⟩)
              | (refine wpList_store_row rfl 23 _ _ rfl w6.heap.size (dg D) rfl rfl 23 zero32 (HST.out w6) (by rw [hDs]; exact info27) (by rw [hz3, hDs]) hD1 ?_; clear HST; rw [World.setRow_alloc_new]; replace LX := LX.alloc (.cells (dg D) 23); generalize w6.alloc (.cells (dg D) 23) = w7 at LX ⊢))
            clear hDs hD1 hlD
            have HL3 : Hid (LI N (nxL N line s0) A2) := HL2.out LX.uq
            have HX7 : Hid (OX w K (100 * i + 3) nb A2 line va w7) := LX
            have HOW0 : Hid ((w7.alloc (.cells #[] 9)).ownsRow w7.heap.size 9 1 (.slice (some ⟨w7.heap.size, 0, none⟩) 0 0) (wo line s0 0).length ((wo line s0 0).map encS)) := World.ownsRow_made w7 #[] 0 (Nat.le_refl _) (Nat.zero_le _) rfl
            have HBE0 : Hid (Below w7.heap.size w7 (w7.alloc (.cells #[] 9))) := (Below.refl _ w7).alloc (Nat.le_refl _) _
            clear HL2 LX
            go_loopw [17, 18] (fun u17 u18 wr => ∃ k : Nat, k ≤ line.length ∧ u18 = .int .i64 (k : Int) ∧ wr.ownsRow w7.heap.size 9 1 u17 (wo line s0 k).length ((wo line s0 k).map encS) ∧ Below w7.heap.size w7 wr) (fun _ u18 _ => line.length - (intOf u18).toNat)
            case atStart => exact ⟨0, Nat.zero_le _, rfl, HOW0.out, HBE0.out⟩
            case round =>
              obtain ⟨k, hk, rfl, hown, hbe⟩ := hrel
              clear HOW0 HBE0
              have HOW : Hid (wr.ownsRow w7.heap.size 9 1 u17 (wo line s0 k).length ((wo line s0 k).map encS)) := hown
              have HBE : Hid (Below w7.heap.size w7 wr) := hbe
              have hszw := hbe.size
              have hwl := wo_le line s0 k
              clear hown hbe
              by_cases hlk : k < line.length
              · obtain ⟨t, ht⟩ : ∃ t, line[k]? = some t := ⟨line[k], List.getElem?_eq_getElem hlk⟩
                obtain ⟨sk, ok, hva, hsk, _, hck⟩ := HX7.out.n k t ht
                cases hva
                have hckr : wr.cell? ⟨sk, ok + k, none⟩ = some (.string (M.bs t)) := by rw [HBE.out.cell (p := ⟨sk, ok + k, none⟩) hsk]; exact hck
                have k0 : (0 : Int) ≤ (k : Int) := by omega
                have k1 : (k : Int) < (line.length : Int) := by omega
                clear hck
                by_cases hts : t = s0
                · have hq := bs_eqQ t s0 true (by simpa using hts)
                  have HW : Hid (wo line s0 (k + 1) = wo line s0 k) := wo_same line s0 k (by rw [← hts]; exact ht)
                  clear hts ht
                  go_wp2_with fail
                  go_roundw
                  case rel => exact ⟨k + 1, by omega, by go_num, by rw [HW.out]; exact HOW.out, HBE.out⟩
                  case measure => simp [intOf]; omega
                · have hq := bs_eqQ t s0 false (by simpa using hts)
                  have HW : Hid (wo line s0 (k + 1) = wo line s0 k ++ [t]) := wo_other line s0 t k ht hts
                  have HO2 : Hid ((wr.alloc (.cells #[.string (M.bs t)] 9)).ownsRow w7.heap.size 9 1 u17 (wo line s0 k).length ((wo line s0 k).map encS)) := World.ownsRow.alloc (w := wr) HOW.out _
                  have HB2 : Hid (Below w7.heap.size w7 (wr.alloc (.cells #[.string (M.bs t)] 9))) := HBE.out.alloc hszw _
                  have hwl2 : (wo line s0 k).length + 1 ≤ 100000 := by omega
                  clear hts ht
                  generalize wo line s0 k = ks at *
                  go_wp2_with (at_builtin; refine wl_app rfl _ _ rfl w7.heap.size ks _ rfl HO2.out (some ⟨_, 0, none⟩) [t] 1 rfl (ts_oneO _ _ _) (by simp; omega) (by simpa using hwl2) ?_; intro v9 w9 hown9 hg9 hv9; have HO9 : Hid _ := hown9; have HB9 : Hid (Below w7.heap.size w7 w9) := HB2.out.grown hg9 (by simp; omega) (fun q hq => (HO2.out.lt q hq).1); clear hown9 hg9 hv9 HO2 HB2)
                  go_roundw
                  case rel => exact ⟨k + 1, by omega, by go_num, by rw [HW.out]; exact HO9.out, HB9.out⟩
                  case measure => simp [intOf]; omega
              · obtain rfl : k = line.length := by omega
                have HWA := wo_all line s0
                obtain ⟨nl, hnl⟩ : ∃ nl, nl = wo line s0 line.length ++ [s0] := ⟨_, rfl⟩
                have HNL : Hid (nl = line.filter (fun t => decide (t ≠ s0)) ++ [s0]) := by show _ = _; rw [hnl, HWA]
                have hnl1 : 0 < nl.length := by rw [hnl]; simp
                have hnl2 : nl.length ≤ 11 := by rw [hnl]; simp; omega
                have HO2 : Hid ((wr.alloc (.cells #[.string (M.bs s0)] 9)).ownsRow w7.heap.size 9 1 u17 (wo line s0 line.length).length ((wo line s0 line.length).map encS)) := World.ownsRow.alloc (w := wr) HOW.out _
                have HB2 : Hid (Below w7.heap.size w7 (wr.alloc (.cells #[.string (M.bs s0)] 9))) := HBE.out.alloc hszw _
                have hwl2 : (wo line s0 line.length).length + 1 ≤ 100000 := by omega
                have HNE : Hid (wo line s0 line.length ++ [s0] = nl) := hnl.symm
                clear HWA hnl HOW hlk hwl
                generalize wo line s0 line.length = ks at *
                by_cases hgt : N < nl.length
                · have HNX : Hid (nxL N line s0 = nl.tail) := by show _ = _; unfold nxL; rw [← HNL.out, if_pos hgt]
                  have hgt' : (N : Int) < (nl.length : Int) := by omega
                  clear HNL hgt
                  go_wp2_with (at_builtin; refine wl_app rfl _ _ rfl w7.heap.size ks _ rfl HO2.out (some ⟨_, 0, none⟩) [s0] 1 rfl (ts_oneO _ _ _) (by simp; omega) (by simpa using hwl2) ?_; intro v9 w9 hown9 hg9 hv9; rw [HNE.out] at hown9; have HB9 : Hid (Below w7.heap.size w7 w9) := HB2.out.grown hg9 (by simp; omega) (fun q hq => (HO2.out.lt q hq).1); obtain ⟨g9, c9, hv, hgB, hgl, hcap, hcells⟩ := owns_someO hown9 hnl1; subst hv; have HC9 : Hid _ := hcells; clear hown9 hg9 hv9 HO2 HB2 hcells)
                  go_roundw
                  case rel =>
                    refine ⟨i + 1, A2, nl.tail, some ⟨g9, 1, none⟩, c9 - 1, by omega, by go_num, by rw [List.length_tail], by rw [List.length_tail]; omega, (HX7.out.line (o := 1) HB9.out hgB hgl (fun j t ht => ?_)).wider (by omega), by rw [← HNX.out]; exact HL3.out, by rw [← HNX.out]; exact nxL_sub HSUB.out HSM.out⟩
                    rw [Nat.add_comm]
                    exact HC9.out (j + 1) t (by rw [List.getElem?_tail] at ht; exact ht)
                  case measure => simp [intOf]; omega
                · have HNX : Hid (nxL N line s0 = nl) := by show _ = _; unfold nxL; rw [← HNL.out, if_neg hgt]
                  have hgt' : ¬ (N : Int) < (nl.length : Int) := by omega
                  clear HNL hgt
                  go_wp2_with (at_builtin; refine wl_app rfl _ _ rfl w7.heap.size ks _ rfl HO2.out (some ⟨_, 0, none⟩) [s0] 1 rfl (ts_oneO _ _ _) (by simp; omega) (by simpa using hwl2) ?_; intro v9 w9 hown9 hg9 hv9; rw [HNE.out] at hown9; have HB9 : Hid (Below w7.heap.size w7 w9) := HB2.out.grown hg9 (by simp; omega) (fun q hq => (HO2.out.lt q hq).1); obtain ⟨g9, c9, hv, hgB, hgl, hcap, hcells⟩ := owns_someO hown9 hnl1; subst hv; have HC9 : Hid _ := hcells; clear hown9 hg9 hv9 HO2 HB2 hcells)
                  go_roundw
                  case rel => exact ⟨i + 1, A2, nl, some ⟨g9, 0, none⟩, c9, by omega, by go_num, rfl, hcap, (HX7.out.line (o := 0) HB9.out hgB hgl (fun j t ht => by rw [Nat.zero_add]; exact HC9.out j t ht)).wider (by omega), by rw [← HNX.out]; exact HL3.out, by rw [← HNX.out]; exact nxL_sub HSUB.out HSM.out⟩
                  case measure => simp [intOf]; omega
      · obtain rfl : i = l1.length := by omega
        have hcn : V.cntN A.es = line.length := HLI.out.cnt HU.out
        have CL : Hid (∀ W', OX w K (100 * l1.length) nb A line va W' → Calls Tryd.prog 30 #[.pointer (some ⟨K, 0, none⟩)] W' fun e' w' => e' = .returned (.int .i64 (line.length : Int)) ∧ w' = W') := fun W' h => by have := h.lenC; rw [hcn] at this; exact this
        have HM0 : Hid (∀ t ∈ line, ∃ (j u : Nat), A.g[j]? = some (some (t, u))) := fun t ht => (HLI.out.m t).1 ht
        have HX0 : Hid (OX w K (10000 + 100 * 0) nb A line va wr) := LX.wider (by omega)
        clear hcn HLI HU hlt hi
        go_wp2_with (go_at_call 30; refine (CL.out _ LX).mono ?_; clear CL LX; rintro e w6 ⟨rfl, hw⟩; rw [hw]; clear hw w6)
        go_loopw [19, 20, 21] (fun u19 u20 u21 wr => ∃ (k : Nat) (A : Ag), k ≤ line.length ∧ u19 = .int .i64 (k : Int) ∧ OX w K (10000 + 100 * k) nb A line va wr ∧ ∀ t ∈ line, ∃ (j u : Nat), A.g[j]? = some (some (t, u))) (fun u19 _ _ _ => line.length - (intOf u19).toNat)
        case atStart => exact ⟨0, A, Nat.zero_le _, rfl, HX0.out, HM0.out⟩
        case round =>
          obtain ⟨k, A, hk, rfl, LX, hm⟩ := hrel
          clear HX0 HM0
          by_cases hlk : k < line.length
          · obtain ⟨t, ht⟩ : ∃ t, line[k]? = some t := ⟨line[k], List.getElem?_eq_getElem hlk⟩
            have htm := List.mem_of_getElem? ht
            have ht5 := HB1.out t (HSUB.out t htm)
            obtain ⟨sk, ok, hva, hsk, _, hck⟩ := LX.n k t ht
            cases hva
            obtain ⟨j, u, hg⟩ := hm t htm
            have HM1 : Hid (∀ t' ∈ line, ∃ (j' u' : Nat), (A.put j t).g[j']? = some (some (t', u'))) := keepM hm hg
            have k0 : (0 : Int) ≤ (k : Int) := by omega
            have k1 : (k : Int) < (line.length : Int) := by omega
            have CF : Hid (∀ W' T, OX w K (10000 + 100 * k) nb A line (some ⟨sk, ok, none⟩) W' → Calls Tryd.prog 24 #[.slice (some ⟨W'.heap.size, 0, none⟩) 1 1] (W'.alloc (.cells #[.string (M.bs t)] T)) fun e' w' => e' = .returned (.agg (dg (S.sha t))) ∧ OX w K (10000 + 100 * k) nb A line (some ⟨sk, ok, none⟩) w') := fun W' T h => h.of t T ht5
            have CB : Hid (∀ W', OX w K (10000 + 100 * k) nb A line (some ⟨sk, ok, none⟩) W' → Calls Tryd.prog 25 #[.pointer (some ⟨K, 0, none⟩), .agg (dg (S.sha t))] W' fun e' w' => e' = .returned (.tuple #[.string (M.bs t), .bool true]) ∧ OX w K (10000 + 100 * k + 3) nb (A.put j t) line (some ⟨sk, ok, none⟩) w') := fun W' h => h.blob (by omega) hg
            clear hm hg ht htm
            generalize S.sha t = D at *
            go_wp2_with (first
              | (go_at_call 24; refine (CF.out _ _ LX).mono ?_; clear CF LX hck; rintro e w8 ⟨rfl, LX⟩)
              | (go_at_call 25; refine (CB.out _ LX).mono ?_; clear CB LX; rintro e w9 ⟨rfl, LX⟩))
            go_roundw
            case rel => exact ⟨k + 1, A.put j t, by omega, by go_num, LX.wider (by omega), HM1.out⟩
            case measure => simp [intOf]; omega
          · obtain rfl : k = line.length := by omega
            clear hm
            go_wp2_with fail
            go_ret
            exact ⟨rfl, LX.x.o⟩
  · go_ret
    exact ⟨rfl, HF.out _ LX⟩
end Go.Proofs.YtifpbkjjceidlaaDoor
