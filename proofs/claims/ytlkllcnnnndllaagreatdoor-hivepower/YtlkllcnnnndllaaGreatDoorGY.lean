/- The texts Y5a Y5b Y5d Y5e Y5f as one. -/
import Derived.Test.YtlkllcnnnndllaaGreatDoorG1
import Derived.Test.YtlkllcnnnndllaaGreatDoorG2
/- For HivePower: a torn text is no entry; what a store does in the act in which the power goes. -/
namespace Go.Proofs.YtlkllcnnnndllaaGreatDoor
open Go.RowKit Go.Maps
set_option linter.unusedVariables false
set_option linter.unusedSimpArgs false

/-- A TORN TEXT IS NO ENTRY: rows are apart -/
theorem torn_no (l : List (List UInt8)) (h : ∀ t ∈ l, t.length < 9223372036854775808) (hl : l.length ≤ 4) (hs : (V.sealB l).length ≤ 640) (k : Nat) (hk : k < (V.sealB l).length) : V.decode ((V.sealB l).take k) = none := by
  have hsl : (V.sealB l).length = 32 + (M.rowB l).length := by rw [V.sealB, List.length_append, S.sha_length]
  have hu : V.unsl ((V.sealB l).take k) = none := by
    cases hu : V.unsl ((V.sealB l).take k) with
    | none => rfl
    | some l' =>
      exfalso
      have hsm := unsl_small hu (by rw [List.length_take]; omega)
      have hlk : ((V.sealB l).take k).length = k := by rw [List.length_take]; omega
      have hk32 : 32 ≤ k := by rw [← hlk]; exact hsm.1
      have hd : ((V.sealB l).take k).drop 32 = (M.rowB l).take (k - 32) := by
        rw [V.sealB, List.take_append, List.drop_append, S.sha_length, List.take_of_length_le (by rw [S.sha_length]; exact hk32)]
        simp [S.sha_length]
      unfold V.unsl at hu
      split at hu
      · cases hu
      · split at hu
        · cases hu
        · split at hu
          · rename_i l2 hr
            cases hu
            rw [hd] at hr
            have hrow := (M.readRow_some _ _ _ _ hr).1
            rw [List.append_nil] at hrow
            have h1 := M.readRow_rowB l' ((M.rowB l).drop (k - 32)) 4 (by have := hsm.2.1; omega) (fun t ht => by have := hsm.2.2 t ht; omega) (by have := hsm.2.1; omega)
            rw [hrow, List.take_append_drop] at h1
            have h2 := M.readRow_rowB l [] 4 (by omega) h (by omega)
            rw [List.append_nil, h1] at h2
            simp only [Option.some.injEq, Prod.mk.injEq] at h2
            have := congrArg List.length h2.2
            rw [List.length_drop] at this
            simp at this
            omega
          · cases hu
  unfold V.decode
  rw [hu]
/-- what a fate leaves of a slot that was empty: nothing, the text, or a text that is no entry -/
theorem left_new {t : List UInt8} (f : Int) : H.left ⟨t, [], true⟩ f = [] ∨ H.left ⟨t, [], true⟩ f = t ∨ ∃ k, k < t.length ∧ H.left ⟨t, [], true⟩ f = t.take k := by
  unfold H.left
  split
  · exact .inl rfl
  · split
    · exact .inr (.inl rfl)
    · simp only [List.drop_nil, List.append_nil]
      by_cases hk : (H.rem (f.tdiv 3) ((t.length : Int) + 1)).toNat < t.length
      · exact .inr (.inr ⟨_, hk, rfl⟩)
      · exact .inr (.inl (List.take_of_length_le (by omega)))

set_option maxRecDepth 8000 in
set_option maxHeartbeats 1000000 in
/-- the power goes in the write: the store is as it was -/
theorem put_down {w W : World} {b : HB} {h : Hv} {st : H.Sh} (x : HW w b h st W) {e : V.En} (t : List UInt8) (ht : t.length ≤ 640) (i : Nat)
    (CM0 : ∀ W', HW W' b h st W' → Calls Tryz.prog 49 #[.pointer (some ⟨b.hv, 0, none⟩)] W' fun e' w' => e' = .returned (.tuple #[.int .i64 (i : Int), .int .i64 0]) ∧ HW W' b h st w')
    {s : H.Sl} (hs : st.sl[i]? = some s) (hm : Sm st) (ho : st.off = false) (ha : st.arm = 1) :
    Calls Tryz.prog 31 #[.pointer (some ⟨b.hv, 0, none⟩), .agg (ev e.kind e.dig e.ck), .string (M.bs t)] W fun e' w' => e' = .returned (.int .i64 10) ∧ HW w b h (wrS st i t) w' := by
  have hmW : ¬ b.mem W.heap.size := fun hm => by have := HX.lt x hm; omega
  have LX : LK w b h h.es st 74 (ev e.kind e.dig e.ck) W.heap.size (W.alloc (.cells (ev e.kind e.dig e.ck) 74)) := ⟨HX.alloc x _, heap_alloc_new _ _, hmW, x.o.size, x.g.z⟩
  have CM : Hid (∀ W', LK w b h h.es st 74 (ev e.kind e.dig e.ck) W.heap.size W' → Calls Tryz.prog 49 #[.pointer (some ⟨b.hv, 0, none⟩)] W' fun e' w' => e' = .returned (.tuple #[.int .i64 (i : Int), .int .i64 0]) ∧ LK w b h h.es st 74 (ev e.kind e.dig e.ck) W.heap.size w') := fun W' l => by
    refine (CM0 W' l.x.base).mono ?_
    rintro e' w' ⟨rfl, y⟩; exact ⟨rfl, l.turn y⟩
  have CW : Hid (∀ W', LK w b h h.es st 74 (ev e.kind e.dig e.ck) W.heap.size W' → Calls Tryz.prog 48 #[.pointer (some ⟨b.sh, 0, none⟩), .int .i64 (i : Int), .string (M.bs t)] W' fun e' w' => e' = .returned (.int .i64 10) ∧ LK w b h h.es (wrS st i t) 74 (ev e.kind e.dig e.ck) W.heap.size w') := fun W' l => by
    have hh := Write_h l.x.base hs hm ho t ht
    rw [show actE st = 10 by unfold actE; rw [if_pos ha]] at hh
    refine hh.mono ?_
    rintro e' w' ⟨rfl, y⟩; exact ⟨rfl, l.turn y⟩
  have HK : Hid (∀ (h' : Hv) (em : List V.En) (st' : H.Sh) W', LK w b h' em st' 74 (ev e.kind e.dig e.ck) W.heap.size W' → W'.cell? ⟨b.hv, 0, none⟩ = some (.pointer (some ⟨b.sh, 0, none⟩))) := fun h' em st' W' y => y.x.c0
  clear x CM0 hs hm ho ha hmW
  generalize ev e.kind e.dig e.ck = EE at *
  go_enter Tryz.func31, Tryz.ntmps31
  go_wp2_with (first
    | (go_at_call 49; refine (CM.out _ LX).mono ?_; clear CM LX; rintro e' w1 ⟨rfl, LX⟩; have k0 := HK.out _ _ _ _ LX)
    | (go_at_call 48; refine (CW.out _ LX).mono ?_; clear CW LX k0; rintro e' w2 ⟨rfl, LX⟩))
  go_ret
  exact ⟨rfl, LX.x⟩
set_option maxRecDepth 8000 in
/-- the power goes in the sync: nothing more is sure -/
theorem SyncV_down {w W : World} {b : HB} {h : Hv} {st : H.Sh} (x : HW w b h st W) (hm : Sm st) (ho : st.off = false) (hli : st.life = h.life) (ha : st.arm = 1) :
    Calls Tryz.prog 14 #[.pointer (some ⟨b.hv, 0, none⟩)] W fun e' w' => e' = .returned (.int .i64 10) ∧ HW w b h (H.act st) w' := by
  have k0 := x.c0
  have XX : HW w b h st W := x
  have CR : Hid (∀ W', HW w b h st W' → Calls Tryz.prog 29 #[.pointer (some ⟨b.hv, 0, none⟩)] W' fun e' w' => e' = .returned (.int .i64 0) ∧ HW w b h st w') := fun W' l => by
    have hh := reach_x (h := h) (st := st) (b := b) (w := w) (W := W') l
    rw [show rchE h st = 0 by unfold rchE; rw [if_neg (by simp [ho, hli])]] at hh
    refine hh.mono ?_
    rintro e' w' ⟨rfl, n, rfl⟩
    exact ⟨rfl, HX.drewN l n⟩
  have CS : Hid (∀ W', HW w b h st W' → Calls Tryz.prog 37 #[.pointer (some ⟨b.sh, 0, none⟩)] W' fun e' w' => e' = .returned (.int .i64 10) ∧ HW w b h (H.act st) w') := fun W' l => by
    refine (Sync_cut l.sw ho hm ha).mono ?_
    rintro e' w' ⟨rfl, y⟩
    exact ⟨rfl, HX.shelf l y (by rw [act_sl])⟩
  have HK : Hid (∀ W', HW w b h st W' → W'.cell? ⟨b.hv, 0, none⟩ = some (.pointer (some ⟨b.sh, 0, none⟩))) := fun W' y => HX.c0 y
  clear x hm ho hli ha k0
  go_enter Tryz.func14, Tryz.ntmps14
  go_wp2_with (first
    | (go_at_call 29; refine (CR.out _ XX).mono ?_; clear CR XX; rintro e' w1 ⟨rfl, XX⟩; have k0 := HK.out _ XX)
    | (go_at_call 37; refine (CS.out _ XX).mono ?_; clear CS XX k0; rintro e' w2 ⟨rfl, XX⟩))
  go_ret
  exact ⟨rfl, XX⟩
end Go.Proofs.YtlkllcnnnndllaaGreatDoor

/- For HivePower: what load makes of any slots whose entries have names of their own. -/
namespace Go.Proofs.YtlkllcnnnndllaaGreatDoor
open Go.RowKit Go.Maps
set_option linter.unusedVariables false
set_option linter.unusedSimpArgs false

/-- no two slots' texts are entries of one name -/
def UnS (sl : List H.Sl) : Prop := ∀ (i j : Nat) (s s' : H.Sl) (c c' : V.Ct), sl[i]? = some s → sl[j]? = some s' → V.decode s.text = some c → V.decode s'.text = some c' → c.kind = c'.kind → c.dig = c'.dig → i = j
def stripC (o : Option V.Ct) : Option (List UInt8 × List UInt8 × List UInt8) := o.map (fun c => (c.kind, c.dig, c.ck))
theorem kind_ne {t : List UInt8} {c : V.Ct} (h : V.decode t = some c) : c.kind ≠ [] := by
  rcases V.decode_some h with ⟨hk, _⟩ | ⟨hk, _⟩ <;> rw [hk] <;> decide
/-- what load has come to: the slots below k are entries or empty -/
structure LT (n a : Nat) (sl : List H.Sl) (k : Nat) (S : LSt) : Prop where
  l : S.h.es.length = n
  z : S.sl.length = n
  a1 : S.a ≤ a + k
  p : ∀ (j : Nat) (x : V.En), S.h.es[j]? = some x → (j < k → ∃ s, sl[j]? = some s ∧ strip x = stripC (V.decode s.text)) ∧ (k ≤ j → strip x = none)
  t : ∀ (j : Nat) (s : H.Sl), sl[j]? = some s → ∃ s', S.sl[j]? = some s' ∧ ((k ≤ j ∨ s.text = [] ∨ V.decode s.text ≠ none) → s' = s) ∧ ((j < k ∧ V.decode s.text = none) → s'.text = [])
  w : S.wp = false → S.sl = sl
theorem wipe_at {sl : List H.Sl} {i j : Nat} {s : H.Sl} (h : sl[j]? = some s) : (wipe sl i)[j]? = some (if i = j then { s with text := [], un := true } else s) := by
  unfold wipe
  rw [List.getElem?_modify, h]
  by_cases e : i = j
  · simp [e]
  · simp [e]
theorem LT.step {n a : Nat} {sl : List H.Sl} (hU : UnS sl) (hn : sl.length = n) {k : Nat} {S : LSt} (hk : k < n) (g : LT n a sl k S) : LT n a sl (k + 1) (ldStep k S) := by
  obtain ⟨s, hs⟩ : ∃ s, sl[k]? = some s := ⟨sl[k]'(by omega), List.getElem?_eq_getElem _⟩
  obtain ⟨s1, hs1, h1, _⟩ := g.t k s hs
  obtain rfl := h1 (.inl (Nat.le_refl _))
  have hkl : k < S.h.es.length := by rw [g.l]; exact hk
  unfold ldStep
  rw [hs1]
  simp only
  by_cases ht : s1.text = []
  · rw [if_pos ht]
    have hd : V.decode s1.text = none := by rw [ht]; exact decode_nil
    refine ⟨g.l, g.z, by have := g.a1; omega, fun j x hx => ⟨fun hj => ?_, fun hj => (g.p j x hx).2 (by omega)⟩, fun j s hj => ?_, g.w⟩
    · by_cases e : j = k
      · subst e
        exact ⟨s1, hs, by rw [(g.p j x hx).2 (Nat.le_refl _), hd]; rfl⟩
      · exact (g.p j x hx).1 (by omega)
    · obtain ⟨s', q1, q2, q3⟩ := g.t j s hj
      refine ⟨s', q1, fun h => ?_, fun h => ?_⟩
      · by_cases e : j = k
        · subst e; exact q2 (.inl (Nat.le_refl _))
        · exact q2 (by rcases h with h | h; exact .inl (by omega); exact .inr h)
      · by_cases e : j = k
        · subst e
          rw [q2 (.inl (Nat.le_refl _))]
          rw [hs] at hj; cases hj
          exact ht
        · exact q3 ⟨by omega, h.2⟩
  · rw [if_neg ht]
    cases hd : V.decode s1.text with
    | none =>
      have had : adoptN S.h.es s1.text = none := by unfold adoptN; rw [hd]
      rw [had]
      simp only
      refine ⟨g.l, by show (wipe S.sl k).length = n; rw [wipe, List.length_modify]; exact g.z, by have := g.a1; show S.a + 1 ≤ _; omega, fun j x hx => ⟨fun hj => ?_, fun hj => (g.p j x hx).2 (by omega)⟩, fun j s hj => ?_, fun h => by cases h⟩
      · by_cases e : j = k
        · subst e
          exact ⟨s1, hs, by rw [(g.p j x hx).2 (Nat.le_refl _), hd]; rfl⟩
        · exact (g.p j x hx).1 (by omega)
      · obtain ⟨s', q1, q2, q3⟩ := g.t j s hj
        refine ⟨_, wipe_at q1, fun h => ?_, fun h => ?_⟩
        · by_cases e : k = j
          · subst e
            rw [hs] at hj; cases hj
            rcases h with h | h | h
            · omega
            · exact absurd h ht
            · exact absurd hd h
          · rw [if_neg e]
            exact q2 (by rcases h with h | h; exact .inl (by omega); exact .inr h)
        · by_cases e : k = j
          · rw [if_pos e]
          · rw [if_neg e]; exact q3 ⟨by omega, h.2⟩
    | some c =>
      have hnone : V.findN S.h.es c.kind c.dig = none := by
        cases hf : V.findN S.h.es c.kind c.dig with
        | none => rfl
        | some j =>
          exfalso
          obtain ⟨x, hx, g1, g2, g3⟩ := V.findN_some hf
          by_cases hjk : j < k
          · obtain ⟨s2, hs2, hst⟩ := (g.p j x hx).1 hjk
            cases hd2 : V.decode s2.text with
            | none => rw [hd2] at hst; exact g1 (strip_none hst)
            | some c2 =>
              rw [hd2] at hst
              unfold Go.Proofs.YtlkllcnnnndllaaGreatDoor.strip at hst
              rw [if_neg g1] at hst
              simp only [stripC, Option.map_some, Option.some.injEq, Prod.mk.injEq] at hst
              have := hU j k s2 s1 c2 c hs2 hs hd2 hd (by rw [← hst.1, g2]) (by rw [← hst.2.1, g3])
              omega
          · exact g1 (strip_none ((g.p j x hx).2 (by omega)))
      have had : adoptN S.h.es s1.text = some (enOf c) := by
        unfold adoptN
        rw [hd]
        simp only
        rw [hnone]
      rw [had]
      simp only
      refine ⟨by rw [fillV_len]; exact g.l, g.z, by have := g.a1; show S.a ≤ _; omega, fun j x hx => ?_, fun j s hj => ?_, g.w⟩
      · rcases V.set_at _ hkl j x hx with ⟨rfl, rfl⟩ | ⟨hj, hx'⟩
        · refine ⟨fun _ => ⟨s1, hs, ?_⟩, fun h => by omega⟩
          rw [hd]
          unfold Go.Proofs.YtlkllcnnnndllaaGreatDoor.strip
          rw [if_neg (show ¬ (enOf c).kind = [] from kind_ne hd)]
          rfl
        · exact ⟨fun hjk => (g.p j x hx').1 (by omega), fun hjk => (g.p j x hx').2 (by omega)⟩
      · obtain ⟨s', q1, q2, q3⟩ := g.t j s hj
        refine ⟨s', q1, fun h => ?_, fun h => ?_⟩
        · by_cases e : j = k
          · subst e; exact q2 (.inl (Nat.le_refl _))
          · exact q2 (by rcases h with h | h; exact .inl (by omega); exact .inr h)
        · by_cases e : j = k
          · subst e
            rw [hs] at hj; cases hj
            rw [hd] at h; cases h.2
          · exact q3 ⟨by omega, h.2⟩
theorem LT.all {n f a : Nat} {sl : List H.Sl} (hU : UnS sl) (hn : sl.length = n) : ∀ k, k ≤ n → LT n a sl k (ldN (ld0 f n a sl) k)
  | 0, _ => ⟨by simp [ldN, ld0, hv0], hn, Nat.le_refl _, fun j x hx => ⟨fun h => by omega, fun _ => by
      rw [List.eq_of_mem_replicate (List.mem_of_getElem? hx)]; rfl⟩, fun j s hs => ⟨s, hs, fun _ => rfl, fun h => by omega⟩, fun _ => rfl⟩
  | k + 1, h => (LT.all hU hn k (by omega)).step hU hn (by omega)
/-- WHAT OPEN LEAVES: every slot is an entry, and the store has it, or is empty, and free -/
theorem LT.end {n a : Nat} {sl : List H.Sl} {S : LSt} (g : LT n a sl n S) (hn : sl.length = n) (hset : ∀ s ∈ sl, s.un = false ∧ s.sure = s.text) :
    (∀ (j : Nat) (s : H.Sl), sl[j]? = some s → ∃ (x : V.En) (s' : H.Sl), S.h.es[j]? = some x ∧ (ldSl S)[j]? = some s' ∧ (s'.un = false ∧ s'.sure = s'.text) ∧ strip x = stripC (V.decode s.text) ∧ s'.text = (if V.decode s.text = none then [] else s.text)) ∧ (ldSl S).length = n := by
  refine ⟨fun j s hs => ?_, ?_⟩
  · have hj : j < n := by have := (List.getElem?_eq_some_iff.1 hs).1; omega
    obtain ⟨x, hx⟩ : ∃ x, S.h.es[j]? = some x := ⟨S.h.es[j]'(by rw [g.l]; exact hj), List.getElem?_eq_getElem _⟩
    obtain ⟨s2, hs2, hst⟩ := (g.p j x hx).1 hj
    rw [hs] at hs2; cases hs2
    obtain ⟨s', q1, q2, q3⟩ := g.t j s hs
    have htext : s'.text = (if V.decode s.text = none then [] else s.text) := by
      by_cases hd : V.decode s.text = none
      · rw [if_pos hd]; exact q3 ⟨hj, hd⟩
      · rw [if_neg hd, q2 (.inr (.inr hd))]
    cases hw : S.wp with
    | true =>
      refine ⟨x, H.settle s'.text, hx, ?_, ⟨rfl, rfl⟩, hst, htext⟩
      unfold ldSl
      rw [hw, if_pos rfl, List.getElem?_map, q1]
      rfl
    | false =>
      have e := g.w hw
      rw [e] at q1
      rw [hs] at q1; cases q1
      have hz := hset s (List.mem_of_getElem? hs)
      refine ⟨x, s, hx, ?_, hz, hst, htext⟩
      unfold ldSl
      rw [hw, if_neg (by decide), e]
      exact hs
  · unfold ldSl
    split
    · rw [List.length_map]; exact g.z
    · exact g.z
end Go.Proofs.YtlkllcnnnndllaaGreatDoor

/- For HivePower: a store on a shelf with something armed: what its calls do, with the power on or gone behind them. -/
namespace Go.Proofs.YtlkllcnnnndllaaGreatDoor
open Go.RowKit Go.Maps
set_option linter.unusedVariables false
set_option linter.unusedSimpArgs false

/-- the power is on; it goes in so many acts (0: it is not armed) -/
def shA (life a arm : Nat) (sl : List H.Sl) : H.Sh := ⟨false, arm, a, life, sl⟩
def decA (arm : Nat) : Nat := arm - 1
/-- a slot is sure, or was empty when all was sure -/
def SU (sl : List H.Sl) : Prop := ∀ (i : Nat) (s : H.Sl), sl[i]? = some s → (s.un = false ∧ s.sure = s.text) ∨ (s.un = true ∧ s.sure = [])
/-- a store above w on a shelf with something armed: every entry's slot says it, every free slot is empty -/
structure PA (w : World) (n m : Nat) (b : HB) (life a arm : Nat) (h : Hv) (sl : List H.Sl) (X : List UInt8 → Prop) (cn : Nat) (W : World) : Prop where
  x : HW W b h (shA life a arm sl) W
  S : Ss n sl
  n : n ≤ 128
  li : life = h.life
  lm : life ≤ m
  am : a ≤ m
  um : h.uses ≤ m
  us : ∀ (i : Nat) (e : V.En), h.es[i]? = some e → e.used ≤ h.uses
  ar : arm ≤ 100
  o : Below w.heap.size w W
  k : ∀ j, b.mem j → w.heap.size ≤ j
  s : Sto X h.es sl
  u : SU sl
  c : V.cntN h.es = cn
/-- its shelf, the power gone -/
structure PD (w : World) (n m sh sc : Nat) (life a : Nat) (sl : List H.Sl) (X : List UInt8 → Prop) (W : World) : Prop where
  x : SX w n m sh sc true life a sl W
  u : SU sl
  t : ∀ (i : Nat) (s : H.Sl), sl[i]? = some s → s.text = [] ∨ ∃ c, V.decode s.text = some c ∧ (c.kind = V.kb → X c.blob)
  q : UnS sl
theorem act_on {life a arm : Nat} {sl : List H.Sl} (h : arm ≠ 1) : H.act (shA life a arm sl) = shA life (a + 1) (decA arm) sl := by
  unfold H.act shA decA
  by_cases h0 : arm = 0
  · simp [h0]
  · simp [h0, h]
theorem act_off {life a : Nat} {sl : List H.Sl} : H.act (shA life a 1 sl) = ⟨true, 0, a + 1, life + 1, sl⟩ := by
  unfold H.act shA; simp
theorem wrS_on {life a arm : Nat} {sl : List H.Sl} (h : arm ≠ 1) (i : Nat) (t : List UInt8) : wrS (shA life a arm sl) i t = shA life (a + 1) (decA arm) (wrt sl i t) := act_on h
theorem wrS_off {life a : Nat} {sl : List H.Sl} (i : Nat) (t : List UInt8) : wrS (shA life a 1 sl) i t = ⟨true, 0, a + 1, life + 1, wrt sl i t⟩ := act_off
theorem SU.wrt {sl : List H.Sl} (h : SU sl) {i : Nat} (t : List UInt8) (hf : ∃ s, sl[i]? = some s ∧ s.text = []) : SU (wrt sl i t) := fun j s hs => by
  by_cases e : j = i
  · subst e
    obtain ⟨s0, h0, ht⟩ := hf
    unfold Go.Proofs.YtlkllcnnnndllaaGreatDoor.wrt at hs
    rw [List.getElem?_modify, h0] at hs
    simp at hs
    subst hs
    refine .inr ⟨rfl, ?_⟩
    rcases h j s0 h0 with ⟨_, h2⟩ | ⟨_, h2⟩
    · show s0.sure = []; rw [h2, ht]
    · exact h2
  · rw [wrt_at e] at hs; exact h j s hs
theorem SU.sync (sl : List H.Sl) : SU (sl.map (fun s => H.settle s.text)) := fun j s hs => by
  rw [List.getElem?_map] at hs
  cases hx : sl[j]? with
  | none => rw [hx] at hs; simp at hs
  | some z => rw [hx] at hs; simp at hs; subst hs; exact .inl ⟨rfl, rfl⟩
section
variable {w W : World} {n m : Nat} {b : HB} {life a arm : Nat} {h : Hv} {sl : List H.Sl} {X : List UInt8 → Prop} {cn : Nat}
theorem PA.el (p : PA w n m b life a arm h sl X cn W) : h.es.length = n := by have h1 : h.es.length = sl.length := p.x.n; rw [h1]; exact p.S.n
theorem PA.en (p : PA w n m b life a arm h sl X cn W) : h.es.length ≤ 128 := by rw [p.el]; exact p.n
theorem PA.sm (p : PA w n m b life a arm h sl X cn W) (hm : m ≤ 900000) : Sm (shA life a arm sl) := p.S.sm p.n false arm a life (by have := p.am; omega) (by have := p.lm; omega) (by have := p.ar; omega)
theorem PA.uq (p : PA w n m b life a arm h sl X cn W) : V.Uq h.es := p.x.u
theorem PA.next (p : PA w n m b life a arm h sl X cn W) {m' a' arm' cn' : Nat} {h' : Hv} {sl' : List H.Sl} {W' : World} (x : HW W b h' (shA life a' arm' sl') W') (S : Ss n sl') (hl : h'.life = h.life) (hm : m ≤ m') (ha : a' ≤ m') (hu : h'.uses ≤ m') (us : ∀ (i : Nat) (e : V.En), h'.es[i]? = some e → e.used ≤ h'.uses) (har : arm' ≤ 100) (s : Sto X h'.es sl') (u : SU sl') (c : V.cntN h'.es = cn') : PA w n m' b life a' arm' h' sl' X cn' W' :=
  ⟨x.base, S, p.n, by rw [hl]; exact p.li, Nat.le_trans p.lm hm, ha, hu, us, har, x.o.below p.o p.k, p.k, s, u, c⟩
theorem PA.same (p : PA w n m b life a arm h sl X cn W) {W' : World} (x : HW W b h (shA life a arm sl) W') : PA w n (m + 5) b life a arm h sl X cn W' := p.next x p.S rfl (by omega) (by have := p.am; omega) (by have := p.um; omega) p.us p.ar p.s p.u p.c
theorem PA.step (p : PA w n m b life a arm h sl X cn W) {W' : World} (hb : Below W.heap.size W W') : PA w n m b life a arm h sl X cn W' := p.next (HX.step p.x hb) p.S rfl (Nat.le_refl _) p.am p.um p.us p.ar p.s p.u p.c
theorem PA.used (p : PA w n m b life a arm h sl X cn W) {i : Nat} {e : V.En} (he : h.es[i]? = some e) {W' : World} (x : HW W b (useV h i e) (shA life a arm sl) W') : PA w n (m + 5) b life a arm (useV h i e) sl X cn W' :=
  p.next x p.S rfl (by omega) (by have := p.am; omega) (by have := p.um; show h.uses + 1 ≤ _; omega) (use_us p.us he) p.ar (p.s.use he) p.u (by rw [cnt_use he]; exact p.c)
/-- what look finds -/
theorem PA.find (p : PA w n m b life a arm h sl X cn W) (k d : List UInt8) (hk : k.length ≤ 1) (hd : d.length = 32) :
    (∃ (i : Nat) (e : V.En) (c : V.Ct), V.findN h.es k d = some i ∧ h.es[i]? = some e ∧ e.kind = k ∧ e.dig = d ∧ Says sl i e c ∧ (c.dig.length = 32 ∧ c.ck.length = 32 ∧ Rc32 c.rc) ∧ (c.kind = V.kb → X c.blob) ∧
      ∀ w' W', HW w' b h (shA life a arm sl) W' → Calls Tryz.prog 34 #[.pointer (some ⟨b.hv, 0, none⟩), .agg (nmv k d)] W' fun e' w'' => e' = .returned (.tuple #[.int .i64 (i : Int), .agg (cv c), .bool true]) ∧ HW w' b h (shA life a arm sl) w'') ∨
    (V.findN h.es k d = none ∧
      ∀ w' W', HW w' b h (shA life a arm sl) W' → Calls Tryz.prog 34 #[.pointer (some ⟨b.hv, 0, none⟩), .agg (nmv k d)] W' fun e' w'' => e' = .returned (.tuple #[.int .i64 0, .agg (cv zc), .bool false]) ∧ HW w' b h (shA life a arm sl) w'') := by
  cases hf : V.findN h.es k d with
  | none => exact .inr ⟨rfl, fun w' W' y => look_none y k d hk hd hf⟩
  | some i =>
    obtain ⟨e, he, h1, h2, h3⟩ := V.findN_some hf
    obtain ⟨c, ⟨s, hs, hdc, heq⟩, hX⟩ := p.s.e i e he h1
    have hsl := (p.S.t s (List.mem_of_getElem? hs)).1
    exact .inl ⟨i, e, c, rfl, he, h2, h3, ⟨s, hs, hdc, heq⟩, dec_len hdc, hX, fun w' W' y => look_yes y k d hk hd hf he p.en rfl hs hsl hdc heq⟩
/-- the entries' texts have names of their own -/
theorem PA.un (p : PA w n m b life a arm h sl X cn W) : UnS sl := fun i j s s' c c' hs hs' hd hd' hk hg => by
  have get : ∀ (i : Nat) (s : H.Sl) (c : V.Ct), sl[i]? = some s → V.decode s.text = some c → ∃ e, h.es[i]? = some e ∧ e.kind ≠ [] ∧ c.kind = e.kind ∧ c.dig = e.dig := fun i s c hs hd => by
    have hi : i < h.es.length := by have h1 : h.es.length = sl.length := p.x.n; have := (List.getElem?_eq_some_iff.1 hs).1; omega
    have he : h.es[i]? = some h.es[i] := List.getElem?_eq_getElem hi
    by_cases hk : h.es[i].kind = []
    · obtain ⟨s2, q1, q2⟩ := p.s.f i _ he hk
      rw [hs] at q1; cases q1
      rw [q2, decode_nil] at hd; cases hd
    · obtain ⟨c2, ⟨s2, q1, q2, q3, q4, _⟩, _⟩ := p.s.e i _ he hk
      rw [hs] at q1; cases q1
      rw [hd] at q2; cases q2
      exact ⟨_, he, hk, q3, q4⟩
  obtain ⟨e, he, h1, h2, h3⟩ := get i s c hs hd
  obtain ⟨e', he', h1', h2', h3'⟩ := get j s' c' hs' hd'
  exact p.uq i j e e' he he' h1 (by rw [← h2, hk, h2']) (by rw [← h3, hg, h3'])
theorem PA.txt (p : PA w n m b life a arm h sl X cn W) : ∀ (i : Nat) (s : H.Sl), sl[i]? = some s → s.text = [] ∨ ∃ c, V.decode s.text = some c ∧ (c.kind = V.kb → X c.blob) := fun i s hs => by
  have hi : i < h.es.length := by have h1 : h.es.length = sl.length := p.x.n; have := (List.getElem?_eq_some_iff.1 hs).1; omega
  have he : h.es[i]? = some h.es[i] := List.getElem?_eq_getElem hi
  by_cases hk : h.es[i].kind = []
  · obtain ⟨s2, q1, q2⟩ := p.s.f i _ he hk
    rw [hs] at q1; cases q1
    exact .inl q2
  · obtain ⟨c2, ⟨s2, q1, q2, _⟩, q3⟩ := p.s.e i _ he hk
    rw [hs] at q1; cases q1
    exact .inr ⟨c2, q2, q3⟩
/-- where there is room -/
theorem PA.room (p : PA w n m b life a arm h sl X cn W) (hr : cn < n) : ∃ (i : Nat) (f : V.En), freeI h.es = (i : Int) ∧ h.es[i]? = some f ∧ f.kind = [] ∧ ∃ z, sl[i]? = some z ∧ z.text = [] := by
  obtain ⟨i, hfi, f, hff, hf0⟩ := room_of (es := h.es) (by rw [p.c, p.el]; exact hr)
  exact ⟨i, f, hfi, hff, hf0, p.s.f i f hff hf0⟩
/-- an entry that isn't there is put: it is there, or the power has gone in the write -/
theorem PA.put (p : PA w n m b life a arm h sl X cn W) (hm : m ≤ 900000) {i : Nat} {f : V.En} (hfi : freeI h.es = (i : Int)) (hff : h.es[i]? = some f) (hf0 : f.kind = []) {e : V.En} (e32 : En32 e) (hek : e.kind ≠ []) (hf : V.findN h.es e.kind e.dig = none) (t : List UInt8) (ht : t.length ≤ 640) {c : V.Ct} (hd : V.decode t = some c) (h1 : c.kind = e.kind) (h2 : c.dig = e.dig) (h3 : c.ck = e.ck) (hX : c.kind = V.kb → X c.blob) :
      ((arm ≠ 1 ∧ (∀ w' W', HW w' b h (shA life a arm sl) W' → Calls Tryz.prog 31 #[.pointer (some ⟨b.hv, 0, none⟩), .agg (ev e.kind e.dig e.ck), .string (M.bs t)] W' fun e' w'' => e' = .returned (.int .i64 0) ∧ HW w' b (putV h i e) (shA life (a + 1) (decA arm) (wrt sl i t)) w'') ∧
          ∀ W', HW W b (putV h i e) (shA life (a + 1) (decA arm) (wrt sl i t)) W' → PA w n (m + 5) b life (a + 1) (decA arm) (putV h i e) (wrt sl i t) X (cn + 1) W') ∨
       (arm = 1 ∧ (∀ w' W', HW w' b h (shA life a arm sl) W' → Calls Tryz.prog 31 #[.pointer (some ⟨b.hv, 0, none⟩), .agg (ev e.kind e.dig e.ck), .string (M.bs t)] W' fun e' w'' => e' = .returned (.int .i64 10) ∧ HW w' b h ⟨true, 0, a + 1, life + 1, wrt sl i t⟩ w'') ∧
          ∀ W', HW W b h ⟨true, 0, a + 1, life + 1, wrt sl i t⟩ W' → PD w n (m + 5) b.sh b.sc (life + 1) (a + 1) (wrt sl i t) X W')) := by
  have hel := p.el
  have hi : i < h.es.length := (List.getElem?_eq_some_iff.1 hff).1
  have hnl : sl.length = n := p.S.n
  obtain ⟨z, hz, hzt⟩ := p.s.f i f hff hf0
  have ham := p.am
  have hum := p.um
  have hlm := p.lm
  have har := p.ar
  by_cases ha : arm = 1
  · subst ha
    refine .inr ⟨rfl, fun w' W' y => ?_, fun W' y => ?_⟩
    · have hh := put_down (e := e) y t ht i (fun W2 y2 => room_free y2 p.en i hfi) hz (p.sm hm) rfl rfl
      rw [wrS_off] at hh
      exact hh
    · refine ⟨⟨y.sw, p.S.put i t ht, p.n, by omega, by omega, y.o.below p.o p.k, p.k _ (.inl rfl), p.k _ (.inr (.inl rfl))⟩, p.u.wrt t ⟨z, hz, hzt⟩, fun j s hs => ?_, ?_⟩
      · by_cases ej : j = i
        · subst ej
          obtain ⟨z', hz', hzt'⟩ := wrt_self (sl := sl) (i := j) (t := t) (by omega)
          rw [hs] at hz'; cases hz'
          exact .inr ⟨c, by rw [hzt']; exact hd, hX⟩
        · rw [wrt_at ej] at hs; exact p.txt j s hs
      · -- names of their own: the new one is none of those that are there
        have old : ∀ (j : Nat) (s : H.Sl) (c2 : V.Ct), j ≠ i → (wrt sl i t)[j]? = some s → V.decode s.text = some c2 → c2.kind = c.kind → c2.dig = c.dig → False := fun j s c2 ej hs hd2 hk2 hg2 => by
          rw [wrt_at ej] at hs
          have hj : j < h.es.length := by have := (List.getElem?_eq_some_iff.1 hs).1; omega
          have he : h.es[j]? = some h.es[j] := List.getElem?_eq_getElem hj
          by_cases hk : h.es[j].kind = []
          · obtain ⟨s2, q1, q2⟩ := p.s.f j _ he hk
            rw [hs] at q1; cases q1
            rw [q2, decode_nil] at hd2; cases hd2
          · obtain ⟨c3, ⟨s3, q1, q2, q3, q4, _⟩, _⟩ := p.s.e j _ he hk
            rw [hs] at q1; cases q1
            rw [hd2] at q2; cases q2
            exact V.findN_none hf j _ he hk (by rw [← q3, hk2, h1]) (by rw [← q4, hg2, h2])
        intro j j' s s' c1 c2 hs hs' hd1 hd2 hk hg
        by_cases ej : j = i
        · by_cases ej' : j' = i
          · rw [ej, ej']
          · exfalso
            subst ej
            obtain ⟨z', hz', hzt'⟩ := wrt_self (sl := sl) (i := j) (t := t) (by omega)
            rw [hs] at hz'; cases hz'
            rw [hzt', hd] at hd1; cases hd1
            exact old j' s' c2 ej' hs' hd2 hk.symm hg.symm
        · by_cases ej' : j' = i
          · exfalso
            subst ej'
            obtain ⟨z', hz', hzt'⟩ := wrt_self (sl := sl) (i := j') (t := t) (by omega)
            rw [hs'] at hz'; cases hz'
            rw [hzt', hd] at hd2; cases hd2
            exact old j s c1 ej hs hd1 hk hg
          · rw [wrt_at ej] at hs
            rw [wrt_at ej'] at hs'
            exact p.un j j' s s' c1 c2 hs hs' hd1 hd2 hk hg
  · refine .inl ⟨ha, fun w' W' y => ?_, fun W' y => ?_⟩
    · have hh := put_ok y e32 hek hf p.en (by omega) t ht i (fun W2 y2 => room_free y2 p.en i hfi) hi hz (p.sm hm) rfl ha
      rw [wrS_on ha] at hh
      exact hh
    · exact p.next y (p.S.put i t ht) rfl (by omega) (by omega) (by show h.uses + 1 ≤ _; omega) (fill_us e (drop_us i p.us)) (by unfold decA; omega) (p.s.put hff (by omega) hek hd h1 h2 h3 hX) (p.u.wrt t ⟨z, hz, hzt⟩) (by rw [cnt_put hff hf0 hek, p.c])
/-- Sync: all is sure, or the power has gone in it -/
theorem PA.sync (p : PA w n m b life a arm h sl X cn W) (hm : m ≤ 900000) :
    (arm ≠ 1 ∧ Calls Tryz.prog 14 #[.pointer (some ⟨b.hv, 0, none⟩)] W fun e' w' => e' = .returned (.int .i64 0) ∧ PA w n (m + 5) b life (a + 1) (decA arm) h (sl.map (fun s => H.settle s.text)) X cn w' ∧ OffB b W w') ∨
    (arm = 1 ∧ Calls Tryz.prog 14 #[.pointer (some ⟨b.hv, 0, none⟩)] W fun e' w' => e' = .returned (.int .i64 10) ∧ PD w n (m + 5) b.sh b.sc (life + 1) (a + 1) sl X w' ∧ OffB b W w') := by
  have ham := p.am
  have hum := p.um
  have hlm := p.lm
  have har := p.ar
  by_cases ha : arm = 1
  · subst ha
    refine .inr ⟨rfl, (SyncV_down p.x (p.sm hm) rfl p.li rfl).mono ?_⟩
    rintro e' w' ⟨rfl, y⟩
    rw [act_off] at y
    exact ⟨rfl, ⟨⟨y.base.sw, p.S, p.n, by omega, by omega, y.o.below p.o p.k, p.k _ (.inl rfl), p.k _ (.inr (.inl rfl))⟩, p.u, p.txt, p.un⟩, y.o⟩
  · refine .inl ⟨ha, (SyncV_x p.x (p.sm hm) rfl p.li ha).mono ?_⟩
    rintro e' w' ⟨rfl, y⟩
    rw [act_on ha] at y
    have y' : HW W b h (shA life (a + 1) (decA arm) (sl.map (fun s => H.settle s.text))) w' := y
    exact ⟨rfl, p.next y' p.S.sync rfl (by omega) (by omega) (by omega) p.us (by unfold decA; omega) (p.s.texts (fun i s hs => ⟨H.settle s.text, by rw [List.getElem?_map, hs]; rfl, rfl⟩)) (SU.sync sl) p.c, y.o⟩
end
end Go.Proofs.YtlkllcnnnndllaaGreatDoor

/- For HivePower: the power is back, the store is opened: what was sure is there, and nothing that was not put. -/
namespace Go.Proofs.YtlkllcnnnndllaaGreatDoor
open Go.RowKit Go.Maps
set_option linter.unusedVariables false
set_option linter.unusedSimpArgs false

/-- a slot has an entry; surely -/
def HasC (sl : List H.Sl) (c : V.Ct) : Prop := ∃ (i : Nat) (s : H.Sl), sl[i]? = some s ∧ V.decode s.text = some c
def SureC (sl : List H.Sl) (c : V.Ct) : Prop := ∃ (i : Nat) (s : H.Sl), sl[i]? = some s ∧ s.un = false ∧ V.decode s.text = some c
/-- a torn entry is none -/
theorem torn_c {t : List UInt8} {c : V.Ct} (h : V.decode t = some c) (hl : t.length ≤ 640) (k : Nat) (hk : k < t.length) : V.decode (t.take k) = none := by
  rcases V.decode_some h with ⟨_, _, h3, _, ht, _⟩ | ⟨_, _, _, h4, h5, h6, ht, _⟩
  · rw [ht] at hl hk ⊢
    exact torn_no _ (fun t ht => by simp [V.blobL, V.kb] at ht; rcases ht with rfl | rfl <;> first | decide | omega) (by simp [V.blobL]) hl k hk
  · rw [ht] at hl hk ⊢
    have hn := M.numB_len c.rc.code
    exact torn_no _ (fun t ht => by simp [V.recL, V.kr] at ht; rcases ht with rfl | rfl | rfl | rfl <;> first | decide | omega) (by simp [V.recL]) hl k hk
/-- what is behind a loss: each slot as it was, or (if it was unsure) no entry -/
def Back (sl sl2 : List H.Sl) : Prop := ∀ (i : Nat) (s2 : H.Sl), sl2[i]? = some s2 → (s2.un = false ∧ s2.sure = s2.text) ∧ ∃ s, sl[i]? = some s ∧ ((s.un = false ∧ s2.text = s.text) ∨ (s.un = true ∧ (V.decode s2.text = V.decode s.text ∨ V.decode s2.text = none)))
theorem back_of {n : Nat} {sl : List H.Sl} (S : Ss n sl) (u : SU sl) (t : ∀ (i : Nat) (s : H.Sl), sl[i]? = some s → s.text = [] ∨ ∃ c, V.decode s.text = some c) (F : List Int) : Back sl (sl.mapIdx (H.back F sl)) := fun i s2 hs2 => by
  cases hl : sl[i]? with
  | none => rw [List.getElem?_mapIdx, hl] at hs2; simp at hs2
  | some s =>
    rw [back_at _ _ _ _ hl] at hs2
    have e := Option.some.inj hs2
    subst e
    unfold H.back
    rcases u i s hl with ⟨h1, h2⟩ | ⟨h1, h2⟩
    · rw [if_neg (by rw [h1]; decide)]
      exact ⟨⟨h1, h2⟩, s, rfl, .inl ⟨h1, rfl⟩⟩
    · rw [if_pos h1]
      refine ⟨⟨rfl, rfl⟩, s, rfl, .inr ⟨h1, ?_⟩⟩
      have es : s = ⟨s.text, [], true⟩ := by cases s; simp at h1 h2; subst h1; subst h2; rfl
      show V.decode (H.left s _) = V.decode s.text ∨ V.decode (H.left s _) = none
      have hL := left_new (t := s.text) (F.getD (H.nx sl i % F.length) 0)
      rw [← es] at hL
      rcases hL with q | q | ⟨k, hk, q⟩
      · rw [q]; exact .inr decode_nil
      · rw [q]; exact .inl rfl
      · rw [q]
        rcases t i s hl with ht | ⟨c, hc⟩
        · rw [ht] at hk; simp at hk
        · exact .inr (torn_c hc (S.t s (List.mem_of_getElem? hl)).1 k hk)
theorem Back.has {sl sl2 : List H.Sl} (b : Back sl sl2) {i : Nat} {s2 : H.Sl} {c : V.Ct} (h : sl2[i]? = some s2) (hd : V.decode s2.text = some c) : ∃ s, sl[i]? = some s ∧ V.decode s.text = some c := by
  obtain ⟨_, s, hs, ⟨_, h1⟩ | ⟨_, h1 | h1⟩⟩ := b i s2 h
  · exact ⟨s, hs, by rw [← h1]; exact hd⟩
  · exact ⟨s, hs, by rw [← h1]; exact hd⟩
  · rw [h1] at hd; cases hd
theorem Back.un {sl sl2 : List H.Sl} (b : Back sl sl2) (q : UnS sl) : UnS sl2 := fun i j s s' c c' hs hs' hd hd' hk hg => by
  obtain ⟨z, hz, hzd⟩ := b.has hs hd
  obtain ⟨z', hz', hzd'⟩ := b.has hs' hd'
  exact q i j z z' c c' hz hz' hzd hzd' hk hg
theorem Back.hasC {sl sl2 : List H.Sl} (b : Back sl sl2) {c : V.Ct} (h : HasC sl2 c) : HasC sl c := by
  obtain ⟨i, s, hs, hd⟩ := h
  obtain ⟨z, hz, hzd⟩ := b.has hs hd
  exact ⟨i, z, hz, hzd⟩
theorem Back.sureC {sl sl2 : List H.Sl} (b : Back sl sl2) (hl : sl2.length = sl.length) {c : V.Ct} (h : SureC sl c) : HasC sl2 c := by
  obtain ⟨i, s, hs, hu, hd⟩ := h
  have hi : i < sl2.length := by rw [hl]; exact (List.getElem?_eq_some_iff.1 hs).1
  have h2 : sl2[i]? = some sl2[i] := List.getElem?_eq_getElem hi
  obtain ⟨_, s', hs', h1 | h1⟩ := b i _ h2
  · rw [hs] at hs'; cases hs'
    exact ⟨i, _, h2, by rw [h1.2]; exact hd⟩
  · rw [hs] at hs'; cases hs'
    rw [hu] at h1; cases h1.1
/-- the shelf, the power back: its slots are settled -/
structure PO (w : World) (n m sh sc : Nat) (life a : Nat) (sl : List H.Sl) (X : List UInt8 → Prop) (W : World) : Prop where
  x : SX w n m sh sc false life a sl W
  u : ∀ s ∈ sl, s.un = false ∧ s.sure = s.text
  t : ∀ (i : Nat) (s : H.Sl) (c : V.Ct), sl[i]? = some s → V.decode s.text = some c → c.kind = V.kb → X c.blob
  q : UnS sl
section
variable {w W : World} {n m sh sc : Nat} {life a : Nat} {sl : List H.Sl} {X : List UInt8 → Prop}
theorem PD.back (p : PD w n m sh sc life a sl X W) (hm : m ≤ 900000) (F : List Int) (fa : Option Addr) (cap : Nat) (HF : FI w fa F) (hl : F.length ≤ 9223372036854775807) (hb : ∀ x ∈ F, -9223372036854775808 ≤ x ∧ x ≤ 9223372036854775807) :
    Calls Tryz.prog 16 #[.pointer (some ⟨sh, 0, none⟩), .slice fa F.length cap] W fun e' w' => e' = .returned (.tuple #[]) ∧ ∃ sl2, sl2.length = sl.length ∧ Back sl sl2 ∧ PO w n m sh sc life a sl2 X w' ∧ Off2 sh sc W w' := by
  refine (p.x.back hm F fa cap HF hl hb).mono ?_
  rintro e' w' ⟨rfl, y, o⟩
  have B := back_of p.x.S p.u (fun i s hs => (p.t i s hs).imp id (fun ⟨c, h, _⟩ => ⟨c, h⟩)) (if F.length = 0 then [0] else F)
  refine ⟨rfl, _, by simp, B, ⟨y, fun s hs => ?_, fun i s c hs hd hk => ?_, B.un p.q⟩, o⟩
  · obtain ⟨i, hi⟩ := List.mem_iff_getElem?.1 hs
    exact (B i s hi).1
  · obtain ⟨z, hz, hzd⟩ := B.has hs hd
    rcases p.t i z hz with ht | ⟨c', hc', hX⟩
    · rw [ht, decode_nil] at hzd; cases hzd
    · rw [hzd] at hc'; cases hc'; exact hX hk
/-- the power goes while it is on, or has gone already -/
theorem PD.off (p : PD w n m sh sc life a sl X W) (hm : m ≤ 900000) : Calls Tryz.prog 15 #[.pointer (some ⟨sh, 0, none⟩)] W fun e' w' => e' = .returned (.tuple #[]) ∧ PD w n (m + 1) sh sc life a sl X w' ∧ Off2 sh sc W w' := by
  refine (p.x.goes hm).mono ?_
  rintro e' w' ⟨rfl, y, o⟩
  exact ⟨rfl, ⟨y, p.u, p.t, p.q⟩, o⟩
theorem PA.off {b : HB} {arm : Nat} {h : Hv} {cn : Nat} (p : PA w n m b life a arm h sl X cn W) (hm : m ≤ 900000) : Calls Tryz.prog 15 #[.pointer (some ⟨b.sh, 0, none⟩)] W fun e' w' => e' = .returned (.tuple #[]) ∧ PD w n (m + 1) b.sh b.sc (life + 1) a sl X w' ∧ Off2 b.sh b.sc W w' := by
  have hl := p.lm
  have ha := p.am
  refine (Off_at p.x.sw (by show life ≤ _; omega)).mono ?_
  rintro e' w' ⟨rfl, y⟩
  have y' : SW W b.sh b.sc ⟨true, 0, a, life + 1, sl⟩ w' := y
  have k1 := p.k _ (.inl rfl)
  have k2 := p.k _ (.inr (.inl rfl))
  exact ⟨rfl, ⟨⟨y'.base, p.S, p.n, by omega, by omega, p.o.trans (y'.o.below k1 k2 p.o.size), k1, k2⟩, p.u, p.txt, p.un⟩, y'.o⟩
/-- IT IS OPENED -/
theorem PO.opens (p : PO w n m sh sc life a sl X W) (hm : m ≤ 800000) (hg : GW w) :
    Calls Tryz.prog 9 #[.pointer (some ⟨sh, 0, none⟩)] W fun e' w' => ∃ k, W.heap.size ≤ k ∧ e' = .returned (.tuple #[.pointer (some ⟨k + 2, 0, none⟩), .int .i64 0]) ∧ (∃ (a' : Nat) (h' : Hv) (sl' : List H.Sl), PA w n (m + 200) (newB sh sc k) life a' 0 h' sl' X (V.cntN h'.es) w' ∧ (∀ c, HasC sl' c ↔ HasC sl c) ∧ ∀ s ∈ sl', s.un = false) ∧ OffB (newB sh sc k) W w' := by
  refine (p.x.opens hm hg).mono ?_
  rintro e' w' ⟨k, hk, rfl, y, o⟩
  have hn : sl.length = n := p.x.S.n
  obtain ⟨hE, hLn⟩ := (LT.all (f := life) (a := a) p.q hn n (Nat.le_refl _)).end hn p.u
  have hLT := LT.all (f := life) (a := a) p.q hn n (Nat.le_refl _)
  have get : ∀ (j : Nat) (x : V.En), (ldN (ld0 life n a sl) n).h.es[j]? = some x → ∃ (s s' : H.Sl), sl[j]? = some s ∧ (ldSl (ldN (ld0 life n a sl) n))[j]? = some s' ∧ (s'.un = false ∧ s'.sure = s'.text) ∧ strip x = stripC (V.decode s.text) ∧ s'.text = (if V.decode s.text = none then [] else s.text) := fun j x hx => by
    have hj : j < n := by have := (List.getElem?_eq_some_iff.1 hx).1; rw [hLT.l] at this; exact this
    have hs : sl[j]? = some (sl[j]'(by omega)) := List.getElem?_eq_getElem _
    obtain ⟨x', s', q1, q2, q3, q4, q5⟩ := hE j _ hs
    rw [hx] at q1; cases q1
    exact ⟨_, s', hs, q2, q3, q4, q5⟩
  have gts : ∀ (j : Nat) (s' : H.Sl), (ldSl (ldN (ld0 life n a sl) n))[j]? = some s' → ∃ s, sl[j]? = some s ∧ (s'.un = false ∧ s'.sure = s'.text) ∧ s'.text = (if V.decode s.text = none then [] else s.text) := fun j s' hs' => by
    have hj : j < n := by have := (List.getElem?_eq_some_iff.1 hs').1; rw [hLn] at this; exact this
    have hs : sl[j]? = some (sl[j]'(by omega)) := List.getElem?_eq_getElem _
    obtain ⟨x', s2, q1, q2, q3, q4, q5⟩ := hE j _ hs
    rw [hs'] at q2; cases q2
    exact ⟨_, hs, q3, q5⟩
  have st : Sto X (ldN (ld0 life n a sl) n).h.es (ldSl (ldN (ld0 life n a sl) n)) := by
    refine ⟨fun j x hx hkx => ?_, fun j x hx hkx => ?_⟩
    · obtain ⟨s, s', hs, hs', _, q4, q5⟩ := get j x hx
      cases hd : V.decode s.text with
      | none => rw [hd] at q4; exact absurd (strip_none q4) hkx
      | some c =>
        rw [hd] at q4 q5
        rw [if_neg (by simp)] at q5
        unfold Go.Proofs.YtlkllcnnnndllaaGreatDoor.strip at q4
        rw [if_neg hkx] at q4
        simp only [stripC, Option.map_some, Option.some.injEq, Prod.mk.injEq] at q4
        exact ⟨c, ⟨s', hs', by rw [q5]; exact hd, q4.1.symm, q4.2.1.symm, q4.2.2.symm⟩, fun hkb => p.t j s c hs hd hkb⟩
    · obtain ⟨s, s', hs, hs', _, q4, q5⟩ := get j x hx
      cases hd : V.decode s.text with
      | none => rw [hd, if_pos rfl] at q5; exact ⟨s', hs', q5⟩
      | some c =>
        rw [hd] at q4
        unfold Go.Proofs.YtlkllcnnnndllaaGreatDoor.strip at q4
        rw [if_pos hkx] at q4
        cases q4
  refine ⟨k, hk, rfl, ⟨_, _, _, ⟨y.x, y.s, y.n, y.li, y.lm, y.am, y.um, y.us, by omega, y.o, y.k, st, fun j s' hs' => ?_, rfl⟩, fun c => ⟨fun h => ?_, fun h => ?_⟩, fun s' hs' => ?_⟩, o⟩
  · obtain ⟨_, _, q, _⟩ := gts j s' hs'; exact .inl q
  · obtain ⟨j, s', hs', hd⟩ := h
    obtain ⟨s, hs, _, q5⟩ := gts j s' hs'
    by_cases hn : V.decode s.text = none
    · rw [if_pos hn] at q5; rw [q5, decode_nil] at hd; cases hd
    · rw [if_neg hn] at q5; exact ⟨j, s, hs, by rw [← q5]; exact hd⟩
  · obtain ⟨j, s, hs, hd⟩ := h
    obtain ⟨x, s', q1, q2, q3, q4, q5⟩ := hE j s hs
    rw [hd, if_neg (by simp)] at q5
    exact ⟨j, s', q2, by rw [q5]; exact hd⟩
  · obtain ⟨j, hj⟩ := List.mem_iff_getElem?.1 hs'
    obtain ⟨_, _, q, _⟩ := gts j s' hj; exact q.1
end
end Go.Proofs.YtlkllcnnnndllaaGreatDoor

/- For HivePower: PutBlob, PutRecord, Record, Blob, Len of a store with something armed, and what the slots have behind them. -/
namespace Go.Proofs.YtlkllcnnnndllaaGreatDoor
open Go.RowKit Go.Maps
set_option linter.unusedVariables false
set_option linter.unusedSimpArgs false

/-- the slots have one entry more, if it was not there; what was sure is -/
def AddC (sl sl' : List H.Sl) (c : V.Ct) : Prop := (∀ c', HasC sl' c' ↔ HasC sl c' ∨ c' = c) ∧ ∀ c', SureC sl c' → SureC sl' c'
theorem AddC.refl {sl : List H.Sl} {c : V.Ct} (h : HasC sl c) : AddC sl sl c := ⟨fun c' => ⟨.inl, fun q => q.elim id (fun e => by rw [e]; exact h)⟩, fun _ h => h⟩
theorem AddC.wrt {sl : List H.Sl} {i : Nat} {t : List UInt8} {c : V.Ct} (hz : ∃ z, sl[i]? = some z ∧ z.text = []) (hd : V.decode t = some c) : AddC sl (wrt sl i t) c := by
  obtain ⟨z, hz, hzt⟩ := hz
  have hi : i < sl.length := (List.getElem?_eq_some_iff.1 hz).1
  obtain ⟨z', hz', hzt'⟩ := wrt_self (sl := sl) (i := i) (t := t) hi
  refine ⟨fun c' => ⟨fun h => ?_, fun h => ?_⟩, fun c' h => ?_⟩
  · obtain ⟨j, s, hs, hd'⟩ := h
    by_cases e : j = i
    · subst e
      rw [hz'] at hs; cases hs
      rw [hzt', hd] at hd'; cases hd'
      exact .inr rfl
    · rw [wrt_at e] at hs
      exact .inl ⟨j, s, hs, hd'⟩
  · rcases h with ⟨j, s, hs, hd'⟩ | rfl
    · by_cases e : j = i
      · subst e
        rw [hz] at hs; cases hs
        rw [hzt, decode_nil] at hd'; cases hd'
      · exact ⟨j, s, by rw [wrt_at e]; exact hs, hd'⟩
    · exact ⟨i, z', hz', by rw [hzt']; exact hd⟩
  · obtain ⟨j, s, hs, hu, hd'⟩ := h
    by_cases e : j = i
    · subst e
      rw [hz] at hs; cases hs
      rw [hzt, decode_nil] at hd'; cases hd'
    · exact ⟨j, s, by rw [wrt_at e]; exact hs, hu, hd'⟩
/-- an entry of a text is known by what it says -/
theorem ct_blob {t : List UInt8} {c : V.Ct} (h : V.decode t = some c) (hk : c.kind = V.kb) : c = ctB c.blob := by
  rcases V.decode_some h with ⟨h1, h2, h3, h4, h5, h6⟩ | ⟨h1, _⟩
  · have e : t.take 32 = S.sha (M.rowB (V.blobL c.blob)) := by rw [h5, V.sealB]; exact List.take_left' (S.sha_length _)
    cases c
    simp only at h1 h2 h4 h6 e
    simp only [ctB, V.Ct.mk.injEq]
    exact ⟨h1, h2, h6.trans e, trivial, h4⟩
  · rw [h1] at hk; exact absurd hk (by decide)
theorem ct_rec {t : List UInt8} {c : V.Ct} (h : V.decode t = some c) (hk : c.kind = V.kr) : c = ctR c.rc ∧ V.canB c.rc = true ∧ Rc32 c.rc := by
  have hl := dec_len h
  rcases V.decode_some h with ⟨h1, _⟩ | ⟨h1, h2, h3, h4, h5, h6, h7, h8⟩
  · rw [h1] at hk; exact absurd hk (by decide)
  · have e : t.take 32 = S.sha (M.rowB (V.recL c.rc)) := by rw [h7, V.sealB]; exact List.take_left' (S.sha_length _)
    refine ⟨?_, h4, hl.2.2⟩
    cases c
    simp only at h1 h2 h3 h8 e
    simp only [ctR, V.Ct.mk.injEq]
    exact ⟨h1, h2, h8.trans e, h3, trivial⟩
section
variable {w W : World} {n m : Nat} {b : HB} {life a arm : Nat} {h : Hv} {sl : List H.Sl} {X : List UInt8 → Prop} {cn : Nat}
theorem Says.has {i : Nat} {e : V.En} {c : V.Ct} (h : Says sl i e c) : HasC sl c := by obtain ⟨s, h1, h2, _⟩ := h; exact ⟨i, s, h1, h2⟩
/-- a blob is put: it is there -/
theorem PA.blobOk (p : PA w n m b life a arm h sl X cn W) (hr : cn < n) (t : List UInt8) (ht : t.length ≤ 512) (hX : X t) (hI : ∀ s, X s → S.sha s = S.sha t → s = t) (ha : arm ≠ 1 ∨ V.findN h.es V.kb (S.sha t) ≠ none) :
    ∃ (a' arm' : Nat) (h' : Hv) (sl' : List H.Sl) (cn' : Nat), cn' ≤ cn + 1 ∧ AddC sl sl' (ctB t) ∧ ∀ {m' : Nat} {b' : HB} {W' : World}, PA w n m' b' life a arm h sl X cn W' → m' ≤ 900000 →
      Calls Tryz.prog 11 #[.pointer (some ⟨b'.hv, 0, none⟩), .string (M.bs t)] W' fun e' w' => e' = .returned (.tuple #[.agg (dg (S.sha t)), .int .i64 0]) ∧ PA w n (m' + 5) b' life a' arm' h' sl' X cn' w' ∧ OffB b' W' w' := by
  cases hf : V.findN h.es V.kb (S.sha t) with
  | some i =>
    obtain ⟨e, he, g1, g2, g3⟩ := V.findN_some hf
    obtain ⟨c0, hs0, hX0⟩ := p.s.e i e he g1
    obtain ⟨s, q1, q2, q3, q4, q5⟩ := hs0
    have hk : c0.kind = V.kb := by rw [q3, g2]
    have hb : c0.blob = t := by
      rcases V.decode_some q2 with ⟨_, r2, _⟩ | ⟨r1, _⟩
      · exact hI _ (hX0 hk) (by rw [← r2, q4, g3])
      · rw [r1] at hk; exact absurd hk (by decide)
    have hc0 : c0 = ctB t := by rw [ct_blob q2 hk, hb]
    refine ⟨a, arm, useV h i e, sl, cn, by omega, AddC.refl ⟨i, s, q1, by rw [← hc0]; exact q2⟩, fun {m' b' W'} p' hm => ?_⟩
    have hli : (shA life a arm sl).life = h.life := p'.li
    rcases p'.find V.kb (S.sha t) (by decide) (S.sha_length _) with ⟨i', e', c, h1, h2, h3, h4, h5, hcl, h7, C⟩ | ⟨h1, C⟩
    · rw [hf] at h1; cases h1
      rw [he] at h2; cases h2
      refine (PutBlob_there p'.x rfl hli t ht c (cv_size hcl.1 hcl.2.1 hcl.2.2) (fun W2 y => ask_yes y V.kb (S.sha t) (S.sha_length _) he p'.en (by have := p'.um; omega) hcl (fun W3 y3 => C W3 W3 y3))).mono ?_
      rintro e' w' ⟨rfl, y⟩
      exact ⟨rfl, p'.used he y, y.o⟩
    · rw [hf] at h1; cases h1
  | none =>
    have ha' : arm ≠ 1 := ha.resolve_right (fun hc => hc hf)
    obtain ⟨i, f, hfi, hff, hf0, hz⟩ := p.room hr
    have e32 : En32 (enN t) := ⟨S.sha_length _, S.sha_length _, by show V.kb.length ≤ 1; decide⟩
    refine ⟨a + 1, decA arm, putV h i (enN t), wrt sl i (V.sealB (V.blobL t)), cn + 1, Nat.le_refl _, AddC.wrt hz (V.decode_blob t ht), fun {m' b' W'} p' hm => ?_⟩
    have hli : (shA life a arm sl).life = h.life := p'.li
    rcases p'.find V.kb (S.sha t) (by decide) (S.sha_length _) with ⟨i', e', c, h1, _⟩ | ⟨h1, C⟩
    · rw [hf] at h1; cases h1
    · rcases p'.put hm hfi hff hf0 e32 (by show V.kb ≠ []; decide) hf (V.sealB (V.blobL t)) (seal_len t ht) (V.decode_blob t ht) rfl rfl rfl (fun _ => hX) with ⟨_, CP, HP⟩ | ⟨hc, _⟩
      · refine (PutBlob_ok p'.x rfl hli t ht (fun W2 y => ask_no y V.kb (S.sha t) (S.sha_length _) (fun W3 y3 => C W3 W3 y3)) (fun W2 y => CP W2 W2 y)).mono ?_
        rintro e' w' ⟨rfl, y⟩
        exact ⟨rfl, HP w' y, y.o⟩
      · exact absurd hc ha'
/-- a blob is put, and the power goes -/
theorem PA.blobDown (p : PA w n m b life a arm h sl X cn W) (hr : cn < n) (t : List UInt8) (ht : t.length ≤ 512) (hX : X t) (ha : arm = 1) (hf : V.findN h.es V.kb (S.sha t) = none) :
    ∃ sl' : List H.Sl, AddC sl sl' (ctB t) ∧ ∀ {m' : Nat} {b' : HB} {W' : World}, PA w n m' b' life a arm h sl X cn W' → m' ≤ 900000 →
      Calls Tryz.prog 11 #[.pointer (some ⟨b'.hv, 0, none⟩), .string (M.bs t)] W' fun e' w' => e' = .returned (.tuple #[.agg zero32, .int .i64 10]) ∧ PD w n (m' + 5) b'.sh b'.sc (life + 1) (a + 1) sl' X w' ∧ OffB b' W' w' := by
  obtain ⟨i, f, hfi, hff, hf0, hz⟩ := p.room hr
  have e32 : En32 (enN t) := ⟨S.sha_length _, S.sha_length _, by show V.kb.length ≤ 1; decide⟩
  refine ⟨wrt sl i (V.sealB (V.blobL t)), AddC.wrt hz (V.decode_blob t ht), fun {m' b' W'} p' hm => ?_⟩
  have hli : (shA life a arm sl).life = h.life := p'.li
  rcases p'.find V.kb (S.sha t) (by decide) (S.sha_length _) with ⟨i', e', c, h1, _⟩ | ⟨h1, C⟩
  · rw [hf] at h1; cases h1
  · rcases p'.put hm hfi hff hf0 e32 (by show V.kb ≠ []; decide) hf (V.sealB (V.blobL t)) (seal_len t ht) (V.decode_blob t ht) rfl rfl rfl (fun _ => hX) with ⟨hc, _⟩ | ⟨_, CP, HP⟩
    · exact absurd ha hc
    · refine (PutBlob_err p'.x rfl hli t ht 10 (by decide) (fun W2 y => ask_no y V.kb (S.sha t) (S.sha_length _) (fun W3 y3 => C W3 W3 y3)) (fun W2 y => CP W2 W2 y)).mono ?_
      rintro e' w' ⟨rfl, y⟩
      exact ⟨rfl, HP w' y, y.o⟩
/-- how a record comes to stand: er is what PutRecord answers with the power on -/
theorem PA.recOk (p : PA w n m b life a arm h sl X cn W) (hr' : cn < n) (r : V.Rc) (hr : Rc32 r) (ha : arm ≠ 1 ∨ V.canB r = false ∨ V.findN h.es V.kr r.key ≠ none) :
    ∃ (er : Int) (a' arm' : Nat) (h' : Hv) (sl' : List H.Sl) (cn' : Nat), (er = 0 ∨ er = 1 ∨ er = 21) ∧ cn' ≤ cn + 1 ∧ (V.findN h.es V.kr r.key = none → er = 0 → AddC sl sl' (ctR r) ∧ V.canB r = true) ∧ ((V.findN h.es V.kr r.key ≠ none ∨ er ≠ 0) → sl' = sl) ∧ ∀ {m' : Nat} {b' : HB} {W' : World}, PA w n m' b' life a arm h sl X cn W' → m' ≤ 900000 →
      Calls Tryz.prog 13 #[.pointer (some ⟨b'.hv, 0, none⟩), .agg (rv r)] W' fun e' w' => e' = .returned (.int .i64 er) ∧ PA w n (m' + 5) b' life a' arm' h' sl' X cn' w' ∧ OffB b' W' w' := by
  cases hc : V.canB r with
  | false =>
    refine ⟨1, a, arm, h, sl, cn, .inr (.inl rfl), by omega, fun _ h => absurd h (by decide), fun _ => rfl, fun {m' b' W'} p' hm => ?_⟩
    have hli : (shA life a arm sl).life = h.life := p'.li
    refine (PutRec_arg p'.x rfl hli r hr hc).mono ?_
    rintro e' w' ⟨rfl, y⟩
    exact ⟨rfl, p'.same y, y.o⟩
  | true =>
    cases hf : V.findN h.es V.kr r.key with
    | some i =>
      obtain ⟨e, he, g1, g2, g3⟩ := V.findN_some hf
      obtain ⟨c0, hs0, hX0⟩ := p.s.e i e he g1
      by_cases heq : c0.rc.key = r.key ∧ c0.rc.code = r.code ∧ c0.rc.out = r.out
      · refine ⟨0, a, arm, useV h i e, sl, cn, .inl rfl, by omega, (fun h => by cases h), fun _ => rfl, fun {m' b' W'} p' hm => ?_⟩
        have hli : (shA life a arm sl).life = h.life := p'.li
        rcases p'.find V.kr r.key (by decide) hr.k with ⟨i', e', c, h1, h2, h3, h4, h5, hcl, h7, C⟩ | ⟨h1, C⟩
        · rw [hf] at h1; cases h1
          rw [he] at h2; cases h2
          obtain rfl := hs0.one h5
          refine (PutRec_is p'.x rfl hli r hr hc c0 hcl heq he p'.en (by have := p'.um; omega) (fun W2 y => C W2 W2 y)).mono ?_
          rintro e' w' ⟨rfl, y⟩
          exact ⟨rfl, p'.used he y, y.o⟩
        · rw [hf] at h1; cases h1
      · refine ⟨21, a, arm, h, sl, cn, .inr (.inr rfl), by omega, (fun h => by cases h), fun _ => rfl, fun {m' b' W'} p' hm => ?_⟩
        have hli : (shA life a arm sl).life = h.life := p'.li
        rcases p'.find V.kr r.key (by decide) hr.k with ⟨i', e', c, h1, h2, h3, h4, h5, hcl, h7, C⟩ | ⟨h1, C⟩
        · rw [hf] at h1; cases h1
          rw [he] at h2; cases h2
          obtain rfl := hs0.one h5
          refine (PutRec_twice p'.x rfl hli r hr hc c0 hcl heq (fun W2 y => C W2 W2 y)).mono ?_
          rintro e' w' ⟨rfl, y⟩
          exact ⟨rfl, p'.same y, y.o⟩
        · rw [hf] at h1; cases h1
    | none =>
      have ha' : arm ≠ 1 := by
        rcases ha with h | h | h
        · exact h
        · rw [hc] at h; cases h
        · exact absurd hf h
      obtain ⟨i, f, hfi, hff, hf0, hz⟩ := p.room hr'
      have e32 : En32 (enR r) := ⟨hr.k, S.sha_length _, by show V.kr.length ≤ 1; decide⟩
      refine ⟨0, a + 1, decA arm, putV h i (enR r), wrt sl i (V.sealB (V.recL r)), cn + 1, .inl rfl, Nat.le_refl _, fun _ _ => ⟨AddC.wrt hz (V.decode_rec r hr.k hr.o hc), rfl⟩, (fun h => by rcases h with h | h; exact absurd rfl h; exact absurd rfl h), fun {m' b' W'} p' hm => ?_⟩
      have hli : (shA life a arm sl).life = h.life := p'.li
      rcases p'.find V.kr r.key (by decide) hr.k with ⟨i', e', c, h1, _⟩ | ⟨h1, C⟩
      · rw [hf] at h1; cases h1
      · rcases p'.put hm hfi hff hf0 e32 (by show V.kr ≠ []; decide) hf (V.sealB (V.recL r)) (sealR_len r hr hc) (V.decode_rec r hr.k hr.o hc) rfl rfl rfl (fun h => absurd (show V.kr = V.kb from h) (by decide)) with ⟨_, CP, HP⟩ | ⟨hc', _⟩
        · refine (PutRec_put p'.x rfl hli r hr hc 0 (fun W2 y => C W2 W2 y) (fun W2 y => CP W2 W2 y)).mono ?_
          rintro e' w' ⟨rfl, y⟩
          exact ⟨rfl, HP w' y, y.o⟩
        · exact absurd hc' ha'
/-- a record is put, and the power goes -/
theorem PA.recDown (p : PA w n m b life a arm h sl X cn W) (hr' : cn < n) (r : V.Rc) (hr : Rc32 r) (ha : arm = 1) (hc : V.canB r = true) (hf : V.findN h.es V.kr r.key = none) :
    ∃ sl' : List H.Sl, AddC sl sl' (ctR r) ∧ ∀ {m' : Nat} {b' : HB} {W' : World}, PA w n m' b' life a arm h sl X cn W' → m' ≤ 900000 →
      Calls Tryz.prog 13 #[.pointer (some ⟨b'.hv, 0, none⟩), .agg (rv r)] W' fun e' w' => e' = .returned (.int .i64 10) ∧ PD w n (m' + 5) b'.sh b'.sc (life + 1) (a + 1) sl' X w' ∧ OffB b' W' w' := by
  obtain ⟨i, f, hfi, hff, hf0, hz⟩ := p.room hr'
  have e32 : En32 (enR r) := ⟨hr.k, S.sha_length _, by show V.kr.length ≤ 1; decide⟩
  refine ⟨wrt sl i (V.sealB (V.recL r)), AddC.wrt hz (V.decode_rec r hr.k hr.o hc), fun {m' b' W'} p' hm => ?_⟩
  have hli : (shA life a arm sl).life = h.life := p'.li
  rcases p'.find V.kr r.key (by decide) hr.k with ⟨i', e', c, h1, _⟩ | ⟨h1, C⟩
  · rw [hf] at h1; cases h1
  · rcases p'.put hm hfi hff hf0 e32 (by show V.kr ≠ []; decide) hf (V.sealB (V.recL r)) (sealR_len r hr hc) (V.decode_rec r hr.k hr.o hc) rfl rfl rfl (fun h => absurd (show V.kr = V.kb from h) (by decide)) with ⟨hc', _⟩ | ⟨_, CP, HP⟩
    · exact absurd ha hc'
    · refine (PutRec_put p'.x rfl hli r hr hc 10 (fun W2 y => C W2 W2 y) (fun W2 y => CP W2 W2 y)).mono ?_
      rintro e' w' ⟨rfl, y⟩
      exact ⟨rfl, HP w' y, y.o⟩
/-- whether a record of a key is there -/
theorem PA.recAsk (p : PA w n m b life a arm h sl X cn W) (hm : m ≤ 900000) (d : List UInt8) (hd : d.length = 32) :
    Calls Tryz.prog 12 #[.pointer (some ⟨b.hv, 0, none⟩), .agg (dg d)] W fun e' w' => ∃ (r : V.Rc) (v : Bool) (h' : Hv), e' = .returned (.tuple #[.agg (rv r), .bool v]) ∧ Rc32 r ∧ (v = true → HasC sl (ctR r) ∧ r.key = d) ∧ (v = decide (V.findN h.es V.kr d ≠ none)) ∧ (∀ k q, V.findN h'.es k q = V.findN h.es k q) ∧ PA w n (m + 5) b life a arm h' sl X cn w' ∧ OffB b W w' := by
  rcases p.find V.kr d (by decide) hd with ⟨i, e, c, h1, h2, h3, h4, h5, hcl, h7, C⟩ | ⟨h1, C⟩
  · refine (Record_x p.x d hd c true hcl (fun W' y => ask_yes y V.kr d hd h2 p.en (by have := p.um; omega) hcl (fun W2 y2 => C W2 W2 y2))).mono ?_
    rintro e' w' ⟨rfl, y⟩
    obtain ⟨s, q1, q2, q3, q4, q5⟩ := h5
    have hk : c.kind = V.kr := by rw [q3, h3]
    have hc := ct_rec q2 hk
    have hkey : c.rc.key = d := by rw [← h4, ← q4]; exact (congrArg V.Ct.dig hc.1).symm
    exact ⟨c.rc, true, _, rfl, hcl.2.2, fun _ => ⟨by rw [← hc.1]; exact ⟨i, s, q1, q2⟩, hkey⟩, by rw [h1]; simp, fun k q => find_use h2 k q, p.used h2 y, y.o⟩
  · refine (Record_x p.x d hd zc false ⟨zd_length, zd_length, zr32⟩ (fun W' y => ask_no y V.kr d hd (fun W2 y2 => C W2 W2 y2))).mono ?_
    rintro e' w' ⟨rfl, y⟩
    exact ⟨V.zr, false, h, rfl, zr32, (fun h => by cases h), by rw [h1]; simp, fun _ _ => rfl, p.same y, y.o⟩
/-- a blob is asked for -/
theorem PA.blobAsk (p : PA w n m b life a arm h sl X cn W) (hm : m ≤ 900000) (t : List UInt8) (hI : ∀ s, X s → S.sha s = S.sha t → s = t) :
    Calls Tryz.prog 17 #[.pointer (some ⟨b.hv, 0, none⟩), .agg (dg (S.sha t))] W fun e' w' => ∃ (v : Bool) (h' : Hv), e' = .returned (.tuple #[.string (M.bs (if v then t else [])), .bool v]) ∧ (v = true ↔ HasC sl (ctB t)) ∧ (∀ k q, V.findN h'.es k q = V.findN h.es k q) ∧ PA w n (m + 5) b life a arm h' sl X cn w' ∧ OffB b W w' := by
  rcases p.find V.kb (S.sha t) (by decide) (S.sha_length _) with ⟨i, e, c, h1, h2, h3, h4, h5, hcl, h7, C⟩ | ⟨h1, C⟩
  · obtain ⟨s, hs, hdc, hk, hg, _⟩ := h5
    have hkb : c.kind = V.kb := by rw [hk, h3]
    have hb : c.blob = t := by
      rcases V.decode_some hdc with ⟨q1, q2, q3, _⟩ | ⟨q1, _⟩
      · exact hI _ (h7 q1) (by rw [← q2, hg, h4])
      · rw [hk, h3] at q1; exact absurd q1 (by decide)
    refine (Blob_x p.x (S.sha t) (S.sha_length _) c true (cv_size hcl.1 hcl.2.1 hcl.2.2) (cv_65 hcl.1 hcl.2.1) (fun W' y => ask_yes y V.kb (S.sha t) (S.sha_length _) h2 p.en (by have := p.um; omega) hcl (fun W2 y2 => C W2 W2 y2))).mono ?_
    rintro e' w' ⟨rfl, y⟩
    refine ⟨true, _, by rw [hb]; rfl, ⟨fun _ => ⟨i, s, hs, ?_⟩, fun _ => rfl⟩, fun k q => find_use h2 k q, p.used h2 y, y.o⟩
    rw [hdc, ct_blob hdc hkb, hb]
  · refine (Blob_x p.x (S.sha t) (S.sha_length _) zc false zc_size (cv_65 zd_length zd_length) (fun W' y => ask_no y V.kb (S.sha t) (S.sha_length _) (fun W2 y2 => C W2 W2 y2))).mono ?_
    rintro e' w' ⟨rfl, y⟩
    refine ⟨false, h, rfl, ⟨(fun h => by cases h), fun hh => ?_⟩, fun _ _ => rfl, p.same y, y.o⟩
    exfalso
    obtain ⟨i, s, hs, hd⟩ := hh
    have hi : i < h.es.length := by have h1 : h.es.length = sl.length := p.x.n; have := (List.getElem?_eq_some_iff.1 hs).1; omega
    have he : h.es[i]? = some h.es[i] := List.getElem?_eq_getElem hi
    by_cases hk : h.es[i].kind = []
    · obtain ⟨s2, q1, q2⟩ := p.s.f i _ he hk
      rw [hs] at q1; cases q1
      rw [q2, decode_nil] at hd; cases hd
    · obtain ⟨c2, ⟨s2, q1, q2, q3, q4, _⟩, _⟩ := p.s.e i _ he hk
      rw [hs] at q1; cases q1
      rw [hd] at q2; cases q2
      exact V.findN_none h1 i _ he hk q3.symm q4.symm
theorem PA.len (p : PA w n m b life a arm h sl X cn W) : Calls Tryz.prog 22 #[.pointer (some ⟨b.hv, 0, none⟩)] W fun e' w' => e' = .returned (.int .i64 (cn : Int)) ∧ w' = W := by
  have := Len_x p.x
  rw [p.c] at this
  exact this
end
end Go.Proofs.YtlkllcnnnndllaaGreatDoor
