/- A shelf in memory; what its power's calls do. -/
import Derived.Test.YtgnajmiccbcacaaDoorProg
import Derived.Test.YtgnajmiccbcacaaDoorHMath
import Derived.WalkKit
import Derived.WalkSpells
import Derived.WalkLawsBesides
import Derived.BigQuiet
import Derived.Below
import Derived.Deep.QuietTactic
import Derived.Lib.Strings
import Derived.Deep.RegionWith
namespace Go.Proofs.YtgnajmiccbcacaaDoor
open Go.RowKit
set_option linter.unusedVariables false

theorem heap_setCell_rowH {w : World} {b i : Nat} {C : Array Value} {t : TypeId} {fr : Nat × Nat} {v : Value} (h : w.heap[b]? = some (.cells C t fr)) : (w.setCell ⟨b, i, none⟩ v).heap[b]? = some (.cells (C.setIfInBounds i v) t fr) := by
  show (w.heap.modify b _)[b]? = _
  rw [Array.getElem?_modify, if_pos rfl, h]; rfl

/-- all memory that there was is as it was, but for the blocks b and c -/
structure Off2 (b c : Nat) (w w' : World) : Prop where
  os : w'.os = w.os
  tape : w'.tape = w.tape
  output : w'.output = w.output
  size : w.heap.size ≤ w'.heap.size
  block : ∀ k, k < w.heap.size → k ≠ b → k ≠ c → w'.heap[k]? = w.heap[k]?
theorem Off2.refl (b c : Nat) (w : World) : Off2 b c w w := ⟨rfl, rfl, rfl, Nat.le_refl _, fun _ _ _ _ => rfl⟩
theorem Off2.trans {b c : Nat} {w w' w'' : World} (h : Off2 b c w w') (k : Off2 b c w' w'') : Off2 b c w w'' :=
  ⟨k.os.trans h.os, k.tape.trans h.tape, k.output.trans h.output, Nat.le_trans h.size k.size, fun i hi hb hc => (k.block i (Nat.lt_of_lt_of_le hi h.size) hb hc).trans (h.block i hi hb hc)⟩
theorem Off2.of_below {b c : Nat} {w w' : World} (h : Below w.heap.size w w') : Off2 b c w w' := ⟨h.os, h.tape, h.output, h.size, fun k hk _ _ => h.block k hk⟩
theorem Off2.setB {b c : Nat} {a w : World} (h : Off2 b c a w) (i : Nat) (v : Value) : Off2 b c a (w.setCell ⟨b, i, none⟩ v) :=
  ⟨h.os, h.tape, h.output, by have := h.size; simp [World.setCell]; exact this, fun k hk hb hc => by rw [Below.heap_setCell _ _ _ _ hb]; exact h.block k hk hb hc⟩
theorem Off2.setC {b c : Nat} {a w : World} (h : Off2 b c a w) (i : Nat) (v : Value) : Off2 b c a (w.setCell ⟨c, i, none⟩ v) :=
  ⟨h.os, h.tape, h.output, by have := h.size; simp [World.setCell]; exact this, fun k hk hb hc => by rw [Below.heap_setCell _ _ _ _ hc]; exact h.block k hk hb hc⟩
theorem Off2.below {b c B : Nat} {w w' : World} (h : Off2 b c w w') (h1 : B ≤ b) (h2 : B ≤ c) (h3 : B ≤ w.heap.size) : Below B w w' :=
  ⟨h.os, h.tape, h.output, h.size, fun k hk => h.block k (by omega) (by omega) (by omega)⟩
theorem Off2.cell {b c : Nat} {w w' : World} (h : Off2 b c w w') {p : Addr} (hp : p.block < w.heap.size) (hb : p.block ≠ b) (hc : p.block ≠ c) : w'.cell? p = w.cell? p := World.cell?_of_block (w := w) (h.block p.block hp hb hc)

/-- a shelf st lies in the blocks b and c; all else that lay in the world w lies there still -/
structure SW (w : World) (b c : Nat) (st : H.Sh) (W : World) : Prop where
  hb : W.heap[b]? = some (.cells (H.shC st c).toArray 66 (0, 0))
  hc : W.heap[c]? = some (.cells (H.slC st.sl).toArray 90 (0, 0))
  ne : b ≠ c
  o : Off2 b c w W
theorem SW.drewN {w W : World} {b c : Nat} {st : H.Sh} (h : SW w b c st W) (n : Nat) : SW w b c st (W.drewN n) :=
  ⟨h.hb, h.hc, h.ne, ⟨h.o.os, h.o.tape, h.o.output, h.o.size, h.o.block⟩⟩
theorem SW.drew {w W : World} {b c : Nat} {st : H.Sh} (h : SW w b c st W) : SW w b c st W.drew :=
  ⟨h.hb, h.hc, h.ne, ⟨h.o.os, h.o.tape, h.o.output, h.o.size, h.o.block⟩⟩
theorem SW.base {w W : World} {b c : Nat} {st : H.Sh} (h : SW w b c st W) : SW W b c st W := ⟨h.hb, h.hc, h.ne, Off2.refl _ _ _⟩
theorem SW.trans {w W W' : World} {b c : Nat} {st st' : H.Sh} (h : SW w b c st W) (h' : SW W b c st' W') : SW w b c st' W' := ⟨h'.hb, h'.hc, h'.ne, h.o.trans h'.o⟩
theorem SW.ltb {w W : World} {b c : Nat} {st : H.Sh} (h : SW w b c st W) : b < W.heap.size := by
  rcases Nat.lt_or_ge b W.heap.size with h' | h'
  · exact h'
  · have := h.hb; rw [Array.getElem?_eq_none h'] at this; simp at this
theorem SW.ltc {w W : World} {b c : Nat} {st : H.Sh} (h : SW w b c st W) : c < W.heap.size := by
  rcases Nat.lt_or_ge c W.heap.size with h' | h'
  · exact h'
  · have := h.hc; rw [Array.getElem?_eq_none h'] at this; simp at this
/-- new memory beside it -/
theorem SW.step {w W W' : World} {b c : Nat} {st : H.Sh} (h : SW w b c st W) (hb : Below W.heap.size W W') : SW w b c st W' :=
  ⟨by rw [hb.block b h.ltb]; exact h.hb, by rw [hb.block c h.ltc]; exact h.hc, h.ne, h.o.trans (Off2.of_below hb)⟩
theorem SW.alloc {w W : World} {b c : Nat} {st : H.Sh} (h : SW w b c st W) (o : Obj) : SW w b c st (W.alloc o) := h.step ((Below.refl _ W).alloc (Nat.le_refl _) _)
/-- a store into its own cells -/
theorem SW.pow {w W : World} {b c : Nat} {st : H.Sh} (h : SW w b c st W) (st' : H.Sh) (i : Nat) (v : Value) (e : (H.shC st c).set i v = H.shC st' c) (hs : st'.sl = st.sl) : SW w b c st' (W.setCell ⟨b, i, none⟩ v) :=
  ⟨by rw [heap_setCell_rowH h.hb, List.setIfInBounds_toArray, e], by rw [Below.heap_setCell _ _ _ _ (fun e => h.ne e.symm), hs]; exact h.hc, h.ne, h.o.setB _ _⟩
/-- a store into its slots -/
theorem SW.slot {w W : World} {b c : Nat} {st : H.Sh} (h : SW w b c st W) (l : List H.Sl) (i : Nat) (v : Value) (e : (H.slC st.sl).set i v = H.slC l) (hl : l.length = st.sl.length) : SW w b c { st with sl := l } (W.setCell ⟨c, i, none⟩ v) :=
  ⟨by rw [Below.heap_setCell _ _ _ _ h.ne, h.hb]; simp [H.shC, hl], by rw [heap_setCell_rowH h.hc, List.setIfInBounds_toArray, e], h.ne, h.o.setC _ _⟩
theorem cell_row {w : World} {b : Nat} {C : List Value} {t : TypeId} (h : w.heap[b]? = some (.cells C.toArray t (0, 0))) (i : Nat) : w.cell? ⟨b, i, none⟩ = C[i]? := by
  simp [World.cell?, h]
theorem frozen_row {w : World} {b : Nat} {C : Array Value} {t : TypeId} (h : w.heap[b]? = some (.cells C t (0, 0))) (i : Nat) : w.frozen? ⟨b, i, none⟩ = false := by
  simp [World.frozen?, h]

section
variable {w W : World} {b c : Nat} {st : H.Sh}
theorem SW.c0 (h : SW w b c st W) : W.cell? ⟨b, 0, none⟩ = some (.bool st.off) := by rw [cell_row h.hb]; rfl
theorem SW.c1 (h : SW w b c st W) : W.cell? ⟨b, 1, none⟩ = some (.int .i64 (st.arm : Int)) := by rw [cell_row h.hb]; rfl
theorem SW.c2 (h : SW w b c st W) : W.cell? ⟨b, 2, none⟩ = some (.int .i64 (st.acts : Int)) := by rw [cell_row h.hb]; rfl
theorem SW.c3 (h : SW w b c st W) : W.cell? ⟨b, 3, none⟩ = some (.int .i64 (st.life : Int)) := by rw [cell_row h.hb]; rfl
theorem SW.c4 (h : SW w b c st W) : W.cell? ⟨b, 4, none⟩ = some (.slice (some ⟨c, 0, none⟩) st.sl.length st.sl.length) := by rw [cell_row h.hb]; rfl
theorem SW.fb (h : SW w b c st W) (i : Nat) : W.frozen? ⟨b, i, none⟩ = false := frozen_row h.hb i
theorem SW.fc (h : SW w b c st W) (i : Nat) : W.frozen? ⟨c, i, none⟩ = false := frozen_row h.hc i
end

set_option maxHeartbeats 1000000 in
theorem cut_at {w W : World} {b c : Nat} {st : H.Sh} (h : SW w b c st W) (hl : st.life ≤ 1000000) :
    Calls Tryd.prog 40 #[.pointer (some ⟨b, 0, none⟩)] W fun e w' => e = .returned (.tuple #[]) ∧ SW w b c (H.cut st) w' := by
  have k0 := h.c0
  have k3 := h.c3
  have k1 := h.c1
  have f := h.fb
  have HH : Hid (SW w b c st W) := h
  clear h
  cases ho : st.off
  · rw [ho] at k0
    have e : H.cut st = { st with off := true, arm := 0, life := st.life + 1 } := by simp [H.cut, ho]
    have HE : Hid (H.cut st = { st with off := true, arm := 0, life := st.life + 1 }) := e
    clear e
    go_enter Tryd.func40, Tryd.ntmps40
    go_wp2_with fail
    refine bodyPost_end (results_none rfl _ _ _) rfl ?_
    refine ⟨rfl, ?_⟩
    rw [HE.out]
    refine SW.pow (st := { st with off := true, life := st.life + 1 }) ?_ _ _ _ rfl rfl
    refine SW.pow (st := { st with off := true }) ?_ _ _ _ (by simp [H.shC]) rfl
    exact SW.pow HH.out _ _ _ rfl rfl
  · rw [ho] at k0
    have e : H.cut st = { st with arm := 0 } := by simp [H.cut, ho]
    have HE : Hid (H.cut st = { st with arm := 0 }) := e
    clear e
    go_enter Tryd.func40, Tryd.ntmps40
    go_wp2_with fail
    refine bodyPost_end (results_none rfl _ _ _) rfl ?_
    refine ⟨rfl, ?_⟩
    rw [HE.out]
    exact SW.pow HH.out _ _ _ rfl rfl

set_option maxHeartbeats 1000000 in
theorem act_at {w W : World} {b c : Nat} {st : H.Sh} (h : SW w b c st W) (ho : st.off = false) (hl : st.life ≤ 1000000) (ha : st.acts ≤ 1000000) (hm : st.arm ≤ 9223372036854775807) :
    Calls Tryd.prog 44 #[.pointer (some ⟨b, 0, none⟩)] W fun e w' => e = .returned (.bool (H.lasts st)) ∧ SW w b c (H.act st) w' := by
  have k0 := h.c0
  have k2 := h.c2
  have k1 := h.c1
  have f := h.fb
  rw [ho] at k0
  have HH : Hid (SW w b c st W) := h
  have HO : Hid (st.off = false) := ho
  clear h ho
  rcases Nat.lt_or_ge 1 st.arm with h2 | h2
  · have e1 : H.act st = { st with arm := st.arm - 1, acts := st.acts + 1 } := by unfold H.act; rw [if_neg (by omega), if_neg (by omega)]
    have e2 : H.lasts st = true := by simp [H.lasts]; omega
    have q1 : ((st.arm : Int) == 0) = false := by simp; omega
    have q2 : ((st.arm : Int) - 1 == 0) = false := by simp; omega
    have HE : Hid (H.act st = { st with arm := st.arm - 1, acts := st.acts + 1 }) := e1
    rw [e2]
    clear e1 e2
    go_enter Tryd.func44, Tryd.ntmps44
    go_wp2_with fail
    go_ret
    refine ⟨rfl, ?_⟩
    rw [HE.out]
    exact SW.pow (st := { st with acts := st.acts + 1 }) (SW.pow HH.out _ _ _ (by simp [H.shC]) rfl) _ _ _ (by simp [H.shC]; omega) rfl
  · rcases Nat.lt_or_ge 0 st.arm with h3 | h3
    · have hm1 : st.arm = 1 := by omega
      have e1 : H.act st = { st with off := true, arm := 0, acts := st.acts + 1, life := st.life + 1 } := by unfold H.act; rw [if_neg (by omega), if_pos hm1]
      have e2 : H.lasts st = false := by simp [H.lasts, hm1]
      have HE : Hid (H.act st = { st with off := true, arm := 0, acts := st.acts + 1, life := st.life + 1 }) := e1
      rw [e2]
      rw [hm1] at k1
      clear e1 e2 h2 h3 hm
      have HC : Hid (H.cut { st with arm := 0, acts := st.acts + 1 } = { st with off := true, arm := 0, acts := st.acts + 1, life := st.life + 1 }) := by show _ = _; simp [H.cut, HO.out]
      have HM : Hid (st.arm = 1) := hm1
      clear hm1
      go_enter Tryd.func44, Tryd.ntmps44
      go_wp2_with (go_at_call 40; refine (cut_at (st := { st with arm := 0, acts := st.acts + 1 }) (SW.pow (st := { st with acts := st.acts + 1 }) (SW.pow HH.out _ _ _ (by simp [H.shC]) rfl) _ _ _ (by simp [H.shC]) rfl) hl).mono ?_; rintro e w' ⟨rfl, HG⟩; rw [HC.out] at HG; have g0 := HG.c0)
      go_ret
      refine ⟨rfl, ?_⟩
      rw [HE.out]
      exact HG
    · have hm1 : st.arm = 0 := by omega
      have e1 : H.act st = { st with acts := st.acts + 1 } := by unfold H.act; rw [if_pos hm1]
      have e2 : H.lasts st = true := by simp [H.lasts, hm1]
      have HE : Hid (H.act st = { st with acts := st.acts + 1 }) := e1
      rw [e2]
      rw [hm1] at k1
      clear e1 e2 h2 h3 hm hm1
      go_enter Tryd.func44, Tryd.ntmps44
      go_wp2_with fail
      go_ret
      refine ⟨rfl, ?_⟩
      rw [HE.out]
      exact SW.pow HH.out _ _ _ (by simp [H.shC]) rfl

theorem Off_at {w W : World} {b c : Nat} {st : H.Sh} (h : SW w b c st W) (hl : st.life ≤ 1000000) :
    Calls Tryd.prog 13 #[.pointer (some ⟨b, 0, none⟩)] W fun e w' => e = .returned (.tuple #[]) ∧ SW w b c (H.cut st) w' := by
  have HH : Hid (SW w b c st W) := h
  clear h
  go_enter Tryd.func13, Tryd.ntmps13
  go_wp2_with (go_at_call 40; refine (cut_at HH.out hl).mono ?_; rintro e w' ⟨rfl, HG⟩)
  refine bodyPost_end (results_none rfl _ _ _) rfl ?_
  exact ⟨rfl, HG⟩
theorem Down_at {w W : World} {b c : Nat} {st : H.Sh} (h : SW w b c st W) : Calls Tryd.prog 28 #[.pointer (some ⟨b, 0, none⟩)] W fun e w' => e = .returned (.bool st.off) ∧ ∃ n, w' = W.drewN n := by
  have k0 := h.c0
  go_enter Tryd.func28, Tryd.ntmps28
  go_wp2_with fail
  go_ret
  exact ⟨rfl, 0, rfl⟩
theorem Life_at {w W : World} {b c : Nat} {st : H.Sh} (h : SW w b c st W) : Calls Tryd.prog 29 #[.pointer (some ⟨b, 0, none⟩)] W fun e w' => e = .returned (.int .i64 (st.life : Int)) ∧ w' = W := by
  have k0 := h.c3
  go_enter Tryd.func29, Tryd.ntmps29
  go_wp2_with fail
  go_ret
  exact ⟨rfl, rfl⟩
theorem shLen_at {w W : World} {b c : Nat} {st : H.Sh} (h : SW w b c st W) : Calls Tryd.prog 30 #[.pointer (some ⟨b, 0, none⟩)] W fun e w' => e = .returned (.int .i64 (st.sl.length : Int)) ∧ w' = W := by
  have k0 := h.c4
  go_enter Tryd.func30, Tryd.ntmps30
  go_wp2_with fail
  go_ret
  exact ⟨rfl, rfl⟩
/-- what reach says -/
def reachE (st : H.Sh) : Int := if st.off then 10 else 0
theorem reach_at {w W : World} {b c : Nat} {st : H.Sh} (h : SW w b c st W) : Calls Tryd.prog 60 #[.pointer (some ⟨b, 0, none⟩)] W fun e w' => e = .returned (.int .i64 (reachE st)) ∧ w' = W := by
  have k0 := h.c0
  unfold reachE
  cases ho : st.off
  all_goals
    rw [ho] at k0
    go_enter Tryd.func60, Tryd.ntmps60
    go_wp2_with fail
    go_ret
    exact ⟨rfl, rfl⟩
def slotE (st : H.Sh) (at' : Int) : Int := if st.off then 10 else if 0 ≤ at' ∧ at' < (st.sl.length : Int) then 0 else 1
set_option maxHeartbeats 1000000 in
theorem reachSlot_at {w W : World} {b c : Nat} {st : H.Sh} (h : SW w b c st W) (x : Int) (hn : st.sl.length ≤ 128) : Calls Tryd.prog 43 #[.pointer (some ⟨b, 0, none⟩), .int .i64 x] W fun e w' => e = .returned (.int .i64 (slotE st x)) ∧ ∃ n, w' = W.drewN n := by
  have k4 := h.c4
  have CR : Hid (Calls Tryd.prog 60 #[.pointer (some ⟨b, 0, none⟩)] W fun e w' => e = .returned (.int .i64 (reachE st)) ∧ w' = W) := reach_at h
  clear h
  unfold reachE at CR
  unfold slotE
  cases ho : st.off
  · rw [ho] at CR
    by_cases h1 : x < 0
    · have e : ¬ (0 ≤ x ∧ x < (st.sl.length : Int)) := by omega
      rw [if_neg (by simp), if_neg e]
      rw [if_neg (by simp)] at CR
      clear e
      go_enter Tryd.func43, Tryd.ntmps43
      go_wp2_with (go_at_call 60; refine CR.out.mono ?_; rintro e w' ⟨rfl, rfl⟩)
      go_ret
      exact ⟨rfl, 0, rfl⟩
    · have h1' : decide (x < 0) = false := by simp; omega
      by_cases h2 : x < (st.sl.length : Int)
      · have e : (0 ≤ x ∧ x < (st.sl.length : Int)) := by omega
        have h2' : decide ((st.sl.length : Int) ≤ x) = false := by simp; omega
        rw [if_neg (by simp), if_pos e]
        rw [if_neg (by simp)] at CR
        clear e
        go_enter Tryd.func43, Tryd.ntmps43
        go_wp2_with (go_at_call 60; refine CR.out.mono ?_; rintro e w' ⟨rfl, rfl⟩)
        go_ret
        exact ⟨rfl, 0, rfl⟩
      · have e : ¬ (0 ≤ x ∧ x < (st.sl.length : Int)) := by omega
        have h2' : decide ((st.sl.length : Int) ≤ x) = true := by simp; omega
        rw [if_neg (by simp), if_neg e]
        rw [if_neg (by simp)] at CR
        clear e
        go_enter Tryd.func43, Tryd.ntmps43
        go_wp2_with (go_at_call 60; refine CR.out.mono ?_; rintro e w' ⟨rfl, rfl⟩)
        go_ret
        exact ⟨rfl, 0, rfl⟩
  · rw [ho] at CR
    rw [if_pos rfl] at CR ⊢
    go_enter Tryd.func43, Tryd.ntmps43
    go_wp2_with (go_at_call 60; refine CR.out.mono ?_; rintro e w' ⟨rfl, rfl⟩)
    go_ret
    exact ⟨rfl, 0, rfl⟩
end Go.Proofs.YtgnajmiccbcacaaDoor
