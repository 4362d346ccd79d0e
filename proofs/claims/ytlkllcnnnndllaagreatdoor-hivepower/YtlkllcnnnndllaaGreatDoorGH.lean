/- The texts H1 H2 H3 H4 H5 H6 H7 Arm H8 as one. -/
import Derived.Test.YtlkllcnnnndllaaGreatDoorProg
import Derived.Test.YtlkllcnnnndllaaGreatDoorHMath
import Derived.WalkKit
import Derived.WalkSpells
import Derived.WalkLawsBesides
import Derived.BigQuiet
import Derived.Below
import Derived.Deep.QuietTactic
import Derived.Lib.Strings
import Derived.Deep.RegionWith
import Derived.Laws.MakeOwn
import Derived.Deep.WholeRow
/- A shelf in memory; what its power's calls do. -/
namespace Go.Proofs.YtlkllcnnnndllaaGreatDoor
open Go.RowKit
set_option linter.unusedVariables false

theorem heap_setCell_rowH {w : World} {b i : Nat} {C : Array Value} {t : TypeId} {fr : Nat × Nat} {v : Value} (h : w.heap[b]? = some (.cells C t fr)) : (w.setCell ⟨b, i, none⟩ v).heap[b]? = some (.cells (C.setIfInBounds i v) t fr) := by
  show (w.heap.modify b _)[b]? = _
  rw [Array.getElem?_modify, if_pos rfl, h]; rfl

/-- all memory that there was is as it was, but for the blocks b and c -/
structure Off2 (b c : Nat) (w w' : World) : Prop where
  os : w'.os = w.os
  tape : w'.tape = w.tape
  output : w'.output = w.output
  size : w.heap.size ≤ w'.heap.size
  block : ∀ k, k < w.heap.size → k ≠ b → k ≠ c → w'.heap[k]? = w.heap[k]?
theorem Off2.refl (b c : Nat) (w : World) : Off2 b c w w := ⟨rfl, rfl, rfl, Nat.le_refl _, fun _ _ _ _ => rfl⟩
theorem Off2.trans {b c : Nat} {w w' w'' : World} (h : Off2 b c w w') (k : Off2 b c w' w'') : Off2 b c w w'' :=
  ⟨k.os.trans h.os, k.tape.trans h.tape, k.output.trans h.output, Nat.le_trans h.size k.size, fun i hi hb hc => (k.block i (Nat.lt_of_lt_of_le hi h.size) hb hc).trans (h.block i hi hb hc)⟩
theorem Off2.of_below {b c : Nat} {w w' : World} (h : Below w.heap.size w w') : Off2 b c w w' := ⟨h.os, h.tape, h.output, h.size, fun k hk _ _ => h.block k hk⟩
theorem Off2.setB {b c : Nat} {a w : World} (h : Off2 b c a w) (i : Nat) (v : Value) : Off2 b c a (w.setCell ⟨b, i, none⟩ v) :=
  ⟨h.os, h.tape, h.output, by have := h.size; simp [World.setCell]; exact this, fun k hk hb hc => by rw [Below.heap_setCell _ _ _ _ hb]; exact h.block k hk hb hc⟩
theorem Off2.setC {b c : Nat} {a w : World} (h : Off2 b c a w) (i : Nat) (v : Value) : Off2 b c a (w.setCell ⟨c, i, none⟩ v) :=
  ⟨h.os, h.tape, h.output, by have := h.size; simp [World.setCell]; exact this, fun k hk hb hc => by rw [Below.heap_setCell _ _ _ _ hc]; exact h.block k hk hb hc⟩
theorem Off2.below {b c B : Nat} {w w' : World} (h : Off2 b c w w') (h1 : B ≤ b) (h2 : B ≤ c) (h3 : B ≤ w.heap.size) : Below B w w' :=
  ⟨h.os, h.tape, h.output, h.size, fun k hk => h.block k (by omega) (by omega) (by omega)⟩
theorem Off2.cell {b c : Nat} {w w' : World} (h : Off2 b c w w') {p : Addr} (hp : p.block < w.heap.size) (hb : p.block ≠ b) (hc : p.block ≠ c) : w'.cell? p = w.cell? p := World.cell?_of_block (w := w) (h.block p.block hp hb hc)

/-- a shelf st lies in the blocks b and c; all else that lay in the world w lies there still -/
structure SW (w : World) (b c : Nat) (st : H.Sh) (W : World) : Prop where
  hb : W.heap[b]? = some (.cells (H.shC st c).toArray 65 (0, 0))
  hc : W.heap[c]? = some (.cells (H.slC st.sl).toArray 88 (0, 0))
  ne : b ≠ c
  o : Off2 b c w W
theorem SW.drewN {w W : World} {b c : Nat} {st : H.Sh} (h : SW w b c st W) (n : Nat) : SW w b c st (W.drewN n) :=
  ⟨h.hb, h.hc, h.ne, ⟨h.o.os, h.o.tape, h.o.output, h.o.size, h.o.block⟩⟩
theorem SW.drew {w W : World} {b c : Nat} {st : H.Sh} (h : SW w b c st W) : SW w b c st W.drew :=
  ⟨h.hb, h.hc, h.ne, ⟨h.o.os, h.o.tape, h.o.output, h.o.size, h.o.block⟩⟩
theorem SW.base {w W : World} {b c : Nat} {st : H.Sh} (h : SW w b c st W) : SW W b c st W := ⟨h.hb, h.hc, h.ne, Off2.refl _ _ _⟩
theorem SW.trans {w W W' : World} {b c : Nat} {st st' : H.Sh} (h : SW w b c st W) (h' : SW W b c st' W') : SW w b c st' W' := ⟨h'.hb, h'.hc, h'.ne, h.o.trans h'.o⟩
theorem SW.ltb {w W : World} {b c : Nat} {st : H.Sh} (h : SW w b c st W) : b < W.heap.size := by
  rcases Nat.lt_or_ge b W.heap.size with h' | h'
  · exact h'
  · have := h.hb; rw [Array.getElem?_eq_none h'] at this; simp at this
theorem SW.ltc {w W : World} {b c : Nat} {st : H.Sh} (h : SW w b c st W) : c < W.heap.size := by
  rcases Nat.lt_or_ge c W.heap.size with h' | h'
  · exact h'
  · have := h.hc; rw [Array.getElem?_eq_none h'] at this; simp at this
/-- new memory beside it -/
theorem SW.step {w W W' : World} {b c : Nat} {st : H.Sh} (h : SW w b c st W) (hb : Below W.heap.size W W') : SW w b c st W' :=
  ⟨by rw [hb.block b h.ltb]; exact h.hb, by rw [hb.block c h.ltc]; exact h.hc, h.ne, h.o.trans (Off2.of_below hb)⟩
theorem SW.alloc {w W : World} {b c : Nat} {st : H.Sh} (h : SW w b c st W) (o : Obj) : SW w b c st (W.alloc o) := h.step ((Below.refl _ W).alloc (Nat.le_refl _) _)
/-- a store into its own cells -/
theorem SW.pow {w W : World} {b c : Nat} {st : H.Sh} (h : SW w b c st W) (st' : H.Sh) (i : Nat) (v : Value) (e : (H.shC st c).set i v = H.shC st' c) (hs : st'.sl = st.sl) : SW w b c st' (W.setCell ⟨b, i, none⟩ v) :=
  ⟨by rw [heap_setCell_rowH h.hb, List.setIfInBounds_toArray, e], by rw [Below.heap_setCell _ _ _ _ (fun e => h.ne e.symm), hs]; exact h.hc, h.ne, h.o.setB _ _⟩
/-- a store into its slots -/
theorem SW.slot {w W : World} {b c : Nat} {st : H.Sh} (h : SW w b c st W) (l : List H.Sl) (i : Nat) (v : Value) (e : (H.slC st.sl).set i v = H.slC l) (hl : l.length = st.sl.length) : SW w b c { st with sl := l } (W.setCell ⟨c, i, none⟩ v) :=
  ⟨by rw [Below.heap_setCell _ _ _ _ h.ne, h.hb]; simp [H.shC, hl], by rw [heap_setCell_rowH h.hc, List.setIfInBounds_toArray, e], h.ne, h.o.setC _ _⟩
theorem cell_row {w : World} {b : Nat} {C : List Value} {t : TypeId} (h : w.heap[b]? = some (.cells C.toArray t (0, 0))) (i : Nat) : w.cell? ⟨b, i, none⟩ = C[i]? := by
  simp [World.cell?, h]
theorem frozen_row {w : World} {b : Nat} {C : Array Value} {t : TypeId} (h : w.heap[b]? = some (.cells C t (0, 0))) (i : Nat) : w.frozen? ⟨b, i, none⟩ = false := by
  simp [World.frozen?, h]

section
variable {w W : World} {b c : Nat} {st : H.Sh}
theorem SW.c0 (h : SW w b c st W) : W.cell? ⟨b, 0, none⟩ = some (.bool st.off) := by rw [cell_row h.hb]; rfl
theorem SW.c1 (h : SW w b c st W) : W.cell? ⟨b, 1, none⟩ = some (.int .i64 (st.arm : Int)) := by rw [cell_row h.hb]; rfl
theorem SW.c2 (h : SW w b c st W) : W.cell? ⟨b, 2, none⟩ = some (.int .i64 (st.acts : Int)) := by rw [cell_row h.hb]; rfl
theorem SW.c3 (h : SW w b c st W) : W.cell? ⟨b, 3, none⟩ = some (.int .i64 (st.life : Int)) := by rw [cell_row h.hb]; rfl
theorem SW.c4 (h : SW w b c st W) : W.cell? ⟨b, 4, none⟩ = some (.slice (some ⟨c, 0, none⟩) st.sl.length st.sl.length) := by rw [cell_row h.hb]; rfl
theorem SW.fb (h : SW w b c st W) (i : Nat) : W.frozen? ⟨b, i, none⟩ = false := frozen_row h.hb i
theorem SW.fc (h : SW w b c st W) (i : Nat) : W.frozen? ⟨c, i, none⟩ = false := frozen_row h.hc i
end

set_option maxHeartbeats 1000000 in
theorem cut_at {w W : World} {b c : Nat} {st : H.Sh} (h : SW w b c st W) (hl : st.life ≤ 1000000) :
    Calls Tryz.prog 38 #[.pointer (some ⟨b, 0, none⟩)] W fun e w' => e = .returned (.tuple #[]) ∧ SW w b c (H.cut st) w' := by
  have k0 := h.c0
  have k3 := h.c3
  have k1 := h.c1
  have f := h.fb
  have HH : Hid (SW w b c st W) := h
  clear h
  cases ho : st.off
  · rw [ho] at k0
    have e : H.cut st = { st with off := true, arm := 0, life := st.life + 1 } := by simp [H.cut, ho]
    have HE : Hid (H.cut st = { st with off := true, arm := 0, life := st.life + 1 }) := e
    clear e
    go_enter Tryz.func38, Tryz.ntmps38
    go_wp2_with fail
    refine bodyPost_end (results_none rfl _ _ _) rfl ?_
    refine ⟨rfl, ?_⟩
    rw [HE.out]
    refine SW.pow (st := { st with off := true, life := st.life + 1 }) ?_ _ _ _ rfl rfl
    refine SW.pow (st := { st with off := true }) ?_ _ _ _ (by simp [H.shC]) rfl
    exact SW.pow HH.out _ _ _ rfl rfl
  · rw [ho] at k0
    have e : H.cut st = { st with arm := 0 } := by simp [H.cut, ho]
    have HE : Hid (H.cut st = { st with arm := 0 }) := e
    clear e
    go_enter Tryz.func38, Tryz.ntmps38
    go_wp2_with fail
    refine bodyPost_end (results_none rfl _ _ _) rfl ?_
    refine ⟨rfl, ?_⟩
    rw [HE.out]
    exact SW.pow HH.out _ _ _ rfl rfl

set_option maxHeartbeats 1000000 in
theorem act_at {w W : World} {b c : Nat} {st : H.Sh} (h : SW w b c st W) (ho : st.off = false) (hl : st.life ≤ 1000000) (ha : st.acts ≤ 1000000) (hm : st.arm ≤ 9223372036854775807) :
    Calls Tryz.prog 56 #[.pointer (some ⟨b, 0, none⟩)] W fun e w' => e = .returned (.bool (H.lasts st)) ∧ SW w b c (H.act st) w' := by
  have k0 := h.c0
  have k2 := h.c2
  have k1 := h.c1
  have f := h.fb
  rw [ho] at k0
  have HH : Hid (SW w b c st W) := h
  have HO : Hid (st.off = false) := ho
  clear h ho
  rcases Nat.lt_or_ge 1 st.arm with h2 | h2
  · have e1 : H.act st = { st with arm := st.arm - 1, acts := st.acts + 1 } := by unfold H.act; rw [if_neg (by omega), if_neg (by omega)]
    have e2 : H.lasts st = true := by simp [H.lasts]; omega
    have q1 : ((st.arm : Int) == 0) = false := by simp; omega
    have q2 : ((st.arm : Int) - 1 == 0) = false := by simp; omega
    have HE : Hid (H.act st = { st with arm := st.arm - 1, acts := st.acts + 1 }) := e1
    rw [e2]
    clear e1 e2
    go_enter Tryz.func56, Tryz.ntmps56
    go_wp2_with fail
    go_ret
    refine ⟨rfl, ?_⟩
    rw [HE.out]
    exact SW.pow (st := { st with acts := st.acts + 1 }) (SW.pow HH.out _ _ _ (by simp [H.shC]) rfl) _ _ _ (by simp [H.shC]; omega) rfl
  · rcases Nat.lt_or_ge 0 st.arm with h3 | h3
    · have hm1 : st.arm = 1 := by omega
      have e1 : H.act st = { st with off := true, arm := 0, acts := st.acts + 1, life := st.life + 1 } := by unfold H.act; rw [if_neg (by omega), if_pos hm1]
      have e2 : H.lasts st = false := by simp [H.lasts, hm1]
      have HE : Hid (H.act st = { st with off := true, arm := 0, acts := st.acts + 1, life := st.life + 1 }) := e1
      rw [e2]
      rw [hm1] at k1
      clear e1 e2 h2 h3 hm
      have HC : Hid (H.cut { st with arm := 0, acts := st.acts + 1 } = { st with off := true, arm := 0, acts := st.acts + 1, life := st.life + 1 }) := by show _ = _; simp [H.cut, HO.out]
      have HM : Hid (st.arm = 1) := hm1
      clear hm1
      go_enter Tryz.func56, Tryz.ntmps56
      go_wp2_with (go_at_call 38; refine (cut_at (st := { st with arm := 0, acts := st.acts + 1 }) (SW.pow (st := { st with acts := st.acts + 1 }) (SW.pow HH.out _ _ _ (by simp [H.shC]) rfl) _ _ _ (by simp [H.shC]) rfl) hl).mono ?_; rintro e w' ⟨rfl, HG⟩; rw [HC.out] at HG; have g0 := HG.c0)
      go_ret
      refine ⟨rfl, ?_⟩
      rw [HE.out]
      exact HG
    · have hm1 : st.arm = 0 := by omega
      have e1 : H.act st = { st with acts := st.acts + 1 } := by unfold H.act; rw [if_pos hm1]
      have e2 : H.lasts st = true := by simp [H.lasts, hm1]
      have HE : Hid (H.act st = { st with acts := st.acts + 1 }) := e1
      rw [e2]
      rw [hm1] at k1
      clear e1 e2 h2 h3 hm hm1
      go_enter Tryz.func56, Tryz.ntmps56
      go_wp2_with fail
      go_ret
      refine ⟨rfl, ?_⟩
      rw [HE.out]
      exact SW.pow HH.out _ _ _ (by simp [H.shC]) rfl

theorem arm_at {w W : World} {b c : Nat} {st : H.Sh} (h : SW w b c st W) (n : Int) (h1 : -9223372036854775808 ≤ n) (h2 : n ≤ 9223372036854775807) :
    Calls Tryz.prog 28 #[.pointer (some ⟨b, 0, none⟩), .int .i64 n] W fun e w' => e = .returned (.tuple #[]) ∧ SW w b c { st with arm := n.toNat } w' := by
  have k1 := h.c1
  have f := h.fb
  have HH : Hid (SW w b c st W) := h
  clear h
  go_enter Tryz.func28, Tryz.ntmps28
  go_wp2_with fail
  all_goals
    refine bodyPost_end (results_none rfl _ _ _) rfl ?_
    refine ⟨rfl, ?_⟩
    exact SW.pow HH.out _ _ _ (by simp [H.shC]; omega) rfl
theorem Off_at {w W : World} {b c : Nat} {st : H.Sh} (h : SW w b c st W) (hl : st.life ≤ 1000000) :
    Calls Tryz.prog 15 #[.pointer (some ⟨b, 0, none⟩)] W fun e w' => e = .returned (.tuple #[]) ∧ SW w b c (H.cut st) w' := by
  have HH : Hid (SW w b c st W) := h
  clear h
  go_enter Tryz.func15, Tryz.ntmps15
  go_wp2_with (go_at_call 38; refine (cut_at HH.out hl).mono ?_; rintro e w' ⟨rfl, HG⟩)
  refine bodyPost_end (results_none rfl _ _ _) rfl ?_
  exact ⟨rfl, HG⟩
theorem Arm_at {w W : World} {b c : Nat} {st : H.Sh} (h : SW w b c st W) (n : Int) (h1 : -9223372036854775808 ≤ n) (h2 : n ≤ 9223372036854775807) :
    Calls Tryz.prog 10 #[.pointer (some ⟨b, 0, none⟩), .int .i64 n] W fun e w' => e = .returned (.tuple #[]) ∧ SW w b c { st with arm := n.toNat } w' := by
  have HH : Hid (SW w b c st W) := h
  clear h
  go_enter Tryz.func10, Tryz.ntmps10
  go_wp2_with (go_at_call 28; refine (arm_at HH.out n h1 h2).mono ?_; rintro e w' ⟨rfl, HG⟩)
  refine bodyPost_end (results_none rfl _ _ _) rfl ?_
  exact ⟨rfl, HG⟩
theorem Down_at {w W : World} {b c : Nat} {st : H.Sh} (h : SW w b c st W) : Calls Tryz.prog 24 #[.pointer (some ⟨b, 0, none⟩)] W fun e w' => e = .returned (.bool st.off) ∧ ∃ n, w' = W.drewN n := by
  have k0 := h.c0
  go_enter Tryz.func24, Tryz.ntmps24
  go_wp2_with fail
  go_ret
  exact ⟨rfl, 0, rfl⟩
theorem Life_at {w W : World} {b c : Nat} {st : H.Sh} (h : SW w b c st W) : Calls Tryz.prog 25 #[.pointer (some ⟨b, 0, none⟩)] W fun e w' => e = .returned (.int .i64 (st.life : Int)) ∧ w' = W := by
  have k0 := h.c3
  go_enter Tryz.func25, Tryz.ntmps25
  go_wp2_with fail
  go_ret
  exact ⟨rfl, rfl⟩
theorem shLen_at {w W : World} {b c : Nat} {st : H.Sh} (h : SW w b c st W) : Calls Tryz.prog 26 #[.pointer (some ⟨b, 0, none⟩)] W fun e w' => e = .returned (.int .i64 (st.sl.length : Int)) ∧ w' = W := by
  have k0 := h.c4
  go_enter Tryz.func26, Tryz.ntmps26
  go_wp2_with fail
  go_ret
  exact ⟨rfl, rfl⟩
/-- what reach says -/
def reachE (st : H.Sh) : Int := if st.off then 10 else 0
theorem reach_at {w W : World} {b c : Nat} {st : H.Sh} (h : SW w b c st W) : Calls Tryz.prog 55 #[.pointer (some ⟨b, 0, none⟩)] W fun e w' => e = .returned (.int .i64 (reachE st)) ∧ w' = W := by
  have k0 := h.c0
  unfold reachE
  cases ho : st.off
  all_goals
    rw [ho] at k0
    go_enter Tryz.func55, Tryz.ntmps55
    go_wp2_with fail
    go_ret
    exact ⟨rfl, rfl⟩
def slotE (st : H.Sh) (at' : Int) : Int := if st.off then 10 else if 0 ≤ at' ∧ at' < (st.sl.length : Int) then 0 else 1
set_option maxHeartbeats 1000000 in
theorem reachSlot_at {w W : World} {b c : Nat} {st : H.Sh} (h : SW w b c st W) (x : Int) (hn : st.sl.length ≤ 128) : Calls Tryz.prog 64 #[.pointer (some ⟨b, 0, none⟩), .int .i64 x] W fun e w' => e = .returned (.int .i64 (slotE st x)) ∧ ∃ n, w' = W.drewN n := by
  have k4 := h.c4
  have CR : Hid (Calls Tryz.prog 55 #[.pointer (some ⟨b, 0, none⟩)] W fun e w' => e = .returned (.int .i64 (reachE st)) ∧ w' = W) := reach_at h
  clear h
  unfold reachE at CR
  unfold slotE
  cases ho : st.off
  · rw [ho] at CR
    by_cases h1 : x < 0
    · have e : ¬ (0 ≤ x ∧ x < (st.sl.length : Int)) := by omega
      rw [if_neg (by simp), if_neg e]
      rw [if_neg (by simp)] at CR
      clear e
      go_enter Tryz.func64, Tryz.ntmps64
      go_wp2_with (go_at_call 55; refine CR.out.mono ?_; rintro e w' ⟨rfl, rfl⟩)
      go_ret
      exact ⟨rfl, 0, rfl⟩
    · have h1' : decide (x < 0) = false := by simp; omega
      by_cases h2 : x < (st.sl.length : Int)
      · have e : (0 ≤ x ∧ x < (st.sl.length : Int)) := by omega
        have h2' : decide ((st.sl.length : Int) ≤ x) = false := by simp; omega
        rw [if_neg (by simp), if_pos e]
        rw [if_neg (by simp)] at CR
        clear e
        go_enter Tryz.func64, Tryz.ntmps64
        go_wp2_with (go_at_call 55; refine CR.out.mono ?_; rintro e w' ⟨rfl, rfl⟩)
        go_ret
        exact ⟨rfl, 0, rfl⟩
      · have e : ¬ (0 ≤ x ∧ x < (st.sl.length : Int)) := by omega
        have h2' : decide ((st.sl.length : Int) ≤ x) = true := by simp; omega
        rw [if_neg (by simp), if_neg e]
        rw [if_neg (by simp)] at CR
        clear e
        go_enter Tryz.func64, Tryz.ntmps64
        go_wp2_with (go_at_call 55; refine CR.out.mono ?_; rintro e w' ⟨rfl, rfl⟩)
        go_ret
        exact ⟨rfl, 0, rfl⟩
  · rw [ho] at CR
    rw [if_pos rfl] at CR ⊢
    go_enter Tryz.func64, Tryz.ntmps64
    go_wp2_with (go_at_call 55; refine CR.out.mono ?_; rintro e w' ⟨rfl, rfl⟩)
    go_ret
    exact ⟨rfl, 0, rfl⟩
end Go.Proofs.YtlkllcnnnndllaaGreatDoor

/- What a shelf's calls on its slots do. -/
namespace Go.Proofs.YtlkllcnnnndllaaGreatDoor
open Go.RowKit
set_option linter.unusedVariables false

theorem modify_set {α : Type} (l : List α) (i : Nat) (s : α) (g : α → α) (h : l[i]? = some s) : l.modify i g = l.set i (g s) := by
  induction l generalizing i with
  | nil => simp at h
  | cons x r ih =>
    cases i with
    | zero => simp at h; subst h; rfl
    | succ i => simp at h; simp [ih i h]
section
variable {w W : World} {b c : Nat} {st : H.Sh} {s : H.Sl} {i : Nat}
theorem SW.t0 (h : SW w b c st W) (hs : st.sl[i]? = some s) : W.cell? ⟨c, i * 3, none⟩ = some (.string (M.bs s.text)) := by rw [cell_row h.hc]; exact (H.slC_at _ i s hs).1
theorem SW.t1 (h : SW w b c st W) (hs : st.sl[i]? = some s) : W.cell? ⟨c, i * 3 + 1, none⟩ = some (.string (M.bs s.sure)) := by rw [cell_row h.hc]; exact (H.slC_at _ i s hs).2.1
theorem SW.t2 (h : SW w b c st W) (hs : st.sl[i]? = some s) : W.cell? ⟨c, i * 3 + 2, none⟩ = some (.bool s.un) := by rw [cell_row h.hc]; exact (H.slC_at _ i s hs).2.2
end

/-- a slot's three cells, written anew -/
theorem SW.three {w W : World} {b c : Nat} {st : H.Sh} {s : H.Sl} {i : Nat} (h : SW w b c st W) (hs : st.sl[i]? = some s) (t u : List UInt8) (v : Bool) :
    SW w b c { st with sl := st.sl.set i ⟨t, u, v⟩ } (((W.setCell ⟨c, i * 3, none⟩ (.string (M.bs t))).setCell ⟨c, i * 3 + 1, none⟩ (.string (M.bs u))).setCell ⟨c, i * 3 + 2, none⟩ (.bool v)) := by
  have hi : i < st.sl.length := (List.getElem?_eq_some_iff.1 hs).1
  have h1 := SW.slot h (st.sl.set i { s with text := t }) (i * 3) (.string (M.bs t)) ((H.slC_set _ i s hs).1 t) (by simp)
  have g1 : (st.sl.set i { s with text := t })[i]? = some { s with text := t } := by simp [hi]
  have h2 := SW.slot h1 _ (i * 3 + 1) (.string (M.bs u)) ((H.slC_set _ i _ g1).2.1 u) (by simp)
  have g2 : ((st.sl.set i { s with text := t }).set i { ({ s with text := t } : H.Sl) with sure := u })[i]? = some { ({ s with text := t } : H.Sl) with sure := u } := by simp [hi]
  have h3 := SW.slot h2 _ (i * 3 + 2) (.bool v) ((H.slC_set _ i _ g2).2.2 v) (by simp)
  simpa using h3
/-- a slot's text and its mark, written anew -/
theorem SW.two {w W : World} {b c : Nat} {st : H.Sh} {s : H.Sl} {i : Nat} (h : SW w b c st W) (hs : st.sl[i]? = some s) (t : List UInt8) :
    SW w b c (H.put st i t) ((W.setCell ⟨c, i * 3, none⟩ (.string (M.bs t))).setCell ⟨c, i * 3 + 2, none⟩ (.bool true)) := by
  have hi : i < st.sl.length := (List.getElem?_eq_some_iff.1 hs).1
  have h1 := SW.slot h (st.sl.set i { s with text := t }) (i * 3) (.string (M.bs t)) ((H.slC_set _ i s hs).1 t) (by simp)
  have g1 : (st.sl.set i { s with text := t })[i]? = some { s with text := t } := by simp [hi]
  have h2 := SW.slot h1 _ (i * 3 + 2) (.bool true) ((H.slC_set _ i _ g1).2.2 true) (by simp)
  unfold H.put
  rw [modify_set _ _ s _ hs]
  simpa using h2

set_option maxHeartbeats 1000000 in
theorem settle_at {w W : World} {b c : Nat} {st : H.Sh} {s : H.Sl} {i : Nat} (h : SW w b c st W) (hs : st.sl[i]? = some s) (t : List UInt8) :
    Calls Tryz.prog 39 #[.pointer (some ⟨c, i * 3, none⟩), .string (M.bs t)] W fun e w' => e = .returned (.tuple #[]) ∧ SW w b c { st with sl := st.sl.set i (H.settle t) } w' := by
  have k0 := h.t0 hs
  have k1 := h.t1 hs
  have k2 := h.t2 hs
  have f := h.fc
  have HH : Hid (SW w b c { st with sl := st.sl.set i (H.settle t) } (((W.setCell ⟨c, i * 3, none⟩ (.string (M.bs t))).setCell ⟨c, i * 3 + 1, none⟩ (.string (M.bs t))).setCell ⟨c, i * 3 + 2, none⟩ (.bool false))) := h.three hs t t false
  clear h hs
  go_enter Tryz.func39, Tryz.ntmps39
  go_wp2_with fail
  refine bodyPost_end (results_none rfl _ _ _) rfl ?_
  exact ⟨rfl, HH.out⟩

theorem remainder_at (n m : Int) (h1 : -9223372036854775808 ≤ n) (h2 : n ≤ 9223372036854775807) (h3 : 0 < m) (h4 : m ≤ 9223372036854775807) (W : World) :
    Calls Tryz.prog 57 #[.int .i64 n, .int .i64 m] W fun e w' => e = .returned (.int .i64 (H.rem n m)) ∧ w' = W := by
  have b1 : -m < n.tmod m := by have := Int.lt_tmod_of_pos n h3; omega
  have b2 : n.tmod m < m := Int.tmod_lt_of_pos n h3
  have q : (m == 0) = false := by simp; omega
  unfold H.rem
  by_cases hr : n.tmod m < 0
  · rw [if_pos hr]
    go_enter Tryz.func57, Tryz.ntmps57
    go_wp2_with fail
    go_ret
    exact ⟨rfl, rfl⟩
  · rw [if_neg hr]
    go_enter Tryz.func57, Tryz.ntmps57
    go_wp2_with fail
    go_ret
    exact ⟨rfl, rfl⟩
end Go.Proofs.YtlkllcnnnndllaaGreatDoor

/- What a fate leaves; Write, Read, Sync. -/
namespace Go.Proofs.YtlkllcnnnndllaaGreatDoor
open Go.RowKit
set_option linter.unusedVariables false

theorem bs_cat (a b : List UInt8) : M.bs a ++ M.bs b = M.bs (a ++ b) := by
  apply ByteArray.ext
  simp [M.bs]
theorem take_bsH (s : List UInt8) (n : Nat) : (M.bs s).extract 0 n = M.bs (s.take n) := by
  rw [Lib.extract_eq]; simp [M.bs]
theorem drop_bsH (r : List UInt8) (n : Nat) : (M.bs r).extract n (M.bs r).size = M.bs (r.drop n) := by
  rw [Lib.extract_eq]
  simp [M.bs, ByteArray.size]
  exact List.take_of_length_le (by simp)
theorem rem_bounds (n m : Int) (h : 0 < m) : 0 ≤ H.rem n m ∧ H.rem n m < m := by
  have b1 : -m < n.tmod m := Int.lt_tmod_of_pos n h
  have b2 : n.tmod m < m := Int.tmod_lt_of_pos n h
  unfold H.rem
  split <;> omega

set_option maxHeartbeats 1000000 in
theorem left_at {w W : World} {b c : Nat} {st : H.Sh} {s : H.Sl} {i : Nat} (h : SW w b c st W) (hs : st.sl[i]? = some s) (h1 : s.text.length ≤ 640) (h2 : s.sure.length ≤ 640) (f : Int) (f1 : -9223372036854775808 ≤ f) (f2 : f ≤ 9223372036854775807) :
    Calls Tryz.prog 40 #[.pointer (some ⟨c, i * 3, none⟩), .int .i64 f] W fun e w' => e = .returned (.string (M.bs (H.left s f))) ∧ ∃ n, w' = W.drewN n := by
  have k0 := h.t0 hs
  have k1 := h.t1 hs
  obtain ⟨r1, r2⟩ := rem_bounds f 3 (by omega)
  have C1 : Hid (∀ W', Calls Tryz.prog 57 #[.int .i64 f, .int .i64 3] W' fun e w' => e = .returned (.int .i64 (H.rem f 3)) ∧ w' = W') := fun W' => remainder_at f 3 f1 f2 (by omega) (by omega) W'
  clear h hs
  unfold H.left
  rcases (by omega : H.rem f 3 = 0 ∨ H.rem f 3 = 1 ∨ H.rem f 3 = 2) with e | e | e
  · rw [if_pos e]
    rw [e] at C1
    clear r1 r2 e
    go_enter Tryz.func40, Tryz.ntmps40
    go_wp2_with (go_at_call 57; refine (C1.out _).mono ?_; rintro e w' ⟨rfl, rfl⟩)
    go_ret
    exact ⟨rfl, 0, rfl⟩
  · rw [if_neg (by omega), if_pos e]
    rw [e] at C1
    clear r1 r2 e
    go_enter Tryz.func40, Tryz.ntmps40
    go_wp2_with (go_at_call 57; refine (C1.out _).mono ?_; rintro e w' ⟨rfl, rfl⟩)
    go_ret
    exact ⟨rfl, 0, rfl⟩
  · rw [if_neg (by omega), if_neg (by omega)]
    rw [e] at C1
    clear r1 r2 e
    have hd : -9223372036854775808 ≤ f.tdiv 3 ∧ f.tdiv 3 ≤ 9223372036854775807 := by
      have : (f.tdiv 3).natAbs = f.natAbs / 3 := by rw [Int.natAbs_tdiv]; rfl
      omega
    obtain ⟨r1, r2⟩ := rem_bounds (f.tdiv 3) ((s.text.length : Int) + 1) (by omega)
    have C2 : Hid (∀ W', Calls Tryz.prog 57 #[.int .i64 (f.tdiv 3), .int .i64 ((s.text.length : Int) + 1)] W' fun e w' => e = .returned (.int .i64 (H.rem (f.tdiv 3) ((s.text.length : Int) + 1))) ∧ w' = W') := fun W' => remainder_at _ _ hd.1 hd.2 (by omega) (by omega) W'
    obtain ⟨n, hn⟩ : ∃ n : Nat, H.rem (f.tdiv 3) ((s.text.length : Int) + 1) = (n : Int) := ⟨_, (Int.toNat_of_nonneg r1).symm⟩
    rw [hn] at C2 r1 r2 ⊢
    rw [Int.toNat_natCast]
    obtain ⟨d1, d2⟩ := hd
    have z1 := M.bs_size s.text
    have z2 := M.bs_size s.sure
    have t1 := take_bsH s.text n
    have hnn : ((n : Int)).toNat = n := by omega
    have hle : (n : Int) ≤ (s.text.length : Int) := by omega
    clear hn r2
    by_cases hm : n ≤ s.sure.length
    · have t2 := drop_bsH s.sure n
      rw [z2] at t2
      have hap := bs_cat (s.text.take n) (s.sure.drop n)
      have y1 := M.bs_size (s.text.take n)
      have y2 := M.bs_size (s.sure.drop n)
      have hmi : (n : Int) ≤ (s.sure.length : Int) := by omega
      go_enter Tryz.func40, Tryz.ntmps40
      go_wp2_with (first
        | (go_at_call 57; refine (C1.out _).mono ?_; clear C1; rintro e w' ⟨rfl, rfl⟩)
        | (go_at_call 57; refine (C2.out _).mono ?_; rintro e w' ⟨rfl, rfl⟩))
      go_quiet (fail)
      go_wp2_with fail
      go_ret
      exact ⟨rfl, _, rfl⟩
    · have t2 := drop_bsH s.sure s.sure.length
      rw [z2] at t2
      rw [List.drop_length] at t2
      have e : s.text.take n ++ s.sure.drop n = s.text.take n := by rw [List.drop_of_length_le (by omega), List.append_nil]
      rw [e]
      clear e
      have hap := bs_cat (s.text.take n) []
      rw [List.append_nil] at hap
      have y1 := M.bs_size (s.text.take n)
      have y2 := M.bs_size ([] : List UInt8)
      have hmi : (s.sure.length : Int) < (n : Int) := by omega
      go_enter Tryz.func40, Tryz.ntmps40
      go_wp2_with (first
        | (go_at_call 57; refine (C1.out _).mono ?_; clear C1; rintro e w' ⟨rfl, rfl⟩)
        | (go_at_call 57; refine (C2.out _).mono ?_; rintro e w' ⟨rfl, rfl⟩))
      go_quiet (fail)
      go_wp2_with fail
      go_ret
      exact ⟨rfl, _, rfl⟩

/-- all texts are of 640 bytes at most, and there are so many slots at most -/
structure Sm (st : H.Sh) : Prop where
  n : st.sl.length ≤ 128
  t : ∀ (i : Nat) (s : H.Sl), st.sl[i]? = some s → s.text.length ≤ 640 ∧ s.sure.length ≤ 640
  a : st.acts ≤ 1000000
  l : st.life ≤ 1000000
  m : st.arm ≤ 9223372036854775807

theorem Read_at {w W : World} {b c : Nat} {st : H.Sh} {s : H.Sl} {i : Nat} (h : SW w b c st W) (hs : st.sl[i]? = some s) (hn : st.sl.length ≤ 128) (ho : st.off = false) :
    Calls Tryz.prog 46 #[.pointer (some ⟨b, 0, none⟩), .int .i64 (i : Int)] W fun e w' => e = .returned (.tuple #[.string (M.bs s.text), .int .i64 0]) ∧ ∃ n, w' = W.drewN n := by
  have k0 := h.t0 hs
  have k4 := h.c4
  have hi : i < st.sl.length := (List.getElem?_eq_some_iff.1 hs).1
  have e : slotE st (i : Int) = 0 := by unfold slotE; rw [ho, if_neg (by simp), if_pos (by omega)]
  have C1 := reachSlot_at h (i : Int) hn
  rw [e] at C1
  have C : Hid (Calls Tryz.prog 64 #[.pointer (some ⟨b, 0, none⟩), .int .i64 (i : Int)] W fun e w' => e = .returned (.int .i64 0) ∧ ∃ n, w' = W.drewN n) := C1
  clear h hs C1 ho
  clear e
  have i0 : (0 : Int) ≤ (i : Int) := by omega
  have i1 : (i : Int) < (st.sl.length : Int) := by omega
  go_enter Tryz.func46, Tryz.ntmps46
  go_wp2_with (go_at_call 64; refine C.out.mono ?_; rintro e w' ⟨rfl, n, rfl⟩)

  go_ret2
  exact ⟨rfl, n, rfl⟩
theorem Read_down {w W : World} {b c : Nat} {st : H.Sh} (h : SW w b c st W) (x : Int) (hn : st.sl.length ≤ 128) (he : slotE st x ≠ 0) :
    Calls Tryz.prog 46 #[.pointer (some ⟨b, 0, none⟩), .int .i64 x] W fun e w' => e = .returned (.tuple #[.string ⟨#[]⟩, .int .i64 (slotE st x)]) ∧ ∃ n, w' = W.drewN n := by
  have C : Hid (Calls Tryz.prog 64 #[.pointer (some ⟨b, 0, none⟩), .int .i64 x] W fun e w' => e = .returned (.int .i64 (slotE st x)) ∧ ∃ n, w' = W.drewN n) := reachSlot_at h x hn
  clear h
  have q : (slotE st x != 0) = true := by simpa using he
  generalize slotE st x = y at *
  clear he
  go_enter Tryz.func46, Tryz.ntmps46
  go_wp2_with (go_at_call 64; refine C.out.mono ?_; rintro e w' ⟨rfl, n, rfl⟩)
  go_ret2
  exact ⟨rfl, n, rfl⟩
/-- Write: refused -/
theorem Write_no {w W : World} {b c : Nat} {st : H.Sh} (h : SW w b c st W) (x : Int) (t : ByteArray) (hn : st.sl.length ≤ 128) (he : slotE st x ≠ 0) :
    Calls Tryz.prog 48 #[.pointer (some ⟨b, 0, none⟩), .int .i64 x, .string t] W fun e w' => e = .returned (.int .i64 (slotE st x)) ∧ ∃ n, w' = W.drewN n := by
  have C : Hid (Calls Tryz.prog 64 #[.pointer (some ⟨b, 0, none⟩), .int .i64 x] W fun e w' => e = .returned (.int .i64 (slotE st x)) ∧ ∃ n, w' = W.drewN n) := reachSlot_at h x hn
  clear h
  have q : (slotE st x != 0) = true := by simpa using he
  generalize slotE st x = y at *
  clear he
  go_enter Tryz.func48, Tryz.ntmps48
  go_wp2_with (go_at_call 64; refine C.out.mono ?_; rintro e w' ⟨rfl, n, rfl⟩)
  go_ret
  exact ⟨rfl, n, rfl⟩
/-- Write: too long -/
theorem Write_long {w W : World} {b c : Nat} {st : H.Sh} (h : SW w b c st W) (x : Int) (t : ByteArray) (hn : st.sl.length ≤ 128) (he : slotE st x = 0) (ht : 640 < t.size) (ht2 : t.size ≤ maxLen) :
    Calls Tryz.prog 48 #[.pointer (some ⟨b, 0, none⟩), .int .i64 x, .string t] W fun e w' => e = .returned (.int .i64 1) ∧ ∃ n, w' = W.drewN n := by
  have C1 := reachSlot_at h x hn
  rw [he] at C1
  have C : Hid (Calls Tryz.prog 64 #[.pointer (some ⟨b, 0, none⟩), .int .i64 x] W fun e w' => e = .returned (.int .i64 0) ∧ ∃ n, w' = W.drewN n) := C1
  clear h C1 he
  have hmx : maxLen ≤ 9223372036854775807 := by decide
  have ht' : (640 : Int) < (t.size : Int) := by omega
  have ht2' : (t.size : Int) ≤ 9223372036854775807 := by omega
  clear ht2 hmx ht
  go_enter Tryz.func48, Tryz.ntmps48
  go_wp2_with (go_at_call 64; refine C.out.mono ?_; rintro e w' ⟨rfl, n, rfl⟩)
  go_ret
  exact ⟨rfl, n, rfl⟩
def actE (st : H.Sh) : Int := if st.arm = 1 then 10 else 0
set_option maxHeartbeats 1000000 in
/-- Write: done, or the power goes in it -/
theorem Write_at {w W : World} {b c : Nat} {st : H.Sh} {s : H.Sl} {i : Nat} (h : SW w b c st W) (hs : st.sl[i]? = some s) (hm : Sm st) (ho : st.off = false) (t : List UInt8) (ht : t.length ≤ 640) :
    Calls Tryz.prog 48 #[.pointer (some ⟨b, 0, none⟩), .int .i64 (i : Int), .string (M.bs t)] W fun e w' => e = .returned (.int .i64 (actE st)) ∧ SW w b c (H.act (H.put st i t)) w' := by
  have k0 := h.t0 hs
  have k2 := h.t2 hs
  have k4 := h.c4
  have f := h.fc
  have hi : i < st.sl.length := (List.getElem?_eq_some_iff.1 hs).1
  have e : slotE st (i : Int) = 0 := by unfold slotE; rw [ho, if_neg (by simp), if_pos (by omega)]
  have C1 := reachSlot_at h (i : Int) hm.n
  rw [e] at C1
  have C : Hid (Calls Tryz.prog 64 #[.pointer (some ⟨b, 0, none⟩), .int .i64 (i : Int)] W fun e w' => e = .returned (.int .i64 0) ∧ ∃ n, w' = W.drewN n) := C1
  have CA : Hid (∀ W2, SW w b c (H.put st i t) W2 → Calls Tryz.prog 56 #[.pointer (some ⟨b, 0, none⟩)] W2 fun e w' => e = .returned (.bool (H.lasts st)) ∧ SW w b c (H.act (H.put st i t)) w') := fun W2 h2 =>
    act_at (st := H.put st i t) h2 ho hm.l hm.a hm.m
  have HT : Hid (∀ W1, SW w b c st W1 → SW w b c (H.put st i t) ((W1.setCell ⟨c, i * 3, none⟩ (.string (M.bs t))).setCell ⟨c, i * 3 + 2, none⟩ (.bool true))) := fun W1 h1 => h1.two hs t
  have HH : Hid (SW w b c st W) := h
  clear h hs C1
  clear e
  have z := M.bs_size t
  have i0 : (0 : Int) ≤ (i : Int) := by omega
  have hn := hm.n
  have i1 : (i : Int) < (st.sl.length : Int) := by omega
  unfold actE
  by_cases ha : st.arm = 1
  · have el : H.lasts st = false := by simp [H.lasts, ha]
    rw [if_pos ha]
    rw [el] at CA
    clear hm ho ha el
    go_enter Tryz.func48, Tryz.ntmps48
    go_wp2_with (first
      | (go_at_call 64; refine C.out.mono ?_; rintro e w' ⟨rfl, n, rfl⟩))
    go_region
    go_wp2_with (go_at_call 56; refine (CA.out _ (by first | exact HT.out _ (HH.out.drewN n).drew | exact (HT.out _ (HH.out.drewN n)).drew)).mono ?_; rintro e w' ⟨rfl, HG⟩)
    go_ret
    exact ⟨rfl, HG⟩
  · have el : H.lasts st = true := by simp [H.lasts, ha]
    rw [if_neg ha]
    rw [el] at CA
    clear hm ho ha el
    go_enter Tryz.func48, Tryz.ntmps48
    go_wp2_with (first
      | (go_at_call 64; refine C.out.mono ?_; rintro e w' ⟨rfl, n, rfl⟩))
    go_region
    go_wp2_with (go_at_call 56; refine (CA.out _ (by first | exact HT.out _ (HH.out.drewN n).drew | exact (HT.out _ (HH.out.drewN n)).drew)).mono ?_; rintro e w' ⟨rfl, HG⟩)
    go_ret
    exact ⟨rfl, HG⟩
end Go.Proofs.YtlkllcnnnndllaaGreatDoor

/- Sync, On, New. -/
namespace Go.Proofs.YtlkllcnnnndllaaGreatDoor
open Go.RowKit
set_option linter.unusedVariables false

/-- the first k of l', the others of l -/
def mixK {α : Type} (l l' : List α) (k : Nat) : List α := l'.take k ++ l.drop k
theorem mixK_zero {α : Type} (l l' : List α) : mixK l l' 0 = l := by simp [mixK]
theorem mixK_all {α : Type} (l l' : List α) (k : Nat) (h : l'.length = l.length) (hk : k = l.length) : mixK l l' k = l' := by
  unfold mixK; rw [List.take_of_length_le (by omega), List.drop_of_length_le (by omega), List.append_nil]
theorem mixK_length {α : Type} (l l' : List α) (k : Nat) (h : l'.length = l.length) : (mixK l l' k).length = l.length := by
  unfold mixK; simp; omega
theorem mixK_at {α : Type} (l l' : List α) (k : Nat) (h : l'.length = l.length) (s : α) (hs : l[k]? = some s) : (mixK l l' k)[k]? = some s := by
  have hk : k < l.length := (List.getElem?_eq_some_iff.1 hs).1
  unfold mixK
  rw [List.getElem?_append_right (by simp; omega), List.getElem?_drop]
  rw [← hs]; congr 1; simp; omega
theorem mixK_set {α : Type} (l l' : List α) (k : Nat) (h : l'.length = l.length) (s' : α) (hs : l'[k]? = some s') : (mixK l l' k).set k s' = mixK l l' (k + 1) := by
  have hk : k < l'.length := (List.getElem?_eq_some_iff.1 hs).1
  unfold mixK
  rw [List.set_append_right _ _ (by simp; omega), List.take_add_one, hs]
  have e : k - (l'.take k).length = 0 := by simp; omega
  rw [e, List.drop_eq_getElem_cons (by omega : k < l.length), List.append_assoc]
  rfl

theorem act_sl (st : H.Sh) : (H.act st).sl = st.sl := by
  unfold H.act
  by_cases h : st.arm = 0
  · rw [if_pos h]
  · rw [if_neg h]
    by_cases h2 : st.arm = 1
    · rw [if_pos h2]
    · rw [if_neg h2]
theorem syncL_at (l : List H.Sl) (k : Nat) (s : H.Sl) (h : l[k]? = some s) : (l.map (fun s => H.settle s.text))[k]? = some (H.settle s.text) := by simp [h]

/-- Sync: refused -/
theorem Sync_down {w W : World} {b c : Nat} {st : H.Sh} (h : SW w b c st W) (ho : st.off = true) :
    Calls Tryz.prog 37 #[.pointer (some ⟨b, 0, none⟩)] W fun e w' => e = .returned (.int .i64 10) ∧ w' = W := by
  have C1 := reach_at h
  rw [show reachE st = 10 by simp [reachE, ho]] at C1
  have C : Hid (Calls Tryz.prog 55 #[.pointer (some ⟨b, 0, none⟩)] W fun e w' => e = .returned (.int .i64 10) ∧ w' = W) := C1
  clear h C1 ho
  go_enter Tryz.func37, Tryz.ntmps37
  go_wp2_with (go_at_call 55; refine C.out.mono ?_; rintro e w' ⟨rfl, rfl⟩)
  go_ret
  exact ⟨rfl, rfl⟩
/-- Sync: the power goes in it -/
theorem Sync_cut {w W : World} {b c : Nat} {st : H.Sh} (h : SW w b c st W) (ho : st.off = false) (hm : Sm st) (ha : st.arm = 1) :
    Calls Tryz.prog 37 #[.pointer (some ⟨b, 0, none⟩)] W fun e w' => e = .returned (.int .i64 10) ∧ SW w b c (H.act st) w' := by
  have C1 := reach_at h
  rw [show reachE st = 0 by simp [reachE, ho]] at C1
  have C : Hid (Calls Tryz.prog 55 #[.pointer (some ⟨b, 0, none⟩)] W fun e w' => e = .returned (.int .i64 0) ∧ w' = W) := C1
  have C2 := act_at h ho hm.l hm.a hm.m
  rw [show H.lasts st = false by simp [H.lasts, ha]] at C2
  have CA : Hid (Calls Tryz.prog 56 #[.pointer (some ⟨b, 0, none⟩)] W fun e w' => e = .returned (.bool false) ∧ SW w b c (H.act st) w') := C2
  clear h C1 C2 ho ha hm
  go_enter Tryz.func37, Tryz.ntmps37
  go_wp2_with (first
    | (go_at_call 55; refine C.out.mono ?_; rintro e w' ⟨rfl, rfl⟩)
    | (go_at_call 56; refine CA.out.mono ?_; rintro e w' ⟨rfl, HG⟩))
  go_ret
  exact ⟨rfl, HG⟩
set_option maxHeartbeats 1000000 in
/-- Sync: done -/
theorem Sync_at {w W : World} {b c : Nat} {st : H.Sh} (h : SW w b c st W) (ho : st.off = false) (hm : Sm st) (ha : st.arm ≠ 1) :
    Calls Tryz.prog 37 #[.pointer (some ⟨b, 0, none⟩)] W fun e w' => e = .returned (.int .i64 0) ∧ SW w b c (H.sync (H.act st)) w' := by
  have C1 := reach_at h
  rw [show reachE st = 0 by simp [reachE, ho]] at C1
  have C : Hid (Calls Tryz.prog 55 #[.pointer (some ⟨b, 0, none⟩)] W fun e w' => e = .returned (.int .i64 0) ∧ w' = W) := C1
  have C2 := act_at h ho hm.l hm.a hm.m
  rw [show H.lasts st = true by simp [H.lasts, ha]] at C2
  have hn : (H.act st).sl.length ≤ 128 := by
    have := hm.n
    have e : (H.act st).sl = st.sl := act_sl st
    rw [e]; exact this
  obtain ⟨u, hu⟩ : ∃ u, u = H.act st := ⟨_, rfl⟩
  rw [← hu] at C2 hn ⊢
  have CA : Hid (Calls Tryz.prog 56 #[.pointer (some ⟨b, 0, none⟩)] W fun e w' => e = .returned (.bool true) ∧ SW w b c u w') := C2
  clear h C1 C2 ho ha hm hu
  unfold H.sync
  obtain ⟨l', hl'⟩ : ∃ l', l' = u.sl.map (fun s => H.settle s.text) := ⟨_, rfl⟩
  have HL : Hid (l'.length = u.sl.length) := by show _ = _; rw [hl']; simp
  have HA : Hid (∀ (k : Nat) (s : H.Sl), u.sl[k]? = some s → l'[k]? = some (H.settle s.text)) := fun k s h => by rw [hl']; exact syncL_at _ _ _ h
  rw [← hl']
  clear hl'
  go_enter Tryz.func37, Tryz.ntmps37
  go_wp2_with (first
    | (go_at_call 55; refine C.out.mono ?_; rintro e w' ⟨rfl, rfl⟩)
    | (go_at_call 56; refine CA.out.mono ?_; rintro e w1 ⟨rfl, HG⟩; have k4 := HG.c4))
  have HG' : Hid (SW w b c u w1) := HG
  clear HG k4 C CA
  go_loopw [4, 20] (fun u4 u20 wr => ∃ k : Nat, k ≤ u.sl.length ∧ u20 = .int .i64 k ∧ SW w b c { u with sl := mixK u.sl l' k } wr) (fun _ u20 _ => u.sl.length - (intOf u20).toNat)
  case atStart => exact ⟨0, Nat.zero_le _, rfl, by rw [mixK_zero]; exact HG'.out⟩
  case round =>
    obtain ⟨k, hk, rfl, hS⟩ := hrel
    clear HG'
    have HS : Hid (SW w b c { u with sl := mixK u.sl l' k } wr) := hS
    by_cases hlt : k < u.sl.length
    · obtain ⟨s, hs⟩ : ∃ s, u.sl[k]? = some s := ⟨u.sl[k], List.getElem?_eq_getElem hlt⟩
      have hsk := mixK_at u.sl l' k HL.out s hs
      have k4 := hS.c4
      have k0 := hS.t0 hsk
      have el : (mixK u.sl l' k).length = u.sl.length := mixK_length _ _ _ HL.out
      simp only [el] at k4
      have CS : Hid (∀ W2, SW w b c { u with sl := mixK u.sl l' k } W2 → Calls Tryz.prog 39 #[.pointer (some ⟨c, k * 3, none⟩), .string (M.bs s.text)] W2 fun e w' => e = .returned (.tuple #[]) ∧ SW w b c { u with sl := mixK u.sl l' (k + 1) } w') := fun W2 h2 => by
        have := settle_at h2 hsk s.text
        rwa [show (mixK u.sl l' k).set k (H.settle s.text) = mixK u.sl l' (k + 1) from mixK_set _ _ _ HL.out _ (HA.out k s hs)] at this
      have i0 : (0 : Int) ≤ (k : Int) := by omega
      have i1 : (k : Int) < (u.sl.length : Int) := by omega
      clear hS hs hsk el
      go_wp2_with fail
      go_region_with (go_at_call 39; refine (CS.out _ (by first | exact HS.out | exact HS.out.drew | exact HS.out.drewN _)).mono ?_; rintro e w2 ⟨rfl, HG⟩)
      all_goals
        go_wp2_with fail
        go_roundw
        case rel => exact ⟨k + 1, by omega, by go_num, HG⟩
        case measure => simp [intOf]; omega
    · have hkk : k = u.sl.length := by omega
      have HQ : SW w b c { u with sl := l' } wr := by have := HS.out; rwa [mixK_all _ _ _ HL.out hkk] at this
      clear hS HS HL HA
      clear hkk
      have hdf : decide ((k : Int) < (u.sl.length : Int)) = false := by simp; omega
      go_wp2_with fail
      go_ret
      exact ⟨rfl, HQ⟩

theorem back_at (F : List Int) (l : List H.Sl) (k : Nat) (s : H.Sl) (h : l[k]? = some s) : (l.mapIdx (H.back F l))[k]? = some (H.back F l k s) := by simp [h]
theorem on_length (F : List Int) (l : List H.Sl) : (l.mapIdx (H.back F l)).length = l.length := by simp
theorem left_le (s : H.Sl) (f : Int) (h1 : s.text.length ≤ 640) (h2 : s.sure.length ≤ 640) : (H.left s f).length ≤ 640 := by
  unfold H.left
  split
  · exact h2
  · split
    · exact h1
    · simp; omega
/-- fates as a slice of numbers, read in the world w, outside of the blocks b and c -/
def FT (w : World) (b c : Nat) (a : Option Addr) (F : List Int) : Prop := ∀ i x, F[i]? = some x → ∃ sb off, a = some ⟨sb, off, none⟩ ∧ sb < w.heap.size ∧ sb ≠ b ∧ sb ≠ c ∧ w.cell? ⟨sb, off + i, none⟩ = some (.int .i64 x)
theorem tmod_nat (x n : Nat) : Int.tmod (x : Int) (n : Int) = ((x % n : Nat) : Int) := rfl
theorem On_on {w W : World} {b c : Nat} {st : H.Sh} (h : SW w b c st W) (ho : st.off = false) (v : Value) :
    Calls Tryz.prog 16 #[.pointer (some ⟨b, 0, none⟩), v] W fun e w' => e = .returned (.tuple #[]) ∧ ∃ n, w' = W.drewN n := by
  have k0 := h.c0
  rw [ho] at k0
  clear h ho
  go_enter Tryz.func16, Tryz.ntmps16
  go_wp2_with fail
  refine bodyPost_ret (results_none rfl _ _ _) rfl ?_
  exact ⟨rfl, 0, rfl⟩
set_option maxHeartbeats 2000000 in
theorem On_some {w W : World} {b c : Nat} {st : H.Sh} (h : SW w b c st W) (ho : st.off = true) (hm : Sm st) (F : List Int) (a : Option Addr) (cap : Nat) (HF : Hid (FT w b c a F)) (h0 : 0 < F.length) (hl : F.length ≤ 9223372036854775807) (hb : ∀ x ∈ F, -9223372036854775808 ≤ x ∧ x ≤ 9223372036854775807) :
    Calls Tryz.prog 16 #[.pointer (some ⟨b, 0, none⟩), .slice a F.length cap] W fun e w' => e = .returned (.tuple #[]) ∧ SW w b c { st with off := false, sl := st.sl.mapIdx (H.back F st.sl) } w' := by
  have k0 := h.c0
  have k4 := h.c4
  have f := h.fb
  rw [ho] at k0
  have HH : Hid (SW w b c st W) := h
  obtain ⟨l', hl'⟩ : ∃ l', l' = st.sl.mapIdx (H.back F st.sl) := ⟨_, rfl⟩
  have HL : Hid (l'.length = st.sl.length) := by show _ = _; rw [hl']; simp
  have HA : Hid (∀ (k : Nat) (s : H.Sl), st.sl[k]? = some s → l'[k]? = some (H.back F st.sl k s)) := fun k s h => by rw [hl']; exact back_at _ _ _ _ h
  rw [← hl']
  clear hl'
  have hz0 : ((F.length : Int) == 0) = false := beq_eq_false_iff_ne.2 (by omega)
  clear h ho
  go_enter Tryz.func16, Tryz.ntmps16
  go_wp2_with fail
  have HG : Hid (SW w b c { st with off := false } (W.setCell ⟨b, 0, none⟩ (.bool false))) := SW.pow HH.out _ _ _ rfl rfl
  generalize W.setCell ⟨b, 0, none⟩ (.bool false) = W1 at *
  clear k0 k4 f HH
  go_loopw [4, 5, 6, 30] (fun u4 u5 u6 u30 wr => ∃ k : Nat, k ≤ st.sl.length ∧ u30 = .int .i64 k ∧ u4 = .int .i64 (H.nx st.sl k : Int) ∧ SW w b c { st with off := false, sl := mixK st.sl l' k } wr) (fun _ _ _ u30 _ => st.sl.length - (intOf u30).toNat)
  case atStart => exact ⟨0, Nat.zero_le _, rfl, rfl, by rw [mixK_zero]; exact HG.out⟩
  case round =>
    obtain ⟨k, hk, rfl, rfl, hS⟩ := hrel
    clear HG
    have HS : Hid (SW w b c { st with off := false, sl := mixK st.sl l' k } wr) := hS
    by_cases hlt : k < st.sl.length
    · obtain ⟨s, hs⟩ : ∃ s, st.sl[k]? = some s := ⟨st.sl[k], List.getElem?_eq_getElem hlt⟩
      have hsk := mixK_at st.sl l' k HL.out s hs
      have k4 := hS.c4
      have k2 := hS.t2 hsk
      have el : (mixK st.sl l' k).length = st.sl.length := mixK_length _ _ _ HL.out
      simp only [el] at k4
      have hmn := hm.n
      have hx := H.nx_le st.sl k
      have hx2 := H.nx_succ st.sl k s hs
      have i0 : (0 : Int) ≤ (k : Int) := by omega
      have i1 : (k : Int) < (st.sl.length : Int) := by omega
      have hset := mixK_set st.sl l' k HL.out _ (HA.out k s hs)
      obtain ⟨j, hj⟩ : ∃ j, j = H.nx st.sl k % F.length := ⟨_, rfl⟩
      have hjl : j < F.length := by rw [hj]; exact Nat.mod_lt _ h0
      cases hun : s.un
      · rw [hun] at k2
        have eb : H.back F st.sl k s = s := by simp [H.back, hun]
        rw [eb] at hset
        have es : (mixK st.sl l' k).set k s = mixK st.sl l' k := by
          apply List.ext_getElem?
          intro q
          by_cases hq : k = q
          · subst hq; rw [List.getElem?_set_self (by omega), hsk]
          · rw [List.getElem?_set_ne hq]
        rw [es] at hset
        have HS2 : Hid (SW w b c { st with off := false, sl := mixK st.sl l' (k + 1) } wr) := by rw [← hset]; exact HS.out
        have HX : Hid (H.nx st.sl (k + 1) = H.nx st.sl k) := by show _ = _; rw [hx2, hun]; rfl
        clear hset es eb hS hs hsk el hx2 hj
        go_wp2_with fail
        go_roundw
        case rel => exact ⟨k + 1, by omega, by go_num, by rw [HX.out], HS2.out⟩
        case measure => simp [intOf]; omega
      · rw [hun] at k2
        have eb : H.back F st.sl k s = H.settle (H.left s (F.getD j 0)) := by simp [H.back, hun, hj]
        rw [eb] at hset
        obtain ⟨f, hf⟩ : ∃ f, F[j]? = some f := ⟨F[j], List.getElem?_eq_getElem hjl⟩
        have hfd : F.getD j 0 = f := by rw [List.getD_eq_getElem?_getD, hf]; rfl
        rw [hfd] at hset
        obtain ⟨sb, off, rfl, hsb, n1, n2, hcell⟩ := HF.out j f hf
        have hc : wr.cell? ⟨sb, off + j, none⟩ = some (.int .i64 f) := by rw [hS.o.cell (p := ⟨sb, off + j, none⟩) hsb n1 n2]; exact hcell
        obtain ⟨b1, b2⟩ := hb f (List.mem_of_getElem? hf)
        obtain ⟨t1, t2⟩ := hm.t k s hs
        have CL : Hid (Calls Tryz.prog 40 #[.pointer (some ⟨c, k * 3, none⟩), .int .i64 f] wr fun e w' => e = .returned (.string (M.bs (H.left s f))) ∧ ∃ n, w' = wr.drewN n) := left_at hS hsk t1 t2 f b1 b2
        have CS : Hid (∀ W2, SW w b c { st with off := false, sl := mixK st.sl l' k } W2 → Calls Tryz.prog 39 #[.pointer (some ⟨c, k * 3, none⟩), .string (M.bs (H.left s f))] W2 fun e w' => e = .returned (.tuple #[]) ∧ SW w b c { st with off := false, sl := mixK st.sl l' (k + 1) } w') := fun W2 h2 => by
          have := settle_at h2 hsk (H.left s f)
          rwa [show (mixK st.sl l' k).set k (H.settle (H.left s f)) = mixK st.sl l' (k + 1) from hset] at this
        have HX : Hid (H.nx st.sl (k + 1) = H.nx st.sl k + 1) := by show _ = _; rw [hx2, hun]; rfl
        have hr : Int.tmod (H.nx st.sl k : Int) (F.length : Int) = (j : Int) := by rw [tmod_nat, hj]
        have hz : ((F.length : Int) == 0) = false := beq_eq_false_iff_ne.2 (by omega)
        have j0 : (0 : Int) ≤ (j : Int) := by omega
        have j1 : (j : Int) < (F.length : Int) := by omega
        clear hset eb hS hs hsk el hx2 hj hf hfd hcell
        have hxi : (H.nx st.sl k : Int) ≤ 128 := by omega
        go_wp2_with (first
          | (go_at_call 40; refine CL.out.mono ?_; rintro e w2 ⟨rfl, n, rfl⟩)
          | (go_at_call 39; refine (CS.out _ (HS.out.drewN n)).mono ?_; rintro e w2 ⟨rfl, HG⟩))
        go_roundw
        case rel => exact ⟨k + 1, by omega, by go_num, by rw [HX.out]; go_num, HG⟩
        case measure => simp [intOf]; omega
    · have hkk : k = st.sl.length := by omega
      have HQ : SW w b c { st with off := false, sl := l' } wr := by have := HS.out; rwa [mixK_all _ _ _ HL.out hkk] at this
      clear hS HS HL HA
      clear hkk
      have hdf : decide ((k : Int) < (st.sl.length : Int)) = false := by simp; omega
      go_wp2_with fail
      refine bodyPost_end (results_none rfl _ _ _) rfl ?_
      exact ⟨rfl, HQ⟩

set_option maxHeartbeats 2000000 in
theorem On_none {w W : World} {b c : Nat} {st : H.Sh} (h : SW w b c st W) (ho : st.off = true) (hm : Sm st) (a : Option Addr) (cap : Nat) :
    Calls Tryz.prog 16 #[.pointer (some ⟨b, 0, none⟩), .slice a 0 cap] W fun e w' => e = .returned (.tuple #[]) ∧ SW w b c { st with off := false, sl := st.sl.mapIdx (H.back [0] st.sl) } w' := by
  have k0 := h.c0
  have k4 := h.c4
  have f := h.fb
  rw [ho] at k0
  have HW : Hid (SW w b c { st with off := false } ((W.setCell ⟨b, 0, none⟩ (.bool false)).alloc (.cells #[.int .i64 0] 3))) := by
    have h1 : SW w b c { st with off := false } (W.setCell ⟨b, 0, none⟩ (.bool false)) := SW.pow h _ _ _ rfl rfl
    exact h1.alloc _
  have hlb := h.ltb
  have hlc := h.ltc
  have HF : Hid (FT ((W.setCell ⟨b, 0, none⟩ (.bool false)).alloc (.cells #[.int .i64 0] 3)) b c (some ⟨W.heap.size, 0, none⟩) [0]) := fun i x hx => by
    refine ⟨W.heap.size, 0, rfl, by simp [World.setCell], by omega, by omega, ?_⟩
    have hc := heap_alloc_new (W.setCell ⟨b, 0, none⟩ (.bool false)) (.cells #[.int .i64 0] 3)
    have hs : (W.setCell ⟨b, 0, none⟩ (.bool false)).heap.size = W.heap.size := by simp [World.setCell]
    rw [hs] at hc
    rcases i with _ | i
    · simp at hx; subst hx
      show World.cell? _ ⟨W.heap.size, 0, none⟩ = _
      unfold World.cell?
      rw [hc]; rfl
    · simp at hx
  obtain ⟨l', hl'⟩ : ∃ l', l' = st.sl.mapIdx (H.back [0] st.sl) := ⟨_, rfl⟩
  have HL : Hid (l'.length = st.sl.length) := by show _ = _; rw [hl']; simp
  have HA : Hid (∀ (k : Nat) (s : H.Sl), st.sl[k]? = some s → l'[k]? = some (H.back [0] st.sl k s)) := fun k s h => by rw [hl']; exact back_at _ _ _ _ h
  rw [← hl']
  clear hl'
  have k4' := HW.out.c4
  clear h ho hlb hlc
  go_enter Tryz.func16, Tryz.ntmps16
  go_wp2_with fail
  have HG : Hid (SW ((W.setCell ⟨b, 0, none⟩ (.bool false)).alloc (.cells #[.int .i64 0] 3)) b c { st with off := false } ((W.setCell ⟨b, 0, none⟩ (.bool false)).alloc (.cells #[.int .i64 0] 3))) := HW.out.base
  generalize (W.setCell ⟨b, 0, none⟩ (.bool false)).alloc (.cells #[.int .i64 0] 3) = W1 at *
  generalize W.heap.size = Q at *
  clear k0 k4 f k4'
  go_loopw [4, 5, 6, 30] (fun u4 u5 u6 u30 wr => ∃ k : Nat, k ≤ st.sl.length ∧ u30 = .int .i64 k ∧ u4 = .int .i64 (H.nx st.sl k : Int) ∧ SW W1 b c { st with off := false, sl := mixK st.sl l' k } wr) (fun _ _ _ u30 _ => st.sl.length - (intOf u30).toNat)
  case atStart => exact ⟨0, Nat.zero_le _, rfl, rfl, by rw [mixK_zero]; exact HG.out⟩
  case round =>
    obtain ⟨k, hk, rfl, rfl, hS⟩ := hrel
    clear HG
    have HS : Hid (SW W1 b c { st with off := false, sl := mixK st.sl l' k } wr) := hS
    by_cases hlt : k < st.sl.length
    · obtain ⟨s, hs⟩ : ∃ s, st.sl[k]? = some s := ⟨st.sl[k], List.getElem?_eq_getElem hlt⟩
      have hsk := mixK_at st.sl l' k HL.out s hs
      have k4 := hS.c4
      have k2 := hS.t2 hsk
      have el : (mixK st.sl l' k).length = st.sl.length := mixK_length _ _ _ HL.out
      simp only [el] at k4
      have hmn := hm.n
      have hx := H.nx_le st.sl k
      have hx2 := H.nx_succ st.sl k s hs
      have i0 : (0 : Int) ≤ (k : Int) := by omega
      have i1 : (k : Int) < (st.sl.length : Int) := by omega
      have hset := mixK_set st.sl l' k HL.out _ (HA.out k s hs)
      cases hun : s.un
      · rw [hun] at k2
        have eb : H.back [0] st.sl k s = s := by simp [H.back, hun]
        rw [eb] at hset
        have es : (mixK st.sl l' k).set k s = mixK st.sl l' k := by
          apply List.ext_getElem?
          intro q
          by_cases hq : k = q
          · subst hq; rw [List.getElem?_set_self (by omega), hsk]
          · rw [List.getElem?_set_ne hq]
        rw [es] at hset
        have HS2 : Hid (SW W1 b c { st with off := false, sl := mixK st.sl l' (k + 1) } wr) := by rw [← hset]; exact HS.out
        have HX : Hid (H.nx st.sl (k + 1) = H.nx st.sl k) := by show _ = _; rw [hx2, hun]; rfl
        clear hset es eb hS hs hsk el hx2
        go_wp2_with fail
        go_roundw
        case rel => exact ⟨k + 1, by omega, by go_num, by rw [HX.out], HS2.out⟩
        case measure => simp [intOf]; omega
      · rw [hun] at k2
        have eb : H.back [0] st.sl k s = H.settle (H.left s 0) := by simp [H.back, hun, Nat.mod_one]
        rw [eb] at hset
        obtain ⟨sb, off, hsa, hsb, n1, n2, hcell⟩ := HF.out 0 0 rfl
        obtain ⟨rfl, rfl⟩ : Q = sb ∧ 0 = off := by simpa using hsa
        have hc : wr.cell? ⟨Q, 0, none⟩ = some (.int .i64 0) := by rw [hS.o.cell (p := ⟨Q, 0, none⟩) hsb n1 n2]; simpa using hcell
        obtain ⟨t1, t2⟩ := hm.t k s hs
        have CL : Hid (Calls Tryz.prog 40 #[.pointer (some ⟨c, k * 3, none⟩), .int .i64 0] wr fun e w' => e = .returned (.string (M.bs (H.left s 0))) ∧ ∃ n, w' = wr.drewN n) := left_at hS hsk t1 t2 0 (by omega) (by omega)
        have CS : Hid (∀ W2, SW W1 b c { st with off := false, sl := mixK st.sl l' k } W2 → Calls Tryz.prog 39 #[.pointer (some ⟨c, k * 3, none⟩), .string (M.bs (H.left s 0))] W2 fun e w' => e = .returned (.tuple #[]) ∧ SW W1 b c { st with off := false, sl := mixK st.sl l' (k + 1) } w') := fun W2 h2 => by
          have := settle_at h2 hsk (H.left s 0)
          rwa [show (mixK st.sl l' k).set k (H.settle (H.left s 0)) = mixK st.sl l' (k + 1) from hset] at this
        have HX : Hid (H.nx st.sl (k + 1) = H.nx st.sl k + 1) := by show _ = _; rw [hx2, hun]; rfl
        have hr : Int.tmod (H.nx st.sl k : Int) 1 = 0 := Int.tmod_one _
        clear hset eb hS hs hsk el hx2 hcell hsa
        have hxi : (H.nx st.sl k : Int) ≤ 128 := by omega
        go_wp2_with (first
          | (go_at_call 40; refine CL.out.mono ?_; rintro e w2 ⟨rfl, n, rfl⟩)
          | (go_at_call 39; refine (CS.out _ (HS.out.drewN n)).mono ?_; rintro e w2 ⟨rfl, HG⟩))
        go_roundw
        case rel => exact ⟨k + 1, by omega, by go_num, by rw [HX.out]; go_num, HG⟩
        case measure => simp [intOf]; omega
    · have hkk : k = st.sl.length := by omega
      have HQ : SW W1 b c { st with off := false, sl := l' } wr := by have := HS.out; rwa [mixK_all _ _ _ HL.out hkk] at this
      clear hS HS HL HA
      clear hkk
      have hdf : decide ((k : Int) < (st.sl.length : Int)) = false := by simp; omega
      go_wp2_with fail
      refine bodyPost_end (results_none rfl _ _ _) rfl ?_
      exact ⟨rfl, HW.out.trans HQ⟩
end Go.Proofs.YtlkllcnnnndllaaGreatDoor

/- New, and what a nil shelf answers. -/
namespace Go.Proofs.YtlkllcnnnndllaaGreatDoor
open Go.RowKit
set_option linter.unusedVariables false

def s0 : H.Sl := ⟨[], [], false⟩
def new (n : Nat) : H.Sh := ⟨false, 0, 0, 0, List.replicate n s0⟩
def zSl : Array Value := #[.string ⟨#[]⟩, .string ⟨#[]⟩, .bool false]
theorem made (n : Nat) : madeCells zSl (n * 3) = (H.slC (List.replicate n s0)).toArray := by
  have hl := H.slC_length (List.replicate n s0)
  rw [List.length_replicate] at hl
  apply Array.ext
  · rw [size_madeCells]; simp [hl]; omega
  · intro i h1 h2
    rw [size_madeCells] at h1
    have hq : (List.replicate n s0)[i / 3]? = some s0 := by rw [List.getElem?_replicate, if_pos (by omega)]
    obtain ⟨e0, e1, e2⟩ := H.slC_at _ _ _ hq
    have hg : ∀ v, (H.slC (List.replicate n s0))[i]? = some v → (H.slC (List.replicate n s0)).toArray[i] = v := fun v hv => by
      simp [List.getElem?_eq_some_iff] at hv
      simpa using hv.2
    have hz : (madeCells zSl (n * 3))[i] = zSl[i % 3]! := by simp [madeCells, zSl]
    rw [hz]
    rcases (by omega : i % 3 = 0 ∨ i % 3 = 1 ∨ i % 3 = 2) with r | r | r
    · have : i = i / 3 * 3 := by omega
      rw [r, hg (.string (M.bs s0.text)) (by rw [this]; exact e0)]; rfl
    · have : i = i / 3 * 3 + 1 := by omega
      rw [r, hg (.string (M.bs s0.sure)) (by rw [this]; exact e1)]; rfl
    · have : i = i / 3 * 3 + 2 := by omega
      rw [r, hg (.bool s0.un) (by rw [this]; exact e2)]; rfl
theorem info_parts {o : Option TypeInfo} {z : Option Value} {s b : Nat} (h : o.map (fun i => (i.zero, i.size, i.bytes)) = some (z, s, b)) : ∃ i, o = some i ∧ i.zero = z ∧ i.size = s ∧ i.bytes = b := by
  cases o with
  | none => simp at h
  | some i => simp at h; exact ⟨i, rfl, h⟩
set_option maxHeartbeats 1000000 in
theorem shNew_at (n : Nat) (hn : n ≤ 128) (w : World) :
    Calls Tryz.prog 8 #[.int .i64 (n : Int)] w fun e w' => ∃ b c, e = .returned (.pointer (some ⟨b, 0, none⟩)) ∧ w.heap.size ≤ b ∧ w.heap.size ≤ c ∧ SW w b c (new n) w' := by
  obtain ⟨i, hi, hz, hs, hb⟩ : ∃ i, Tryz.prog.info? 88 = some i ∧ i.zero = some (.agg zSl) ∧ i.size = 3 ∧ i.bytes = 40 :=
    info_parts (show (Tryz.prog.info? 88).map (fun i => (i.zero, i.size, i.bytes)) = some (some (.agg zSl), 3, 40) by kernel_rfl)
  have hmk := run_make (P := Tryz.prog) w 61 88 i (.agg zSl) Tryz.underlying61 hi hz .i64 .i64 (n : Int) (n : Int) (by omega) (by omega) (by rw [hb]; omega) (by omega)
  rw [hs, Int.toNat_natCast, show (Value.agg zSl).cells = zSl from rfl, made n] at hmk
  clear hi hz hs hb
  have hn' : (n : Int) ≤ 128 := by omega
  have hn0 : (0 : Int) ≤ (n : Int) := by omega
  go_enter Tryz.func8, Tryz.ntmps8
  go_wp2_with fail
  go_ret
  refine ⟨w.heap.size + 1, w.heap.size, rfl, by omega, by omega, ?_, ?_, by omega, ?_⟩
  · have h1 : (w.alloc (.cells (H.slC (List.replicate n s0)).toArray 88)).heap.size = w.heap.size + 1 := by simp
    have := heap_alloc_new (w.alloc (.cells (H.slC (List.replicate n s0)).toArray 88)) (.cells (H.shC (new n) w.heap.size).toArray 65)
    rw [h1] at this
    simpa [H.shC, new] using this
  · rw [Below.heap_alloc _ _ _ (by simp)]; exact heap_alloc_new _ _
  · exact Off2.of_below (((Below.refl _ w).alloc (Nat.le_refl _) _).alloc (by simp) _)

theorem reach_nil (W : World) : Calls Tryz.prog 55 #[.pointer none] W fun e w' => e = .returned (.int .i64 2) ∧ w' = W := by
  go_enter Tryz.func55, Tryz.ntmps55
  go_wp2_with fail
  go_ret
  exact ⟨rfl, rfl⟩
theorem reachSlot_nil (x : Int) (W : World) : Calls Tryz.prog 64 #[.pointer none, .int .i64 x] W fun e w' => e = .returned (.int .i64 2) ∧ w' = W := by
  have C : Hid (∀ W, Calls Tryz.prog 55 #[.pointer none] W fun e w' => e = .returned (.int .i64 2) ∧ w' = W) := reach_nil
  go_enter Tryz.func64, Tryz.ntmps64
  go_wp2_with (go_at_call 55; refine (C.out _).mono ?_; rintro e w' ⟨rfl, rfl⟩)
  go_ret
  exact ⟨rfl, rfl⟩
theorem Read_nil (x : Int) (W : World) : Calls Tryz.prog 46 #[.pointer none, .int .i64 x] W fun e w' => e = .returned (.tuple #[.string ⟨#[]⟩, .int .i64 2]) ∧ w' = W := by
  have C : Hid (∀ W, Calls Tryz.prog 64 #[.pointer none, .int .i64 x] W fun e w' => e = .returned (.int .i64 2) ∧ w' = W) := reachSlot_nil x
  go_enter Tryz.func46, Tryz.ntmps46
  go_wp2_with (go_at_call 64; refine (C.out _).mono ?_; rintro e w' ⟨rfl, rfl⟩)
  go_ret2
  exact ⟨rfl, rfl⟩
theorem Write_nil (x : Int) (t : ByteArray) (W : World) : Calls Tryz.prog 48 #[.pointer none, .int .i64 x, .string t] W fun e w' => e = .returned (.int .i64 2) ∧ w' = W := by
  have C : Hid (∀ W, Calls Tryz.prog 64 #[.pointer none, .int .i64 x] W fun e w' => e = .returned (.int .i64 2) ∧ w' = W) := reachSlot_nil x
  go_enter Tryz.func48, Tryz.ntmps48
  go_wp2_with (go_at_call 64; refine (C.out _).mono ?_; rintro e w' ⟨rfl, rfl⟩)
  go_ret
  exact ⟨rfl, rfl⟩
theorem Sync_nil (W : World) : Calls Tryz.prog 37 #[.pointer none] W fun e w' => e = .returned (.int .i64 2) ∧ w' = W := by
  have C : Hid (∀ W, Calls Tryz.prog 55 #[.pointer none] W fun e w' => e = .returned (.int .i64 2) ∧ w' = W) := reach_nil
  go_enter Tryz.func37, Tryz.ntmps37
  go_wp2_with (go_at_call 55; refine (C.out _).mono ?_; rintro e w' ⟨rfl, rfl⟩)
  go_ret
  exact ⟨rfl, rfl⟩
theorem Down_nil (W : World) : Calls Tryz.prog 24 #[.pointer none] W fun e w' => e = .returned (.bool true) ∧ w' = W := by
  go_enter Tryz.func24, Tryz.ntmps24
  go_wp2_with fail
  go_ret
  exact ⟨rfl, rfl⟩
theorem shLen_nil (W : World) : Calls Tryz.prog 26 #[.pointer none] W fun e w' => e = .returned (.int .i64 0) ∧ w' = W := by
  go_enter Tryz.func26, Tryz.ntmps26
  go_wp2_with fail
  go_ret
  exact ⟨rfl, rfl⟩
end Go.Proofs.YtlkllcnnnndllaaGreatDoor

/- The law's own 'kept' and 'awake'. -/
namespace Go.Proofs.YtlkllcnnnndllaaGreatDoor
open Go.RowKit
set_option linter.unusedVariables false

def abc : List UInt8 := [97, 98, 99]
def xy : List UInt8 := [120, 121]
def tt : List UInt8 := [116]
def K1 : H.Sh := ⟨false, 0, 1, 0, [⟨abc, [], true⟩]⟩
def K2 : H.Sh := ⟨false, 0, 2, 0, [⟨abc, abc, false⟩]⟩
def K3 : H.Sh := ⟨false, 0, 3, 0, [⟨xy, abc, true⟩]⟩
def K4 : H.Sh := ⟨true, 0, 3, 1, [⟨xy, abc, true⟩]⟩
def keptT (F : List Int) : List UInt8 := H.left ⟨xy, abc, true⟩ (F.getD 0 0)
def K5 (F : List Int) : H.Sh := ⟨false, 0, 3, 1, [H.settle (keptT F)]⟩
theorem sm_of (st : H.Sh) (h1 : st.sl.length ≤ 128) (h2 : st.sl.all (fun s => decide (s.text.length ≤ 640 ∧ s.sure.length ≤ 640)) = true) (h3 : st.acts ≤ 1000000) (h4 : st.life ≤ 1000000) (h5 : st.arm ≤ 9223372036854775807) : Sm st :=
  ⟨h1, fun i s hs => by have := List.all_eq_true.1 h2 s (List.mem_of_getElem? hs); simpa using this, h3, h4, h5⟩
theorem sm_new1 : Sm (new 1) := sm_of _ (by decide) (by decide) (by decide) (by decide) (by decide)
theorem sm_K1 : Sm K1 := sm_of _ (by decide) (by decide) (by decide) (by decide) (by decide)
theorem sm_K2 : Sm K2 := sm_of _ (by decide) (by decide) (by decide) (by decide) (by decide)
theorem sm_K4 : Sm K4 := sm_of _ (by decide) (by decide) (by decide) (by decide) (by decide)
/-- numbers as a slice, read in a world -/
def FI (w : World) (a : Option Addr) (F : List Int) : Prop := ∀ i x, F[i]? = some x → ∃ sb off, a = some ⟨sb, off, none⟩ ∧ sb < w.heap.size ∧ w.cell? ⟨sb, off + i, none⟩ = some (.int .i64 x)
theorem FI.ft {w : World} {b c : Nat} {a : Option Addr} {F : List Int} (h : FI w a F) (hb : w.heap.size ≤ b) (hc : w.heap.size ≤ c) : FT w b c a F := fun i x hx => by
  obtain ⟨sb, off, h1, h2, h3⟩ := h i x hx
  exact ⟨sb, off, h1, h2, by omega, by omega, h3⟩
/-- On, whatever the fates -/
theorem On_at {w W : World} {b c : Nat} {st : H.Sh} (h : SW w b c st W) (ho : st.off = true) (hm : Sm st) (F : List Int) (a : Option Addr) (cap : Nat) (HF : FT w b c a F) (hl : F.length ≤ 9223372036854775807) (hb : ∀ x ∈ F, -9223372036854775808 ≤ x ∧ x ≤ 9223372036854775807) :
    Calls Tryz.prog 16 #[.pointer (some ⟨b, 0, none⟩), .slice a F.length cap] W fun e w' => e = .returned (.tuple #[]) ∧ SW w b c (H.on F st) w' := by
  unfold H.on
  by_cases h0 : F.length = 0
  · rw [if_pos h0, h0]
    exact On_none h ho hm a cap
  · rw [if_neg h0]
    exact On_some h ho hm F a cap HF (by omega) hl hb

def A1 : H.Sh := ⟨false, 0, 1, 0, [s0, ⟨tt, [], true⟩]⟩
def A2 : H.Sh := ⟨false, 0, 2, 0, [s0, ⟨tt, tt, false⟩]⟩
def A3 : H.Sh := ⟨true, 0, 2, 1, [s0, ⟨tt, tt, false⟩]⟩
def A4 : H.Sh := ⟨false, 0, 2, 1, [s0, ⟨tt, tt, false⟩]⟩
theorem fi_one (W : World) (x : Int) : FI (W.alloc (.cells #[.int .i64 x] 3)) (some ⟨W.heap.size, 0, none⟩) [x] := fun i y hy => by
  refine ⟨W.heap.size, 0, rfl, by simp, ?_⟩
  have hc := heap_alloc_new W (.cells #[.int .i64 x] 3)
  rcases i with _ | i
  · simp at hy; subst hy
    show World.cell? _ ⟨W.heap.size, 0, none⟩ = _
    unfold World.cell?
    rw [hc]; rfl
  · simp at hy
end Go.Proofs.YtlkllcnnnndllaaGreatDoor

/- Calls that come in as a row; contracts for shelves of which only so much is known. -/
namespace Go.Proofs.YtlkllcnnnndllaaGreatDoor
open Go.RowKit
set_option linter.unusedVariables false

/-- a call that came in -/
structure Ac where
  kind : Int
  at' : Int
  text : List UInt8
  fates : Value
/-- calls as a slice, read in a world -/
def AC (w : World) (a : Option Addr) (l : List Ac) : Prop := ∀ i x, l[i]? = some x → ∃ sb off, a = some ⟨sb, off, none⟩ ∧ sb < w.heap.size ∧
  w.cell? ⟨sb, off + i * 4, none⟩ = some (.int .i64 x.kind) ∧ w.cell? ⟨sb, off + i * 4 + 1, none⟩ = some (.int .i64 x.at') ∧ w.cell? ⟨sb, off + i * 4 + 2, none⟩ = some (.string (M.bs x.text)) ∧ w.cell? ⟨sb, off + i * 4 + 3, none⟩ = some x.fates ∧
  (-9223372036854775808 ≤ x.at' ∧ x.at' ≤ 9223372036854775807) ∧ x.text.length ≤ maxLen ∧ (∃ a n c, x.fates = .slice a n c)
/-- so many slots, of so many bytes each -/
structure Ss (n : Nat) (l : List H.Sl) : Prop where
  n : l.length = n
  t : ∀ s ∈ l, s.text.length ≤ 640 ∧ s.sure.length ≤ 640
theorem Ss.sm {n : Nat} {l : List H.Sl} (h : Ss n l) (hn : n ≤ 128) (o : Bool) (m a f : Nat) (h1 : a ≤ 1000000) (h2 : f ≤ 1000000) (h3 : m ≤ 9223372036854775807) : Sm ⟨o, m, a, f, l⟩ :=
  ⟨by show l.length ≤ 128; rw [h.n]; exact hn, fun i s hs => h.t s (List.mem_of_getElem? hs), h1, h2, h3⟩
theorem Ss.new (n : Nat) : Ss n (List.replicate n s0) := ⟨by simp, fun s hs => by rw [List.eq_of_mem_replicate hs]; exact ⟨by decide, by decide⟩⟩
theorem Ss.sync {n : Nat} {l : List H.Sl} (h : Ss n l) : Ss n (l.map (fun s => H.settle s.text)) :=
  ⟨by simp [h.n], fun s hs => by obtain ⟨x, hx, rfl⟩ := List.mem_map.1 hs; exact ⟨(h.t x hx).1, (h.t x hx).1⟩⟩
theorem Ss.put {n : Nat} {l : List H.Sl} (h : Ss n l) (i : Nat) (t : List UInt8) (ht : t.length ≤ 640) : Ss n (l.modify i (fun s => { s with text := t, un := true })) := by
  refine ⟨by simp [h.n], fun s hs => ?_⟩
  obtain ⟨j, hj⟩ := List.mem_iff_getElem?.1 hs
  rw [List.getElem?_modify] at hj
  cases hl : l[j]? with
  | none => rw [hl] at hj; simp at hj
  | some x =>
    have hx := h.t x (List.mem_of_getElem? hl)
    rw [hl] at hj
    by_cases hij : i = j
    · simp [hij] at hj; subst hj; exact ⟨ht, hx.2⟩
    · simp [hij] at hj; subst hj; exact hx
theorem Ss.on {n : Nat} {l : List H.Sl} (h : Ss n l) (F : List Int) : Ss n (l.mapIdx (H.back F l)) := by
  refine ⟨by simp [h.n], fun s hs => ?_⟩
  obtain ⟨j, hj⟩ := List.mem_iff_getElem?.1 hs
  cases hl : l[j]? with
  | none => rw [List.getElem?_mapIdx, hl] at hj; simp at hj
  | some x =>
    have hx := h.t x (List.mem_of_getElem? hl)
    rw [back_at _ _ _ _ hl] at hj
    have := Option.some.inj hj
    subst this
    unfold H.back
    split
    · exact ⟨left_le _ _ hx.1 hx.2, left_le _ _ hx.1 hx.2⟩
    · exact hx
/-- a number, as a plain one, modulo m -/
def um (n : Int) (m : Nat) : Nat := (n % 18446744073709551616).toNat % m
theorem um_lt (n : Int) (m : Nat) (h : 0 < m) : um n m < m := Nat.mod_lt _ h
theorem um_wrap (n : Int) (m : Nat) : Int.tmod (IntKind.u64.wrap n) (m : Int) = (um n m : Int) := by
  have e : IntKind.u64.wrap n = ((n % 18446744073709551616).toNat : Int) := by
    simp only [IntKind.wrap, IntKind.bits, IntKind.signed]; simp; omega
  rw [e, tmod_nat]; rfl
end Go.Proofs.YtlkllcnnnndllaaGreatDoor

/- The walk of the law ShelfArms. -/
namespace Go.Proofs.YtlkllcnnnndllaaGreatDoor
open Go.RowKit
set_option linter.unusedVariables false

theorem SW.under {w W0 W : World} {b c : Nat} {st : H.Sh} (h : SW W0 b c st W) (hb : Below w.heap.size w W0) : SW w b c st W := ⟨h.hb, h.hc, h.ne, (Off2.of_below hb).trans h.o⟩
theorem New_u (n : Nat) (hn : n ≤ 128) {w W : World} (hb : Below w.heap.size w W) :
    Calls Tryz.prog 8 #[.int .i64 (n : Int)] W fun e w' => ∃ b c, e = .returned (.pointer (some ⟨b, 0, none⟩)) ∧ w.heap.size ≤ b ∧ w.heap.size ≤ c ∧ SW w b c (new n) w' := by
  refine (shNew_at n hn W).mono ?_
  rintro e w' ⟨b, c, rfl, h1, h2, h3⟩
  have := hb.size
  exact ⟨b, c, rfl, by omega, by omega, h3.under hb⟩
theorem Down_s {w W : World} {b c : Nat} {st : H.Sh} (h : SW w b c st W) : Calls Tryz.prog 24 #[.pointer (some ⟨b, 0, none⟩)] W fun e w' => e = .returned (.bool st.off) ∧ SW w b c st w' := by
  refine (Down_at h).mono ?_
  rintro e w' ⟨rfl, n, rfl⟩
  exact ⟨rfl, h.drewN n⟩
theorem act_0 (a l : Nat) (s : List H.Sl) : H.act ⟨false, 0, a, l, s⟩ = ⟨false, 0, a + 1, l, s⟩ := rfl
theorem act_1 (a l : Nat) (s : List H.Sl) : H.act ⟨false, 1, a, l, s⟩ = ⟨true, 0, a + 1, l + 1, s⟩ := rfl
theorem act_2 (m a l : Nat) (s : List H.Sl) (h : 2 ≤ m) : H.act ⟨false, m, a, l, s⟩ = ⟨false, m - 1, a + 1, l, s⟩ := by
  unfold H.act; rw [if_neg (by show ¬ m = 0; omega), if_neg (by show ¬ m = 1; omega)]

end Go.Proofs.YtlkllcnnnndllaaGreatDoor

/- More on shelves: behind a loss of power; blocks beside them. -/
namespace Go.Proofs.YtlkllcnnnndllaaGreatDoor
open Go.RowKit
set_option linter.unusedVariables false

theorem back_un (F : List Int) (l : List H.Sl) : ∀ s ∈ l.mapIdx (H.back F l), s.un = false := fun s hs => by
  obtain ⟨j, hj⟩ := List.mem_iff_getElem?.1 hs
  cases hl : l[j]? with
  | none => rw [List.getElem?_mapIdx, hl] at hj; simp at hj
  | some x =>
    rw [back_at _ _ _ _ hl] at hj
    have := Option.some.inj hj
    subst this
    unfold H.back
    split
    · rfl
    · next h => simpa using h
theorem back_same (F : List Int) (l : List H.Sl) (h : ∀ s ∈ l, s.un = false) : l.mapIdx (H.back F l) = l := by
  apply List.ext_getElem?
  intro j
  cases hl : l[j]? with
  | none => rw [List.getElem?_mapIdx, hl]; rfl
  | some x =>
    rw [back_at _ _ _ _ hl]
    have := h x (List.mem_of_getElem? hl)
    simp [H.back, this]
theorem cut_on (m a l : Nat) (s : List H.Sl) : H.cut ⟨false, m, a, l, s⟩ = ⟨true, 0, a, l + 1, s⟩ := rfl
theorem cut_off (m a l : Nat) (s : List H.Sl) : H.cut ⟨true, m, a, l, s⟩ = ⟨true, 0, a, l, s⟩ := rfl
theorem SW.other {w W : World} {b c q : Nat} {st : H.Sh} (h : SW w b c st W) (h1 : q ≠ b) (h2 : q ≠ c) (h3 : w.heap.size ≤ q) (i : Nat) (v : Value) : SW w b c st (W.setCell ⟨q, i, none⟩ v) :=
  ⟨by rw [Below.heap_setCell _ _ _ _ (fun e => h1 e.symm)]; exact h.hb, by rw [Below.heap_setCell _ _ _ _ (fun e => h2 e.symm)]; exact h.hc, h.ne,
    ⟨h.o.os, h.o.tape, h.o.output, by have := h.o.size; simp [World.setCell]; exact this, fun k hk hb hc => by rw [Below.heap_setCell _ _ _ _ (by show k ≠ q; omega)]; exact h.o.block k hk hb hc⟩⟩
theorem FI.at {w W : World} {b c : Nat} {st : H.Sh} {a : Option Addr} {F : List Int} (h : FI w a F) (hS : SW w b c st W) (hb : w.heap.size ≤ b) (hc : w.heap.size ≤ c) : FT W b c a F := fun i x hx => by
  obtain ⟨sb, off, h1, h2, h3⟩ := h i x hx
  have := hS.o.size
  exact ⟨sb, off, h1, by omega, by omega, by omega, by rw [hS.o.cell (p := ⟨sb, off + i, none⟩) h2 (by show sb ≠ b; omega) (by show sb ≠ c; omega)]; exact h3⟩
theorem Read_s {w W : World} {b c : Nat} {st : H.Sh} {s : H.Sl} {i : Nat} (h : SW w b c st W) (hs : st.sl[i]? = some s) (hn : st.sl.length ≤ 128) (ho : st.off = false) :
    Calls Tryz.prog 46 #[.pointer (some ⟨b, 0, none⟩), .int .i64 (i : Int)] W fun e w' => e = .returned (.tuple #[.string (M.bs s.text), .int .i64 0]) ∧ SW w b c st w' ∧ ∃ n, w' = W.drewN n := by
  refine (Read_at h hs hn ho).mono ?_
  rintro e w' ⟨rfl, n, rfl⟩
  exact ⟨rfl, h.drewN n, n, rfl⟩
/-- Write, whatever the text, with nothing armed -/
theorem Write_0 {w W : World} {b c n d f : Nat} {sl : List H.Sl} (h : SW w b c ⟨false, 0, d, f, sl⟩ W) (hs : Ss n sl) (hn : n ≤ 128) (i : Nat) (hi : i < n) (hd : d ≤ 1000000) (hf : f ≤ 1000000) (t : List UInt8) (ht : t.length ≤ maxLen) :
    Calls Tryz.prog 48 #[.pointer (some ⟨b, 0, none⟩), .int .i64 (i : Int), .string (M.bs t)] W fun e w' => (∃ x, e = .returned (.int .i64 x)) ∧
      ∃ d' sl', d' ≤ d + 1 ∧ Ss n sl' ∧ (∀ j, j ≠ i → sl'[j]? = sl[j]?) ∧ SW w b c ⟨false, 0, d', f, sl'⟩ w' := by
  have hl : sl.length = n := hs.n
  obtain ⟨s, hss⟩ : ∃ s, sl[i]? = some s := ⟨sl[i]'(by omega), List.getElem?_eq_getElem _⟩
  have sm := hs.sm hn false 0 d f hd hf (by omega)
  by_cases hl : t.length ≤ 640
  · refine (Write_at h hss sm rfl t hl).mono ?_
    rintro e w' ⟨rfl, h'⟩
    refine ⟨⟨_, rfl⟩, d + 1, _, Nat.le_refl _, hs.put i t hl, fun j hj => ?_, h'⟩
    rw [List.getElem?_modify]
    cases sl[j]? <;> simp [Ne.symm hj]
  · have e : slotE ⟨false, 0, d, f, sl⟩ (i : Int) = 0 := by unfold slotE; rw [if_neg (by simp), if_pos (by show _ ∧ (i : Int) < (sl.length : Int); omega)]
    refine (Write_long h (i : Int) (M.bs t) sm.n e (by rw [M.bs_size]; omega) (by rw [M.bs_size]; exact ht)).mono ?_
    rintro e w' ⟨rfl, k, rfl⟩
    exact ⟨⟨_, rfl⟩, d, sl, by omega, hs, fun _ _ => rfl, h.drewN k⟩
theorem wrap_i64_ofH {n : Int} (h1 : -9223372036854775808 ≤ n) (h2 : n ≤ 9223372036854775807) : IntKind.i64.wrap n = n := by
  simp only [IntKind.wrap, IntKind.bits, IntKind.signed]; simp; omega
theorem um_wrap8 (n : Int) : Int.tmod (IntKind.u64.wrap n) 8 = (um n 8 : Int) := um_wrap n 8

/-- eight empty texts -/
def zT : List Value := List.replicate 8 (.string ⟨#[]⟩)
theorem zT_one : zT.toArray.all (·.oneCell') = true := by kernel_rfl
/-- slots' texts as cells -/
def txC (l : List H.Sl) : List Value := l.map (fun s => .string (M.bs s.text))
theorem txC_at (l : List H.Sl) (i : Nat) (s : H.Sl) (h : l[i]? = some s) : (txC l)[i]? = some (.string (M.bs s.text)) := by simp [txC, h]
end Go.Proofs.YtlkllcnnnndllaaGreatDoor
