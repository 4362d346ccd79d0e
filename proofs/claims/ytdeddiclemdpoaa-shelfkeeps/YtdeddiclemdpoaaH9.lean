/- The law's own 'torn'; three rows beside a shelf that tell its slots. -/
import Derived.Test.YtdeddiclemdpoaaH8
import Derived.Laws.Tables
namespace Go.Proofs.Ytdeddiclemdpoaa
open Go.RowKit
set_option linter.unusedVariables false

theorem bs_beq (a b : List UInt8) : ((M.bs a).toList == (M.bs b).toList) = decide (a = b) := by
  rw [Lib.toList_data, Lib.toList_data, M.bs_toList, M.bs_toList]
  by_cases e : a = b
  · subst e; simp
  · simp [e]
set_option maxHeartbeats 1000000 in
theorem torn_at (s t u : List UInt8) (n : Nat) (hn : n ≤ t.length) (hs : s = t.take n ++ u.drop n) (h1 : t.length ≤ 640) (h2 : u.length ≤ 640) (W : World) :
    Calls Try.prog 30 #[.string (M.bs s), .string (M.bs t), .string (M.bs u)] W fun e w' => e = .returned (.bool true) ∧ w' = W := by
  have z1 := M.bs_size t
  have z2 := M.bs_size u
  have HS : Hid (s = t.take n ++ u.drop n) := hs
  clear hs
  go_enter Try.func30, Try.ntmps30
  go_wp2_with fail
  go_loop [7, 8] (fun u7 u8 => ∃ k : Nat, k ≤ n ∧ u7 = .int .i64 k) (fun u7 _ => n - (intOf u7).toNat)
  case atStart => exact ⟨0, Nat.zero_le _, rfl⟩
  case round =>
    obtain ⟨k, hk, rfl⟩ := hrel
    have hkt : (k : Int) ≤ (t.length : Int) := by omega
    have t1 := take_bs t k
    have y1 := M.bs_size (t.take k)
    have hq0 := bs_beq s (t.take k ++ u.drop k)
    have hkn : k = n ∨ k < n := by omega
    by_cases hq : s = t.take k ++ u.drop k
    · rw [decide_eq_true hq] at hq0
      clear hq
      by_cases hu : k < u.length
      · have t2 := drop_bs u k
        rw [z2] at t2
        have hap := bs_cat (t.take k) (u.drop k)
        have y2 := M.bs_size (u.drop k)
        have hui : (k : Int) < (u.length : Int) := by omega
        go_wp2_with fail
        go_ret
        exact ⟨rfl, rfl⟩
      · have e : t.take k ++ u.drop k = t.take k := by rw [List.drop_of_length_le (by omega), List.append_nil]
        rw [e] at hq0
        clear e
        have hap : M.bs (t.take k) ++ (⟨#[]⟩ : ByteArray) = M.bs (t.take k) := by
          have := bs_cat (t.take k) []
          rwa [List.append_nil] at this
        have hui : ¬ (k : Int) < (u.length : Int) := by omega
        go_wp2_with fail
        go_ret
        exact ⟨rfl, rfl⟩
    · rw [decide_eq_false hq] at hq0
      have hkn2 : k < n := by
        rcases hkn with h | h
        · exfalso; apply hq; rw [h]; exact HS.out
        · exact h
      clear hq hkn
      by_cases hu : k < u.length
      · have t2 := drop_bs u k
        rw [z2] at t2
        have hap := bs_cat (t.take k) (u.drop k)
        have y2 := M.bs_size (u.drop k)
        have hui : (k : Int) < (u.length : Int) := by omega
        go_wp2_with fail
        all_goals exact ⟨⟨k + 1, by omega, by go_num⟩, by simp [intOf]; omega⟩
      · have e : t.take k ++ u.drop k = t.take k := by rw [List.drop_of_length_le (by omega), List.append_nil]
        rw [e] at hq0
        clear e
        have hap : M.bs (t.take k) ++ (⟨#[]⟩ : ByteArray) = M.bs (t.take k) := by
          have := bs_cat (t.take k) []
          rwa [List.append_nil] at this
        have hui : ¬ (k : Int) < (u.length : Int) := by omega
        go_wp2_with fail
        all_goals exact ⟨⟨k + 1, by omega, by go_num⟩, by simp [intOf]; omega⟩

/-- what was sure, and the marks, as cells -/
def suC (l : List H.Sl) : List Value := l.map (fun s => .string (M.bs s.sure))
def unC (l : List H.Sl) : List Value := l.map (fun s => .bool s.un)
def zB : List Value := List.replicate 8 (.bool false)
theorem zeroB' (W : World) : (zeroValue 47).run Try.prog W = .ok (.agg zB.toArray) W := by kernel_rfl
theorem infoB : (Try.prog.info? 47).map (·.size) = some 8 := by kernel_rfl
theorem undB : Try.prog.underlying 47 = some (.array 8 4) := by kernel_rfl
theorem zB_one : zB.toArray.all (·.oneCell') = true := by kernel_rfl
theorem txC_one (l : List H.Sl) : (txC l).toArray.all (·.oneCell') = true := by
  rw [Array.all_eq_true_iff_forall_mem]
  intro v hv
  simp [txC] at hv
  obtain ⟨s, _, rfl⟩ := hv
  rfl
theorem suC_at (l : List H.Sl) (i : Nat) (s : H.Sl) (h : l[i]? = some s) : (suC l)[i]? = some (.string (M.bs s.sure)) := by simp [suC, h]
theorem unC_at (l : List H.Sl) (i : Nat) (s : H.Sl) (h : l[i]? = some s) : (unC l)[i]? = some (.bool s.un) := by simp [unC, h]
theorem suC_sync (l : List H.Sl) : suC (l.map (fun s => H.settle s.text)) = txC l := by simp [suC, txC, H.settle]
theorem txC_sync (l : List H.Sl) : txC (l.map (fun s => H.settle s.text)) = txC l := by simp [txC, H.settle]
theorem unC_sync (l : List H.Sl) (h : l.length = 8) : unC (l.map (fun s => H.settle s.text)) = zB := by
  unfold unC zB
  rw [List.map_map, ← h]
  exact (List.eq_replicate_iff.2 ⟨by simp, fun b hb => by
    obtain ⟨s, _, rfl⟩ := List.mem_map.1 hb; rfl⟩)
theorem suC_put (l : List H.Sl) (i : Nat) (t : List UInt8) : suC (l.modify i (fun s => { s with text := t, un := true })) = suC l := by
  apply List.ext_getElem?
  intro j
  simp only [suC, List.getElem?_map, List.getElem?_modify]
  cases l[j]? with
  | none => rfl
  | some s => by_cases h : i = j <;> simp [h]
theorem txC_put (l : List H.Sl) (i : Nat) (t : List UInt8) (hi : i < l.length) : txC (l.modify i (fun s => { s with text := t, un := true })) = (txC l).set i (.string (M.bs t)) := by
  apply List.ext_getElem?
  intro j
  by_cases h : i = j
  · subst h
    rw [List.getElem?_set_self (by simpa [txC] using hi)]
    simp [txC, hi]
  · rw [List.getElem?_set_ne h]
    simp only [txC, List.getElem?_map, List.getElem?_modify]
    cases l[j]? with
    | none => rfl
    | some s => simp [h]
theorem unC_put (l : List H.Sl) (i : Nat) (t : List UInt8) (hi : i < l.length) : unC (l.modify i (fun s => { s with text := t, un := true })) = (unC l).set i (.bool true) := by
  apply List.ext_getElem?
  intro j
  by_cases h : i = j
  · subst h
    rw [List.getElem?_set_self (by simpa [unC] using hi)]
    simp [unC, hi]
  · rw [List.getElem?_set_ne h]
    simp only [unC, List.getElem?_map, List.getElem?_modify]
    cases l[j]? with
    | none => rfl
    | some s => simp [h]
/-- what isn't unsure is sure -/
def Inv (l : List H.Sl) : Prop := ∀ s ∈ l, s.un = false → s.text = s.sure
theorem Inv.sync (l : List H.Sl) : Inv (l.map (fun s => H.settle s.text)) := fun s hs _ => by
  obtain ⟨x, _, rfl⟩ := List.mem_map.1 hs; rfl
theorem Inv.put {l : List H.Sl} (h : Inv l) (i : Nat) (t : List UInt8) : Inv (l.modify i (fun s => { s with text := t, un := true })) := fun s hs hu => by
  obtain ⟨j, hj⟩ := List.mem_iff_getElem?.1 hs
  rw [List.getElem?_modify] at hj
  cases hl : l[j]? with
  | none => rw [hl] at hj; simp at hj
  | some x =>
    rw [hl] at hj
    by_cases hij : i = j
    · simp [hij] at hj; subst hj; simp at hu
    · simp [hij] at hj; subst hj; exact h x (List.mem_of_getElem? hl) hu
/-- three rows that tell the slots -/
structure R3 (q1 q2 q3 : Nat) (sl : List H.Sl) (W : World) : Prop where
  s : W.heap[q1]? = some (.cells (suC sl).toArray 46 (0, 0))
  t : W.heap[q2]? = some (.cells (txC sl).toArray 46 (0, 0))
  u : W.heap[q3]? = some (.cells (unC sl).toArray 47 (0, 0))
theorem row_lt {W : World} {q : Nat} {o : Obj} (h : W.heap[q]? = some o) : q < W.heap.size := (Array.getElem?_eq_some_iff.1 h).1
theorem R3.off {q1 q2 q3 b c : Nat} {sl : List H.Sl} {W W' : World} (h : R3 q1 q2 q3 sl W) (o : Off2 b c W W') (h1 : b < q1) (h2 : c < q1) (h3 : q1 < q2) (h4 : q2 < q3) : R3 q1 q2 q3 sl W' :=
  ⟨by rw [o.block q1 (row_lt h.s) (by omega) (by omega)]; exact h.s, by rw [o.block q2 (row_lt h.t) (by omega) (by omega)]; exact h.t, by rw [o.block q3 (row_lt h.u) (by omega) (by omega)]; exact h.u⟩
theorem heap_setRow_ne {W : World} {q k : Nat} (h : k ≠ q) (cs : Array Value) : (W.setRow q cs).heap[k]? = W.heap[k]? := by
  show (W.heap.modify q _)[k]? = _
  rw [Array.getElem?_modify, if_neg (fun e => h e.symm)]
theorem SW.row {w W : World} {b c q : Nat} {st : H.Sh} (h : SW w b c st W) (h1 : q ≠ b) (h2 : q ≠ c) (h3 : w.heap.size ≤ q) (cs : Array Value) : SW w b c st (W.setRow q cs) :=
  ⟨by rw [heap_setRow_ne (fun e => h1 e.symm)]; exact h.hb, by rw [heap_setRow_ne (fun e => h2 e.symm)]; exact h.hc, h.ne,
    ⟨h.o.os, h.o.tape, h.o.output, by have := h.o.size; simp [World.setRow]; exact this, fun k hk hb hc => by rw [heap_setRow_ne (by omega)]; exact h.o.block k hk hb hc⟩⟩
theorem alloc_new' (W : World) (n : Nat) (h : W.heap.size = n) (o : Obj) : (W.alloc o).heap[n]? = some o := by subst h; exact heap_alloc_new _ _
theorem setRow_new' (W : World) (n : Nat) (h : W.heap.size = n) (old cs : Array Value) (T : TypeId) : (W.alloc (.cells old T)).setRow n cs = W.alloc (.cells cs T) := by subst h; exact World.setRow_alloc_new _ _ _ _
/-- what a fate leaves is what was sure, or what was written, or torn -/
theorem left_three (s : H.Sl) (f : Int) : H.left s f = s.sure ∨ H.left s f = s.text ∨ ∃ n, n ≤ s.text.length ∧ H.left s f = s.text.take n ++ s.sure.drop n := by
  unfold H.left
  split
  · exact Or.inl rfl
  · split
    · exact Or.inr (Or.inl rfl)
    · have := rem_bounds (f.tdiv 3) ((s.text.length : Int) + 1) (by omega)
      exact Or.inr (Or.inr ⟨_, by omega, rfl⟩)
end Go.Proofs.Ytdeddiclemdpoaa
