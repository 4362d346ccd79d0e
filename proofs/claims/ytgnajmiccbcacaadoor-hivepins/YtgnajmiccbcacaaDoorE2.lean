/- What hive.digestOf, hive.readBlob and hive.unseal answer. -/
import Derived.Test.YtgnajmiccbcacaaDoorE1
import Derived.Test.YtgnajmiccbcacaaDoorArgs
namespace Go.Proofs.YtgnajmiccbcacaaDoor
open Go.RowKit
set_option linter.unusedVariables false
set_option linter.unusedSimpArgs false
attribute [local go_sem ↓] zero27

theorem convS (d : List UInt8) (W : World) : ∃ cap W', (convert 9 112 (.string (M.bs d))).run Tryd.prog W = .ok (.slice (some ⟨W.heap.size, 0, none⟩) d.length cap) W' ∧ d.length ≤ cap ∧ Below W.heap.size W W' ∧ W'.rangeAt W.heap.size 0 (d.map vb) ∧ W'.heap.size = W.heap.size + 1 := by
  refine ⟨_, _, by rw [Lib.run_convert_string_bytes (P := Tryd.prog) W 9 112 5 (M.bs d) Tryd.underlying9 Tryd.underlying112 Tryd.underlying5, M.bs_size], grownCap_ge _ _ _ _, ?_, ?_, Lib.bytesWorld_size _ _ _⟩
  · have hA : Below W.heap.size W (W.drew.alloc (.cells (Lib.bytesCells W 5 (M.bs d)) 5)) := (Below.refl _ W).drew.alloc (Nat.le_refl _) _
    refine ⟨hA.os, hA.tape, hA.output, by rw [Lib.bytesWorld_size]; omega, fun i hi => Lib.bytesWorld_at_old _ _ _ _ hi⟩
  · intro j v hv
    have hj : j < d.length := by have := (List.getElem?_eq_some_iff.1 hv).1; simpa using this
    rw [Nat.zero_add, Lib.bytesWorld_cell _ _ _ _ (by rw [M.bs_size]; exact hj), M.bs_toList]
    rw [List.getElem?_map, List.getElem?_eq_getElem hj] at hv
    obtain rfl := Option.some.inj hv
    rw [List.getD_eq_getElem?_getD, List.getElem?_eq_getElem hj]; rfl
theorem arrD (W : World) (a : Option Addr) (cap : Nat) : (Instr.arrayAt 33 (.slice a 32 cap)).run Tryd.prog W = .ok (.pointer a) W := by
  simp [Instr.arrayAt, run_underlying und27]
theorem results2_rowV {P : Program} {fn : Func} {p q : Tmp} {ty : TypeId} (h : fn.results = #[.cell p ty, .tmp q]) (tmps : Array Value) (w : World) (g : Nat) (t : TypeId) (cs : Array Value) (fr : Nat × Nat) (d : TypeDesc)
    (hp : tmps.getD p undef = .pointer (some ⟨g, 0, none⟩)) (hg : w.heap[g]? = some (.cells cs t fr))
    (hu : P.underlying ty = some d) (hd : (match d with | .struct _ | .array _ _ => true | _ => false) = true) (hi : (P.info? ty).map (·.size) = some cs.size) :
    (results fn tmps).run P w = .ok (.tuple #[.agg cs, tmps.getD q undef]) w := by
  have hp' : tmps[p]?.getD undef = .pointer (some ⟨g, 0, none⟩) := by simpa using hp
  simp [results, h, hp', asAddr, run_loadVar_row w g t ty cs fr d hg hu hd hi]
theorem results3_rowV {P : Program} {fn : Func} {p q r : Tmp} {ty : TypeId} (h : fn.results = #[.cell p ty, .tmp q, .tmp r]) (tmps : Array Value) (w : World) (g : Nat) (t : TypeId) (cs : Array Value) (fr : Nat × Nat) (d : TypeDesc)
    (hp : tmps.getD p undef = .pointer (some ⟨g, 0, none⟩)) (hg : w.heap[g]? = some (.cells cs t fr))
    (hu : P.underlying ty = some d) (hd : (match d with | .struct _ | .array _ _ => true | _ => false) = true) (hi : (P.info? ty).map (·.size) = some cs.size) :
    (results fn tmps).run P w = .ok (.tuple #[.agg cs, tmps.getD q undef, tmps.getD r undef]) w := by
  have hp' : tmps[p]?.getD undef = .pointer (some ⟨g, 0, none⟩) := by simpa using hp
  simp [results, h, hp', asAddr, run_loadVar_row w g t ty cs fr d hg hu hd hi]

set_option maxRecDepth 8000 in
set_option maxHeartbeats 1000000 in
theorem digestOf_at (d : List UInt8) (hd : d.length = 32) (w : World) :
    Calls Tryd.prog 87 #[.string (M.bs d)] w fun e w' => e = .returned (.agg (dg d)) ∧ Below w.heap.size w w' := by
  obtain ⟨cc, W1, hcv, hcc, hB1, hr1, hs1⟩ := convS d (w.alloc (.cells zero32 33))
  rw [hd] at hcv
  have h10 : (w.alloc (.cells zero32 33)).heap.size = w.heap.size + 1 := by simp
  rw [h10] at hcv hr1 hB1
  have har := arrD
  have HR1 : Hid (W1.rangeAt (w.heap.size + 1) 0 (d.map vb)) := hr1
  have hi : (Tryd.prog.info? 33).map (·.size) = some (d.map vb).length := by rw [info27, List.length_map, hd]
  have HN : Hid (W1.heap[w.heap.size]? = some (.cells zero32 33 (0, 0))) := by
    show _ = _
    rw [hB1.block _ (by omega)]; exact heap_alloc_new _ _
  have HB : Hid (Below w.heap.size w W1) := ((Below.refl _ w).alloc (Nat.le_refl _) _).trans (hB1.mono (by omega))
  have hDs : (dg d).size = 32 := by rw [dg_size, hd]
  have hD1 := dg_one d
  have HDA : Hid ((d.map vb).toArray = dg d) := rfl
  have hzs := zero32_size
  generalize dg d = DA at *
  clear hr1 hB1 hs1 h10 hcc
  go_enter Tryd.func87, Tryd.ntmps87
  go_wp2_with (first
    | (refine wpList_load_mid rfl 33 _ rfl (w.heap.size + 1) 0 rfl (d.map vb) _ HR1.out und27 rfl hi ?_; rw [HDA.out]; clear HR1)
    | (refine wpList_store_row rfl 33 _ _ rfl w.heap.size DA rfl rfl 33 zero32 HN.out (by rw [hDs]; exact info27) (by rw [hDs, hzs]) hD1 ?_))
  (try simp only [Exit.inBlock, Exit.then])
  refine bodyPost_ret (results_cell_row rfl _ _ _ 33 _ (0, 0) _ rfl (setRow_heap _ _ _ _ _ _ HN.out) und27 rfl (by rw [hDs]; exact info27)) rfl ?_
  exact ⟨rfl, below_setRow HB.out (Nat.le_refl _) _⟩

theorem bs_eqC (a b : List UInt8) : ((M.bs a).toList == b) = decide (a = b) := by
  rw [Lib.toList_data, M.bs_toList]
  by_cases h : a = b
  · subst h; simp
  · simp [h]
theorem bs_eqL (a b : List UInt8) : ((M.bs a).toList == (M.bs b).toList) = decide (a = b) := by
  rw [Lib.toList_data, Lib.toList_data, M.bs_toList, M.bs_toList]
  by_cases h : a = b
  · subst h; simp
  · simp [h]

set_option maxRecDepth 8000 in
set_option maxHeartbeats 1000000 in
theorem readBlob_at (l : List (List UInt8)) (a : Option Addr) (c : Nat) (w : World) (hl : l.length ≤ 4) (ht : ∀ t ∈ l, t.length ≤ 9223372036854775807) (hv : Strs w.heap.size w (.slice a l.length c) l) :
    Calls Tryd.prog 72 #[.slice a l.length c] w fun e w' => e = .returned (match V.readBlob l with | some b => .tuple #[.string (M.bs b), .bool true] | none => .tuple #[.string ⟨#[]⟩, .bool false]) ∧ w' = w := by
  by_cases h2 : l.length = 2
  · obtain ⟨k, b, rfl⟩ : ∃ k b, l = [k, b] := by
      match l, h2 with
      | [k, b], _ => exact ⟨k, b, rfl⟩
    obtain ⟨sb, off, e1, _, hc0⟩ := strs_at hv 0 k rfl
    obtain ⟨sb1, off1, e2, _, hc1⟩ := strs_at hv 1 b rfl
    subst e1
    simp only [Option.some.injEq, Addr.mk.injEq, and_true] at e2
    obtain ⟨rfl, rfl⟩ := e2
    rw [Nat.add_zero] at hc0
    have hzb := M.bs_size b
    have hbl : (b.length : Int) ≤ 9223372036854775807 := by have := ht b (by simp); omega
    have hk98 : ((M.bs k).toList == [98]) = decide (k = V.kb) := bs_eqC k V.kb
    clear hv ht h2 hl
    simp only [V.readBlob]
    by_cases hk : k = V.kb
    · have hq : ((M.bs k).toList == [98]) = true := by rw [hk98]; simpa using hk
      clear hk98
      by_cases hb : b.length ≤ 512
      · rw [if_pos ⟨hk, hb⟩]
        have hb' : (b.length : Int) ≤ 512 := by omega
        clear hk hb
        go_enter Tryd.func72, Tryd.ntmps72
        go_wp2_with fail
        go_ret2
        exact ⟨rfl, rfl⟩
      · rw [if_neg (fun h => hb h.2)]
        have hb' : (512 : Int) < (b.length : Int) := by omega
        clear hk hb
        go_enter Tryd.func72, Tryd.ntmps72
        go_wp2_with fail
        go_ret2
        exact ⟨rfl, rfl⟩
    · have hq : ((M.bs k).toList == [98]) = false := by rw [hk98]; simpa using hk
      rw [if_neg (fun h => hk h.1)]
      clear hk98 hk
      go_enter Tryd.func72, Tryd.ntmps72
      go_wp2_with fail
      go_ret2
      exact ⟨rfl, rfl⟩
  · have e : V.readBlob l = none := by
      unfold V.readBlob
      split
      · simp at h2
      · rfl
    rw [e]
    have h2' : ((l.length : Int) != 2) = true := by simp; omega
    clear hv ht e h2
    go_enter Tryd.func72, Tryd.ntmps72
    go_wp2_with fail
    go_ret2
    exact ⟨rfl, rfl⟩
end Go.Proofs.YtgnajmiccbcacaaDoor
