/- What hive.readRecord answers. -/
import Derived.Test.YtgnajmiccbcacaaDoorE4
namespace Go.Proofs.YtgnajmiccbcacaaDoor
open Go.RowKit
set_option linter.unusedVariables false
set_option linter.unusedSimpArgs false
attribute [local go_sem ↓] zero35
attribute [local go_sem 10000] build35

theorem und35 : ∃ fs, Tryd.prog.underlying 35 = some (.struct fs) := ⟨_, Tryd.underlying35⟩
theorem info35 : (Tryd.prog.info? 35).map (·.size) = some 65 := by kernel_rfl
theorem rv_size {r : V.Rc} (h : Rc32 r) : (rv r).size = 65 := by rw [rv, List.size_toArray, rvL_length h]
theorem rv_one (r : V.Rc) : (rv r).all (·.oneCell') = true := all_oneCell_toArray (rvL_one r)
theorem hst35 (W : World) : (W.alloc (.cells (rv V.zr) 35)).heap[W.heap.size]? = some (.cells (rv V.zr) 35 (0, 0)) := heap_alloc_new _ _
def rrNo : Value := .tuple #[.agg (rv V.zr), .bool false]
def rrYes (r : V.Rc) : Value := .tuple #[.agg (rv r), .bool true]

/-- texts in memory, each by its cell -/
def SC (w : World) (a : Option Addr) (l : List (List UInt8)) : Prop := ∃ sb off, a = some ⟨sb, off, none⟩ ∧ sb < w.heap.size ∧ ∀ i t, l[i]? = some t → w.cell? ⟨sb, off + i, none⟩ = some (.string (M.bs t))
theorem sc_of {w : World} {a : Option Addr} {c : Nat} {l : List (List UInt8)} (h : Strs w.heap.size w (.slice a l.length c) l) (hl : 0 < l.length) : SC w a l := by
  rcases h with ⟨rfl, _⟩ | ⟨b, off, cap, e, hb, hc⟩
  · simp at hl
  · simp only [Value.slice.injEq] at e
    exact ⟨b, off, e.1, hb, hc⟩

set_option maxRecDepth 8000 in
set_option maxHeartbeats 1000000 in
theorem rr_len (l : List (List UInt8)) (a : Option Addr) (c : Nat) (w : World) (hl : l.length ≤ 4) (h4 : l.length ≠ 4) :
    Calls Tryd.prog 73 #[.slice a l.length c] w fun e w' => e = .returned rrNo ∧ Below w.heap.size w w' := by
  have h4' : ((l.length : Int) != 4) = true := by simp; omega
  have hzs := rv_size zr32
  have h1 := rv_one V.zr
  obtain ⟨fs, hum⟩ := und35
  have HN : Hid _ := hst35 w
  have HB : Hid (Below w.heap.size w (w.alloc (.cells (rv V.zr) 35))) := (Below.refl _ w).alloc (Nat.le_refl _) _
  clear h4
  unfold rrNo
  go_enter Tryd.func73, Tryd.ntmps73
  go_wp2_with (refine wpList_store_row rfl 35 _ _ rfl w.heap.size (rv V.zr) rfl rfl 35 (rv V.zr) HN.out (by rw [hzs]; exact info35) rfl h1 ?_)
  (try simp only [Exit.inBlock, Exit.then])
  refine bodyPost_ret (results2_rowV rfl _ _ _ 35 (rv V.zr) (0, 0) _ rfl (setRow_heap _ _ _ _ _ _ HN.out) hum rfl (by rw [hzs]; exact info35)) rfl ?_
  exact ⟨rfl, below_setRow HB.out (Nat.le_refl _) _⟩

set_option maxRecDepth 8000 in
set_option maxHeartbeats 1000000 in
theorem rr_form (k a n o : List UInt8) (sa : Option Addr) (c : Nat) (w : World) (ht : a.length ≤ 9223372036854775807 ∧ o.length ≤ 9223372036854775807) (hv : Strs w.heap.size w (.slice sa 4 c) [k, a, n, o]) (hbad : k ≠ V.kr ∨ a.length ≠ 32 ∨ o.length ≠ 32) :
    Calls Tryd.prog 73 #[.slice sa 4 c] w fun e w' => e = .returned rrNo ∧ Below w.heap.size w w' := by
  obtain ⟨sb, off, rfl, hsb, hc⟩ := sc_of (l := [k, a, n, o]) hv (by simp)
  have hB0 : Below w.heap.size w (w.alloc (.cells (rv V.zr) 35)) := (Below.refl _ w).alloc (Nat.le_refl _) _
  have hc0 : w.cell? ⟨sb, off, none⟩ = some (.string (M.bs k)) := hc 0 k rfl
  have hc1 : w.cell? ⟨sb, off + 1, none⟩ = some (.string (M.bs a)) := hc 1 a rfl
  have hc3 : w.cell? ⟨sb, off + 3, none⟩ = some (.string (M.bs o)) := hc 3 o rfl
  have hk98 : ((M.bs k).toList == [114]) = decide (k = V.kr) := bs_eqC k V.kr
  have hza := M.bs_size a
  have hzo := M.bs_size o
  have hal : (a.length : Int) ≤ 9223372036854775807 := by omega
  have hol : (o.length : Int) ≤ 9223372036854775807 := by omega
  have hzs := rv_size zr32
  have h1 := rv_one V.zr
  obtain ⟨fs, hum⟩ := und35
  have HN : Hid _ := hst35 w
  have HB : Hid (Below w.heap.size w (w.alloc (.cells (rv V.zr) 35))) := hB0
  unfold rrNo
  clear hc hv hB0
  by_cases hk : k = V.kr
  · have hq : ((M.bs k).toList == [114]) = true := by rw [hk98]; simpa using hk
    by_cases ha : a.length = 32
    · have ho : ((o.length : Int) != 32) = true := by rcases hbad with h | h | h; exact absurd hk h; exact absurd ha h; simp; omega
      have ha' : ((a.length : Int) != 32) = false := by simp; omega
      clear hk98 hk hbad ha ht
      go_enter Tryd.func73, Tryd.ntmps73
      go_wp2_with (refine wpList_store_row rfl 35 _ _ rfl w.heap.size (rv V.zr) rfl rfl 35 (rv V.zr) HN.out (by rw [hzs]; exact info35) rfl h1 ?_)
      (try simp only [Exit.inBlock, Exit.then])
      refine bodyPost_ret (results2_rowV rfl _ _ _ 35 (rv V.zr) (0, 0) _ rfl (setRow_heap _ _ _ _ _ _ HN.out) hum rfl (by rw [hzs]; exact info35)) rfl ?_
      exact ⟨rfl, below_setRow HB.out (Nat.le_refl _) _⟩
    · have ha' : ((a.length : Int) != 32) = true := by simp; omega
      clear hk98 hk hbad ha ht
      go_enter Tryd.func73, Tryd.ntmps73
      go_wp2_with (refine wpList_store_row rfl 35 _ _ rfl w.heap.size (rv V.zr) rfl rfl 35 (rv V.zr) HN.out (by rw [hzs]; exact info35) rfl h1 ?_)
      (try simp only [Exit.inBlock, Exit.then])
      refine bodyPost_ret (results2_rowV rfl _ _ _ 35 (rv V.zr) (0, 0) _ rfl (setRow_heap _ _ _ _ _ _ HN.out) hum rfl (by rw [hzs]; exact info35)) rfl ?_
      exact ⟨rfl, below_setRow HB.out (Nat.le_refl _) _⟩
  · have hq : ((M.bs k).toList == [114]) = false := by rw [hk98]; simpa using hk
    clear hk98 hk hbad ht
    go_enter Tryd.func73, Tryd.ntmps73
    go_wp2_with (refine wpList_store_row rfl 35 _ _ rfl w.heap.size (rv V.zr) rfl rfl 35 (rv V.zr) HN.out (by rw [hzs]; exact info35) rfl h1 ?_)
    (try simp only [Exit.inBlock, Exit.then])
    refine bodyPost_ret (results2_rowV rfl _ _ _ 35 (rv V.zr) (0, 0) _ rfl (setRow_heap _ _ _ _ _ _ HN.out) hum rfl (by rw [hzs]; exact info35)) rfl ?_
    exact ⟨rfl, below_setRow HB.out (Nat.le_refl _) _⟩

set_option maxRecDepth 8000 in
set_option maxHeartbeats 1000000 in
theorem rr_num (a n o : List UInt8) (sa : Option Addr) (c : Nat) (w : World) (ha : a.length = 32) (ho : o.length = 32) (hnl : n.length ≤ 9223372036854775807) (hv : Strs w.heap.size w (.slice sa 4 c) [V.kr, a, n, o]) (hbad : ∀ x, M.readNum n ≠ some (x, [])) :
    Calls Tryd.prog 73 #[.slice sa 4 c] w fun e w' => e = .returned rrNo ∧ Below w.heap.size w w' := by
  obtain ⟨sb, off, rfl, hsb, hc⟩ := sc_of (l := [V.kr, a, n, o]) hv (by simp)
  have hB0 : Below w.heap.size w (w.alloc (.cells (rv V.zr) 35)) := (Below.refl _ w).alloc (Nat.le_refl _) _
  have hc0 : w.cell? ⟨sb, off, none⟩ = some (.string (M.bs V.kr)) := hc 0 V.kr rfl
  have hc1 : w.cell? ⟨sb, off + 1, none⟩ = some (.string (M.bs a)) := hc 1 a rfl
  have hc2 : w.cell? ⟨sb, off + 2, none⟩ = some (.string (M.bs n)) := hc 2 n rfl
  have hc3 : w.cell? ⟨sb, off + 3, none⟩ = some (.string (M.bs o)) := hc 3 o rfl
  have hq : ((M.bs V.kr).toList == [114]) = true := by rw [bs_eqC]; decide
  have hza := M.bs_size a
  have hzo := M.bs_size o
  rw [ha] at hza
  rw [ho] at hzo
  have hzs := rv_size zr32
  have h1 := rv_one V.zr
  obtain ⟨fs, hum⟩ := und35
  have H0 : Bl (w.alloc (.cells (rv V.zr) 35)) (w.alloc (.cells (rv V.zr) 35)) := Below.refl _ _
  have HE : Hid (∀ W, Bl (w.alloc (.cells (rv V.zr) 35)) W → Below w.heap.size w W ∧ W.heap[w.heap.size]? = some (.cells (rv V.zr) 35 (0, 0))) := fun W hW => ⟨hB0.trans (Below.mono hW (by simp)), by rw [Below.block hW _ (by simp)]; exact hst35 w⟩
  have CN : Hid (∀ W, Bl (w.alloc (.cells (rv V.zr) 35)) W → Calls Tryd.prog 89 #[.string (M.bs n)] W fun e w' => e = .returned (rnV (M.readNum n)) ∧ Bl (w.alloc (.cells (rv V.zr) 35)) w') := fun W hW => readNum_b n (by unfold maxLen; omega) hW
  unfold rrNo
  generalize V.kr = KR at *
  clear hc hv hB0 hnl
  cases hN : M.readNum n with
  | none =>
    rw [hN] at CN
    unfold rnV at CN
    clear hbad hN
    go_enter Tryd.func73, Tryd.ntmps73
    go_wp2_with (first
      | (go_at_call 89; refine (CN.out _ H0).mono ?_; clear CN H0; rintro e w2 ⟨rfl, HB2⟩; have HN : Hid _ := (HE.out _ HB2).2; have HF : Hid _ := (HE.out _ HB2).1)
      | (refine wpList_store_row rfl 35 _ _ rfl w.heap.size (rv V.zr) rfl rfl 35 (rv V.zr) HN.out (by rw [hzs]; exact info35) rfl h1 ?_))
    (try simp only [Exit.inBlock, Exit.then])
    refine bodyPost_ret (results2_rowV rfl _ _ _ 35 (rv V.zr) (0, 0) _ rfl (setRow_heap _ _ _ _ _ _ HN.out) hum rfl (by rw [hzs]; exact info35)) rfl ?_
    exact ⟨rfl, below_setRow HF.out (Nat.le_refl _) _⟩
  | some x =>
    obtain ⟨v, r⟩ := x
    have hr : r ≠ [] := fun e => hbad v (by rw [hN, e])
    have hne := bs_ne r (by cases r with | nil => exact absurd rfl hr | cons => simp)
    rw [hN] at CN
    unfold rnV at CN
    clear hbad hN hr
    go_enter Tryd.func73, Tryd.ntmps73
    go_wp2_with (first
      | (go_at_call 89; refine (CN.out _ H0).mono ?_; clear CN H0; rintro e w2 ⟨rfl, HB2⟩; have HN : Hid _ := (HE.out _ HB2).2; have HF : Hid _ := (HE.out _ HB2).1)
      | (refine wpList_store_row rfl 35 _ _ rfl w.heap.size (rv V.zr) rfl rfl 35 (rv V.zr) HN.out (by rw [hzs]; exact info35) rfl h1 ?_))
    (try simp only [Exit.inBlock, Exit.then])
    refine bodyPost_ret (results2_rowV rfl _ _ _ 35 (rv V.zr) (0, 0) _ rfl (setRow_heap _ _ _ _ _ _ HN.out) hum rfl (by rw [hzs]; exact info35)) rfl ?_
    exact ⟨rfl, below_setRow HF.out (Nat.le_refl _) _⟩
end Go.Proofs.YtgnajmiccbcacaaDoor
