/- Records, names, entries, contents as values; what hive.canBe and hive.digestOf answer. -/
import Derived.Test.YtgnajmiccbcacaaDoorS15
import Derived.Test.YtgnajmiccbcacaaDoorVMath
import Derived.Lib.ConvBytes
import Derived.Deep.MidRow
import Derived.Laws.Tables
namespace Go.Proofs.YtgnajmiccbcacaaDoor
open Go.RowKit
set_option linter.unusedVariables false
set_option linter.unusedSimpArgs false

def rvL (r : V.Rc) : List Value := r.key.map vb ++ (Value.int .i64 r.code :: r.out.map vb)
def rv (r : V.Rc) : Array Value := (rvL r).toArray
def nmL (kind dig : List UInt8) : List Value := Value.string (M.bs kind) :: dig.map vb
def nmv (kind dig : List UInt8) : Array Value := (nmL kind dig).toArray
def evL (kind dig ck : List UInt8) : List Value := nmL kind dig ++ ck.map vb
def ev (kind dig ck : List UInt8) : Array Value := (evL kind dig ck).toArray
def svL (e : V.En) : List Value := evL e.kind e.dig e.ck ++ [Value.int .i64 (e.used : Int)]
def cvL (c : V.Ct) : List Value := evL c.kind c.dig c.ck ++ (Value.string (M.bs c.blob) :: rvL c.rc)
def cv (c : V.Ct) : Array Value := (cvL c).toArray

/-- all lengths are a digest's -/
structure Rc32 (r : V.Rc) : Prop where
  k : r.key.length = 32
  o : r.out.length = 32
  c1 : -9223372036854775808 ≤ r.code
  c2 : r.code ≤ 9223372036854775807
theorem zd_length : V.zd.length = 32 := by simp [V.zd]
theorem zr32 : Rc32 V.zr := ⟨zd_length, zd_length, by decide, by decide⟩
theorem rvL_length {r : V.Rc} (h : Rc32 r) : (rvL r).length = 65 := by simp [rvL, h.k, h.o]
theorem nmL_length {k d : List UInt8} (h : d.length = 32) : (nmL k d).length = 33 := by simp [nmL, h]
theorem evL_length {k d c : List UInt8} (h : d.length = 32) (hc : c.length = 32) : (evL k d c).length = 65 := by simp [evL, nmL, h, hc]
theorem svL_length {e : V.En} (h : e.dig.length = 32) (hc : e.ck.length = 32) : (svL e).length = 66 := by simp [svL, evL_length h hc]
theorem cvL_length {c : V.Ct} (h : c.dig.length = 32) (hc : c.ck.length = 32) (hr : Rc32 c.rc) : (cvL c).length = 131 := by simp [cvL, evL_length h hc, rvL_length hr]
theorem vb_one (x : UInt8) : (vb x).oneCell' = true := rfl
theorem all_vb {l : List UInt8} : ∀ v ∈ l.map vb, v.oneCell' = true := fun v hv => by obtain ⟨x, _, rfl⟩ := List.mem_map.1 hv; rfl
theorem rvL_one (r : V.Rc) : ∀ v ∈ rvL r, v.oneCell' = true := fun v hv => by
  simp only [rvL, List.mem_append, List.mem_cons] at hv
  rcases hv with h | rfl | h
  · exact all_vb v h
  · rfl
  · exact all_vb v h
theorem nmL_one (k d : List UInt8) : ∀ v ∈ nmL k d, v.oneCell' = true := fun v hv => by
  simp only [nmL, List.mem_cons] at hv
  rcases hv with rfl | h
  · rfl
  · exact all_vb v h
theorem evL_one (k d c : List UInt8) : ∀ v ∈ evL k d c, v.oneCell' = true := fun v hv => by
  simp only [evL, List.mem_append] at hv
  rcases hv with h | h
  · exact nmL_one _ _ v h
  · exact all_vb v h
theorem svL_one (e : V.En) : ∀ v ∈ svL e, v.oneCell' = true := fun v hv => by
  simp only [svL, List.mem_append, List.mem_singleton] at hv
  rcases hv with h | rfl
  · exact evL_one _ _ _ v h
  · rfl
theorem cvL_one (c : V.Ct) : ∀ v ∈ cvL c, v.oneCell' = true := fun v hv => by
  simp only [cvL, List.mem_append, List.mem_cons] at hv
  rcases hv with h | rfl | h
  · exact evL_one _ _ _ v h
  · rfl
  · exact rvL_one _ v h

/-- a part of a row lies where it should -/
theorem range_part {w : World} {b : Nat} {T : TypeId} {C : Array Value} (hb : w.heap[b]? = some (.cells C T (0, 0))) (a m z : List Value) (o : Nat) (hC : C = (a ++ (m ++ z)).toArray) (ho : a.length = o) : w.rangeAt b o m := fun j v hv => by
  have hj : j < m.length := (List.getElem?_eq_some_iff.1 hv).1
  rw [cell_of_row _ _ _ _ _ _ hb, hC, List.getElem?_toArray, List.getElem?_append_right (by omega), ho, Nat.add_sub_cancel_left, List.getElem?_append_left hj]
  exact hv
theorem wl_mid {P : Program} {ops : Array Oper} {rest : List Oper} {o : Oper} {a : Act} {w : World} {Q : Exit → Act → World → Prop} (hw : Region.wanted o (yielded ops a.tmps) = true) (ty : TypeId) (x : Operand) (ho : o.op = .load ty x)
    (b q : Nat) (hx : a.eval x = .pointer (some ⟨b, q, none⟩)) (cs : List Value) (d : TypeDesc) (hc : w.rangeAt b q cs)
    (hu : P.underlying ty = some d) (hd : d.isRow = true) (hi : (P.info? ty).map (·.size) = some cs.length)
    (h : wpList P ops Q rest (a.put o.dst (.agg cs.toArray)) w) : wpList P ops Q (o :: rest) a w :=
  wpList_step fun _ hK => by rw [if_pos hw]; exact wp_load_mid ty x ho b q hx cs d hc hu hd hi (hK _ _ h)
theorem zd_dg : dg V.zd = zero32 := by unfold dg V.zd zero32; rw [List.map_replicate]; rfl

theorem rv_32 {r : V.Rc} (h : Rc32 r) : (rv r)[32]? = some (.int .i64 r.code) := by
  unfold rv rvL; rw [List.getElem?_toArray, List.getElem?_append_right (by simp [h.k])]; simp [h.k]
set_option maxRecDepth 8000 in
set_option maxHeartbeats 1000000 in
theorem canBe_at (r : V.Rc) (h : Rc32 r) (w : World) :
    Calls Tryd.prog 36 #[.agg (rv r)] w fun e w' => e = .returned (.bool (V.canB r)) ∧ Below w.heap.size w w' := by
  have h32 := rv_32 h
  have hb1 := h.c1
  have hb2 := h.c2
  have HB : Hid (Below w.heap.size w (w.alloc (.cells (rv r) 35))) := (Below.refl _ w).alloc (Nat.le_refl _) _
  have HR : Hid ((w.alloc (.cells (rv r) 35)).rangeAt w.heap.size 33 (r.out.map vb)) := range_part (heap_alloc_new _ _) (r.key.map vb ++ [Value.int .i64 r.code]) (r.out.map vb) [] 33 (by simp [rv, rvL]) (by simp [h.k])
  have hEQ : ∀ W, (Op.equalIn 10000 33 (.agg (dg r.out)) (.agg zero32)).run Tryd.prog W = .ok (decide (r.out = V.zd)) W := fun W => by rw [← zd_dg]; exact eqDg r.out V.zd h.o zd_length W
  have hol : (Tryd.prog.info? 33).map (·.size) = some (r.out.map vb).length := by rw [List.length_map, h.o]; exact info27
  have hdo : (r.out.map vb).toArray = dg r.out := rfl
  have hzz := zero27
  obtain ⟨c, hc⟩ : ∃ c, r.code = c := ⟨_, rfl⟩
  have hcan : V.canB r = decide (0 ≤ c ∧ c ≤ 99 ∧ (c = 0 ∨ r.out = V.zd)) := by unfold V.canB; rw [hc]
  rw [hcan]
  rw [hc] at h32 hb1 hb2
  clear hcan h hc
  generalize rv r = C at *
  by_cases h1 : c < 0
  · rw [show decide (0 ≤ c ∧ c ≤ 99 ∧ (c = 0 ∨ r.out = V.zd)) = false by simp; omega]
    clear HR
    go_enter Tryd.func36, Tryd.ntmps36
    go_wp2_with fail
    go_ret
    exact ⟨rfl, HB.out⟩
  · have h1' : decide (c < 0) = false := by simp; omega
    by_cases h2 : c ≤ 99
    · have h2' : decide (99 < c) = false := by simp; omega
      by_cases h3 : c = 0
      · subst h3
        rw [show decide ((0 : Int) ≤ 0 ∧ (0 : Int) ≤ 99 ∧ ((0 : Int) = 0 ∨ r.out = V.zd)) = true by simp]
        clear HR
        go_enter Tryd.func36, Tryd.ntmps36
        go_wp2_with fail
        go_ret
        exact ⟨rfl, HB.out⟩
      · have h3' : (c == 0) = false := by simp; exact h3
        obtain ⟨q, hq⟩ : ∃ q, decide (r.out = V.zd) = q := ⟨_, rfl⟩
        have e : decide (0 ≤ c ∧ c ≤ 99 ∧ (c = 0 ∨ r.out = V.zd)) = q := by rw [← hq]; by_cases ho : r.out = V.zd <;> simp [h3, ho] <;> omega
        rw [e]
        rw [hq] at hEQ
        clear e hq
        have hzs : (r.out.map vb).toArray = dg r.out := rfl
        generalize r.out.map vb = OL at *
        generalize dg r.out = OD at *
        subst hzs
        go_enter Tryd.func36, Tryd.ntmps36
        go_wp2_with (refine wl_mid (by rfl) 33 _ rfl w.heap.size 33 rfl OL _ HR.out und27 rfl hol ?_; clear HR)
        go_ret
        exact ⟨rfl, HB.out⟩
    · rw [show decide (0 ≤ c ∧ c ≤ 99 ∧ (c = 0 ∨ r.out = V.zd)) = false by simp; omega]
      have h2' : (99 : Int) < c := by omega
      clear HR h2
      go_enter Tryd.func36, Tryd.ntmps36
      go_wp2_with fail
      go_ret
      exact ⟨rfl, HB.out⟩
end Go.Proofs.YtgnajmiccbcacaaDoor
