/- The texts E1 E2 MK E3 E4 E5 as one. -/
import Derived.Test.YtlkllcnnnndllaaGreatDoorGT
import Derived.Test.YtlkllcnnnndllaaGreatDoorVMath
import Derived.Lib.ConvBytes
import Derived.Deep.MidRow
import Derived.Laws.Tables
import Derived.Test.YtlkllcnnnndllaaGreatDoorArgs
import Derived.Maps.OwnSet
import Derived.DeepKeys4
import Derived.Deep.RegionHeld3
/- Records, names, entries, contents as values; what hive.canBe and hive.digestOf answer. -/
namespace Go.Proofs.YtlkllcnnnndllaaGreatDoor
open Go.RowKit
set_option linter.unusedVariables false
set_option linter.unusedSimpArgs false

def rvL (r : V.Rc) : List Value := r.key.map vb ++ (Value.int .i64 r.code :: r.out.map vb)
def rv (r : V.Rc) : Array Value := (rvL r).toArray
def nmL (kind dig : List UInt8) : List Value := Value.string (M.bs kind) :: dig.map vb
def nmv (kind dig : List UInt8) : Array Value := (nmL kind dig).toArray
def evL (kind dig ck : List UInt8) : List Value := nmL kind dig ++ ck.map vb
def ev (kind dig ck : List UInt8) : Array Value := (evL kind dig ck).toArray
def svL (e : V.En) : List Value := evL e.kind e.dig e.ck ++ [Value.int .i64 (e.used : Int)]
def cvL (c : V.Ct) : List Value := evL c.kind c.dig c.ck ++ (Value.string (M.bs c.blob) :: rvL c.rc)
def cv (c : V.Ct) : Array Value := (cvL c).toArray

/-- all lengths are a digest's -/
structure Rc32 (r : V.Rc) : Prop where
  k : r.key.length = 32
  o : r.out.length = 32
  c1 : -9223372036854775808 ≤ r.code
  c2 : r.code ≤ 9223372036854775807
theorem zd_length : V.zd.length = 32 := by simp [V.zd]
theorem zr32 : Rc32 V.zr := ⟨zd_length, zd_length, by decide, by decide⟩
theorem rvL_length {r : V.Rc} (h : Rc32 r) : (rvL r).length = 65 := by simp [rvL, h.k, h.o]
theorem nmL_length {k d : List UInt8} (h : d.length = 32) : (nmL k d).length = 33 := by simp [nmL, h]
theorem evL_length {k d c : List UInt8} (h : d.length = 32) (hc : c.length = 32) : (evL k d c).length = 65 := by simp [evL, nmL, h, hc]
theorem svL_length {e : V.En} (h : e.dig.length = 32) (hc : e.ck.length = 32) : (svL e).length = 66 := by simp [svL, evL_length h hc]
theorem cvL_length {c : V.Ct} (h : c.dig.length = 32) (hc : c.ck.length = 32) (hr : Rc32 c.rc) : (cvL c).length = 131 := by simp [cvL, evL_length h hc, rvL_length hr]
theorem vb_one (x : UInt8) : (vb x).oneCell' = true := rfl
theorem all_vb {l : List UInt8} : ∀ v ∈ l.map vb, v.oneCell' = true := fun v hv => by obtain ⟨x, _, rfl⟩ := List.mem_map.1 hv; rfl
theorem rvL_one (r : V.Rc) : ∀ v ∈ rvL r, v.oneCell' = true := fun v hv => by
  simp only [rvL, List.mem_append, List.mem_cons] at hv
  rcases hv with h | rfl | h
  · exact all_vb v h
  · rfl
  · exact all_vb v h
theorem nmL_one (k d : List UInt8) : ∀ v ∈ nmL k d, v.oneCell' = true := fun v hv => by
  simp only [nmL, List.mem_cons] at hv
  rcases hv with rfl | h
  · rfl
  · exact all_vb v h
theorem evL_one (k d c : List UInt8) : ∀ v ∈ evL k d c, v.oneCell' = true := fun v hv => by
  simp only [evL, List.mem_append] at hv
  rcases hv with h | h
  · exact nmL_one _ _ v h
  · exact all_vb v h
theorem svL_one (e : V.En) : ∀ v ∈ svL e, v.oneCell' = true := fun v hv => by
  simp only [svL, List.mem_append, List.mem_singleton] at hv
  rcases hv with h | rfl
  · exact evL_one _ _ _ v h
  · rfl
theorem cvL_one (c : V.Ct) : ∀ v ∈ cvL c, v.oneCell' = true := fun v hv => by
  simp only [cvL, List.mem_append, List.mem_cons] at hv
  rcases hv with h | rfl | h
  · exact evL_one _ _ _ v h
  · rfl
  · exact rvL_one _ v h

/-- a part of a row lies where it should -/
theorem range_part {w : World} {b : Nat} {T : TypeId} {C : Array Value} (hb : w.heap[b]? = some (.cells C T (0, 0))) (a m z : List Value) (o : Nat) (hC : C = (a ++ (m ++ z)).toArray) (ho : a.length = o) : w.rangeAt b o m := fun j v hv => by
  have hj : j < m.length := (List.getElem?_eq_some_iff.1 hv).1
  rw [cell_of_row _ _ _ _ _ _ hb, hC, List.getElem?_toArray, List.getElem?_append_right (by omega), ho, Nat.add_sub_cancel_left, List.getElem?_append_left hj]
  exact hv
theorem wl_mid {P : Program} {ops : Array Oper} {rest : List Oper} {o : Oper} {a : Act} {w : World} {Q : Exit → Act → World → Prop} (hw : Region.wanted o (yielded ops a.tmps) = true) (ty : TypeId) (x : Operand) (ho : o.op = .load ty x)
    (b q : Nat) (hx : a.eval x = .pointer (some ⟨b, q, none⟩)) (cs : List Value) (d : TypeDesc) (hc : w.rangeAt b q cs)
    (hu : P.underlying ty = some d) (hd : d.isRow = true) (hi : (P.info? ty).map (·.size) = some cs.length)
    (h : wpList P ops Q rest (a.put o.dst (.agg cs.toArray)) w) : wpList P ops Q (o :: rest) a w :=
  wpList_step fun _ hK => by rw [if_pos hw]; exact wp_load_mid ty x ho b q hx cs d hc hu hd hi (hK _ _ h)
theorem zd_dg : dg V.zd = zero32 := by unfold dg V.zd zero32; rw [List.map_replicate]; rfl

theorem rv_32 {r : V.Rc} (h : Rc32 r) : (rv r)[32]? = some (.int .i64 r.code) := by
  unfold rv rvL; rw [List.getElem?_toArray, List.getElem?_append_right (by simp [h.k])]; simp [h.k]
set_option maxRecDepth 8000 in
set_option maxHeartbeats 1000000 in
theorem canBe_at (r : V.Rc) (h : Rc32 r) (w : World) :
    Calls Tryz.prog 33 #[.agg (rv r)] w fun e w' => e = .returned (.bool (V.canB r)) ∧ Below w.heap.size w w' := by
  have h32 := rv_32 h
  have hb1 := h.c1
  have hb2 := h.c2
  have HB : Hid (Below w.heap.size w (w.alloc (.cells (rv r) 41))) := (Below.refl _ w).alloc (Nat.le_refl _) _
  have HR : Hid ((w.alloc (.cells (rv r) 41)).rangeAt w.heap.size 33 (r.out.map vb)) := range_part (heap_alloc_new _ _) (r.key.map vb ++ [Value.int .i64 r.code]) (r.out.map vb) [] 33 (by simp [rv, rvL]) (by simp [h.k])
  have hEQ : ∀ W, (Op.equalIn 10000 39 (.agg (dg r.out)) (.agg zero32)).run Tryz.prog W = .ok (decide (r.out = V.zd)) W := fun W => by rw [← zd_dg]; exact eqDg r.out V.zd h.o zd_length W
  have hol : (Tryz.prog.info? 39).map (·.size) = some (r.out.map vb).length := by rw [List.length_map, h.o]; exact info27
  have hdo : (r.out.map vb).toArray = dg r.out := rfl
  have hzz := zero27
  obtain ⟨c, hc⟩ : ∃ c, r.code = c := ⟨_, rfl⟩
  have hcan : V.canB r = decide (0 ≤ c ∧ c ≤ 99 ∧ (c = 0 ∨ r.out = V.zd)) := by unfold V.canB; rw [hc]
  rw [hcan]
  rw [hc] at h32 hb1 hb2
  clear hcan h hc
  generalize rv r = C at *
  by_cases h1 : c < 0
  · rw [show decide (0 ≤ c ∧ c ≤ 99 ∧ (c = 0 ∨ r.out = V.zd)) = false by simp; omega]
    clear HR
    go_enter Tryz.func33, Tryz.ntmps33
    go_wp2_with fail
    go_ret
    exact ⟨rfl, HB.out⟩
  · have h1' : decide (c < 0) = false := by simp; omega
    by_cases h2 : c ≤ 99
    · have h2' : decide (99 < c) = false := by simp; omega
      by_cases h3 : c = 0
      · subst h3
        rw [show decide ((0 : Int) ≤ 0 ∧ (0 : Int) ≤ 99 ∧ ((0 : Int) = 0 ∨ r.out = V.zd)) = true by simp]
        clear HR
        go_enter Tryz.func33, Tryz.ntmps33
        go_wp2_with fail
        go_ret
        exact ⟨rfl, HB.out⟩
      · have h3' : (c == 0) = false := by simp; exact h3
        obtain ⟨q, hq⟩ : ∃ q, decide (r.out = V.zd) = q := ⟨_, rfl⟩
        have e : decide (0 ≤ c ∧ c ≤ 99 ∧ (c = 0 ∨ r.out = V.zd)) = q := by rw [← hq]; by_cases ho : r.out = V.zd <;> simp [h3, ho] <;> omega
        rw [e]
        rw [hq] at hEQ
        clear e hq
        have hzs : (r.out.map vb).toArray = dg r.out := rfl
        generalize r.out.map vb = OL at *
        generalize dg r.out = OD at *
        subst hzs
        go_enter Tryz.func33, Tryz.ntmps33
        go_wp2_with (refine wl_mid (by rfl) 39 _ rfl w.heap.size 33 rfl OL _ HR.out und27 rfl hol ?_; clear HR)
        go_ret
        exact ⟨rfl, HB.out⟩
    · rw [show decide (0 ≤ c ∧ c ≤ 99 ∧ (c = 0 ∨ r.out = V.zd)) = false by simp; omega]
      have h2' : (99 : Int) < c := by omega
      clear HR h2
      go_enter Tryz.func33, Tryz.ntmps33
      go_wp2_with fail
      go_ret
      exact ⟨rfl, HB.out⟩
end Go.Proofs.YtlkllcnnnndllaaGreatDoor

/- What hive.digestOf, hive.readBlob and hive.unseal answer. -/
namespace Go.Proofs.YtlkllcnnnndllaaGreatDoor
open Go.RowKit
set_option linter.unusedVariables false
set_option linter.unusedSimpArgs false
attribute [local go_sem ↓] zero27

theorem convS (d : List UInt8) (W : World) : ∃ cap W', (convert 9 111 (.string (M.bs d))).run Tryz.prog W = .ok (.slice (some ⟨W.heap.size, 0, none⟩) d.length cap) W' ∧ d.length ≤ cap ∧ Below W.heap.size W W' ∧ W'.rangeAt W.heap.size 0 (d.map vb) ∧ W'.heap.size = W.heap.size + 1 := by
  refine ⟨_, _, by rw [Lib.run_convert_string_bytes (P := Tryz.prog) W 9 111 5 (M.bs d) Tryz.underlying9 Tryz.underlying111 Tryz.underlying5, M.bs_size], grownCap_ge _ _ _ _, ?_, ?_, Lib.bytesWorld_size _ _ _⟩
  · have hA : Below W.heap.size W (W.drew.alloc (.cells (Lib.bytesCells W 5 (M.bs d)) 5)) := (Below.refl _ W).drew.alloc (Nat.le_refl _) _
    refine ⟨hA.os, hA.tape, hA.output, by rw [Lib.bytesWorld_size]; omega, fun i hi => Lib.bytesWorld_at_old _ _ _ _ hi⟩
  · intro j v hv
    have hj : j < d.length := by have := (List.getElem?_eq_some_iff.1 hv).1; simpa using this
    rw [Nat.zero_add, Lib.bytesWorld_cell _ _ _ _ (by rw [M.bs_size]; exact hj), M.bs_toList]
    rw [List.getElem?_map, List.getElem?_eq_getElem hj] at hv
    obtain rfl := Option.some.inj hv
    rw [List.getD_eq_getElem?_getD, List.getElem?_eq_getElem hj]; rfl
theorem arrD (W : World) (a : Option Addr) (cap : Nat) : (Instr.arrayAt 39 (.slice a 32 cap)).run Tryz.prog W = .ok (.pointer a) W := by
  simp [Instr.arrayAt, run_underlying und27]
theorem results2_rowV {P : Program} {fn : Func} {p q : Tmp} {ty : TypeId} (h : fn.results = #[.cell p ty, .tmp q]) (tmps : Array Value) (w : World) (g : Nat) (t : TypeId) (cs : Array Value) (fr : Nat × Nat) (d : TypeDesc)
    (hp : tmps.getD p undef = .pointer (some ⟨g, 0, none⟩)) (hg : w.heap[g]? = some (.cells cs t fr))
    (hu : P.underlying ty = some d) (hd : (match d with | .struct _ | .array _ _ => true | _ => false) = true) (hi : (P.info? ty).map (·.size) = some cs.size) :
    (results fn tmps).run P w = .ok (.tuple #[.agg cs, tmps.getD q undef]) w := by
  have hp' : tmps[p]?.getD undef = .pointer (some ⟨g, 0, none⟩) := by simpa using hp
  simp [results, h, hp', asAddr, run_loadVar_row w g t ty cs fr d hg hu hd hi]
theorem results3_rowV {P : Program} {fn : Func} {p q r : Tmp} {ty : TypeId} (h : fn.results = #[.cell p ty, .tmp q, .tmp r]) (tmps : Array Value) (w : World) (g : Nat) (t : TypeId) (cs : Array Value) (fr : Nat × Nat) (d : TypeDesc)
    (hp : tmps.getD p undef = .pointer (some ⟨g, 0, none⟩)) (hg : w.heap[g]? = some (.cells cs t fr))
    (hu : P.underlying ty = some d) (hd : (match d with | .struct _ | .array _ _ => true | _ => false) = true) (hi : (P.info? ty).map (·.size) = some cs.size) :
    (results fn tmps).run P w = .ok (.tuple #[.agg cs, tmps.getD q undef, tmps.getD r undef]) w := by
  have hp' : tmps[p]?.getD undef = .pointer (some ⟨g, 0, none⟩) := by simpa using hp
  simp [results, h, hp', asAddr, run_loadVar_row w g t ty cs fr d hg hu hd hi]

set_option maxRecDepth 8000 in
set_option maxHeartbeats 1000000 in
theorem digestOf_at (d : List UInt8) (hd : d.length = 32) (w : World) :
    Calls Tryz.prog 85 #[.string (M.bs d)] w fun e w' => e = .returned (.agg (dg d)) ∧ Below w.heap.size w w' := by
  obtain ⟨cc, W1, hcv, hcc, hB1, hr1, hs1⟩ := convS d (w.alloc (.cells zero32 39))
  rw [hd] at hcv
  have h10 : (w.alloc (.cells zero32 39)).heap.size = w.heap.size + 1 := by simp
  rw [h10] at hcv hr1 hB1
  have har := arrD
  have HR1 : Hid (W1.rangeAt (w.heap.size + 1) 0 (d.map vb)) := hr1
  have hi : (Tryz.prog.info? 39).map (·.size) = some (d.map vb).length := by rw [info27, List.length_map, hd]
  have HN : Hid (W1.heap[w.heap.size]? = some (.cells zero32 39 (0, 0))) := by
    show _ = _
    rw [hB1.block _ (by omega)]; exact heap_alloc_new _ _
  have HB : Hid (Below w.heap.size w W1) := ((Below.refl _ w).alloc (Nat.le_refl _) _).trans (hB1.mono (by omega))
  have hDs : (dg d).size = 32 := by rw [dg_size, hd]
  have hD1 := dg_one d
  have HDA : Hid ((d.map vb).toArray = dg d) := rfl
  have hzs := zero32_size
  generalize dg d = DA at *
  clear hr1 hB1 hs1 h10 hcc
  go_enter Tryz.func85, Tryz.ntmps85
  go_wp2_with (first
    | (refine wpList_load_mid rfl 39 _ rfl (w.heap.size + 1) 0 rfl (d.map vb) _ HR1.out und27 rfl hi ?_; rw [HDA.out]; clear HR1)
    | (refine wpList_store_row rfl 39 _ _ rfl w.heap.size DA rfl rfl 39 zero32 HN.out (by rw [hDs]; exact info27) (by rw [hDs, hzs]) hD1 ?_))
  (try simp only [Exit.inBlock, Exit.then])
  refine bodyPost_ret (results_cell_row rfl _ _ _ 39 _ (0, 0) _ rfl (setRow_heap _ _ _ _ _ _ HN.out) und27 rfl (by rw [hDs]; exact info27)) rfl ?_
  exact ⟨rfl, below_setRow HB.out (Nat.le_refl _) _⟩

theorem bs_eqC (a b : List UInt8) : ((M.bs a).toList == b) = decide (a = b) := by
  rw [Lib.toList_data, M.bs_toList]
  by_cases h : a = b
  · subst h; simp
  · simp [h]
theorem bs_eqL (a b : List UInt8) : ((M.bs a).toList == (M.bs b).toList) = decide (a = b) := by
  rw [Lib.toList_data, Lib.toList_data, M.bs_toList, M.bs_toList]
  by_cases h : a = b
  · subst h; simp
  · simp [h]

set_option maxRecDepth 8000 in
set_option maxHeartbeats 1000000 in
theorem readBlob_at (l : List (List UInt8)) (a : Option Addr) (c : Nat) (w : World) (hl : l.length ≤ 4) (ht : ∀ t ∈ l, t.length ≤ 9223372036854775807) (hv : Strs w.heap.size w (.slice a l.length c) l) :
    Calls Tryz.prog 70 #[.slice a l.length c] w fun e w' => e = .returned (match V.readBlob l with | some b => .tuple #[.string (M.bs b), .bool true] | none => .tuple #[.string ⟨#[]⟩, .bool false]) ∧ w' = w := by
  by_cases h2 : l.length = 2
  · obtain ⟨k, b, rfl⟩ : ∃ k b, l = [k, b] := by
      match l, h2 with
      | [k, b], _ => exact ⟨k, b, rfl⟩
    obtain ⟨sb, off, e1, _, hc0⟩ := strs_at hv 0 k rfl
    obtain ⟨sb1, off1, e2, _, hc1⟩ := strs_at hv 1 b rfl
    subst e1
    simp only [Option.some.injEq, Addr.mk.injEq, and_true] at e2
    obtain ⟨rfl, rfl⟩ := e2
    rw [Nat.add_zero] at hc0
    have hzb := M.bs_size b
    have hbl : (b.length : Int) ≤ 9223372036854775807 := by have := ht b (by simp); omega
    have hk98 : ((M.bs k).toList == [98]) = decide (k = V.kb) := bs_eqC k V.kb
    clear hv ht h2 hl
    simp only [V.readBlob]
    by_cases hk : k = V.kb
    · have hq : ((M.bs k).toList == [98]) = true := by rw [hk98]; simpa using hk
      clear hk98
      by_cases hb : b.length ≤ 512
      · rw [if_pos ⟨hk, hb⟩]
        have hb' : (b.length : Int) ≤ 512 := by omega
        clear hk hb
        go_enter Tryz.func70, Tryz.ntmps70
        go_wp2_with fail
        go_ret2
        exact ⟨rfl, rfl⟩
      · rw [if_neg (fun h => hb h.2)]
        have hb' : (512 : Int) < (b.length : Int) := by omega
        clear hk hb
        go_enter Tryz.func70, Tryz.ntmps70
        go_wp2_with fail
        go_ret2
        exact ⟨rfl, rfl⟩
    · have hq : ((M.bs k).toList == [98]) = false := by rw [hk98]; simpa using hk
      rw [if_neg (fun h => hk h.1)]
      clear hk98 hk
      go_enter Tryz.func70, Tryz.ntmps70
      go_wp2_with fail
      go_ret2
      exact ⟨rfl, rfl⟩
  · have e : V.readBlob l = none := by
      unfold V.readBlob
      split
      · simp at h2
      · rfl
    rw [e]
    have h2' : ((l.length : Int) != 2) = true := by simp; omega
    clear hv ht e h2
    go_enter Tryz.func70, Tryz.ntmps70
    go_wp2_with fail
    go_ret2
    exact ⟨rfl, rfl⟩
end Go.Proofs.YtlkllcnnnndllaaGreatDoor

/- Maps whose keys are names, or digests: what a key reads as. -/
namespace Go.Proofs.YtlkllcnnnndllaaGreatDoor
open Go.RowKit Go.Maps
set_option linter.unusedVariables false
set_option linter.unusedSimpArgs false
set_option maxRecDepth 8000

theorem laidOut : laidOutB Tryz.prog = true := by kernel_rfl
theorem rowNm : (72 : TypeId) < Tryz.prog.types.size := of_decide_eq_true (by kernel_rfl)
theorem rowDg : (39 : TypeId) < Tryz.prog.types.size := of_decide_eq_true (by kernel_rfl)
theorem wideNm : (match Tryz.prog.underlying 72 with | some (.array _ _) | some (.struct _) => true | _ => false) = true := by rw [Tryz.underlying72]
theorem wideDg : (match Tryz.prog.underlying 39 with | some (.array _ _) | some (.struct _) => true | _ => false) = true := by rw [und27]
theorem lawNm : Keyed Tryz.prog 72 := Keyed.of_law (deep_law_laid laidOut (m := 3) (by omega) rowNm (by kernel_rfl) wideNm)
theorem lawDg : Keyed Tryz.prog 39 := Keyed.of_law (deep_law_laid laidOut (m := 2) (by omega) rowDg (by kernel_rfl) wideDg)

theorem wf_u8 (x : UInt8) : (Lit.int .u8 (x.toNat : Int)).wf = true := by
  have h := x.toNat_lt
  have e1 : IntKind.u8.min = 0 := by decide
  have e2 : IntKind.u8.max = 255 := by decide
  simp only [Lit.wf, e1, e2, Bool.and_eq_true, decide_eq_true_eq]
  omega
theorem lits_byte (n : Nat) (x : UInt8) : Tryz.prog.keyLits (n + 1) 5 [vb x] = some [.int .u8 (x.toNat : Int)] := by
  unfold Program.keyLits
  rw [Tryz.underlying5]
  simp only [wf_u8, and_self, if_true]
theorem lits_string (n : Nat) (s : ByteArray) (h : s.size ≤ maxLen) : Tryz.prog.keyLits (n + 1) 9 [.string s] = some [.string s.data.toList] := by
  unfold Program.keyLits
  rw [Tryz.underlying9]
  simp only [h, if_true]
theorem mapM_some {α β : Type} (f : α → Option β) (g : α → β) : ∀ l : List α, (∀ x ∈ l, f x = some (g x)) → l.mapM f = some (l.map g)
  | [], _ => rfl
  | x :: r, h => by
    rw [List.mapM_cons, h x (by simp), mapM_some f g r (fun z hz => h z (by simp [hz]))]
    rfl
/-- a byte, as a key's part -/
def lb8 (x : UInt8) : Lit := .int .u8 (x.toNat : Int)
theorem range_flat (d : List UInt8) : ((List.range d.length).map fun i => [lb8 (S.by8 d i)]).flatten = d.map lb8 := by
  apply List.ext_getElem?
  intro i
  have e : ((List.range d.length).map fun i => [lb8 (S.by8 d i)]).flatten = (List.range d.length).map fun i => lb8 (S.by8 d i) := by
    generalize List.range d.length = L
    induction L with
    | nil => rfl
    | cons x r ih => simp [ih]
  rw [e]
  by_cases h : i < d.length
  · simp [h, S.by8, List.getD]
  · simp [h, List.getElem?_eq_none (Nat.le_of_not_lt h)]
theorem cellsB : Tryz.prog.cellsOf 5 = 1 := by kernel_rfl
theorem cellsD : Tryz.prog.cellsOf 39 = 32 := by kernel_rfl
theorem cellsN : Tryz.prog.cellsOf 72 = 33 := by kernel_rfl
theorem cellsS : Tryz.prog.cellsOf 9 = 1 := by kernel_rfl
theorem lits_dig (n : Nat) (d : List UInt8) (h : d.length = 32) : Tryz.prog.keyLits (n + 2) 39 (d.map vb) = some (d.map lb8) := by
  unfold Program.keyLits
  rw [und27]
  simp only [List.length_map, h, cellsD, if_true, cellsB, Nat.mul_one]
  rw [mapM_some (fun i => Tryz.prog.keyLits (n + 1) 5 (((d.map vb).drop i).take 1)) (fun i => [lb8 (S.by8 d i)]) (List.range 32) (fun i hi => by
    have hi' : i < d.length := by rw [h]; simpa using hi
    have e : ((d.map vb).drop i).take 1 = [vb (S.by8 d i)] := by
      rw [List.drop_eq_getElem_cons (by simpa using hi')]
      simp [S.by8, List.getD, hi']
    rw [e]; exact lits_byte n _)]
  have := range_flat d
  rw [h] at this
  simp only [Option.map_some, this]
theorem fieldsN : ∃ f g : Field, Tryz.prog.underlying 72 = some (.struct #[f, g]) ∧ f.type = 9 ∧ g.type = 39 ∧ f.offset = 0 ∧ g.offset = 1 ∧ (f.name != "_") = true ∧ (g.name != "_") = true := ⟨_, _, Tryz.underlying72, rfl, rfl, rfl, rfl, by decide, by decide⟩
theorem lits_nm (n : Nat) (k d : List UInt8) (hk : k.length ≤ maxLen) (h : d.length = 32) : Tryz.prog.keyLits (n + 3) 72 (nmL k d) = some (Lit.string k :: d.map lb8) := by
  obtain ⟨f, g, hu, h1, h2, h3, h4, h5, h6⟩ := fieldsN
  have hls := lits_dig n d h
  unfold Program.keyLits
  rw [hu]
  have e0 : (#[f, g] : Array Field).all (·.name != "_") = true := by simp [h5, h6]
  have e1 : ((nmL k d).drop f.offset).take (Tryz.prog.cellsOf f.type) = [.string (M.bs k)] := by rw [h3, h1, cellsS]; rfl
  have e2 : ((nmL k d).drop g.offset).take (Tryz.prog.cellsOf g.type) = d.map vb := by
    rw [h4, h2, cellsD]
    exact List.take_of_length_le (by simp [nmL, h])
  simp only [nmL_length h, cellsN, e0, and_self, if_true, List.mapM_cons, List.mapM_nil, e1, e2]
  rw [h1, h2, lits_string _ _ (by rw [M.bs_size]; exact hk), hls, M.bs_toList]
  simp
/-- what a name, a digest reads as -/
def klN (k d : List UInt8) : Lit := .string (keyBytes (Lit.string k :: d.map lb8))
def klD (d : List UInt8) : Lit := .string (keyBytes (d.map lb8))
theorem tsize : Tryz.prog.types.size + 1 = (Tryz.prog.types.size - 2) + 3 := by
  have : 2 ≤ Tryz.prog.types.size := of_decide_eq_true (by kernel_rfl)
  omega
theorem key_nm (k d : List UInt8) (hk : k.length ≤ maxLen) (h : d.length = 32) : keyOf Tryz.prog 72 (.agg (nmv k d)) = some (klN k d) := by
  have hls := lits_nm (Tryz.prog.types.size - 2) k d hk h
  rw [← tsize] at hls
  unfold klN
  · unfold keyOf
    obtain ⟨f, g, hu, _⟩ := fieldsN
    have hkt : Tryz.prog.keyType 72 = true := by kernel_rfl
    have hfo : (Value.agg (nmv k d)).formed Tryz.prog 72 = true := by
      unfold Value.formed
      rw [hu]
      simp [cellsN, nmv, nmL_length h]
    unfold nmv at hfo ⊢
    rw [hu]
    simp only [hkt, hfo, Bool.and_self, if_true, Value.cells, hls, Option.map_some]
theorem key_dg (d : List UInt8) (h : d.length = 32) : keyOf Tryz.prog 39 (.agg (dg d)) = some (klD d) := by
  have hls := lits_dig (Tryz.prog.types.size - 1) d h
  have ht : Tryz.prog.types.size - 1 + 2 = Tryz.prog.types.size + 1 := by have := tsize; omega
  rw [ht] at hls
  unfold klD
  · unfold keyOf
    have hkt : Tryz.prog.keyType 39 = true := by kernel_rfl
    have hfo : (Value.agg (dg d)).formed Tryz.prog 39 = true := by
      unfold Value.formed
      rw [und27]
      simp [cellsD, dg_size, h]
    unfold dg at hfo ⊢
    rw [und27]
    simp only [hkt, hfo, Bool.and_self, if_true, Value.cells, hls, Option.map_some]
theorem vbs_inj {a b : List UInt8} (h : a.map vb = b.map vb) : a = b := by
  refine (List.map_inj_right ?_).1 h
  intro x y e
  simp only [vb, Value.int.injEq, true_and] at e
  exact UInt8.toNat_inj.1 (by omega)
theorem klN_inj {k k' d d' : List UInt8} (hk : k.length ≤ maxLen) (hk' : k'.length ≤ maxLen) (h : d.length = 32) (h' : d'.length = 32) (e : klN k d = klN k' d') : k = k' ∧ d = d' := by
  have e1 := key_nm k d hk h
  have e2 := key_nm k' d' hk' h'
  rw [e] at e1
  have e3 := lawNm.inj e1 e2
  simp only [nmv, nmL, Value.agg.injEq] at e3
  have e4 := congrArg Array.toList e3
  simp only [List.cons.injEq, Value.string.injEq] at e4
  exact ⟨M.bs_inj e4.1, vbs_inj e4.2⟩
theorem klD_inj {d d' : List UInt8} (h : d.length = 32) (h' : d'.length = 32) (e : klD d = klD d') : d = d' := by
  have e1 := key_dg d h
  have e2 := key_dg d' h'
  rw [e] at e1
  have e3 := lawDg.inj e1 e2
  simp only [dg, Value.agg.injEq] at e3
  exact vbs_inj (congrArg Array.toList e3)
end Go.Proofs.YtlkllcnnnndllaaGreatDoor

/- What hive.unseal answers. -/
namespace Go.Proofs.YtlkllcnnnndllaaGreatDoor
open Go.RowKit
set_option linter.unusedVariables false
set_option linter.unusedSimpArgs false
attribute [local go_sem ↓] zero27

theorem take_bsV (s : List UInt8) (n : Nat) : (M.bs s).extract 0 n = M.bs (s.take n) := by
  rw [extract_bs]; simp
theorem hst32 (W : World) : (W.alloc (.cells zero32 39)).heap[W.heap.size]? = some (.cells zero32 39 (0, 0)) := heap_alloc_new _ _

set_option maxRecDepth 8000 in
set_option maxHeartbeats 1000000 in
theorem unseal_short (t : List UInt8) (w : World) (h : t.length < 32) :
    Calls Tryz.prog 69 #[.string (M.bs t)] w fun e w' => e = .returned (.tuple #[.agg zero32, .slice none 0 0, .bool false]) ∧ Below w.heap.size w w' := by
  have hz := M.bs_size t
  have h' : (t.length : Int) < 32 := by omega
  have hzs := zero32_size
  have HN : Hid ((w.alloc (.cells zero32 39)).heap[w.heap.size]? = some (.cells zero32 39 (0, 0))) := hst32 w
  have HB : Hid (Below w.heap.size w (w.alloc (.cells zero32 39))) := (Below.refl _ w).alloc (Nat.le_refl _) _
  have h1 : zero32.all (·.oneCell') = true := by rw [← zd_dg]; exact dg_one _
  clear h
  go_enter Tryz.func69, Tryz.ntmps69
  go_wp2_with (refine wpList_store_row rfl 39 _ _ rfl w.heap.size zero32 rfl rfl 39 zero32 HN.out (by rw [hzs]; exact info27) rfl h1 ?_)
  (try simp only [Exit.inBlock, Exit.then])
  refine bodyPost_ret (results3_rowV rfl _ _ _ 39 zero32 (0, 0) _ rfl (setRow_heap _ _ _ _ _ _ HN.out) und27 rfl (by rw [hzs]; exact info27)) rfl ?_
  exact ⟨rfl, below_setRow HB.out (Nat.le_refl _) _⟩

/-- what unseal answers: ck: the check's cells -/
def UN (o : Option (List (List UInt8))) (ck : Array Value) (e : Ending) (w' : World) : Prop :=
  match o with
  | none => e = .returned (.tuple #[.agg zero32, .slice none 0 0, .bool false])
  | some l => ∃ a c, e = .returned (.tuple #[.agg ck, .slice a l.length c, .bool true]) ∧ Strs w'.heap.size w' (.slice a l.length c) l
theorem strs_setRow {W : World} {g : Nat} {cs cs0 : Array Value} {T : TypeId} (hg : W.heap[g]? = some (.cells cs0 T (0, 0))) (h0 : ∀ s : ByteArray, Value.string s ∉ cs0.toList) {v : Value} {l : List (List UInt8)} (h : Strs W.heap.size W v l) : Strs (W.setRow g cs).heap.size (W.setRow g cs) v l := by
  have hz : (W.setRow g cs).heap.size = W.heap.size := by simp [World.setRow]
  rw [hz]
  rcases h with h | ⟨b, off, cap, rfl, hb, hc⟩
  · exact Or.inl h
  · by_cases hl : l = []
    · left; subst hl; exact ⟨rfl, _, _, rfl⟩
    · refine Or.inr ⟨b, off, cap, rfl, hb, fun i t ht => ?_⟩
      have hne : b ≠ g := fun e => by
        subst e
        have := hc i t ht
        rw [cell_of_row _ _ _ _ _ _ hg] at this
        exact h0 _ (by rw [Array.getElem?_eq_some_iff] at this; obtain ⟨hi, e⟩ := this; rw [← e]; simp)
      rw [← hc i t ht]
      refine World.cell?_of_block (w := W) ?_
      show (W.heap.modify g _)[b]? = _
      rw [Array.getElem?_modify, if_neg (fun e => hne e.symm)]
theorem zero32_nostr : ∀ s : ByteArray, Value.string s ∉ zero32.toList := fun s h => by simp [zero32] at h
set_option maxRecDepth 8000 in
set_option maxHeartbeats 2000000 in
theorem unseal_long (t : List UInt8) (w : World) (hG : GW w) (h : 32 ≤ t.length) (hl : t.length ≤ 640) :
    Calls Tryz.prog 69 #[.string (M.bs t)] w fun e w' => Below w.heap.size w w' ∧ UN (V.unsl t) (dg (t.take 32)) e w' := by
  have hz := M.bs_size t
  have h' : decide ((t.length : Int) < 32) = false := by simp; omega
  have hle : (t.length : Int) ≤ 640 := by omega
  have hle2 : (32 : Int) ≤ (t.length : Int) := by omega
  have hzs := zero32_size
  have hx1 := take_bsV t 32
  have hx2 : (M.bs t).extract 32 t.length = M.bs (t.drop 32) := by rw [← hz]; exact drop_bs t 32
  have hlt : (t.take 32).length = 32 := by simp; omega
  have hld : (t.drop 32).length ≤ 640 := by simp; omega
  have hu1 : V.unsl t = (if S.sha (t.drop 32) ≠ t.take 32 then none else match M.readRow (t.drop 32) 4 with | some (l, []) => some l | _ => none) := by
    unfold V.unsl; rw [if_neg (by omega)]; rfl
  obtain ⟨o, ho⟩ : ∃ o, V.unsl t = o := ⟨_, rfl⟩
  rw [ho]
  have hu2 := ho.symm.trans hu1
  clear ho
  generalize t.take 32 = T32 at *
  generalize t.drop 32 = D32 at *
  have HW : Hid (GB (w.alloc (.cells zero32 39)) (w.alloc (.cells zero32 39))) := GB.refl (hG.below ((Below.refl _ w).alloc (Nat.le_refl _) _) hG.z)
  have HE : Hid (∀ W, GB (w.alloc (.cells zero32 39)) W → Below w.heap.size w W ∧ W.heap[w.heap.size]? = some (.cells zero32 39 (0, 0))) := fun W hW =>
    ⟨((Below.refl _ w).alloc (Nat.le_refl _) _).trans (hW.b.mono (by simp)), by rw [hW.b.block _ (by simp)]; exact hst32 w⟩
  have h1 : zero32.all (·.oneCell') = true := by rw [← zd_dg]; exact dg_one _
  have CD : Hid (∀ W, GB (w.alloc (.cells zero32 39)) W → Calls Tryz.prog 85 #[.string (M.bs T32)] W fun e w' => e = .returned (.agg (dg T32)) ∧ GB (w.alloc (.cells zero32 39)) w') := fun W hW => by
    refine (digestOf_at T32 hlt W).mono ?_
    rintro e w' ⟨rfl, hb⟩; exact ⟨rfl, hW.step hb⟩
  have hDs : (dg T32).size = 32 := by rw [dg_size, hlt]
  have hD1 := dg_one T32
  have HST : Hid (∀ W : World, (W.alloc (.cells zero32 39)).heap[W.heap.size]? = some (.cells zero32 39 (0, 0))) := hst32
  have hui := und27
  have hi : (Tryz.prog.info? 39).map (·.size) = some (T32.map vb).length := by rw [info27, List.length_map, hlt]
  obtain ⟨q, hq⟩ : ∃ q, decide (S.sha D32 = T32) = q := ⟨_, rfl⟩
  have hEQ : ∀ W, (Op.equalIn 10000 39 (.agg (dg (S.sha D32))) (.agg (T32.map vb).toArray)).run Tryz.prog W = .ok q W := fun W => by rw [← hq]; exact eqDg (S.sha D32) T32 (S.sha_length _) hlt W
  have CRn : Hid (M.readRow D32 4 = none → ∀ W, GB (w.alloc (.cells zero32 39)) W → Calls Tryz.prog 86 #[.string (M.bs D32), .int .i64 4] W fun e w' => e = .returned (.tuple #[.slice none 0 0, .string ⟨#[]⟩, .bool false]) ∧ GB (w.alloc (.cells zero32 39)) w') := fun hR W hW => by
    refine (readRow_none D32 4 (by omega) (Or.inl (by omega)) hR (Bl.refl W)).mono ?_
    rintro e w' ⟨rfl, hb⟩; exact ⟨rfl, hW.step hb⟩
  have CRy : Hid (∀ l r, M.readRow D32 4 = some (l, r) → ∀ W, GB (w.alloc (.cells zero32 39)) W → Calls Tryz.prog 86 #[.string (M.bs D32), .int .i64 4] W fun e w' => ∃ a c, e = .returned (.tuple #[.slice a l.length c, .string (M.bs r), .bool true]) ∧ Strs w'.heap.size w' (.slice a l.length c) l ∧ GB (w.alloc (.cells zero32 39)) w' ∧ Below W.heap.size W w') := fun l r hR W hW => by
    refine (readRow_yes D32 4 (by omega) (Or.inl (by omega)) l r hR (Bl.refl W)).mono ?_
    rintro e w' ⟨a, c, rfl, hs, hb⟩; exact ⟨a, c, rfl, hs, hW.step hb, hb⟩
  have HIF : Hid (∀ W, GB (w.alloc (.cells zero32 39)) W → GB (w.alloc (.cells zero32 39)) (W.alloc (.cells (dg T32) 39))) := fun W hW => hW.alloc _
  have HRG : Hid (∀ (W W' : World), Below (W.heap.size + 1) (W.alloc (.cells (dg T32) 39)) W' → W'.rangeAt W.heap.size 0 (T32.map vb)) := fun W W' hW' => by
    refine range_part (C := dg T32) (T := 39) ?_ [] (T32.map vb) [] 0 (by simp [dg]) rfl
    rw [hW'.block _ (by omega)]; exact heap_alloc_new _ _
  have HKP : Hid (∀ (W1 W : World), (GB (w.alloc (.cells zero32 39)) W ∧ Below (W1.heap.size + 1) (W1.alloc (.cells (dg T32) 39)) W) → ((GB (w.alloc (.cells zero32 39)) W ∧ Below (W1.heap.size + 1) (W1.alloc (.cells (dg T32) 39)) W) ∧ W.rangeAt W1.heap.size 0 (T32.map vb))) := fun W1 W h => ⟨h, HRG.out _ _ h.2⟩
  have HS0 : Hid (∀ W1 : World, GB (w.alloc (.cells zero32 39)) W1 → (GB (w.alloc (.cells zero32 39)) (W1.alloc (.cells (dg T32) 39)).drew ∧ Below (W1.heap.size + 1) (W1.alloc (.cells (dg T32) 39)) (W1.alloc (.cells (dg T32) 39)).drew)) := fun W1 h => ⟨(h.alloc _).step ((Below.refl _ _).drew), (Below.refl _ _).drew⟩
  have HS2 : Hid (∀ W1 : World, GB (w.alloc (.cells zero32 39)) W1 → (GB (w.alloc (.cells zero32 39)) ((W1.alloc (.cells (dg T32) 39)).alloc (.cells #[.string (M.bs D32)] 9)).drew ∧ Below (W1.heap.size + 1) (W1.alloc (.cells (dg T32) 39)) ((W1.alloc (.cells (dg T32) 39)).alloc (.cells #[.string (M.bs D32)] 9)).drew)) := fun W1 h =>
    ⟨((h.alloc _).alloc _).step ((Below.refl _ _).drew), ((Below.refl _ _).alloc (by simp) _).drew⟩
  have CO : Hid (∀ W1 : World, GB (w.alloc (.cells zero32 39)) W1 → Calls Tryz.prog 18 #[.slice (some ⟨W1.heap.size + 1, 0, none⟩) 1 1] ((W1.alloc (.cells (dg T32) 39)).alloc (.cells #[.string (M.bs D32)] 9)).drew fun e w' => e = .returned (.agg (dg (S.sha D32))) ∧ (GB (w.alloc (.cells zero32 39)) w' ∧ Below (W1.heap.size + 1) (W1.alloc (.cells (dg T32) 39)) w')) := fun W1 hW => by
    have hsz : (W1.alloc (.cells (dg T32) 39)).drew.heap.size = W1.heap.size + 1 := by simp [World.drew]
    have hC := Of_g D32 9 (GB.refl ((hW.alloc (.cells (dg T32) 39)).step ((Below.refl _ _).drew)).g) (by omega)
    rw [hsz] at hC
    refine Calls.mono hC ?_
    rintro e w' ⟨rfl, hg⟩
    exact ⟨rfl, ((hW.alloc _).step ((Below.refl _ _).drew)).step hg.b, ((Below.refl _ _).drew).trans (hg.b.mono (by omega))⟩
  have HO : Hid (o = _) := hu2
  clear hu2
  generalize dg T32 = DA at *
  clear hG hl hu1 hlt hld
  go_enter Tryz.func69, Tryz.ntmps69
  go_wp2_with (first
    | (go_at_call 85; refine (CD.out _ HW.out).mono ?_; clear CD HW; rintro e w1 ⟨rfl, HB1⟩)
    | (refine wpList_store_row rfl 39 _ _ rfl w1.heap.size DA rfl rfl 39 zero32 (HST.out w1) (by rw [hDs]; exact info27) (by rw [hDs, hzs]) hD1 ?_; clear HST; rw [World.setRow_alloc_new]))
  have HS1 := HS0.out _ HB1
  have HS2 := HS2.out _ HB1
  have CO := CO.out _ HB1
  clear HS0
  go_region_held3 (fun W => (GB (w.alloc (.cells zero32 39)) W ∧ Below (w1.heap.size + 1) (w1.alloc (.cells DA 39)) W) ∧ W.rangeAt w1.heap.size 0 (T32.map vb))
    (first | exact HKP.out _ _ HS | exact HKP.out _ _ HS1 | exact HKP.out _ _ HS2)
    ((go_at_call 18; refine CO.mono ?_; rintro e w' ⟨rfl, HS⟩))
  have HN : Hid _ := (HE.out _ HS.1).2
  have HF : Hid _ := (HE.out _ HS.1).1
  have HRN : Hid (∀ W', GB (w.alloc (.cells zero32 39)) W' → Below w'.heap.size w' W' → W'.heap[w1.heap.size]? = some (.cells DA 39 (0, 0))) := fun W' _ hb => by
    have hsz : w1.heap.size + 1 ≤ w'.heap.size := by have := HS.2.size; simp at this; exact this
    rw [hb.block _ (by omega), HS.2.block _ (by omega)]; exact heap_alloc_new _ _
  have HS' : Hid _ := HS.1
  clear HS hEQ
  cases q
  · have hq' : S.sha D32 ≠ T32 := by simpa using hq
    clear CRn CRy hq
    go_wp2_with (refine wpList_store_row rfl 39 _ _ rfl w.heap.size zero32 rfl rfl 39 zero32 HN.out (by rw [hzs]; exact info27) rfl h1 ?_)
    (try simp only [Exit.inBlock, Exit.then])
    refine bodyPost_ret (results3_rowV rfl _ _ _ 39 zero32 (0, 0) _ rfl (setRow_heap _ _ _ _ _ _ HN.out) und27 rfl (by rw [hzs]; exact info27)) rfl ?_
    refine ⟨below_setRow HF.out (Nat.le_refl _) _, ?_⟩
    rw [HO.out, if_pos hq']
    rfl
  · have hq' : S.sha D32 = T32 := by simpa using hq
    have HQ : Hid (S.sha D32 = T32) := hq'
    clear hq hq'
    cases hR : M.readRow D32 4 with
    | none =>
      have CR := CRn.out hR
      have CR : Hid _ := CR
      have HR : Hid _ := hR
      clear CRn CRy hR HN HF
      go_wp2_with (first
        | (go_at_call 86; refine (CR.out _ HS'.out).mono ?_; clear CR; rintro e w2 ⟨rfl, HB2⟩; have HN : Hid _ := (HE.out _ HB2).2; have HF : Hid _ := (HE.out _ HB2).1)
        | (refine wpList_store_row rfl 39 _ _ rfl w.heap.size zero32 rfl rfl 39 zero32 HN.out (by rw [hzs]; exact info27) rfl h1 ?_))
      (try simp only [Exit.inBlock, Exit.then])
      refine bodyPost_ret (results3_rowV rfl _ _ _ 39 zero32 (0, 0) _ rfl (setRow_heap _ _ _ _ _ _ HN.out) und27 rfl (by rw [hzs]; exact info27)) rfl ?_
      refine ⟨below_setRow HF.out (Nat.le_refl _) _, ?_⟩
      rw [HO.out, if_neg (by simpa using HQ.out), HR.out]
      rfl
    | some x =>
      obtain ⟨l, r⟩ := x
      have CR := CRy.out l r hR
      have CR : Hid _ := CR
      have HR : Hid _ := hR
      clear CRn CRy hR HN HF
      by_cases hr : r = []
      · have hne := bs_nil
        rw [hr] at CR
        have HRr : Hid (r = []) := hr
        clear hr
        go_wp2_with (first
          | (go_at_call 86; refine (CR.out _ HS'.out).mono ?_; clear CR; rintro e w2 ⟨a, c, rfl, HST2, HB2, HBB⟩; have HN : Hid _ := (HE.out _ HB2).2; have HF : Hid _ := (HE.out _ HB2).1; have HD : Hid _ := HRN.out _ HB2 HBB; have HST2 : Hid _ := HST2)
          | (refine wpList_load_row rfl 39 _ rfl w1.heap.size rfl 39 DA (0, 0) _ HD.out und27 rfl (by rw [hDs]; exact info27) ?_)
          | (refine wpList_store_row rfl 39 _ _ rfl w.heap.size DA rfl rfl 39 zero32 HN.out (by rw [hDs]; exact info27) (by rw [hDs, hzs]) hD1 ?_))
        (try simp only [Exit.inBlock, Exit.then])
        refine bodyPost_ret (results3_rowV rfl _ _ _ 39 DA (0, 0) _ rfl (setRow_heap _ _ _ _ _ _ HN.out) und27 rfl (by rw [hDs]; exact info27)) rfl ?_
        refine ⟨below_setRow HF.out (Nat.le_refl _) _, ?_⟩
        rw [HO.out, if_neg (by simpa using HQ.out), HR.out, HRr.out]
        exact ⟨a, c, rfl, strs_setRow HN.out zero32_nostr HST2.out⟩
      · have hne := bs_ne r (by cases r with | nil => exact absurd rfl hr | cons => simp)
        have HRr : Hid (r ≠ []) := hr
        clear hr
        go_wp2_with (first
          | (go_at_call 86; refine (CR.out _ HS'.out).mono ?_; clear CR; rintro e w2 ⟨a, c, rfl, HST2, HB2, HBB⟩; have HN : Hid _ := (HE.out _ HB2).2; have HF : Hid _ := (HE.out _ HB2).1)
          | (refine wpList_store_row rfl 39 _ _ rfl w.heap.size zero32 rfl rfl 39 zero32 HN.out (by rw [hzs]; exact info27) rfl h1 ?_))
        (try simp only [Exit.inBlock, Exit.then])
        refine bodyPost_ret (results3_rowV rfl _ _ _ 39 zero32 (0, 0) _ rfl (setRow_heap _ _ _ _ _ _ HN.out) und27 rfl (by rw [hzs]; exact info27)) rfl ?_
        refine ⟨below_setRow HF.out (Nat.le_refl _) _, ?_⟩
        have e : o = none := by
          rw [HO.out, if_neg (by simpa using HQ.out), HR.out]
          cases r with
          | nil => exact absurd rfl HRr.out
          | cons => rfl
        rw [e]
        rfl
end Go.Proofs.YtlkllcnnnndllaaGreatDoor

/- What structs are built of their parts. -/
namespace Go.Proofs.YtlkllcnnnndllaaGreatDoor
open Go.RowKit
set_option linter.unusedVariables false
set_option linter.unusedSimpArgs false

/-- a part laid into cells -/
theorem fold_at (L : List Value) : ∀ (Z : Array Value) (off k : Nat), off + k + L.length ≤ Z.size → (L.zipIdx k).foldl (fun (cs : Array Value) (x : Value × Nat) => cs.setIfInBounds (off + x.2) x.1) Z = (Z.toList.take (off + k) ++ L ++ Z.toList.drop (off + k + L.length)).toArray := by
  induction L with
  | nil => intro Z off k h; simp
  | cons x L ih =>
    intro Z off k h
    rw [List.zipIdx_cons, List.foldl_cons, ih _ _ _ (by simp at h ⊢; omega)]
    congr 1
    simp only [List.length_cons] at h
    have hk : off + k < Z.toList.length := by simp; omega
    have e : off + (k + 1) = off + k + 1 := by omega
    rw [e, Array.toList_setIfInBounds, List.take_add_one, List.getElem?_set_self hk, List.take_set_of_le (Nat.le_refl _), List.drop_set_of_lt (by omega)]
    simp only [List.length_cons, Option.toList_some, List.append_assoc, List.cons_append, List.nil_append]
    rw [show off + k + 1 + L.length = off + k + (L.length + 1) by omega]
theorem fill_cons (place : Nat → Option (Nat × Nat)) (A M' Z' : List Value) (i : Nat) (v : Value) (rest : List (Nat × Value)) (L : List Value) (off : Nat) (hv : v.cells = L.toArray) (hp : place i = some (off, L.length)) (hA : A.length = off) (hM : M'.length = L.length) :
    Instr.fill place (A ++ M' ++ Z').toArray ((i, v) :: rest) = Instr.fill place (A ++ L ++ Z').toArray rest := by
  have hz : (A ++ M' ++ Z').toArray.size = off + L.length + Z'.length := by simp [hA, hM]; omega
  rw [Instr.fill, hp]
  simp only [hv, List.size_toArray]
  rw [if_neg (by simp [hA, hM])]
  congr 1
  have := fold_at L (A ++ M' ++ Z').toArray off 0 (by rw [hz]; omega)
  simp only [Nat.add_zero] at this
  rw [show L.toArray.zipIdx = (L.zipIdx 0).toArray by simp]
  rw [List.foldl_toArray]
  refine this.trans ?_
  congr 1
  have e1 : (A ++ M' ++ Z').take off = A := by rw [List.append_assoc]; exact List.take_left' hA
  have e2 : (A ++ M' ++ Z').drop (off + L.length) = Z' := List.drop_left' (by simp [hA, hM])
  rw [e1, e2]
theorem run_build {P : Program} {t : TypeId} {fs : Array Field} (hu : P.underlying t = some (.struct fs)) (zero : Array Value) (hz : ∀ W, (zeroValue t).run P W = .ok (.agg zero) W) (places : Array (Nat × Nat))
    (hp : ∀ W, (fs.mapM (fun f => do pure (f.offset, ← sizeOf f.type) : Field → Sem (Nat × Nat))).run P W = .ok places W) (parts : Array (Nat × Value)) (cells : Array Value) (hf : Instr.fill (places[·]?) zero parts.toList = some cells) (W : World) :
    (Instr.build t parts).run P W = .ok (.agg cells) W := by
  unfold Instr.build
  simp only [Sem.run_bind, hz, Result.andThen_ok, run_underlying hu, hp, Value.cells, hf, Sem.run_pure]
def zc : V.Ct := ⟨[], V.zd, V.zd, [], V.zr⟩
theorem zero35 (W : World) : (zeroValue 41).run Tryz.prog W = .ok (.agg (rv V.zr)) W := by kernel_rfl
theorem zero73 (W : World) : (zeroValue 72).run Tryz.prog W = .ok (.agg (nmv [] V.zd)) W := by kernel_rfl
theorem zero75 (W : World) : (zeroValue 74).run Tryz.prog W = .ok (.agg (ev [] V.zd V.zd)) W := by kernel_rfl
theorem zero77 (W : World) : (zeroValue 76).run Tryz.prog W = .ok (.agg (cv zc)) W := by kernel_rfl
theorem zeroSl (W : World) : (zeroValue 96).run Tryz.prog W = .ok (.agg (svL V.en0).toArray) W := by kernel_rfl
theorem place35 : ∃ fs, Tryz.prog.underlying 41 = some (.struct fs) ∧ ∀ W, (fs.mapM (fun f => do pure (f.offset, ← sizeOf f.type) : Field → Sem (Nat × Nat))).run Tryz.prog W = .ok #[(0, 32), (32, 1), (33, 32)] W := ⟨_, Tryz.underlying41, fun W => by kernel_rfl⟩
theorem place73 : ∃ fs, Tryz.prog.underlying 72 = some (.struct fs) ∧ ∀ W, (fs.mapM (fun f => do pure (f.offset, ← sizeOf f.type) : Field → Sem (Nat × Nat))).run Tryz.prog W = .ok #[(0, 1), (1, 32)] W := ⟨_, Tryz.underlying72, fun W => by kernel_rfl⟩
theorem place75 : ∃ fs, Tryz.prog.underlying 74 = some (.struct fs) ∧ ∀ W, (fs.mapM (fun f => do pure (f.offset, ← sizeOf f.type) : Field → Sem (Nat × Nat))).run Tryz.prog W = .ok #[(0, 33), (33, 32)] W := ⟨_, Tryz.underlying74, fun W => by kernel_rfl⟩
theorem place77 : ∃ fs, Tryz.prog.underlying 76 = some (.struct fs) ∧ ∀ W, (fs.mapM (fun f => do pure (f.offset, ← sizeOf f.type) : Field → Sem (Nat × Nat))).run Tryz.prog W = .ok #[(0, 65), (65, 1), (66, 65)] W := ⟨_, Tryz.underlying76, fun W => by kernel_rfl⟩
theorem placeSl : ∃ fs, Tryz.prog.underlying 96 = some (.struct fs) ∧ ∀ W, (fs.mapM (fun f => do pure (f.offset, ← sizeOf f.type) : Field → Sem (Nat × Nat))).run Tryz.prog W = .ok #[(0, 65), (65, 1)] W := ⟨_, Tryz.underlying96, fun W => by kernel_rfl⟩

theorem build35 (a o : List UInt8) (c : Int) (ha : a.length = 32) (ho : o.length = 32) (W : World) : (Instr.build 41 #[(0, .agg (dg a)), (1, .int .i64 c), (2, .agg (dg o))]).run Tryz.prog W = .ok (.agg (rv ⟨a, c, o⟩)) W := by
  obtain ⟨fs, hu, hp⟩ := place35
  refine run_build hu _ zero35 _ hp _ _ ?_ W
  have e0 : rv V.zr = ([] ++ V.zd.map vb ++ (Value.int .i64 0 :: V.zd.map vb)).toArray := by simp [rv, rvL, V.zr]
  rw [e0]
  rw [fill_cons _ [] (V.zd.map vb) _ 0 _ _ (a.map vb) 0 rfl (by simp [ha]) rfl (by simp [ha, zd_length])]
  rw [show ([] ++ a.map vb ++ (Value.int .i64 0 :: V.zd.map vb)) = (a.map vb ++ [Value.int .i64 0] ++ V.zd.map vb) by simp]
  rw [fill_cons _ (a.map vb) [Value.int .i64 0] _ 1 _ _ [Value.int .i64 c] 32 rfl (by simp) (by simp [ha]) rfl]
  rw [show (a.map vb ++ [Value.int .i64 c] ++ V.zd.map vb) = ((a.map vb ++ [Value.int .i64 c]) ++ V.zd.map vb ++ []) by simp]
  rw [fill_cons _ (a.map vb ++ [Value.int .i64 c]) (V.zd.map vb) _ 2 _ _ (o.map vb) 33 rfl (by simp [ho]) (by simp [ha]) (by simp [ho, zd_length])]
  simp [Instr.fill, rv, rvL]
theorem build73 (k d : List UInt8) (hd : d.length = 32) (W : World) : (Instr.build 72 #[(0, .string (M.bs k)), (1, .agg (dg d))]).run Tryz.prog W = .ok (.agg (nmv k d)) W := by
  obtain ⟨fs, hu, hp⟩ := place73
  refine run_build hu _ zero73 _ hp _ _ ?_ W
  have e0 : nmv [] V.zd = ([] ++ [Value.string (M.bs [])] ++ V.zd.map vb).toArray := by simp [nmv, nmL]
  rw [e0]
  rw [fill_cons _ [] [Value.string (M.bs [])] _ 0 _ _ [Value.string (M.bs k)] 0 rfl (by simp) rfl rfl]
  rw [show ([] ++ [Value.string (M.bs k)] ++ V.zd.map vb) = ([Value.string (M.bs k)] ++ V.zd.map vb ++ []) by simp]
  rw [fill_cons _ [Value.string (M.bs k)] (V.zd.map vb) _ 1 _ _ (d.map vb) 1 rfl (by simp [hd]) rfl (by simp [hd, zd_length])]
  simp [Instr.fill, nmv, nmL]
theorem build75 (k d c : List UInt8) (hd : d.length = 32) (hc : c.length = 32) (W : World) : (Instr.build 74 #[(0, .agg (nmv k d)), (1, .agg (dg c))]).run Tryz.prog W = .ok (.agg (ev k d c)) W := by
  obtain ⟨fs, hu, hp⟩ := place75
  refine run_build hu _ zero75 _ hp _ _ ?_ W
  have e0 : ev [] V.zd V.zd = ([] ++ nmL [] V.zd ++ V.zd.map vb).toArray := by simp [ev, evL]
  rw [e0]
  rw [fill_cons _ [] (nmL [] V.zd) _ 0 _ _ (nmL k d) 0 rfl (by simp [nmL_length hd]) rfl (by rw [nmL_length hd, nmL_length zd_length])]
  rw [show ([] ++ nmL k d ++ V.zd.map vb) = (nmL k d ++ V.zd.map vb ++ []) by simp]
  rw [fill_cons _ (nmL k d) (V.zd.map vb) _ 1 _ _ (c.map vb) 33 rfl (by simp [hc]) (nmL_length hd) (by simp [hc, zd_length])]
  simp [Instr.fill, ev, evL]
theorem build77b (k d c b : List UInt8) (hd : d.length = 32) (hc : c.length = 32) (W : World) : (Instr.build 76 #[(0, .agg (ev k d c)), (1, .string (M.bs b))]).run Tryz.prog W = .ok (.agg (cv ⟨k, d, c, b, V.zr⟩)) W := by
  obtain ⟨fs, hu, hp⟩ := place77
  refine run_build hu _ zero77 _ hp _ _ ?_ W
  have e0 : cv zc = ([] ++ evL [] V.zd V.zd ++ (Value.string (M.bs []) :: rvL V.zr)).toArray := by simp [cv, cvL, zc]
  rw [e0]
  rw [fill_cons _ [] (evL [] V.zd V.zd) _ 0 _ _ (evL k d c) 0 rfl (by simp [evL_length hd hc]) rfl (by rw [evL_length hd hc, evL_length zd_length zd_length])]
  rw [show ([] ++ evL k d c ++ (Value.string (M.bs []) :: rvL V.zr)) = (evL k d c ++ [Value.string (M.bs [])] ++ rvL V.zr) by simp]
  rw [fill_cons _ (evL k d c) [Value.string (M.bs [])] _ 1 _ _ [Value.string (M.bs b)] 65 rfl (by simp) (evL_length hd hc) rfl]
  simp [Instr.fill, cv, cvL]
theorem build77r (k d c : List UInt8) (r : V.Rc) (hd : d.length = 32) (hc : c.length = 32) (hr : Rc32 r) (W : World) : (Instr.build 76 #[(0, .agg (ev k d c)), (2, .agg (rv r))]).run Tryz.prog W = .ok (.agg (cv ⟨k, d, c, [], r⟩)) W := by
  obtain ⟨fs, hu, hp⟩ := place77
  refine run_build hu _ zero77 _ hp _ _ ?_ W
  have e0 : cv zc = ([] ++ evL [] V.zd V.zd ++ (Value.string (M.bs []) :: rvL V.zr)).toArray := by simp [cv, cvL, zc]
  rw [e0]
  rw [fill_cons _ [] (evL [] V.zd V.zd) _ 0 _ _ (evL k d c) 0 rfl (by simp [evL_length hd hc]) rfl (by rw [evL_length hd hc, evL_length zd_length zd_length])]
  rw [show ([] ++ evL k d c ++ (Value.string (M.bs []) :: rvL V.zr)) = ((evL k d c ++ [Value.string (M.bs [])]) ++ rvL V.zr ++ []) by simp]
  rw [fill_cons _ (evL k d c ++ [Value.string (M.bs [])]) (rvL V.zr) _ 2 _ _ (rvL r) 66 rfl (by simp [rvL_length hr]) (by simp [evL_length hd hc]) (by rw [rvL_length hr, rvL_length zr32])]
  simp [Instr.fill, cv, cvL]
theorem buildSl (k d c : List UInt8) (hd : d.length = 32) (hc : c.length = 32) (W : World) : (Instr.build 96 #[(0, .agg (ev k d c))]).run Tryz.prog W = .ok (.agg (svL ⟨k, d, c, 0⟩).toArray) W := by
  obtain ⟨fs, hu, hp⟩ := placeSl
  refine run_build hu _ zeroSl _ hp _ _ ?_ W
  have e0 : (svL V.en0).toArray = ([] ++ evL [] V.zd V.zd ++ [Value.int .i64 0]).toArray := by simp [svL, V.en0]
  rw [e0]
  rw [fill_cons _ [] (evL [] V.zd V.zd) _ 0 _ _ (evL k d c) 0 rfl (by simp [evL_length hd hc]) rfl (by rw [evL_length hd hc, evL_length zd_length zd_length])]
  simp [Instr.fill, svL]
end Go.Proofs.YtlkllcnnnndllaaGreatDoor

/- What hive.readRecord answers. -/
namespace Go.Proofs.YtlkllcnnnndllaaGreatDoor
open Go.RowKit
set_option linter.unusedVariables false
set_option linter.unusedSimpArgs false
attribute [local go_sem ↓] zero35
attribute [local go_sem 10000] build35

theorem und35 : ∃ fs, Tryz.prog.underlying 41 = some (.struct fs) := ⟨_, Tryz.underlying41⟩
theorem info35 : (Tryz.prog.info? 41).map (·.size) = some 65 := by kernel_rfl
theorem rv_size {r : V.Rc} (h : Rc32 r) : (rv r).size = 65 := by rw [rv, List.size_toArray, rvL_length h]
theorem rv_one (r : V.Rc) : (rv r).all (·.oneCell') = true := all_oneCell_toArray (rvL_one r)
theorem hst35 (W : World) : (W.alloc (.cells (rv V.zr) 41)).heap[W.heap.size]? = some (.cells (rv V.zr) 41 (0, 0)) := heap_alloc_new _ _
def rrNo : Value := .tuple #[.agg (rv V.zr), .bool false]
def rrYes (r : V.Rc) : Value := .tuple #[.agg (rv r), .bool true]

/-- texts in memory, each by its cell -/
def SC (w : World) (a : Option Addr) (l : List (List UInt8)) : Prop := ∃ sb off, a = some ⟨sb, off, none⟩ ∧ sb < w.heap.size ∧ ∀ i t, l[i]? = some t → w.cell? ⟨sb, off + i, none⟩ = some (.string (M.bs t))
theorem sc_of {w : World} {a : Option Addr} {c : Nat} {l : List (List UInt8)} (h : Strs w.heap.size w (.slice a l.length c) l) (hl : 0 < l.length) : SC w a l := by
  rcases h with ⟨rfl, _⟩ | ⟨b, off, cap, e, hb, hc⟩
  · simp at hl
  · simp only [Value.slice.injEq] at e
    exact ⟨b, off, e.1, hb, hc⟩

set_option maxRecDepth 8000 in
set_option maxHeartbeats 1000000 in
theorem rr_len (l : List (List UInt8)) (a : Option Addr) (c : Nat) (w : World) (hl : l.length ≤ 4) (h4 : l.length ≠ 4) :
    Calls Tryz.prog 71 #[.slice a l.length c] w fun e w' => e = .returned rrNo ∧ Below w.heap.size w w' := by
  have h4' : ((l.length : Int) != 4) = true := by simp; omega
  have hzs := rv_size zr32
  have h1 := rv_one V.zr
  obtain ⟨fs, hum⟩ := und35
  have HN : Hid _ := hst35 w
  have HB : Hid (Below w.heap.size w (w.alloc (.cells (rv V.zr) 41))) := (Below.refl _ w).alloc (Nat.le_refl _) _
  clear h4
  unfold rrNo
  go_enter Tryz.func71, Tryz.ntmps71
  go_wp2_with (refine wpList_store_row rfl 41 _ _ rfl w.heap.size (rv V.zr) rfl rfl 41 (rv V.zr) HN.out (by rw [hzs]; exact info35) rfl h1 ?_)
  (try simp only [Exit.inBlock, Exit.then])
  refine bodyPost_ret (results2_rowV rfl _ _ _ 41 (rv V.zr) (0, 0) _ rfl (setRow_heap _ _ _ _ _ _ HN.out) hum rfl (by rw [hzs]; exact info35)) rfl ?_
  exact ⟨rfl, below_setRow HB.out (Nat.le_refl _) _⟩

set_option maxRecDepth 8000 in
set_option maxHeartbeats 1000000 in
theorem rr_form (k a n o : List UInt8) (sa : Option Addr) (c : Nat) (w : World) (ht : a.length ≤ 9223372036854775807 ∧ o.length ≤ 9223372036854775807) (hv : Strs w.heap.size w (.slice sa 4 c) [k, a, n, o]) (hbad : k ≠ V.kr ∨ a.length ≠ 32 ∨ o.length ≠ 32) :
    Calls Tryz.prog 71 #[.slice sa 4 c] w fun e w' => e = .returned rrNo ∧ Below w.heap.size w w' := by
  obtain ⟨sb, off, rfl, hsb, hc⟩ := sc_of (l := [k, a, n, o]) hv (by simp)
  have hB0 : Below w.heap.size w (w.alloc (.cells (rv V.zr) 41)) := (Below.refl _ w).alloc (Nat.le_refl _) _
  have hc0 : w.cell? ⟨sb, off, none⟩ = some (.string (M.bs k)) := hc 0 k rfl
  have hc1 : w.cell? ⟨sb, off + 1, none⟩ = some (.string (M.bs a)) := hc 1 a rfl
  have hc3 : w.cell? ⟨sb, off + 3, none⟩ = some (.string (M.bs o)) := hc 3 o rfl
  have hk98 : ((M.bs k).toList == [114]) = decide (k = V.kr) := bs_eqC k V.kr
  have hza := M.bs_size a
  have hzo := M.bs_size o
  have hal : (a.length : Int) ≤ 9223372036854775807 := by omega
  have hol : (o.length : Int) ≤ 9223372036854775807 := by omega
  have hzs := rv_size zr32
  have h1 := rv_one V.zr
  obtain ⟨fs, hum⟩ := und35
  have HN : Hid _ := hst35 w
  have HB : Hid (Below w.heap.size w (w.alloc (.cells (rv V.zr) 41))) := hB0
  unfold rrNo
  clear hc hv hB0
  by_cases hk : k = V.kr
  · have hq : ((M.bs k).toList == [114]) = true := by rw [hk98]; simpa using hk
    by_cases ha : a.length = 32
    · have ho : ((o.length : Int) != 32) = true := by rcases hbad with h | h | h; exact absurd hk h; exact absurd ha h; simp; omega
      have ha' : ((a.length : Int) != 32) = false := by simp; omega
      clear hk98 hk hbad ha ht
      go_enter Tryz.func71, Tryz.ntmps71
      go_wp2_with (refine wpList_store_row rfl 41 _ _ rfl w.heap.size (rv V.zr) rfl rfl 41 (rv V.zr) HN.out (by rw [hzs]; exact info35) rfl h1 ?_)
      (try simp only [Exit.inBlock, Exit.then])
      refine bodyPost_ret (results2_rowV rfl _ _ _ 41 (rv V.zr) (0, 0) _ rfl (setRow_heap _ _ _ _ _ _ HN.out) hum rfl (by rw [hzs]; exact info35)) rfl ?_
      exact ⟨rfl, below_setRow HB.out (Nat.le_refl _) _⟩
    · have ha' : ((a.length : Int) != 32) = true := by simp; omega
      clear hk98 hk hbad ha ht
      go_enter Tryz.func71, Tryz.ntmps71
      go_wp2_with (refine wpList_store_row rfl 41 _ _ rfl w.heap.size (rv V.zr) rfl rfl 41 (rv V.zr) HN.out (by rw [hzs]; exact info35) rfl h1 ?_)
      (try simp only [Exit.inBlock, Exit.then])
      refine bodyPost_ret (results2_rowV rfl _ _ _ 41 (rv V.zr) (0, 0) _ rfl (setRow_heap _ _ _ _ _ _ HN.out) hum rfl (by rw [hzs]; exact info35)) rfl ?_
      exact ⟨rfl, below_setRow HB.out (Nat.le_refl _) _⟩
  · have hq : ((M.bs k).toList == [114]) = false := by rw [hk98]; simpa using hk
    clear hk98 hk hbad ht
    go_enter Tryz.func71, Tryz.ntmps71
    go_wp2_with (refine wpList_store_row rfl 41 _ _ rfl w.heap.size (rv V.zr) rfl rfl 41 (rv V.zr) HN.out (by rw [hzs]; exact info35) rfl h1 ?_)
    (try simp only [Exit.inBlock, Exit.then])
    refine bodyPost_ret (results2_rowV rfl _ _ _ 41 (rv V.zr) (0, 0) _ rfl (setRow_heap _ _ _ _ _ _ HN.out) hum rfl (by rw [hzs]; exact info35)) rfl ?_
    exact ⟨rfl, below_setRow HB.out (Nat.le_refl _) _⟩

set_option maxRecDepth 8000 in
set_option maxHeartbeats 1000000 in
theorem rr_num (a n o : List UInt8) (sa : Option Addr) (c : Nat) (w : World) (ha : a.length = 32) (ho : o.length = 32) (hnl : n.length ≤ 9223372036854775807) (hv : Strs w.heap.size w (.slice sa 4 c) [V.kr, a, n, o]) (hbad : ∀ x, M.readNum n ≠ some (x, [])) :
    Calls Tryz.prog 71 #[.slice sa 4 c] w fun e w' => e = .returned rrNo ∧ Below w.heap.size w w' := by
  obtain ⟨sb, off, rfl, hsb, hc⟩ := sc_of (l := [V.kr, a, n, o]) hv (by simp)
  have hB0 : Below w.heap.size w (w.alloc (.cells (rv V.zr) 41)) := (Below.refl _ w).alloc (Nat.le_refl _) _
  have hc0 : w.cell? ⟨sb, off, none⟩ = some (.string (M.bs V.kr)) := hc 0 V.kr rfl
  have hc1 : w.cell? ⟨sb, off + 1, none⟩ = some (.string (M.bs a)) := hc 1 a rfl
  have hc2 : w.cell? ⟨sb, off + 2, none⟩ = some (.string (M.bs n)) := hc 2 n rfl
  have hc3 : w.cell? ⟨sb, off + 3, none⟩ = some (.string (M.bs o)) := hc 3 o rfl
  have hq : ((M.bs V.kr).toList == [114]) = true := by rw [bs_eqC]; decide
  have hza := M.bs_size a
  have hzo := M.bs_size o
  rw [ha] at hza
  rw [ho] at hzo
  have hzs := rv_size zr32
  have h1 := rv_one V.zr
  obtain ⟨fs, hum⟩ := und35
  have H0 : Bl (w.alloc (.cells (rv V.zr) 41)) (w.alloc (.cells (rv V.zr) 41)) := Below.refl _ _
  have HE : Hid (∀ W, Bl (w.alloc (.cells (rv V.zr) 41)) W → Below w.heap.size w W ∧ W.heap[w.heap.size]? = some (.cells (rv V.zr) 41 (0, 0))) := fun W hW => ⟨hB0.trans (Below.mono hW (by simp)), by rw [Below.block hW _ (by simp)]; exact hst35 w⟩
  have CN : Hid (∀ W, Bl (w.alloc (.cells (rv V.zr) 41)) W → Calls Tryz.prog 87 #[.string (M.bs n)] W fun e w' => e = .returned (rnV (M.readNum n)) ∧ Bl (w.alloc (.cells (rv V.zr) 41)) w') := fun W hW => readNum_b n (by unfold maxLen; omega) hW
  unfold rrNo
  generalize V.kr = KR at *
  clear hc hv hB0 hnl
  cases hN : M.readNum n with
  | none =>
    rw [hN] at CN
    unfold rnV at CN
    clear hbad hN
    go_enter Tryz.func71, Tryz.ntmps71
    go_wp2_with (first
      | (go_at_call 87; refine (CN.out _ H0).mono ?_; clear CN H0; rintro e w2 ⟨rfl, HB2⟩; have HN : Hid _ := (HE.out _ HB2).2; have HF : Hid _ := (HE.out _ HB2).1)
      | (refine wpList_store_row rfl 41 _ _ rfl w.heap.size (rv V.zr) rfl rfl 41 (rv V.zr) HN.out (by rw [hzs]; exact info35) rfl h1 ?_))
    (try simp only [Exit.inBlock, Exit.then])
    refine bodyPost_ret (results2_rowV rfl _ _ _ 41 (rv V.zr) (0, 0) _ rfl (setRow_heap _ _ _ _ _ _ HN.out) hum rfl (by rw [hzs]; exact info35)) rfl ?_
    exact ⟨rfl, below_setRow HF.out (Nat.le_refl _) _⟩
  | some x =>
    obtain ⟨v, r⟩ := x
    have hr : r ≠ [] := fun e => hbad v (by rw [hN, e])
    have hne := bs_ne r (by cases r with | nil => exact absurd rfl hr | cons => simp)
    rw [hN] at CN
    unfold rnV at CN
    clear hbad hN hr
    go_enter Tryz.func71, Tryz.ntmps71
    go_wp2_with (first
      | (go_at_call 87; refine (CN.out _ H0).mono ?_; clear CN H0; rintro e w2 ⟨rfl, HB2⟩; have HN : Hid _ := (HE.out _ HB2).2; have HF : Hid _ := (HE.out _ HB2).1)
      | (refine wpList_store_row rfl 41 _ _ rfl w.heap.size (rv V.zr) rfl rfl 41 (rv V.zr) HN.out (by rw [hzs]; exact info35) rfl h1 ?_))
    (try simp only [Exit.inBlock, Exit.then])
    refine bodyPost_ret (results2_rowV rfl _ _ _ 41 (rv V.zr) (0, 0) _ rfl (setRow_heap _ _ _ _ _ _ HN.out) hum rfl (by rw [hzs]; exact info35)) rfl ?_
    exact ⟨rfl, below_setRow HF.out (Nat.le_refl _) _⟩
end Go.Proofs.YtlkllcnnnndllaaGreatDoor
