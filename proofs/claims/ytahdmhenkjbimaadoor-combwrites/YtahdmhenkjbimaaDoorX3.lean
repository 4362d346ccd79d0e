/- What the reference's Of answers: the digest. -/
import Derived.Test.YtahdmhenkjbimaaDoorX2
import Derived.Test.YtahdmhenkjbimaaDoorGS
import Derived.Deep.AppendLies
import Derived.Deep.RegionWith
import Derived.Lib.Strings
namespace Go.Proofs.YtahdmhenkjbimaaDoor
open Go.RowKit
set_option linter.unusedVariables false
set_option linter.unusedSimpArgs false
attribute [local go_sem ↓] zero47
attribute [local go_sem ↓] zero27

theorem step_load_row {P : Program} {ops : Array Oper} {o : Oper} {a : Act} {w : World} {K : Act → World → Prop} {Q : Exit → Act → World → Prop} {E : Prop} (hgd : o.guard = none) (ty : TypeId) (x : Operand) (ho : o.op = .load ty x)
    (g : Nat) (hx : a.eval x = .pointer (some ⟨g, 0, none⟩)) (t : TypeId) (cs : Array Value) (fr : Nat × Nat) (d : TypeDesc) (hg : w.heap[g]? = some (.cells cs t fr))
    (hu : P.underlying ty = some d) (hd : (match d with | .struct _ | .array _ _ => true | _ => false) = true) (hi : (P.info? ty).map (·.size) = some cs.size)
    (h : K (a.put o.dst (.agg cs)) w) : if Region.wanted o (yielded ops a.tmps) = true then Oper.wp P o a w K Q else E := by
  have hw : Region.wanted o (yielded ops a.tmps) = true := by simp [Region.wanted, hgd]
  rw [if_pos hw]
  exact wp_load_row ty x ho g hx t cs fr d hg hu hd hi h
theorem step_store_row {P : Program} {ops : Array Oper} {o : Oper} {a : Act} {w : World} {K : Act → World → Prop} {Q : Exit → Act → World → Prop} {E : Prop} (hgd : o.guard = none) (ty : TypeId) (x y : Operand) (ho : o.op = .store ty x y)
    (g : Nat) (cells : Array Value) (hx : a.eval x = .pointer (some ⟨g, 0, none⟩)) (hy : a.eval y = .agg cells)
    (t : TypeId) (old : Array Value) (hg : w.heap[g]? = some (.cells old t (0, 0))) (hi : (P.info? ty).map (·.size) = some cells.size)
    (hold : old.size = cells.size) (h1 : cells.all (·.oneCell') = true)
    (h : K (a.put o.dst undef) (w.setRow g cells)) : if Region.wanted o (yielded ops a.tmps) = true then Oper.wp P o a w K Q else E := by
  have hw : Region.wanted o (yielded ops a.tmps) = true := by simp [Region.wanted, hgd]
  rw [if_pos hw]
  exact wp_store_row ty x y ho g cells hx hy t old hg hi hold h1 h
theorem rangeAt_set {W : World} {q q' i : Nat} {v : Value} {l : List Value} (h : q ≠ q') (hr : W.rangeAt q 0 l) : (W.setCell ⟨q', i, none⟩ v).rangeAt q 0 l := fun j u hu => by
  rw [World.cell?_setCell_other W ⟨q', i, none⟩ ⟨q, 0 + j, none⟩ v (fun e => h (congrArg Addr.block e).symm)]; exact hr j u hu
theorem info_partsX {o : Option TypeInfo} {z : Option Value} {s b : Nat} (h : o.map (fun i => (i.zero, i.size, i.bytes)) = some (z, s, b)) : ∃ i, o = some i ∧ i.zero = z ∧ i.size = s ∧ i.bytes = b := by
  cases o with
  | none => simp at h
  | some i => simp at h; exact ⟨i, rfl, h⟩
/-- the text with so many zeros behind it -/
def pz (m : List UInt8) (k : Nat) : List UInt8 := m ++ [128] ++ List.replicate k 0
theorem pz_length (m : List UInt8) (k : Nat) : (pz m k).length = m.length + 1 + k := by simp [pz]; omega
theorem pz_succ (m : List UInt8) (k : Nat) : M.bs (pz m k) ++ (⟨#[0]⟩ : ByteArray) = M.bs (pz m (k + 1)) := by
  apply ByteArray.ext
  simp [pz, M.bs, List.replicate_succ']
theorem pz_zero (m : List UInt8) : M.bs m ++ (⟨#[128]⟩ : ByteArray) = M.bs (pz m 0) := by
  apply ByteArray.ext
  simp [pz, M.bs]
theorem pz_pad (m : List UInt8) : M.bs (pz m (S.zeros m.length)) ++ M.bs (S.be8 (8 * m.length)) = M.bs (S.pad m) := by
  apply ByteArray.ext
  simp [pz, M.bs, S.pad]
theorem be8_at (n k : Nat) (h : k < 8) : (S.be8 n).take (k + 1) = (S.be8 n).take k ++ [UInt8.ofNat (n / 256 ^ (7 - k))] := by
  rw [List.take_add_one]
  simp [S.be8, h]
/-- the first k of the eight bytes that end the text, as cells -/
def bV (m : List UInt8) (k : Nat) : List Value := ((S.be8 (8 * m.length)).take k).map vb
theorem bV_succ (m : List UInt8) (k : Nat) (h : k < 8) : bV m (k + 1) = bV m k ++ [vb (UInt8.ofNat (8 * m.length / 256 ^ (7 - k)))] := by
  unfold bV; rw [be8_at _ _ h, List.map_append]; rfl
theorem shr8 (n j : Nat) : ((n : Int) / 2 ^ (8 * j)) % 256 = ((UInt8.ofNat (n / 256 ^ j)).toNat : Int) := by
  rw [UInt8.toNat_ofNat']
  have e : (2 : Int) ^ (8 * j) = ((256 ^ j : Nat) : Int) := by
    rw [Int.pow_mul]; simp
  rw [e]
  simp
theorem extract64_bs (l : List UInt8) (i n : Nat) : (M.bs l).extract i (i + n) = M.bs ((l.drop i).take n) := by
  rw [Lib.extract_eq]; simp [M.bs]

end Go.Proofs.YtahdmhenkjbimaaDoor
