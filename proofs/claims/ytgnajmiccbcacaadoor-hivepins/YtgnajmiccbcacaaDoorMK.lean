/- Maps whose keys are names, or digests: what a key reads as. -/
import Derived.Test.YtgnajmiccbcacaaDoorE1
import Derived.Maps.OwnSet
import Derived.DeepKeys4
namespace Go.Proofs.YtgnajmiccbcacaaDoor
open Go.RowKit Go.Maps
set_option linter.unusedVariables false
set_option linter.unusedSimpArgs false
set_option maxRecDepth 8000

theorem laidOut : laidOutB Tryd.prog = true := by kernel_rfl
theorem rowNm : (73 : TypeId) < Tryd.prog.types.size := of_decide_eq_true (by kernel_rfl)
theorem rowDg : (33 : TypeId) < Tryd.prog.types.size := of_decide_eq_true (by kernel_rfl)
theorem wideNm : (match Tryd.prog.underlying 73 with | some (.array _ _) | some (.struct _) => true | _ => false) = true := by rw [Tryd.underlying73]
theorem wideDg : (match Tryd.prog.underlying 33 with | some (.array _ _) | some (.struct _) => true | _ => false) = true := by rw [und27]
theorem lawNm : Keyed Tryd.prog 73 := Keyed.of_law (deep_law_laid laidOut (m := 3) (by omega) rowNm (by kernel_rfl) wideNm)
theorem lawDg : Keyed Tryd.prog 33 := Keyed.of_law (deep_law_laid laidOut (m := 2) (by omega) rowDg (by kernel_rfl) wideDg)

theorem wf_u8 (x : UInt8) : (Lit.int .u8 (x.toNat : Int)).wf = true := by
  have h := x.toNat_lt
  have e1 : IntKind.u8.min = 0 := by decide
  have e2 : IntKind.u8.max = 255 := by decide
  simp only [Lit.wf, e1, e2, Bool.and_eq_true, decide_eq_true_eq]
  omega
theorem lits_byte (n : Nat) (x : UInt8) : Tryd.prog.keyLits (n + 1) 5 [vb x] = some [.int .u8 (x.toNat : Int)] := by
  unfold Program.keyLits
  rw [Tryd.underlying5]
  simp only [wf_u8, and_self, if_true]
theorem lits_string (n : Nat) (s : ByteArray) (h : s.size ≤ maxLen) : Tryd.prog.keyLits (n + 1) 9 [.string s] = some [.string s.data.toList] := by
  unfold Program.keyLits
  rw [Tryd.underlying9]
  simp only [h, if_true]
theorem mapM_some {α β : Type} (f : α → Option β) (g : α → β) : ∀ l : List α, (∀ x ∈ l, f x = some (g x)) → l.mapM f = some (l.map g)
  | [], _ => rfl
  | x :: r, h => by
    rw [List.mapM_cons, h x (by simp), mapM_some f g r (fun z hz => h z (by simp [hz]))]
    rfl
/-- a byte, as a key's part -/
def lb8 (x : UInt8) : Lit := .int .u8 (x.toNat : Int)
theorem range_flat (d : List UInt8) : ((List.range d.length).map fun i => [lb8 (S.by8 d i)]).flatten = d.map lb8 := by
  apply List.ext_getElem?
  intro i
  have e : ((List.range d.length).map fun i => [lb8 (S.by8 d i)]).flatten = (List.range d.length).map fun i => lb8 (S.by8 d i) := by
    generalize List.range d.length = L
    induction L with
    | nil => rfl
    | cons x r ih => simp [ih]
  rw [e]
  by_cases h : i < d.length
  · simp [h, S.by8, List.getD]
  · simp [h, List.getElem?_eq_none (Nat.le_of_not_lt h)]
theorem cellsB : Tryd.prog.cellsOf 5 = 1 := by kernel_rfl
theorem cellsD : Tryd.prog.cellsOf 33 = 32 := by kernel_rfl
theorem cellsN : Tryd.prog.cellsOf 73 = 33 := by kernel_rfl
theorem cellsS : Tryd.prog.cellsOf 9 = 1 := by kernel_rfl
theorem lits_dig (n : Nat) (d : List UInt8) (h : d.length = 32) : Tryd.prog.keyLits (n + 2) 33 (d.map vb) = some (d.map lb8) := by
  unfold Program.keyLits
  rw [und27]
  simp only [List.length_map, h, cellsD, if_true, cellsB, Nat.mul_one]
  rw [mapM_some (fun i => Tryd.prog.keyLits (n + 1) 5 (((d.map vb).drop i).take 1)) (fun i => [lb8 (S.by8 d i)]) (List.range 32) (fun i hi => by
    have hi' : i < d.length := by rw [h]; simpa using hi
    have e : ((d.map vb).drop i).take 1 = [vb (S.by8 d i)] := by
      rw [List.drop_eq_getElem_cons (by simpa using hi')]
      simp [S.by8, List.getD, hi']
    rw [e]; exact lits_byte n _)]
  have := range_flat d
  rw [h] at this
  simp only [Option.map_some, this]
theorem fieldsN : ∃ f g : Field, Tryd.prog.underlying 73 = some (.struct #[f, g]) ∧ f.type = 9 ∧ g.type = 33 ∧ f.offset = 0 ∧ g.offset = 1 ∧ (f.name != "_") = true ∧ (g.name != "_") = true := ⟨_, _, Tryd.underlying73, rfl, rfl, rfl, rfl, by decide, by decide⟩
theorem lits_nm (n : Nat) (k d : List UInt8) (hk : k.length ≤ maxLen) (h : d.length = 32) : Tryd.prog.keyLits (n + 3) 73 (nmL k d) = some (Lit.string k :: d.map lb8) := by
  obtain ⟨f, g, hu, h1, h2, h3, h4, h5, h6⟩ := fieldsN
  have hls := lits_dig n d h
  unfold Program.keyLits
  rw [hu]
  have e0 : (#[f, g] : Array Field).all (·.name != "_") = true := by simp [h5, h6]
  have e1 : ((nmL k d).drop f.offset).take (Tryd.prog.cellsOf f.type) = [.string (M.bs k)] := by rw [h3, h1, cellsS]; rfl
  have e2 : ((nmL k d).drop g.offset).take (Tryd.prog.cellsOf g.type) = d.map vb := by
    rw [h4, h2, cellsD]
    exact List.take_of_length_le (by simp [nmL, h])
  simp only [nmL_length h, cellsN, e0, and_self, if_true, List.mapM_cons, List.mapM_nil, e1, e2]
  rw [h1, h2, lits_string _ _ (by rw [M.bs_size]; exact hk), hls, M.bs_toList]
  simp
/-- what a name, a digest reads as -/
def klN (k d : List UInt8) : Lit := .string (keyBytes (Lit.string k :: d.map lb8))
def klD (d : List UInt8) : Lit := .string (keyBytes (d.map lb8))
theorem tsize : Tryd.prog.types.size + 1 = (Tryd.prog.types.size - 2) + 3 := by
  have : 2 ≤ Tryd.prog.types.size := of_decide_eq_true (by kernel_rfl)
  omega
theorem key_nm (k d : List UInt8) (hk : k.length ≤ maxLen) (h : d.length = 32) : keyOf Tryd.prog 73 (.agg (nmv k d)) = some (klN k d) := by
  have hls := lits_nm (Tryd.prog.types.size - 2) k d hk h
  rw [← tsize] at hls
  unfold klN
  · unfold keyOf
    obtain ⟨f, g, hu, _⟩ := fieldsN
    have hkt : Tryd.prog.keyType 73 = true := by kernel_rfl
    have hfo : (Value.agg (nmv k d)).formed Tryd.prog 73 = true := by
      unfold Value.formed
      rw [hu]
      simp [cellsN, nmv, nmL_length h]
    unfold nmv at hfo ⊢
    rw [hu]
    simp only [hkt, hfo, Bool.and_self, if_true, Value.cells, hls, Option.map_some]
theorem key_dg (d : List UInt8) (h : d.length = 32) : keyOf Tryd.prog 33 (.agg (dg d)) = some (klD d) := by
  have hls := lits_dig (Tryd.prog.types.size - 1) d h
  have ht : Tryd.prog.types.size - 1 + 2 = Tryd.prog.types.size + 1 := by have := tsize; omega
  rw [ht] at hls
  unfold klD
  · unfold keyOf
    have hkt : Tryd.prog.keyType 33 = true := by kernel_rfl
    have hfo : (Value.agg (dg d)).formed Tryd.prog 33 = true := by
      unfold Value.formed
      rw [und27]
      simp [cellsD, dg_size, h]
    unfold dg at hfo ⊢
    rw [und27]
    simp only [hkt, hfo, Bool.and_self, if_true, Value.cells, hls, Option.map_some]
theorem vbs_inj {a b : List UInt8} (h : a.map vb = b.map vb) : a = b := by
  refine (List.map_inj_right ?_).1 h
  intro x y e
  simp only [vb, Value.int.injEq, true_and] at e
  exact UInt8.toNat_inj.1 (by omega)
theorem klN_inj {k k' d d' : List UInt8} (hk : k.length ≤ maxLen) (hk' : k'.length ≤ maxLen) (h : d.length = 32) (h' : d'.length = 32) (e : klN k d = klN k' d') : k = k' ∧ d = d' := by
  have e1 := key_nm k d hk h
  have e2 := key_nm k' d' hk' h'
  rw [e] at e1
  have e3 := lawNm.inj e1 e2
  simp only [nmv, nmL, Value.agg.injEq] at e3
  have e4 := congrArg Array.toList e3
  simp only [List.cons.injEq, Value.string.injEq] at e4
  exact ⟨M.bs_inj e4.1, vbs_inj e4.2⟩
theorem klD_inj {d d' : List UInt8} (h : d.length = 32) (h' : d'.length = 32) (e : klD d = klD d') : d = d' := by
  have e1 := key_dg d h
  have e2 := key_dg d' h'
  rw [e] at e1
  have e3 := lawDg.inj e1 e2
  simp only [dg, Value.agg.injEq] at e3
  exact vbs_inj (congrArg Array.toList e3)
end Go.Proofs.YtgnajmiccbcacaaDoor
