/- The tables that the rows list, and digests that came in, opened. -/
import Derived.Test.YtfbjakhanjbaeaaDoorS15
import Derived.Test.YtfbjakhanjbaeaaDoorArgs
import Derived.Test.YtfbjakhanjbaeaaDoorRows
import Derived.ProofKit
import Derived.LaidMore
import Derived.OpenShut
import Derived.Stop.Joined
namespace Go.Proofs.YtfbjakhanjbaeaaDoor
open Go.ChangeShapes Go.WideShapes Go.ChangeAt Go.WideMaps Go.WideElems Go.RowKit
set_option linter.unusedVariables false
set_option maxRecDepth 8000

theorem own : ownKnob Tryd.prog.godebug = none := by kernel_rfl
theorem laidOut : laidOutB Tryd.prog = true := by kernel_rfl
theorem gS : Tryd.prog.globalNamed "apiary/stamp.start" = some 0 := by kernel_rfl
theorem gK : Tryd.prog.globalNamed "apiary/stamp.roundWords" = some 1 := by kernel_rfl
theorem tS : (Tryd.prog.globals[0]?).map (·.type) = some 92 := by kernel_rfl
theorem tK : (Tryd.prog.globals[1]?).map (·.type) = some 97 := by kernel_rfl
theorem gsz : Tryd.prog.globals.size = 2 ∨ 2 ≤ Tryd.prog.globals.size := Or.inr (by decide +kernel)

/-- an array of integers, opened -/
theorem open_arr {H : Type} {enc : TypeId × Value → H} {W : World} {base : Nat} {spare : Nat → Bool} {held : Bool} {fuel n : Nat} {t e : TypeId} {k : IntKind} {cs : List Value} {d : DataW H} {p : List MemPlace}
    (ht : Tryd.prog.underlying t = some (.array n e)) (he : Tryd.prog.underlying e = some (.int k)) (h1 : Tryd.prog.cellsOf e = 1) (hn : Tryd.prog.cellsOf t = n) (h : DataW.trod enc Tryd.prog W base spare held fuel t cs = some (d, p)) :
    ∃ zs : List Int, zs.length = n ∧ cs = zs.map (Value.int k) ∧ d = .agg (zs.map fun z => .lit (.int k z)) ∧ p = [] ∧ ∀ z ∈ zs, (Lit.int k z).wf = true := by
  obtain ⟨xs, m, rfl, hx, hlen, hxn, hel⟩ := DataW.trod_array ht h
  rw [hn] at hlen
  have key : ∀ i, i < n → ∃ z, cs[i]? = some (.int k z) ∧ xs[i]? = some (.lit (.int k z), []) ∧ (Lit.int k z).wf = true := fun i hi => by
    have hi' := hel i hi
    rw [h1, Nat.mul_one] at hi'
    have hxi : xs[i]? = some xs[i] := List.getElem?_eq_getElem (by omega)
    rw [hxi] at hi'
    obtain ⟨z, e1, e2, e3⟩ := DataW.trod_int he hi'
    refine ⟨z, ?_, by rw [hxi, e2], e3⟩
    have : ((cs.drop i).take 1)[0]? = some (.int k z) := by rw [e1]; rfl
    simpa [List.getElem?_take, List.getElem?_drop] using this
  simp only [Prod.mk.injEq] at hx
  obtain ⟨rfl, rfl⟩ := hx
  let f : Value → Int := fun v => match v with | .int _ z => z | _ => 0
  refine ⟨cs.map f, by simp [hlen], ?_, ?_, ?_, ?_⟩
  · apply List.ext_getElem?
    intro i
    by_cases hi : i < n
    · obtain ⟨z, e1, _, _⟩ := key i hi
      simp [e1, f]
    · rw [List.getElem?_eq_none (by omega), List.getElem?_eq_none (by simp; omega)]
  · congr 1
    apply List.ext_getElem?
    intro i
    by_cases hi : i < n
    · obtain ⟨z, e1, e2, _⟩ := key i hi
      simp [e1, e2, f]
    · rw [List.getElem?_eq_none (by simp; omega), List.getElem?_eq_none (by simp; omega)]
  · rw [List.flatMap_eq_nil_iff]
    intro x hx
    obtain ⟨i, hi, rfl⟩ := List.getElem_of_mem hx
    obtain ⟨z, _, e2, _⟩ := key i (by omega)
    rw [List.getElem?_eq_getElem hi] at e2
    rw [Option.some.inj e2]
  · intro z hz
    obtain ⟨v, hv, rfl⟩ := List.mem_map.1 hz
    obtain ⟨i, hi, rfl⟩ := List.getElem_of_mem hv
    obtain ⟨z, e1, _, e3⟩ := key i (by omega)
    rw [List.getElem?_eq_getElem hi] at e1
    rw [Option.some.inj e1]; exact e3

theorem c52 : Tryd.prog.cellsOf 92 = 8 := by kernel_rfl
theorem c47 : Tryd.prog.cellsOf 97 = 64 := by kernel_rfl
theorem c45 : Tryd.prog.cellsOf 90 = 1 := by kernel_rfl
theorem c27 : Tryd.prog.cellsOf 24 = 32 := by kernel_rfl
theorem c5 : Tryd.prog.cellsOf 5 = 1 := by kernel_rfl
def ints : List (DataW Unit) → List Int := fun l => l.map fun d => match d with | .lit (.int _ z) => z | _ => 0
theorem ints_map (k : IntKind) (zs : List Int) : ints (zs.map fun z => .lit (.int k z)) = zs := by simp [ints, Function.comp_def]
def parts : DataW Unit → List (DataW Unit) | .agg l => l | _ => []

theorem of_laid {W : World} (h : laidMetH Tryd.prog [("apiary/stamp.start", Rows.laid_apiary_stamp_start), ("apiary/stamp.roundWords", Rows.laid_apiary_stamp_roundWords)] W) : GW W := by
  rw [MakeChecks.laidMetH_plain _ _ _ (by kernel_rfl)] at h
  obtain ⟨ps, ⟨g0, t0, cs0, f0, p0, q0, hg0, ht0, hv0, hd0, ⟨g1, t1, cs1, f1, p1, q1, hg1, ht1, hv1, hd1, _, _⟩, _⟩, _, _⟩ := h
  obtain rfl := Option.some.inj (gS.symm.trans hg0)
  obtain rfl := Option.some.inj (gK.symm.trans hg1)
  obtain rfl := Option.some.inj (tS.symm.trans ht0)
  obtain rfl := Option.some.inj (tK.symm.trans ht1)
  obtain ⟨zs, hz0, hz1, hz2, _, _⟩ := open_arr und52 Tryd.underlying90 c45 c52 hd0
  obtain ⟨ys, hy0, hy1, hy2, _, _⟩ := open_arr und47 Tryd.underlying90 c45 c47 hd1
  have ez : zs = S.hList.map (fun x => (x.toNat : Int)) := by
    have := congrArg (fun d => ints (parts d)) hz2
    simp only [parts, ints_map] at this
    rw [← this]; decide +kernel
  have ey : ys = S.kList.map (fun x => (x.toNat : Int)) := by
    have := congrArg (fun d => ints (parts d)) hy2
    simp only [parts, ints_map] at this
    rw [← this]; decide +kernel
  have l0 : ∀ i, W.cell? ⟨0, i, none⟩ = (S.hList.map vw)[i]? := fun i => by
    rw [World.var?_cell hg0 hv0 i, ← Array.getElem?_toList, hz1, ez, List.map_map]; rfl
  have l1 : ∀ i, W.cell? ⟨1, i, none⟩ = (S.kList.map vw)[i]? := fun i => by
    rw [World.var?_cell hg1 hv1 i, ← Array.getElem?_toList, hy1, ey, List.map_map]; rfl
  have kl : S.kList.length = 64 := by decide
  refine ⟨fun t ht => ?_, fun i hi => ?_, ?_⟩
  · rw [l1 t, List.getElem?_map, List.getElem?_eq_getElem (by omega)]
    simp [S.kw, List.getD_eq_getElem?_getD, kl, ht]
  · rw [l0 i]
    exact toL_get S.init i hi
  · have := l1 0
    have h0 : W.cell? ⟨1, 0, none⟩ = some (vw (S.kw 0)) := by rw [this]; rfl
    have := block_lt h0
    omega

/-- a digest that came in -/
theorem open_digest {H : Type} {enc : TypeId × Value → H} {W : World} {base : Nat} {v : Value} {d : DataW H} {p : List MemPlace}
    (hok : Value.okWide Tryd.prog W .any base 24 v) (h : DataW.Trod enc Tryd.prog W 0 (fun _ => true) true 24 v d p) : ∃ a : List UInt8, a.length = 32 ∧ v = .agg (dg a) ∧ p = [] := by
  obtain ⟨fuel, hf⟩ := h
  obtain ⟨zs, hz0, hz1, hz2, hp, hw⟩ := open_arr und27 Tryd.underlying5 c5 c27 hf
  have hlen : v.cells.size = 32 := by rw [← Array.length_toList, hz1, List.length_map, hz0]
  have hv : ∃ cs, v = .agg cs := by
    cases v <;> simp [Value.cells] at hlen
    exact ⟨_, rfl⟩
  obtain ⟨cs, rfl⟩ := hv
  refine ⟨zs.map fun z => UInt8.ofNat z.toNat, by simp [hz0], ?_, hp⟩
  congr 1
  apply Array.ext'
  show cs.toList = _
  have : cs.toList = zs.map (Value.int .u8) := hz1
  rw [this]
  unfold dg
  simp only [List.map_map]
  apply List.map_congr_left
  intro z hz
  have hb := hw z hz
  simp [Lit.wf, IntKind.min, IntKind.max, IntKind.signed, IntKind.bits] at hb
  show Value.int .u8 z = Value.int .u8 ((UInt8.ofNat z.toNat).toNat : Int)
  rw [UInt8.toNat_ofNat_of_lt' (by show z.toNat < 256; omega)]
  congr 1; omega
end Go.Proofs.YtfbjakhanjbaeaaDoor
