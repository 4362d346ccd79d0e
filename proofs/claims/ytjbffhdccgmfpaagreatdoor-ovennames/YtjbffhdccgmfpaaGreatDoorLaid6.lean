/- The tables that the rows of layer 6 list, opened. -/
import Derived.Test.YtjbffhdccgmfpaaGreatDoorLaid
import Derived.Test.YtjbffhdccgmfpaaGreatDoorMB
namespace Go.Proofs.YtjbffhdccgmfpaaGreatDoor
open Go.ChangeShapes Go.WideShapes Go.ChangeAt Go.WideMaps Go.WideElems Go.RowKit
set_option linter.unusedVariables false
set_option maxRecDepth 8000

theorem gP : Tryz.prog.globalNamed "internal/strconv.uint64pow10" = some 3 := by kernel_rfl
theorem tP : (Tryz.prog.globals[3]?).map (·.type) = some 188 := by kernel_rfl
theorem c20 : Tryz.prog.cellsOf 188 = 20 := by kernel_rfl
theorem c64u : Tryz.prog.cellsOf 103 = 1 := by kernel_rfl
theorem of_laid6 {W : World} (h : laidMetH Tryz.prog [("math/bits.deBruijn32tab", Rows.laid_math_bits_deBruijn32tab), ("math/bits.deBruijn64tab", Rows.laid_math_bits_deBruijn64tab), ("internal/strconv.uint64pow10", Rows.laid_internal_strconv_uint64pow10), ("apiary/stamp.start", Rows.laid_apiary_stamp_start), ("apiary/stamp.roundWords", Rows.laid_apiary_stamp_roundWords)] W) : GW W ∧ Tab W := by
  rw [MakeChecks.laidMetH_plain _ _ _ (by kernel_rfl)] at h
  obtain ⟨ps, ⟨ga, ta, csa, fa, pa, qa, hga, hta, hva, hda, ⟨gb, tb, csb, fb, pb, qb, hgb, htb, hvb, hdb, ⟨gc, tc, csc, fc, pc, qc, hgc, htc, hvc, hdc, ⟨g0, t0, cs0, f0, p0, q0, hg0, ht0, hv0, hd0, ⟨g1, t1, cs1, f1, p1, q1, hg1, ht1, hv1, hd1, _, _⟩, _⟩, _⟩, _⟩, _⟩, _, _⟩ := h
  obtain rfl := Option.some.inj (gS.symm.trans hg0)
  obtain rfl := Option.some.inj (gK.symm.trans hg1)
  obtain rfl := Option.some.inj (gP.symm.trans hgc)
  obtain rfl := Option.some.inj (tS.symm.trans ht0)
  obtain rfl := Option.some.inj (tK.symm.trans ht1)
  obtain rfl := Option.some.inj (tP.symm.trans htc)
  obtain ⟨zs, hz0, hz1, hz2, _, _⟩ := open_arr und52 Tryz.underlying84 c45 c52 hd0
  obtain ⟨ys, hy0, hy1, hy2, _, _⟩ := open_arr und47 Tryz.underlying84 c45 c47 hd1
  obtain ⟨xs, hx0, hx1, hx2, _, _⟩ := open_arr Tryz.underlying188 Tryz.underlying103 c64u c20 hdc
  have ez : zs = S.hList.map (fun x => (x.toNat : Int)) := by
    have := congrArg (fun d => ints (parts d)) hz2
    simp only [parts, ints_map] at this
    rw [← this]; decide +kernel
  have ey : ys = S.kList.map (fun x => (x.toNat : Int)) := by
    have := congrArg (fun d => ints (parts d)) hy2
    simp only [parts, ints_map] at this
    rw [← this]; decide +kernel
  have ex : xs = Lib.pow10Tab := by
    have := congrArg (fun d => ints (parts d)) hx2
    simp only [parts, ints_map] at this
    rw [← this]; decide +kernel
  have l0 : ∀ i, W.cell? ⟨0, i, none⟩ = (S.hList.map vw)[i]? := fun i => by
    rw [World.var?_cell hg0 hv0 i, ← Array.getElem?_toList, hz1, ez, List.map_map]; rfl
  have l1 : ∀ i, W.cell? ⟨1, i, none⟩ = (S.kList.map vw)[i]? := fun i => by
    rw [World.var?_cell hg1 hv1 i, ← Array.getElem?_toList, hy1, ey, List.map_map]; rfl
  have kl : S.kList.length = 64 := by decide
  refine ⟨⟨fun t ht => ?_, fun i hi => ?_, ?_⟩, ?_⟩
  · rw [l1 t, List.getElem?_map, List.getElem?_eq_getElem (by omega)]
    simp [S.kw, List.getD_eq_getElem?_getD, kl, ht]
  · rw [l0 i]
    exact toL_get S.init i hi
  · have := l1 0
    have h0 : W.cell? ⟨1, 0, none⟩ = some (vw (S.kw 0)) := by rw [this]; rfl
    have := block_lt h0
    omega
  · show W.var? _ _ = _
    rw [hvc, ← ex, ← hx1]
end Go.Proofs.YtjbffhdccgmfpaaGreatDoor
