/- What (*strings.Builder).Write answers, of bytes that lie anywhere but in the builder. -/
import Derived.Test.YtahdmhenkjbimaaDoorK2
import Derived.Test.YtahdmhenkjbimaaDoorGA
import Derived.Shelf.Strings.Builder1
namespace Go.Proofs.YtahdmhenkjbimaaDoor
open Go.RowKit
set_option linter.unusedVariables false
set_option linter.unusedSimpArgs false

theorem ccheck (B b : Nat) (bs : List Value) (w : World) (h : Lib.IsBuilder 45 5 B b bs w) :
    Calls Tryd.prog 39 #[.pointer (some ⟨b, 0, none⟩)] w fun e w' => e = .returned (.tuple #[]) ∧ (Lib.BuilderAt 45 5 B b (.pointer (some ⟨b, 0, none⟩)) bs w' ∧ Below B w w' ∧ ∀ k, k ≠ b → w'.heap[k]? = w.heap[k]?) := by
  rcases h with h | h
  · refine (Any.Builder_copyCheck_fresh { Tryd.lays166 with } Tryd.Builder_Extra_166.toX72 b w h.cell0 h.shape h.frozen0).mono ?_
    rintro e w' ⟨rfl, rfl⟩
    refine ⟨rfl, h.used _, (Below.refl B w).setCell (p := ⟨b, 0, none⟩) h.1 _, fun k hk => ?_⟩
    show (Array.modify _ _ _)[k]? = _
    rw [Array.getElem?_modify, if_neg (by simpa using fun e => hk e.symm)]
  · refine (Any.Builder_copyCheck_used { Tryd.lays166 with } Tryd.Builder_Extra_166.toX72 b w h.cell0).mono ?_
    rintro e w' ⟨rfl, rfl⟩
    exact ⟨rfl, h, Below.refl _ _, fun k _ => rfl⟩

set_option maxHeartbeats 1000000 in
theorem Write_at (B b : Nat) (pre d : List UInt8) (g off c : Nat) (w : World) (h : Lib.IsBuilder 45 5 B b (Lib.byteCells pre) w) (hg : g ≠ b) (hr : ∀ j u, (Lib.byteCells d)[j]? = some u → w.cell? ⟨g, off + j, none⟩ = some u)
    (hlen : pre.length + d.length ≤ 140737488355328) (hBw : B ≤ w.heap.size) :
    Calls Tryd.prog 18 #[.pointer (some ⟨b, 0, none⟩), .slice (some ⟨g, off, none⟩) d.length c] w fun e w' => e = .returned (.tuple #[.int .i64 d.length, .nilIface]) ∧ Lib.IsBuilder 45 5 B b (Lib.byteCells (pre ++ d)) w' ∧ Below B w w' := by
  obtain ⟨i0, hi, hz0, hz1, hz2⟩ := info_partsX (show (Tryd.prog.info? 5).map (fun i => (i.zero, i.size, i.bytes)) = some (some (.int .u8 0), 1, 1) by kernel_rfl)
  have CC : Hid (Calls Tryd.prog 39 #[.pointer (some ⟨b, 0, none⟩)] w fun e w' => e = .returned (.tuple #[]) ∧ (Lib.BuilderAt 45 5 B b (.pointer (some ⟨b, 0, none⟩)) (Lib.byteCells pre) w' ∧ Below B w w' ∧ ∀ k, k ≠ b → w'.heap[k]? = w.heap[k]?)) := ccheck B b _ w h
  have HRR : Hid (∀ j u, (Lib.byteCells d)[j]? = some u → w.cell? ⟨g, off + j, none⟩ = some u) := hr
  clear hr h
  go_enter Tryd.func18, Tryd.ntmps18
  go_wp2_with (go_at_call 39; refine CC.out.mono ?_)
  clear CC
  rintro e w1 ⟨rfl, h1', hb1, hoth⟩
  obtain ⟨hB, v, hbk, hown, hne⟩ := h1'
  have c0 : w1.cell? ⟨b, 0, none⟩ = some (.pointer (some ⟨b, 0, none⟩)) := by rw [Lib.cell_of_heap hbk]; rfl
  have c1 : w1.cell? ⟨b, 1, none⟩ = some v := by rw [Lib.cell_of_heap hbk]; rfl
  have hl : (Lib.byteCells d).length = d.length := Lib.byteCells_length d
  have hnews1 : ∀ j u, (Lib.byteCells d)[j]? = some u → w1.cell? ((⟨g, off, none⟩ : Addr).add j) = some u := fun j u hj => by
    rw [Addr.add_mid]
    have h2 := HRR.out j u hj
    rw [← h2]
    simp only [World.cell?, hoth g hg]
  have hone : ∀ u ∈ Lib.byteCells d, u.oneCell' = true := fun u hu => by
    simp only [Lib.byteCells, List.mem_map] at hu
    obtain ⟨x, _, rfl⟩ := hu
    rfl
  have hpl : (Lib.byteCells pre).length = pre.length := Lib.byteCells_length pre
  have HONE : Hid (∀ u ∈ Lib.byteCells d, u.oneCell' = true) := hone
  have HNEW : Hid (∀ j u, (Lib.byteCells d)[j]? = some u → w1.cell? ((⟨g, off, none⟩ : Addr).add j) = some u) := hnews1
  have HOWN : Hid (w1.ownsRow B 5 1 v (Lib.byteCells pre).length (Lib.byteCells pre)) := hown
  have HAP : Hid (Lib.byteCells (pre ++ d) = Lib.byteCells pre ++ Lib.byteCells d) := Lib.byteCells_append pre d
  have HOTH : Hid (∀ k, k ≠ b → w1.heap[k]? = w.heap[k]?) := hoth
  have HBK : Hid (w1.heap[b]? = some (.cells #[.pointer (some ⟨b, 0, none⟩), v] 45 (0, 0))) := hbk
  clear hone hnews1 hoth hbk HRR
  generalize Lib.byteCells d = DC at *
  generalize Lib.byteCells pre = PC at *
  clear hown
  go_wp2_with (at_builtin; refine wpList_append_own _ rfl _ _ 43 rfl B 5 i0 (.int .u8 0) 1 1 Tryd.underlying43 hi hz0 hz1 hz2 rfl (by decide) _ _ _ rfl HOWN.out ⟨g, off, none⟩ d.length c DC rfl (by omega) HNEW.out HONE.out (by unfold maxLen; omega) (by omega) (by have := hb1.size; omega) ?_)
  intro v' w2 hown' hgrow _
  have hlt : b < w1.heap.size := by
    rcases Nat.lt_or_ge b w1.heap.size with h' | h'
    · exact h'
    · have := HBK.out; simp [Array.getElem?_eq_none h'] at this
  have hb2 : w2.heap[b]? = some (.cells #[.pointer (some ⟨b, 0, none⟩), v] 45 (0, 0)) := by
    rw [hgrow.block b hlt (fun e => hne e.symm)]
    exact HBK.out
  have d0 : w2.cell? ⟨b, 0, none⟩ = some (.pointer (some ⟨b, 0, none⟩)) := by rw [Lib.cell_of_heap hb2]; rfl
  have d1 : w2.cell? ⟨b, 1, none⟩ = some v := by rw [Lib.cell_of_heap hb2]; rfl
  have f1 : w2.frozen? ⟨b, 1, none⟩ = false := Lib.frozen_of_heap hb2 1
  obtain ⟨ao, n', cap, rfl⟩ : ∃ ao n' cap, v' = .slice ao n' cap := by
    rcases hown'.2 with ⟨hv, _⟩ | ⟨g, cap, cur, hv, _⟩
    · exact ⟨_, _, _, hv⟩
    · exact ⟨_, _, _, hv⟩
  have HB2 : Hid (w2.heap[b]? = some (.cells #[.pointer (some ⟨b, 0, none⟩), v] 45 (0, 0))) := hb2
  have HO2 : Hid (w2.ownsRow B 5 1 (.slice ao n' cap) (PC.length + d.length) (PC ++ DC)) := by rw [hpl]; exact hown'
  have HBE : Hid (Below B w w2) := hb1.grown hgrow (by have := hb1.size; omega) (fun k hk => (HOWN.out.lt k hk).1)
  clear hb2 hown' hgrow hb1
  go_wp2_with fail
  go_ret2
  refine ⟨rfl, Or.inr ?_, HBE.out.setCell (p := ⟨b, 1, none⟩) hB _⟩
  rw [HAP.out]
  exact Lib.BuilderAt.put (T := 45) (e := 5) hB HB2.out (bs' := PC ++ DC) (by have := HO2.out; simpa [hl] using this) (by decide)
end Go.Proofs.YtahdmhenkjbimaaDoor
