/- The law's own awake. -/
import Derived.Test.YthpdmeoljdmncaaZL
namespace Go.Proofs.Ythpdmeoljdmncaa
open Go.RowKit
set_option linter.unusedVariables false
set_option linter.unusedSimpArgs false

/-- the builds that awake asks of -/
def gA : RC.Gr := ([[97], [98]], [([121], [[120]], []), ([120], [[97]], []), ([122], [[98]], [])])
def gH : RC.Gr := ([], [([120], [[120]], [])])
abbrev aw1 (W : World) : World := W.alloc (.cells #[.string ⟨#[97]⟩, .string ⟨#[98]⟩] 9)
abbrev aw2 (W : World) : World := (aw1 W).alloc (.cells #[.string ⟨#[120]⟩] 9)
abbrev aw3 (W : World) : World := (aw2 W).alloc (.cells #[.string (M.bs [121]), .slice (some ⟨W.heap.size + 1, 0, none⟩) 1 1, .string ⟨#[]⟩] 41)
abbrev aw4 (W : World) : World := (aw3 W).alloc (.cells #[.string ⟨#[97]⟩] 9)
abbrev aw5 (W : World) : World := (aw4 W).alloc (.cells #[.string (M.bs [120]), .slice (some ⟨W.heap.size + 1 + 1 + 1, 0, none⟩) 1 1, .string ⟨#[]⟩] 41)
abbrev aw6 (W : World) : World := (aw5 W).alloc (.cells #[.string ⟨#[98]⟩] 9)
abbrev aw7 (W : World) : World := (aw6 W).alloc (.cells #[.string (M.bs [122]), .slice (some ⟨W.heap.size + 1 + 1 + 1 + 1 + 1, 0, none⟩) 1 1, .string ⟨#[]⟩] 41)
abbrev aw8 (W : World) : World := (aw7 W).alloc (.cells #[.string (M.bs [121]), .slice (some ⟨W.heap.size + 1, 0, none⟩) 1 1, .string ⟨#[]⟩, .string (M.bs [120]), .slice (some ⟨W.heap.size + 1 + 1 + 1, 0, none⟩) 1 1, .string ⟨#[]⟩, .string (M.bs [122]), .slice (some ⟨W.heap.size + 1 + 1 + 1 + 1 + 1, 0, none⟩) 1 1, .string ⟨#[]⟩] 41)
abbrev aw9 (W : World) : World := (aw8 W).alloc (.cells #[.slice (some ⟨W.heap.size, 0, none⟩) 2 2, .slice (some ⟨W.heap.size + 1 + 1 + 1 + 1 + 1 + 1 + 1, 0, none⟩) 3 3] 25)
abbrev aw10 (W : World) : World := (aw9 W).alloc (.cells #[.string ⟨#[120]⟩] 9)
abbrev aw11 (W : World) : World := (aw10 W).alloc (.cells #[.string (M.bs [120]), .slice (some ⟨W.heap.size + 1 + 1 + 1 + 1 + 1 + 1 + 1 + 1 + 1, 0, none⟩) 1 1, .string ⟨#[]⟩] 41)
abbrev aw12 (W : World) : World := (aw11 W).alloc (.cells #[.string (M.bs [120]), .slice (some ⟨W.heap.size + 1 + 1 + 1 + 1 + 1 + 1 + 1 + 1 + 1, 0, none⟩) 1 1, .string ⟨#[]⟩] 41)
abbrev aw13 (W : World) : World := (aw12 W).alloc (.cells #[.slice none 0 0, .slice (some ⟨W.heap.size + 1 + 1 + 1 + 1 + 1 + 1 + 1 + 1 + 1 + 1 + 1, 0, none⟩) 1 1] 25)
theorem aw_bl (W : World) : Bl W (aw13 W) := ((((((((((((((Bl.refl W).alloc _).alloc _).alloc _).alloc _).alloc _).alloc _).alloc _).alloc _).alloc _).alloc _).alloc _).alloc _).alloc _)
theorem aw_bl1 (W : World) : Bl (aw1 W) (aw13 W) := (((((((((((((Bl.refl (aw1 W)).alloc _).alloc _).alloc _).alloc _).alloc _).alloc _).alloc _).alloc _).alloc _).alloc _).alloc _).alloc _)
theorem aw_sz1 (W : World) : (aw1 W).heap.size = W.heap.size + 1 := by simp
theorem aw_bl2 (W : World) : Bl (aw2 W) (aw13 W) := ((((((((((((Bl.refl (aw2 W)).alloc _).alloc _).alloc _).alloc _).alloc _).alloc _).alloc _).alloc _).alloc _).alloc _).alloc _)
theorem aw_sz2 (W : World) : (aw2 W).heap.size = W.heap.size + 1 + 1 := by simp
theorem aw_bl3 (W : World) : Bl (aw3 W) (aw13 W) := (((((((((((Bl.refl (aw3 W)).alloc _).alloc _).alloc _).alloc _).alloc _).alloc _).alloc _).alloc _).alloc _).alloc _)
theorem aw_sz3 (W : World) : (aw3 W).heap.size = W.heap.size + 1 + 1 + 1 := by simp
theorem aw_bl4 (W : World) : Bl (aw4 W) (aw13 W) := ((((((((((Bl.refl (aw4 W)).alloc _).alloc _).alloc _).alloc _).alloc _).alloc _).alloc _).alloc _).alloc _)
theorem aw_sz4 (W : World) : (aw4 W).heap.size = W.heap.size + 1 + 1 + 1 + 1 := by simp
theorem aw_bl5 (W : World) : Bl (aw5 W) (aw13 W) := (((((((((Bl.refl (aw5 W)).alloc _).alloc _).alloc _).alloc _).alloc _).alloc _).alloc _).alloc _)
theorem aw_sz5 (W : World) : (aw5 W).heap.size = W.heap.size + 1 + 1 + 1 + 1 + 1 := by simp
theorem aw_bl6 (W : World) : Bl (aw6 W) (aw13 W) := ((((((((Bl.refl (aw6 W)).alloc _).alloc _).alloc _).alloc _).alloc _).alloc _).alloc _)
theorem aw_sz6 (W : World) : (aw6 W).heap.size = W.heap.size + 1 + 1 + 1 + 1 + 1 + 1 := by simp
theorem aw_bl7 (W : World) : Bl (aw7 W) (aw13 W) := (((((((Bl.refl (aw7 W)).alloc _).alloc _).alloc _).alloc _).alloc _).alloc _)
theorem aw_sz7 (W : World) : (aw7 W).heap.size = W.heap.size + 1 + 1 + 1 + 1 + 1 + 1 + 1 := by simp
theorem aw_bl8 (W : World) : Bl (aw8 W) (aw13 W) := ((((((Bl.refl (aw8 W)).alloc _).alloc _).alloc _).alloc _).alloc _)
theorem aw_sz8 (W : World) : (aw8 W).heap.size = W.heap.size + 1 + 1 + 1 + 1 + 1 + 1 + 1 + 1 := by simp
theorem aw_bl9 (W : World) : Bl (aw9 W) (aw13 W) := (((((Bl.refl (aw9 W)).alloc _).alloc _).alloc _).alloc _)
theorem aw_sz9 (W : World) : (aw9 W).heap.size = W.heap.size + 1 + 1 + 1 + 1 + 1 + 1 + 1 + 1 + 1 := by simp
theorem aw_bl10 (W : World) : Bl (aw10 W) (aw13 W) := ((((Bl.refl (aw10 W)).alloc _).alloc _).alloc _)
theorem aw_sz10 (W : World) : (aw10 W).heap.size = W.heap.size + 1 + 1 + 1 + 1 + 1 + 1 + 1 + 1 + 1 + 1 := by simp
theorem aw_bl11 (W : World) : Bl (aw11 W) (aw13 W) := (((Bl.refl (aw11 W)).alloc _).alloc _)
theorem aw_sz11 (W : World) : (aw11 W).heap.size = W.heap.size + 1 + 1 + 1 + 1 + 1 + 1 + 1 + 1 + 1 + 1 + 1 := by simp
theorem aw_bl12 (W : World) : Bl (aw12 W) (aw13 W) := ((Bl.refl (aw12 W)).alloc _)
theorem aw_sz12 (W : World) : (aw12 W).heap.size = W.heap.size + 1 + 1 + 1 + 1 + 1 + 1 + 1 + 1 + 1 + 1 + 1 + 1 := by simp
theorem aw_sz13 (W : World) : (aw13 W).heap.size = W.heap.size + 1 + 1 + 1 + 1 + 1 + 1 + 1 + 1 + 1 + 1 + 1 + 1 + 1 := by simp
theorem aw_s0 (W : World) : Strs (aw13 W).heap.size (aw13 W) (.slice (some ⟨W.heap.size, 0, none⟩) 2 2) [[97], [98]] := by
  have h := strs_of_owns (TA.own_new W [[97], [98]] (by unfold maxLen; simp))
  exact Strs.bl (w0 := aw1 W) h (aw_bl1 W)
theorem aw_s1 (W : World) : Strs (aw13 W).heap.size (aw13 W) (.slice (some ⟨W.heap.size + 1, 0, none⟩) 1 1) [[120]] := by
  have h := strs_of_owns (TA.own_new (aw1 W) [[120]] (by unfold maxLen; simp))
  rw [aw_sz1 W] at h
  exact Strs.bl (w0 := aw2 W) h (aw_bl2 W)
theorem aw_s3 (W : World) : Strs (aw13 W).heap.size (aw13 W) (.slice (some ⟨W.heap.size + 1 + 1 + 1, 0, none⟩) 1 1) [[97]] := by
  have h := strs_of_owns (TA.own_new (aw3 W) [[97]] (by unfold maxLen; simp))
  rw [aw_sz3 W] at h
  exact Strs.bl (w0 := aw4 W) h (aw_bl4 W)
theorem aw_s5 (W : World) : Strs (aw13 W).heap.size (aw13 W) (.slice (some ⟨W.heap.size + 1 + 1 + 1 + 1 + 1, 0, none⟩) 1 1) [[98]] := by
  have h := strs_of_owns (TA.own_new (aw5 W) [[98]] (by unfold maxLen; simp))
  rw [aw_sz5 W] at h
  exact Strs.bl (w0 := aw6 W) h (aw_bl6 W)
theorem aw_s9 (W : World) : Strs (aw13 W).heap.size (aw13 W) (.slice (some ⟨W.heap.size + 1 + 1 + 1 + 1 + 1 + 1 + 1 + 1 + 1, 0, none⟩) 1 1) [[120]] := by
  have h := strs_of_owns (TA.own_new (aw9 W) [[120]] (by unfold maxLen; simp))
  rw [aw_sz9 W] at h
  exact Strs.bl (w0 := aw10 W) h (aw_bl10 W)
theorem aw_gA (W : World) : GA (aw13 W).heap.size (aw13 W) gA (some ⟨W.heap.size, 0, none⟩) 2 (some ⟨W.heap.size + 1 + 1 + 1 + 1 + 1 + 1 + 1, 0, none⟩) 3 := by
  refine ⟨aw_s0 W, fun i t ht => ?_⟩
  have hb : (aw13 W).heap[W.heap.size + 1 + 1 + 1 + 1 + 1 + 1 + 1]? = some (.cells #[.string (M.bs [121]), .slice (some ⟨W.heap.size + 1, 0, none⟩) 1 1, .string ⟨#[]⟩, .string (M.bs [120]), .slice (some ⟨W.heap.size + 1 + 1 + 1, 0, none⟩) 1 1, .string ⟨#[]⟩, .string (M.bs [122]), .slice (some ⟨W.heap.size + 1 + 1 + 1 + 1 + 1, 0, none⟩) 1 1, .string ⟨#[]⟩] 41 (0, 0)) := by
    rw [Below.block (aw_bl8 W) _ (by rw [aw_sz8]; omega), ← aw_sz7 W]; exact heap_alloc_new (aw7 W) _
  have hl : W.heap.size + 1 + 1 + 1 + 1 + 1 + 1 + 1 < (aw13 W).heap.size := by rw [aw_sz13]; omega
  have cell : ∀ j, (aw13 W).cell? ⟨W.heap.size + 1 + 1 + 1 + 1 + 1 + 1 + 1, j, none⟩ = (#[.string (M.bs [121]), .slice (some ⟨W.heap.size + 1, 0, none⟩) 1 1, .string ⟨#[]⟩, .string (M.bs [120]), .slice (some ⟨W.heap.size + 1 + 1 + 1, 0, none⟩) 1 1, .string ⟨#[]⟩, .string (M.bs [122]), .slice (some ⟨W.heap.size + 1 + 1 + 1 + 1 + 1, 0, none⟩) 1 1, .string ⟨#[]⟩] : Array Value)[j]? := fun j => by rw [Lib.cell_of_heap hb]
  rcases i with _ | _ | _ | i
  · cases ht
    refine ⟨W.heap.size + 1 + 1 + 1 + 1 + 1 + 1 + 1, 0, (some ⟨W.heap.size + 1, 0, none⟩), 1, rfl, hl, fun j v hv => ?_, aw_s1 W⟩
    rw [cell]
    rcases j with _ | _ | _ | j
    · cases hv; rfl
    · cases hv; rfl
    · cases hv; rfl
    · simp [acL] at hv
  · cases ht
    refine ⟨W.heap.size + 1 + 1 + 1 + 1 + 1 + 1 + 1, 0, (some ⟨W.heap.size + 1 + 1 + 1, 0, none⟩), 1, rfl, hl, fun j v hv => ?_, aw_s3 W⟩
    rw [cell]
    rcases j with _ | _ | _ | j
    · cases hv; rfl
    · cases hv; rfl
    · cases hv; rfl
    · simp [acL] at hv
  · cases ht
    refine ⟨W.heap.size + 1 + 1 + 1 + 1 + 1 + 1 + 1, 0, (some ⟨W.heap.size + 1 + 1 + 1 + 1 + 1, 0, none⟩), 1, rfl, hl, fun j v hv => ?_, aw_s5 W⟩
    rw [cell]
    rcases j with _ | _ | _ | j
    · cases hv; rfl
    · cases hv; rfl
    · cases hv; rfl
    · simp [acL] at hv
  · simp [gA] at ht
theorem aw_gH (W : World) : GA (aw13 W).heap.size (aw13 W) gH none 0 (some ⟨W.heap.size + 1 + 1 + 1 + 1 + 1 + 1 + 1 + 1 + 1 + 1 + 1, 0, none⟩) 1 := by
  refine ⟨Or.inl ⟨rfl, none, 0, rfl⟩, fun i t ht => ?_⟩
  have hb : (aw13 W).heap[W.heap.size + 1 + 1 + 1 + 1 + 1 + 1 + 1 + 1 + 1 + 1 + 1]? = some (.cells #[.string (M.bs [120]), .slice (some ⟨W.heap.size + 1 + 1 + 1 + 1 + 1 + 1 + 1 + 1 + 1, 0, none⟩) 1 1, .string ⟨#[]⟩] 41 (0, 0)) := by
    rw [Below.block (aw_bl12 W) _ (by rw [aw_sz12]; omega), ← aw_sz11 W]; exact heap_alloc_new (aw11 W) _
  have hl : W.heap.size + 1 + 1 + 1 + 1 + 1 + 1 + 1 + 1 + 1 + 1 + 1 < (aw13 W).heap.size := by rw [aw_sz13]; omega
  rcases i with _ | i
  · cases ht
    refine ⟨W.heap.size + 1 + 1 + 1 + 1 + 1 + 1 + 1 + 1 + 1 + 1 + 1, 0, (some ⟨W.heap.size + 1 + 1 + 1 + 1 + 1 + 1 + 1 + 1 + 1, 0, none⟩), 1, rfl, hl, fun j v hv => ?_, aw_s9 W⟩
    rw [Lib.cell_of_heap hb]
    rcases j with _ | _ | _ | j
    · cases hv; rfl
    · cases hv; rfl
    · cases hv; rfl
    · simp [acL] at hv
  · simp [gH] at ht
theorem aw_c8 (W : World) {U : World} (h : Bl (aw13 W) U) : U.cell? ⟨W.heap.size + 1 + 1 + 1 + 1 + 1 + 1 + 1 + 1, 0, none⟩ = some (.slice (some ⟨W.heap.size, 0, none⟩) 2 2) ∧ U.cell? ⟨W.heap.size + 1 + 1 + 1 + 1 + 1 + 1 + 1 + 1, 1, none⟩ = some (.slice (some ⟨W.heap.size + 1 + 1 + 1 + 1 + 1 + 1 + 1, 0, none⟩) 3 3) := by
  have hb : (aw13 W).heap[W.heap.size + 1 + 1 + 1 + 1 + 1 + 1 + 1 + 1]? = some (.cells #[.slice (some ⟨W.heap.size, 0, none⟩) 2 2, .slice (some ⟨W.heap.size + 1 + 1 + 1 + 1 + 1 + 1 + 1, 0, none⟩) 3 3] 25 (0, 0)) := by
    rw [Below.block (aw_bl9 W) _ (by rw [aw_sz9]; omega), ← aw_sz8 W]; exact heap_alloc_new (aw8 W) _
  have hl : W.heap.size + 1 + 1 + 1 + 1 + 1 + 1 + 1 + 1 < (aw13 W).heap.size := by rw [aw_sz13]; omega
  exact ⟨by rw [Bl.cell h hl, Lib.cell_of_heap hb]; rfl, by rw [Bl.cell h hl, Lib.cell_of_heap hb]; rfl⟩
theorem aw_c12 (W : World) {U : World} (h : Bl (aw13 W) U) : U.cell? ⟨W.heap.size + 1 + 1 + 1 + 1 + 1 + 1 + 1 + 1 + 1 + 1 + 1 + 1, 0, none⟩ = some (.slice none 0 0) ∧ U.cell? ⟨W.heap.size + 1 + 1 + 1 + 1 + 1 + 1 + 1 + 1 + 1 + 1 + 1 + 1, 1, none⟩ = some (.slice (some ⟨W.heap.size + 1 + 1 + 1 + 1 + 1 + 1 + 1 + 1 + 1 + 1 + 1, 0, none⟩) 1 1) := by
  have hb : (aw13 W).heap[W.heap.size + 1 + 1 + 1 + 1 + 1 + 1 + 1 + 1 + 1 + 1 + 1 + 1]? = some (.cells #[.slice none 0 0, .slice (some ⟨W.heap.size + 1 + 1 + 1 + 1 + 1 + 1 + 1 + 1 + 1 + 1 + 1, 0, none⟩) 1 1] 25 (0, 0)) := by
    rw [← aw_sz12 W]; exact heap_alloc_new (aw12 W) _
  have hl : W.heap.size + 1 + 1 + 1 + 1 + 1 + 1 + 1 + 1 + 1 + 1 + 1 + 1 < (aw13 W).heap.size := by rw [aw_sz13]; omega
  exact ⟨by rw [Bl.cell h hl, Lib.cell_of_heap hb]; rfl, by rw [Bl.cell h hl, Lib.cell_of_heap hb]; rfl⟩
theorem gA_ok : grOk gA := ⟨by simp [gA, maxLen], by simp [gA, maxLen], by simp [gA, maxLen], by simp [gA, acOk, maxLen]⟩
theorem gH_ok : grOk gH := ⟨by simp [gH, maxLen], by simp [gH, maxLen], by simp [gH, maxLen], by simp [gH, acOk, maxLen]⟩
theorem gA_chk : TR.chk gA = 0 := by decide +kernel
theorem gH_chk : TR.chk gH = 23 := by decide +kernel
theorem gA_ord : ordL gA = [1, 0, 2] := by decide +kernel
theorem gH_ord : ordL gH = [] := by unfold ordL; rw [if_neg (by rw [gH_chk]; decide)]
theorem gA_drt : drL gA [[97]] = [0, 1] := by decide +kernel
theorem gA_nd : ndL gA [121] = [[97], [120]] := by
  have e : nin (TR.nm gA) (TR.ndAt (TR.fin gA).needs 0) (TR.nm gA).length = [[97], [120]] := by decide +kernel
  have e2 : plc gA [121] = some 0 := by decide +kernel
  unfold ndL
  rw [if_pos gA_chk]
  unfold ndK
  rw [e2]
  simp only []
  rw [e]
  unfold srt
  exact List.mergeSort_of_pairwise (by decide)

set_option maxRecDepth 8000 in
set_option maxHeartbeats 4000000 in
theorem awake_8 {w W : World} (HB : Bl w W) :
    Calls Try.prog 9 #[] W fun e w' => e = .returned (.bool true) ∧ Bl w w' := by
  have CC : Hid (Calls Try.prog 11 #[.agg #[.slice (some ⟨W.heap.size, 0, none⟩) 2 2, .slice (some ⟨W.heap.size + 1 + 1 + 1 + 1 + 1 + 1 + 1, 0, none⟩) 3 3]] (aw13 W) fun e w' => e = .returned (.int .i64 0) ∧ Bl (aw13 W) w') := by
    have h := Check_x gA _ _ _ _ (Bl.refl _) (aw_gA W) gA_ok
    rw [gA_chk] at h; exact h
  have CO : Hid (∀ U, Bl (aw13 W) U → Calls Try.prog 14 #[.agg #[.slice (some ⟨W.heap.size, 0, none⟩) 2 2, .slice (some ⟨W.heap.size + 1 + 1 + 1 + 1 + 1 + 1 + 1, 0, none⟩) 3 3]] U fun e w' => ∃ a c, e = .returned (.slice a 3 c) ∧ IA w' a [1, 0, 2] ∧ Bl (aw13 W) w') := fun U hU => by
    have h := Order_x gA _ _ _ _ hU ((aw_gA W).bl hU) gA_ok
    rw [gA_ord] at h; exact h
  have CD : Hid (∀ U, Bl (aw13 W) U → Calls Try.prog 19 #[.agg #[.slice (some ⟨W.heap.size, 0, none⟩) 2 2, .slice (some ⟨W.heap.size + 1 + 1 + 1 + 1 + 1 + 1 + 1, 0, none⟩) 3 3], .slice (some ⟨U.heap.size, 0, none⟩) 1 1] (U.alloc (.cells #[.string ⟨#[97]⟩] 9)) fun e w' => ∃ a c, e = .returned (.slice a 2 c) ∧ IA w' a [0, 1] ∧ Bl (aw13 W) w') := fun U hU => by
    have hs : Strs (U.alloc (.cells #[.string ⟨#[97]⟩] 9)).heap.size (U.alloc (.cells #[.string ⟨#[97]⟩] 9)) (.slice (some ⟨U.heap.size, 0, none⟩) 1 1) [[97]] := strs_of_owns (TA.own_new U [[97]] (by unfold maxLen; simp))
    have h := Dirty_x gA _ _ _ _ [[97]] _ 1 (hU.alloc _) ((aw_gA W).bl (hU.alloc _)) gA_ok hs (by unfold maxLen; simp)
    rw [gA_drt] at h; exact h
  have CN : Hid (∀ U, Bl (aw13 W) U → Calls Try.prog 17 #[.agg #[.slice (some ⟨W.heap.size, 0, none⟩) 2 2, .slice (some ⟨W.heap.size + 1 + 1 + 1 + 1 + 1 + 1 + 1, 0, none⟩) 3 3], .string ⟨#[121]⟩] U fun e w' => ∃ a c, e = .returned (.slice a 2 c) ∧ Strs w'.heap.size w' (.slice a 2 c) [[97], [120]] ∧ Bl (aw13 W) w') := fun U hU => by
    have h := Needs_x gA _ _ _ _ [121] hU ((aw_gA W).bl hU) gA_ok
    rw [gA_nd] at h
    refine Calls.mono h ?_
    rintro e w' ⟨v, rfl, ho, hb⟩
    obtain ⟨a, c, rfl, _, hs⟩ := Strs.ofOwns ho
    exact ⟨a, c, rfl, hs, hb⟩
  have CC2 : Hid (∀ U, Bl (aw13 W) U → Calls Try.prog 11 #[.agg #[.slice none 0 0, .slice (some ⟨W.heap.size + 1 + 1 + 1 + 1 + 1 + 1 + 1 + 1 + 1 + 1 + 1, 0, none⟩) 1 1]] U fun e w' => e = .returned (.int .i64 23) ∧ Bl (aw13 W) w') := fun U hU => by
    have h := Check_x gH _ _ _ _ hU ((aw_gH W).bl hU) gH_ok
    rw [gH_chk] at h; exact h
  have CO2 : Hid (∀ U, Bl (aw13 W) U → Calls Try.prog 14 #[.agg #[.slice none 0 0, .slice (some ⟨W.heap.size + 1 + 1 + 1 + 1 + 1 + 1 + 1 + 1 + 1 + 1 + 1, 0, none⟩) 1 1]] U fun e w' => ∃ a c, e = .returned (.slice a 0 c) ∧ Bl (aw13 W) w') := fun U hU => by
    have h := Order_x gH _ _ _ _ hU ((aw_gH W).bl hU) gH_ok
    rw [gH_ord] at h
    refine Calls.mono h ?_
    rintro e w' ⟨a, c, rfl, _, hb⟩
    exact ⟨a, c, rfl, hb⟩
  have CI3 : Hid (∀ (U : World) (a : Option Addr) (c : Nat), IA U a [1, 0, 2] → Bl (aw13 W) U → Calls Try.prog 13 #[.slice a 3 c, .slice (some ⟨U.heap.size, 0, none⟩) 3 3] (U.alloc (.cells #[.int .i64 1, .int .i64 0, .int .i64 2] 3)) fun e w' => e = .returned (.bool true) ∧ Bl (aw13 W) w') := fun U a c hi hU => by
    have h2 : IA (U.alloc (.cells #[.int .i64 1, .int .i64 0, .int .i64 2] 3)) (some ⟨U.heap.size, 0, none⟩) [1, 0, 2] := (ia_new U [1, 0, 2])
    refine Calls.mono (Ints_x [1, 0, 2] [1, 0, 2] a _ c 3 _ (hi.bl ((Bl.refl U).alloc _)) h2 (by unfold maxLen; simp) (by unfold maxLen; simp)) ?_
    rintro e w' ⟨rfl, n, rfl⟩
    exact ⟨by rfl, (hU.alloc _).drewN n⟩
  have CI2 : Hid (∀ (U : World) (a : Option Addr) (c : Nat), IA U a [0, 1] → Bl (aw13 W) U → Calls Try.prog 13 #[.slice a 2 c, .slice (some ⟨U.heap.size, 0, none⟩) 2 2] (U.alloc (.cells #[.int .i64 0, .int .i64 1] 3)) fun e w' => e = .returned (.bool true) ∧ Bl (aw13 W) w') := fun U a c hi hU => by
    have h2 : IA (U.alloc (.cells #[.int .i64 0, .int .i64 1] 3)) (some ⟨U.heap.size, 0, none⟩) [0, 1] := (ia_new U [0, 1])
    refine Calls.mono (Ints_x [0, 1] [0, 1] a _ c 2 _ (hi.bl ((Bl.refl U).alloc _)) h2 (by unfold maxLen; simp) (by unfold maxLen; simp)) ?_
    rintro e w' ⟨rfl, n, rfl⟩
    exact ⟨by rfl, (hU.alloc _).drewN n⟩
  have CSA : Hid (∀ (U : World) (a : Option Addr) (c : Nat), Strs U.heap.size U (.slice a 2 c) [[97], [120]] → Bl (aw13 W) U → Calls Try.prog 16 #[.slice a 2 c, .slice (some ⟨U.heap.size, 0, none⟩) 2 2] (U.alloc (.cells #[.string ⟨#[97]⟩, .string ⟨#[120]⟩] 9)) fun e w' => e = .returned (.bool true) ∧ Bl (aw13 W) w') := fun U a c hi hU => by
    have h2 : SA (U.alloc (.cells #[.string ⟨#[97]⟩, .string ⟨#[120]⟩] 9)) (some ⟨U.heap.size, 0, none⟩) [[97], [120]] := (Strs.sa (strs_of_owns (TA.own_new U [[97], [120]] (by unfold maxLen; simp)))).2
    refine Calls.mono (SameT_x [[97], [120]] [[97], [120]] a _ c 2 _ (Strs.sa (hi.bl ((Bl.refl U).alloc _))).2 h2 (by unfold maxLen; simp) (by unfold maxLen; simp)) ?_
    rintro e w' ⟨rfl, n, rfl⟩
    exact ⟨by rfl, (hU.alloc _).drewN n⟩
  have HC8 : Hid (∀ U, Bl (aw13 W) U → U.cell? ⟨W.heap.size + 1 + 1 + 1 + 1 + 1 + 1 + 1 + 1, 0, none⟩ = some (.slice (some ⟨W.heap.size, 0, none⟩) 2 2) ∧ U.cell? ⟨W.heap.size + 1 + 1 + 1 + 1 + 1 + 1 + 1 + 1, 1, none⟩ = some (.slice (some ⟨W.heap.size + 1 + 1 + 1 + 1 + 1 + 1 + 1, 0, none⟩) 3 3)) := fun U hU => aw_c8 W hU
  have HC12 : Hid (∀ U, Bl (aw13 W) U → U.cell? ⟨W.heap.size + 1 + 1 + 1 + 1 + 1 + 1 + 1 + 1 + 1 + 1 + 1 + 1, 0, none⟩ = some (.slice none 0 0) ∧ U.cell? ⟨W.heap.size + 1 + 1 + 1 + 1 + 1 + 1 + 1 + 1 + 1 + 1 + 1 + 1, 1, none⟩ = some (.slice (some ⟨W.heap.size + 1 + 1 + 1 + 1 + 1 + 1 + 1 + 1 + 1 + 1 + 1, 0, none⟩) 1 1)) := fun U hU => aw_c12 W hU
  have FIN : Hid (∀ U, Bl (aw13 W) U → Bl w U) := fun U hU => (HB.step (aw_bl W)).step hU
  clear HB
  go_enter Try.func9, Try.ntmps9
  go_wp2_with (first
    | (go_at_call 22; refine (action_x _ _ _ _ _).mono ?_; rintro e w' ⟨rfl, hw'⟩; rw [hw']; clear hw' w')
    | (go_at_call 11; refine CC.out.mono ?_; clear CC; rintro e w1 ⟨rfl, HB1⟩; generalize hV : aw13 W = V at *; clear hV; obtain ⟨p1, p2⟩ := HC8.out _ HB1)
    | (go_at_call 14; refine (CO.out _ HB1).mono ?_; clear CO; rintro e w2 ⟨a2, c2, rfl, HI2, HB2⟩)
    | (go_at_call 13; refine (CI3.out _ _ _ HI2 HB2).mono ?_; clear CI3 HI2 p1 p2; rintro e w3 ⟨rfl, HB3⟩; obtain ⟨p1, p2⟩ := HC8.out _ HB3)
    | (go_at_call 19; refine (CD.out _ HB3).mono ?_; clear CD; rintro e w4 ⟨a4, c4, rfl, HI4, HB4⟩)
    | (go_at_call 13; refine (CI2.out _ _ _ HI4 HB4).mono ?_; clear CI2 HI4 p1 p2; rintro e w5 ⟨rfl, HB5⟩; obtain ⟨p1, p2⟩ := HC8.out _ HB5)
    | (go_at_call 17; refine (CN.out _ HB5).mono ?_; clear CN; rintro e w6 ⟨a6, c6, rfl, HS6, HB6⟩)
    | (go_at_call 16; refine (CSA.out _ _ _ HS6 HB6).mono ?_; clear CSA HS6 p1 p2; rintro e w7 ⟨rfl, HB7⟩; obtain ⟨p1, p2⟩ := HC12.out _ HB7)
    | (go_at_call 11; refine (CC2.out _ HB7).mono ?_; clear CC2 p1 p2; rintro e w8 ⟨rfl, HB8⟩; obtain ⟨p1, p2⟩ := HC12.out _ HB8)
    | (go_at_call 14; refine (CO2.out _ HB8).mono ?_; clear CO2; rintro e w9 ⟨a9, c9, rfl, HB9⟩))
  go_ret
  exact ⟨rfl, FIN.out _ HB9⟩
end Go.Proofs.Ythpdmeoljdmncaa
