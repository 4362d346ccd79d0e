/- The law's own awake. -/
import Derived.Test.YtjbffhdccgmfpaaGreatDoorOC
import Derived.Deep.RegionHeld3
import Derived.Test.YtjbffhdccgmfpaaGreatDoorRegT
namespace Go.Proofs.YtjbffhdccgmfpaaGreatDoor
open Go.RowKit
set_option linter.unusedVariables false
set_option linter.unusedSimpArgs false
attribute [local go_sem ↓] zero27

set_option maxRecDepth 8000 in
theorem action9_x (n cd : List UInt8) (a : Option Addr) (k c : Nat) (W : World) :
    Calls Tryz.prog 13 #[.string (M.bs n), .string (M.bs cd), .slice a k c] W fun e w' => e = .returned (.agg #[.string (M.bs n), .slice a k c, .string (M.bs cd)]) ∧ w' = W.alloc (.cells #[.string (M.bs n), .slice a k c, .string (M.bs cd)] 43) := by
  obtain ⟨fs, hum⟩ := undAc
  have hi : (Tryz.prog.info? 43).map (·.size) = some (#[Value.string (M.bs n), .slice a k c, .string (M.bs cd)] : Array Value).size := infoAc (n, [], cd) a c
  go_enter Tryz.func13, Tryz.ntmps13
  go_wp2_with fail
  refine bodyPost_ret (results_cell_row rfl _ _ _ 43 _ (0, 0) _ rfl (heap_alloc_new W _) hum rfl hi) rfl ?_
  exact ⟨rfl, rfl⟩
/-- the build that awake asks of -/
def gO : RC.Gr := ([[97]], [([122], [[121]], [105, 0]), ([120], [[97]], [105, 0, 114]), ([121], [[120]], [99])])
def lO : List O.So := [([97], [103, 111])]
abbrev bw1 (W : World) : World := W.alloc (.cells #[.string ⟨#[97]⟩] 9)
abbrev bw2 (W : World) : World := (bw1 W).alloc (.cells #[.string ⟨#[121]⟩] 9)
abbrev bw3 (W : World) : World := (bw2 W).alloc (.cells #[.string (M.bs [122]), .slice (some ⟨W.heap.size + 1, 0, none⟩) 1 1, .string (M.bs [105, 0])] 43)
abbrev bw4 (W : World) : World := (bw3 W).alloc (.cells #[.string ⟨#[97]⟩] 9)
abbrev bw5 (W : World) : World := (bw4 W).alloc (.cells #[.string (M.bs [120]), .slice (some ⟨W.heap.size + 1 + 1 + 1, 0, none⟩) 1 1, .string (M.bs [105, 0, 114])] 43)
abbrev bw6 (W : World) : World := (bw5 W).alloc (.cells #[.string ⟨#[120]⟩] 9)
abbrev bw7 (W : World) : World := (bw6 W).alloc (.cells #[.string (M.bs [121]), .slice (some ⟨W.heap.size + 1 + 1 + 1 + 1 + 1, 0, none⟩) 1 1, .string (M.bs [99])] 43)
abbrev bw8 (W : World) : World := (bw7 W).alloc (.cells #[.string (M.bs [122]), .slice (some ⟨W.heap.size + 1, 0, none⟩) 1 1, .string (M.bs [105, 0]), .string (M.bs [120]), .slice (some ⟨W.heap.size + 1 + 1 + 1, 0, none⟩) 1 1, .string (M.bs [105, 0, 114]), .string (M.bs [121]), .slice (some ⟨W.heap.size + 1 + 1 + 1 + 1 + 1, 0, none⟩) 1 1, .string (M.bs [99])] 43)
abbrev bw9 (W : World) : World := (bw8 W).alloc (.cells #[.slice (some ⟨W.heap.size, 0, none⟩) 1 1, .slice (some ⟨W.heap.size + 1 + 1 + 1 + 1 + 1 + 1 + 1, 0, none⟩) 3 3] 25)
theorem bw_bl (W : World) : Bl W (bw9 W) := ((((((((((Bl.refl W).alloc _).alloc _).alloc _).alloc _).alloc _).alloc _).alloc _).alloc _).alloc _)
theorem bw_bl1 (W : World) : Bl (bw1 W) (bw9 W) := (((((((((Bl.refl (bw1 W)).alloc _).alloc _).alloc _).alloc _).alloc _).alloc _).alloc _).alloc _)
theorem bw_sz1 (W : World) : (bw1 W).heap.size = W.heap.size + 1 := by simp
theorem bw_bl2 (W : World) : Bl (bw2 W) (bw9 W) := ((((((((Bl.refl (bw2 W)).alloc _).alloc _).alloc _).alloc _).alloc _).alloc _).alloc _)
theorem bw_sz2 (W : World) : (bw2 W).heap.size = W.heap.size + 1 + 1 := by simp
theorem bw_bl3 (W : World) : Bl (bw3 W) (bw9 W) := (((((((Bl.refl (bw3 W)).alloc _).alloc _).alloc _).alloc _).alloc _).alloc _)
theorem bw_sz3 (W : World) : (bw3 W).heap.size = W.heap.size + 1 + 1 + 1 := by simp
theorem bw_bl4 (W : World) : Bl (bw4 W) (bw9 W) := ((((((Bl.refl (bw4 W)).alloc _).alloc _).alloc _).alloc _).alloc _)
theorem bw_sz4 (W : World) : (bw4 W).heap.size = W.heap.size + 1 + 1 + 1 + 1 := by simp
theorem bw_bl5 (W : World) : Bl (bw5 W) (bw9 W) := (((((Bl.refl (bw5 W)).alloc _).alloc _).alloc _).alloc _)
theorem bw_sz5 (W : World) : (bw5 W).heap.size = W.heap.size + 1 + 1 + 1 + 1 + 1 := by simp
theorem bw_bl6 (W : World) : Bl (bw6 W) (bw9 W) := ((((Bl.refl (bw6 W)).alloc _).alloc _).alloc _)
theorem bw_sz6 (W : World) : (bw6 W).heap.size = W.heap.size + 1 + 1 + 1 + 1 + 1 + 1 := by simp
theorem bw_bl7 (W : World) : Bl (bw7 W) (bw9 W) := (((Bl.refl (bw7 W)).alloc _).alloc _)
theorem bw_sz7 (W : World) : (bw7 W).heap.size = W.heap.size + 1 + 1 + 1 + 1 + 1 + 1 + 1 := by simp
theorem bw_bl8 (W : World) : Bl (bw8 W) (bw9 W) := ((Bl.refl (bw8 W)).alloc _)
theorem bw_sz8 (W : World) : (bw8 W).heap.size = W.heap.size + 1 + 1 + 1 + 1 + 1 + 1 + 1 + 1 := by simp
theorem bw_sz9 (W : World) : (bw9 W).heap.size = W.heap.size + 1 + 1 + 1 + 1 + 1 + 1 + 1 + 1 + 1 := by simp
theorem bw_s0 (W : World) : Strs (bw9 W).heap.size (bw9 W) (.slice (some ⟨W.heap.size, 0, none⟩) 1 1) [[97]] := by
  have h := strs_of_owns (TA.own_new W [[97]] (by unfold maxLen; simp))
  exact Strs.bl (w0 := bw1 W) h (bw_bl1 W)
theorem bw_s1 (W : World) : Strs (bw9 W).heap.size (bw9 W) (.slice (some ⟨W.heap.size + 1, 0, none⟩) 1 1) [[121]] := by
  have h := strs_of_owns (TA.own_new (bw1 W) [[121]] (by unfold maxLen; simp))
  rw [bw_sz1 W] at h
  exact Strs.bl (w0 := bw2 W) h (bw_bl2 W)
theorem bw_s3 (W : World) : Strs (bw9 W).heap.size (bw9 W) (.slice (some ⟨W.heap.size + 1 + 1 + 1, 0, none⟩) 1 1) [[97]] := by
  have h := strs_of_owns (TA.own_new (bw3 W) [[97]] (by unfold maxLen; simp))
  rw [bw_sz3 W] at h
  exact Strs.bl (w0 := bw4 W) h (bw_bl4 W)
theorem bw_s5 (W : World) : Strs (bw9 W).heap.size (bw9 W) (.slice (some ⟨W.heap.size + 1 + 1 + 1 + 1 + 1, 0, none⟩) 1 1) [[120]] := by
  have h := strs_of_owns (TA.own_new (bw5 W) [[120]] (by unfold maxLen; simp))
  rw [bw_sz5 W] at h
  exact Strs.bl (w0 := bw6 W) h (bw_bl6 W)
theorem bw_gO (W : World) : GA (bw9 W).heap.size (bw9 W) gO (some ⟨W.heap.size, 0, none⟩) 1 (some ⟨W.heap.size + 1 + 1 + 1 + 1 + 1 + 1 + 1, 0, none⟩) 3 := by
  refine ⟨bw_s0 W, fun i t ht => ?_⟩
  have hb : (bw9 W).heap[W.heap.size + 1 + 1 + 1 + 1 + 1 + 1 + 1]? = some (.cells #[.string (M.bs [122]), .slice (some ⟨W.heap.size + 1, 0, none⟩) 1 1, .string (M.bs [105, 0]), .string (M.bs [120]), .slice (some ⟨W.heap.size + 1 + 1 + 1, 0, none⟩) 1 1, .string (M.bs [105, 0, 114]), .string (M.bs [121]), .slice (some ⟨W.heap.size + 1 + 1 + 1 + 1 + 1, 0, none⟩) 1 1, .string (M.bs [99])] 43 (0, 0)) := by
    rw [Below.block (bw_bl8 W) _ (by rw [bw_sz8]; omega), ← bw_sz7 W]; exact heap_alloc_new (bw7 W) _
  have hl : W.heap.size + 1 + 1 + 1 + 1 + 1 + 1 + 1 < (bw9 W).heap.size := by rw [bw_sz9]; omega
  have cell : ∀ j, (bw9 W).cell? ⟨W.heap.size + 1 + 1 + 1 + 1 + 1 + 1 + 1, j, none⟩ = (#[.string (M.bs [122]), .slice (some ⟨W.heap.size + 1, 0, none⟩) 1 1, .string (M.bs [105, 0]), .string (M.bs [120]), .slice (some ⟨W.heap.size + 1 + 1 + 1, 0, none⟩) 1 1, .string (M.bs [105, 0, 114]), .string (M.bs [121]), .slice (some ⟨W.heap.size + 1 + 1 + 1 + 1 + 1, 0, none⟩) 1 1, .string (M.bs [99])] : Array Value)[j]? := fun j => by rw [Lib.cell_of_heap hb]
  rcases i with _ | _ | _ | i
  · cases ht
    refine ⟨W.heap.size + 1 + 1 + 1 + 1 + 1 + 1 + 1, 0, (some ⟨W.heap.size + 1, 0, none⟩), 1, rfl, hl, fun j v hv => ?_, bw_s1 W⟩
    rw [cell]
    rcases j with _ | _ | _ | j
    · cases hv; rfl
    · cases hv; rfl
    · cases hv; rfl
    · simp [acL] at hv
  · cases ht
    refine ⟨W.heap.size + 1 + 1 + 1 + 1 + 1 + 1 + 1, 0, (some ⟨W.heap.size + 1 + 1 + 1, 0, none⟩), 1, rfl, hl, fun j v hv => ?_, bw_s3 W⟩
    rw [cell]
    rcases j with _ | _ | _ | j
    · cases hv; rfl
    · cases hv; rfl
    · cases hv; rfl
    · simp [acL] at hv
  · cases ht
    refine ⟨W.heap.size + 1 + 1 + 1 + 1 + 1 + 1 + 1, 0, (some ⟨W.heap.size + 1 + 1 + 1 + 1 + 1, 0, none⟩), 1, rfl, hl, fun j v hv => ?_, bw_s5 W⟩
    rw [cell]
    rcases j with _ | _ | _ | j
    · cases hv; rfl
    · cases hv; rfl
    · cases hv; rfl
    · simp [acL] at hv
  · simp [gO] at ht
theorem bw_c8 (W : World) {U : World} (h : Bl (bw9 W) U) : U.cell? ⟨W.heap.size + 1 + 1 + 1 + 1 + 1 + 1 + 1 + 1, 0, none⟩ = some (.slice (some ⟨W.heap.size, 0, none⟩) 1 1) ∧ U.cell? ⟨W.heap.size + 1 + 1 + 1 + 1 + 1 + 1 + 1 + 1, 1, none⟩ = some (.slice (some ⟨W.heap.size + 1 + 1 + 1 + 1 + 1 + 1 + 1, 0, none⟩) 3 3) := by
  have hb : (bw9 W).heap[W.heap.size + 1 + 1 + 1 + 1 + 1 + 1 + 1 + 1]? = some (.cells #[.slice (some ⟨W.heap.size, 0, none⟩) 1 1, .slice (some ⟨W.heap.size + 1 + 1 + 1 + 1 + 1 + 1 + 1, 0, none⟩) 3 3] 25 (0, 0)) := by
    rw [← bw_sz8 W]; exact heap_alloc_new (bw8 W) _
  have hl : W.heap.size + 1 + 1 + 1 + 1 + 1 + 1 + 1 + 1 < (bw9 W).heap.size := by rw [bw_sz9]; omega
  exact ⟨by rw [Bl.cell h hl, Lib.cell_of_heap hb]; rfl, by rw [Bl.cell h hl, Lib.cell_of_heap hb]; rfl⟩
theorem gO_ok : grOk gO := ⟨by simp [gO, maxLen], by simp [gO, maxLen], by simp [gO, maxLen], by simp [gO, acOk, maxLen]⟩
theorem gO_err : O.err gO lO = 0 := by decide +kernel
theorem gO_err2 : O.err gO [] = 22 := by decide +kernel
theorem gO_build : O.build gO lO = [([122], (34, [])), ([120], (0, [111, 103])), ([121], (31, []))] := by kernel_rfl
theorem gO_keys : O.keys gO lO = [O.zd, O.key [105, 0, 114] [(0, [103, 111])], O.keyA (O.baked gO lO) ([121], [[120]], [99])] := by
  have e1 : O.gt (O.baked gO lO) [122] = (34, []) := by kernel_rfl
  have e2 : O.gt (O.baked gO lO) [120] = (0, [111, 103]) := by kernel_rfl
  have e3 : O.ins (O.baked gO lO) [[97]] = [(0, [103, 111])] := by kernel_rfl
  unfold O.keys
  rw [show gO.2 = [([122], [[121]], [105, 0]), ([120], [[97]], [105, 0, 114]), ([121], [[120]], [99])] from rfl]
  simp only [List.map_cons, List.map_nil]
  rw [show O.keyA (O.baked gO lO) ([122], [[121]], [105, 0]) = O.zd by unfold O.keyA; rw [e1, if_pos rfl], show O.keyA (O.baked gO lO) ([120], [[97]], [105, 0, 114]) = O.key [105, 0, 114] [(0, [103, 111])] by unfold O.keyA; rw [e2, if_neg (by decide), e3]]
theorem rs_lO (U : World) : RS lyS (U.alloc (.cells #[.string ⟨#[97]⟩, .string ⟨#[103, 111]⟩] 45)) (some ⟨U.heap.size, 0, none⟩) lO := fun i x hx => by
  rcases i with _ | i
  · cases hx
    refine ⟨U.heap.size, 0, rfl, by simp, fun j v hv => ?_⟩
    rw [Lib.cell_of_heap (heap_alloc_new U _)]
    rcases j with _ | _ | j
    · cases hv; rfl
    · cases hv; rfl
    · simp [lyS] at hv
  · simp [lO] at hx
/-- the cells of three things built, of the first two digests -/
theorem rs_b {U : World} {a : Option Addr} (h : RS lyB U a [([122], (34, [])), ([120], (0, [111, 103])), ([121], (31, []))]) : ∃ b1 o1, a = some ⟨b1, o1, none⟩ ∧ b1 < U.heap.size ∧ U.cell? ⟨b1, o1 + 3, none⟩ = some (.string ⟨#[120]⟩) ∧ U.cell? ⟨b1, o1 + 5, none⟩ = some (.string ⟨#[111, 103]⟩) ∧ U.cell? ⟨b1, o1 + 7, none⟩ = some (.int .i64 31) ∧ U.cell? ⟨b1, o1 + 1, none⟩ = some (.int .i64 34) := by
  obtain ⟨b, off, rfl, hb, h0⟩ := h 0 _ rfl
  obtain ⟨_, _, e1, _, h1⟩ := h 1 _ rfl
  obtain ⟨_, _, e2, _, h2⟩ := h 2 _ rfl
  cases e1
  cases e2
  exact ⟨b, off, rfl, hb, h1 0 _ rfl, h1 2 _ rfl, h2 1 _ rfl, h0 1 _ rfl⟩
theorem rs_k {U : World} {a : Option Addr} {x y z : List UInt8} (hx : x.length = 32) (hy : y.length = 32) (h : RS lyD U a [x, y, z]) : ∃ b1 o1, a = some ⟨b1, o1, none⟩ ∧ b1 < U.heap.size ∧ U.rangeAt b1 o1 (x.map vb) ∧ U.rangeAt b1 (o1 + 32) (y.map vb) := by
  obtain ⟨b, off, rfl, hb, h0⟩ := h 0 _ rfl
  obtain ⟨_, _, e1, _, h1⟩ := h 1 _ rfl
  cases e1
  rw [lyD_f hx] at h0
  rw [lyD_f hy] at h1
  refine ⟨b, off, rfl, hb, fun j v hv => ?_, fun j v hv => ?_⟩
  · have := h0 j v hv; rwa [show off + 0 * lyD.k = off by omega] at this
  · have := h1 j v hv; rwa [show off + 1 * lyD.k = off + 32 by show off + 1 * 32 = _; omega] at this
set_option maxRecDepth 8000 in
set_option maxHeartbeats 4000000 in
theorem awake_9 {w W : World} (hG : GW w) (hT : Tab w) (HB : Bl w W) :
    Calls Tryz.prog 5 #[] W fun e w' => e = .returned (.bool true) ∧ Bl w w' := by
  have CB : Hid (∀ U, Bl (bw9 W) U → Calls Tryz.prog 7 #[.agg #[.slice (some ⟨W.heap.size, 0, none⟩) 1 1, .slice (some ⟨W.heap.size + 1 + 1 + 1 + 1 + 1 + 1 + 1, 0, none⟩) 3 3], .slice (some ⟨U.heap.size, 0, none⟩) 1 1] (U.alloc (.cells #[.string ⟨#[97]⟩, .string ⟨#[103, 111]⟩] 45)) fun e w' => ∃ b1 o1 c1, e = .returned (.tuple #[.slice (some ⟨b1, o1, none⟩) 3 c1, .int .i64 0]) ∧ b1 < w'.heap.size ∧ w'.cell? ⟨b1, o1 + 3, none⟩ = some (.string ⟨#[120]⟩) ∧ w'.cell? ⟨b1, o1 + 5, none⟩ = some (.string ⟨#[111, 103]⟩) ∧ w'.cell? ⟨b1, o1 + 7, none⟩ = some (.int .i64 31) ∧ w'.cell? ⟨b1, o1 + 1, none⟩ = some (.int .i64 34) ∧ Bl U w') := fun U hU => by
    refine (Build_x gO lO _ _ _ _ _ 1 hG hT ((HB.step (bw_bl W)).step (hU.alloc _)) ((bw_gO W).bl (hU.alloc _)) gO_ok (rs_lO U) (by simp [lO]) (by simp [lO, maxLen]) (by simp [lO])).mono ?_
    rintro e w' (⟨h, _⟩ | ⟨a, c, _, rfl, h, hb⟩)
    · exact absurd gO_err h
    · rw [gO_build] at h
      obtain ⟨b1, o1, rfl, h0, h1, h2, h3, h4⟩ := rs_b h
      exact ⟨b1, o1, c, rfl, h0, h1, h2, h3, h4, ((Bl.refl U).alloc _).step hb⟩
  obtain ⟨KY, hKY⟩ : ∃ K, K = O.key [105, 0, 114] [(0, [103, 111])] := ⟨_, rfl⟩
  have hkl : KY.length = 32 := by rw [hKY]; exact S.sha_length _
  have CK : Hid (∀ U, Bl (bw9 W) U → Calls Tryz.prog 9 #[.agg #[.slice (some ⟨W.heap.size, 0, none⟩) 1 1, .slice (some ⟨W.heap.size + 1 + 1 + 1 + 1 + 1 + 1 + 1, 0, none⟩) 3 3], .slice (some ⟨U.heap.size, 0, none⟩) 1 1] (U.alloc (.cells #[.string ⟨#[97]⟩, .string ⟨#[103, 111]⟩] 45)) fun e w' => ∃ b2 o2 c2, e = .returned (.tuple #[.slice (some ⟨b2, o2, none⟩) 3 c2, .int .i64 0]) ∧ b2 < w'.heap.size ∧ w'.rangeAt b2 o2 (O.zd.map vb) ∧ w'.rangeAt b2 (o2 + 32) (KY.map vb) ∧ Bl U w') := fun U hU => by
    refine (Keys_x gO lO _ _ _ _ _ 1 hG hT ((HB.step (bw_bl W)).step (hU.alloc _)) ((bw_gO W).bl (hU.alloc _)) gO_ok (rs_lO U) (by simp [lO]) (by simp [lO, maxLen]) (by simp [lO])).mono ?_
    rintro e w' (⟨h, _⟩ | ⟨a, c, _, rfl, h, hb⟩)
    · exact absurd gO_err h
    · rw [gO_keys, ← hKY] at h
      obtain ⟨b1, o1, rfl, h0, h1, h2⟩ := rs_k (by simp [O.zd]) hkl h
      exact ⟨b1, o1, c, rfl, h0, h1, h2, ((Bl.refl U).alloc _).step hb⟩
  have CE : Hid (∀ U, Bl (bw9 W) U → Calls Tryz.prog 7 #[.agg #[.slice (some ⟨W.heap.size, 0, none⟩) 1 1, .slice (some ⟨W.heap.size + 1 + 1 + 1 + 1 + 1 + 1 + 1, 0, none⟩) 3 3], .slice none 0 0] U fun e w' => e = .returned (.tuple #[.slice none 0 0, .int .i64 22]) ∧ Bl U w') := fun U hU => by
    refine (Build_x gO [] _ _ _ _ none 0 hG hT ((HB.step (bw_bl W)).step hU) ((bw_gO W).bl hU) gO_ok (RS.nil _ _ _) (by simp) (by simp) (by simp)).mono ?_
    rintro e w' (⟨_, rfl, h⟩ | ⟨a, c, h, _⟩)
    · rw [gO_err2]; exact ⟨rfl, h⟩
    · rw [gO_err2] at h; omega
  have CY : Hid (∀ U, Bl (bw9 W) U → Calls Tryz.prog 14 #[.string ⟨#[105, 0, 114]⟩, .slice (some ⟨U.heap.size, 0, none⟩) 1 1] (U.alloc (.cells #[.int .i64 0, .string ⟨#[103, 111]⟩] 47)) fun e w' => e = .returned (.agg (dg KY)) ∧ Bl U w') := fun U hU => by
    have hr : RS lyR (U.alloc (.cells #[.int .i64 0, .string ⟨#[103, 111]⟩] 47)) (some ⟨U.heap.size, 0, none⟩) [(0, [103, 111])] := fun i x hx => by
      rcases i with _ | i
      · cases hx
        refine ⟨U.heap.size, 0, rfl, by simp, fun j v hv => ?_⟩
        rw [Lib.cell_of_heap (heap_alloc_new U _)]
        rcases j with _ | _ | j
        · cases hv; rfl
        · cases hv; rfl
        · simp [lyR] at hv
      · simp at hx
    have h := Key_x [105, 0, 114] [(0, [103, 111])] _ 1 hG (((HB.step (bw_bl W)).step hU).alloc (.cells #[.int .i64 0, .string ⟨#[103, 111]⟩] 47)) hr (by simp) (by intro r hr; simp at hr; subst hr; exact ⟨by decide, by decide, by simp⟩) (by simp)
    have h' := Key_x [105, 0, 114] [(0, [103, 111])] _ 1 ((hG.below ((HB.step (bw_bl W)).step (hU.alloc (.cells #[.int .i64 0, .string ⟨#[103, 111]⟩] 47))) hG.z)) (Bl.refl (U.alloc (.cells #[.int .i64 0, .string ⟨#[103, 111]⟩] 47))) hr (by simp) (by intro r hr; simp at hr; subst hr; exact ⟨by decide, by decide, by simp⟩) (by simp)
    clear h
    rw [← hKY] at h'
    refine h'.mono ?_
    rintro e w' ⟨rfl, h⟩
    exact ⟨rfl, ((Bl.refl U).alloc _).step h⟩
  have HC8 : Hid (∀ U, Bl (bw9 W) U → U.cell? ⟨W.heap.size + 1 + 1 + 1 + 1 + 1 + 1 + 1 + 1, 0, none⟩ = some (.slice (some ⟨W.heap.size, 0, none⟩) 1 1) ∧ U.cell? ⟨W.heap.size + 1 + 1 + 1 + 1 + 1 + 1 + 1 + 1, 1, none⟩ = some (.slice (some ⟨W.heap.size + 1 + 1 + 1 + 1 + 1 + 1 + 1, 0, none⟩) 3 3)) := fun U hU => bw_c8 W hU
  have FIN : Hid (∀ U, Bl (bw9 W) U → Bl w U) := fun U hU => (HB.step (bw_bl W)).step hU
  have HB9 : Hid (Bl (bw9 W) (bw9 W)) := Bl.refl _
  have hzd : dg O.zd = zero32 := by unfold dg O.zd zero32; rw [List.map_replicate]; rfl
  have hE1 : ∀ U, (Op.equalIn 10000 51 (.agg (O.zd.map vb).toArray) (.agg zero32)).run Tryz.prog U = .ok true U := fun U => by
    have := eqDg O.zd O.zd (by simp [O.zd]) (by simp [O.zd]) U
    rw [hzd] at this
    simpa [← hzd, dg] using this
  have hE2 : ∀ U, (Op.equalIn 10000 51 (.agg (KY.map vb).toArray) (.agg (dg KY))).run Tryz.prog U = .ok true U := fun U => by
    have := eqDg KY KY hkl hkl U
    simpa [dg] using this
  have hi1 : (Tryz.prog.info? 51).map (·.size) = some (O.zd.map vb).length := by rw [List.length_map, show O.zd.length = 32 by simp [O.zd]]; exact info27
  have hi2 : (Tryz.prog.info? 51).map (·.size) = some (KY.map vb).length := by rw [List.length_map, hkl]; exact info27
  have CB0 : Hid (Calls Tryz.prog 7 #[.agg #[.slice (some ⟨W.heap.size, 0, none⟩) 1 1, .slice (some ⟨W.heap.size + 1 + 1 + 1 + 1 + 1 + 1 + 1, 0, none⟩) 3 3], .slice (some ⟨W.heap.size + 1 + 1 + 1 + 1 + 1 + 1 + 1 + 1 + 1, 0, none⟩) 1 1] ((bw9 W).alloc (.cells #[.string ⟨#[97]⟩, .string ⟨#[103, 111]⟩] 45)) fun e w' => ∃ b1 o1 c1, e = .returned (.tuple #[.slice (some ⟨b1, o1, none⟩) 3 c1, .int .i64 0]) ∧ b1 < w'.heap.size ∧ w'.cell? ⟨b1, o1 + 3, none⟩ = some (.string ⟨#[120]⟩) ∧ w'.cell? ⟨b1, o1 + 5, none⟩ = some (.string ⟨#[111, 103]⟩) ∧ w'.cell? ⟨b1, o1 + 7, none⟩ = some (.int .i64 31) ∧ w'.cell? ⟨b1, o1 + 1, none⟩ = some (.int .i64 34) ∧ Bl (bw9 W) w') := by
    have h := CB.out (bw9 W) (Bl.refl _)
    rw [bw_sz9 W] at h
    exact h
  clear HB hG hT hKY CB
  go_enter Tryz.func5, Tryz.ntmps5
  go_wp2_with (first
    | (go_at_call 13; refine (action9_x _ _ _ _ _ _).mono ?_; rintro e w' ⟨rfl, hw'⟩; rw [hw']; clear hw' w')
    | (go_at_call 7; refine CB0.out.mono ?_; clear CB0; rintro e w1 ⟨b1, o1, c1, rfl, q0, q1, q2, q3, q4, HB1⟩; generalize hV : bw9 W = V at *; clear hV; obtain ⟨p1, p2⟩ := HC8.out _ HB1; have HQ : Hid _ := And.intro q0 (And.intro q1 (And.intro q2 (And.intro q3 q4))); clear q0 q1 q2 q3 q4)
    | (go_at_call 9; refine (CK.out _ HB1).mono ?_; clear CK; rintro e w2 ⟨b2, o2, c2, rfl, r0, r1, r2, HB2⟩; have HR : Hid _ := And.intro r0 (And.intro r1 r2); clear r0 r1 r2 p1 p2; obtain ⟨p1, p2⟩ := HC8.out _ (HB1.step HB2))
    | (go_at_call 7; refine (CE.out _ (HB1.step HB2)).mono ?_; clear CE; rintro e w3 ⟨rfl, HB3⟩))
  have HV3 : Hid (Bl V w3) := (HB1.step HB2).step HB3
  have KP : Hid (∀ U, Bl w3 U → U.cell? ⟨b1, o1 + 3, none⟩ = some (.string ⟨#[120]⟩) ∧ U.cell? ⟨b1, o1 + 5, none⟩ = some (.string ⟨#[111, 103]⟩) ∧ U.cell? ⟨b1, o1 + 7, none⟩ = some (.int .i64 31) ∧ U.cell? ⟨b1, o1 + 1, none⟩ = some (.int .i64 34) ∧ U.rangeAt b2 o2 (O.zd.map vb) ∧ U.rangeAt b2 (o2 + 32) (KY.map vb)) := fun U hU => by
    obtain ⟨q0, q1, q2, q3, q4⟩ := HQ.out
    obtain ⟨r0, r1, r2⟩ := HR.out
    have h1 : Bl w1 U := (HB2.step HB3).step hU
    have h2 : Bl w2 U := HB3.step hU
    refine ⟨by rw [Bl.cell h1 q0]; exact q1, by rw [Bl.cell h1 q0]; exact q2, by rw [Bl.cell h1 q0]; exact q3, by rw [Bl.cell h1 q0]; exact q4, fun j v hv => by rw [Bl.cell h2 r0]; exact r1 j v hv, fun j v hv => by rw [Bl.cell h2 r0]; exact r2 j v hv⟩
  have CY2 : Hid (∀ U, Bl w3 U → Calls Tryz.prog 14 #[.string ⟨#[105, 0, 114]⟩, .slice (some ⟨U.heap.size, 0, none⟩) 1 1] (U.alloc (.cells #[.int .i64 0, .string ⟨#[103, 111]⟩] 47)) fun e w' => e = .returned (.agg (dg KY)) ∧ Bl w3 w') := fun U hU => by
    refine (CY.out U (HV3.out.step hU)).mono ?_
    rintro e w' ⟨rfl, h⟩
    exact ⟨rfl, hU.step h⟩
  have FIN3 : Hid (∀ U, Bl w3 U → Bl w U) := fun U hU => FIN.out U (HV3.out.step hU)
  clear p1 p2 HC8 HQ HR CY HV3 FIN HB1 HB2 HB3 HB9
  simp only [List.append_eq, List.cons_append, List.nil_append]
  refine wp_region_noPanic ?_
  refine wp_region_held_drew (S := fun U => U.cell? ⟨b1, o1 + 3, none⟩ = some (.string ⟨#[120]⟩) ∧ U.cell? ⟨b1, o1 + 5, none⟩ = some (.string ⟨#[111, 103]⟩) ∧ U.cell? ⟨b1, o1 + 7, none⟩ = some (.int .i64 31) ∧ U.cell? ⟨b1, o1 + 1, none⟩ = some (.int .i64 34) ∧ U.rangeAt b2 o2 (O.zd.map vb) ∧ U.rangeAt b2 (o2 + 32) (KY.map vb)) (by kernel_rfl) (KP.out _ ((Bl.refl w3).drewN 1)) (fun hHeld => ?_)
  refine wpAnyH_take (i := 0) rfl (by kernel_rfl) (by kernel_rfl) (by kernel_rfl) (fun _ _ _ h => h) (yi_move (by kernel_rfl) rfl rfl) (by assumption) ?_
  simp only [Act.put, List.getElem_toArray, List.getElem_cons_succ, List.getElem_cons_zero, List.setIfInBounds_toArray, List.set_cons_zero, List.set_cons_succ]
  refine wpAnyH_take (i := 1) (v := ?_) rfl (by kernel_rfl) (by kernel_rfl) (by kernel_rfl) (fun _ _ _ h => h) (Or.inl ⟨by kernel_rfl, ?_⟩) (by assumption) ?_
  rotate_left
  · (intro w hSw; (try dsimp only at hSw); go_simp; (try with_reducible rfl))
  simp only [Act.put, List.getElem_toArray, List.getElem_cons_succ, List.getElem_cons_zero, List.setIfInBounds_toArray, List.set_cons_zero, List.set_cons_succ]
  refine wpAnyH_take (i := 2) rfl (by kernel_rfl) (by kernel_rfl) (by kernel_rfl) (fun _ _ _ h => h) (yi_move (by kernel_rfl) rfl rfl) (by assumption) ?_
  simp only [Act.put, List.getElem_toArray, List.getElem_cons_succ, List.getElem_cons_zero, List.setIfInBounds_toArray, List.set_cons_zero, List.set_cons_succ]
  refine wpAnyH_take (i := 3) rfl (by kernel_rfl) (by kernel_rfl) (by kernel_rfl) (fun _ _ _ h => h) (yi_move (by kernel_rfl) rfl rfl) (by assumption) ?_
  simp only [Act.put, List.getElem_toArray, List.getElem_cons_succ, List.getElem_cons_zero, List.setIfInBounds_toArray, List.set_cons_zero, List.set_cons_succ]
  refine wpAnyH_take (i := 4) (v := ?_) rfl (by kernel_rfl) (by kernel_rfl) (by kernel_rfl) (fun _ _ _ h => h) (Or.inl ⟨by kernel_rfl, ?_⟩) (by assumption) ?_
  rotate_left
  · (intro w hSw; (try dsimp only at hSw); go_simp; (try with_reducible rfl))
  simp only [Act.put, List.getElem_toArray, List.getElem_cons_succ, List.getElem_cons_zero, List.setIfInBounds_toArray, List.set_cons_zero, List.set_cons_succ]
  refine wpAnyH_take (i := 5) (v := ?_) rfl (by kernel_rfl) (by kernel_rfl) (by kernel_rfl) (fun _ _ _ h => h) (Or.inl ⟨by kernel_rfl, ?_⟩) (by assumption) ?_
  rotate_left
  · (intro w hSw; (try dsimp only at hSw); go_simp; (try with_reducible rfl))
  simp only [Act.put, List.getElem_toArray, List.getElem_cons_succ, List.getElem_cons_zero, List.setIfInBounds_toArray, List.set_cons_zero, List.set_cons_succ]
  refine wpAnyH_take (i := 6) (v := ?_) rfl (by kernel_rfl) (by kernel_rfl) (by kernel_rfl) (fun _ _ _ h => h) (Or.inl ⟨by kernel_rfl, ?_⟩) (by assumption) ?_
  rotate_left
  · (intro w hSw; (try dsimp only at hSw); go_simp; (try with_reducible rfl))
  simp only [Act.put, List.getElem_toArray, List.getElem_cons_succ, List.getElem_cons_zero, List.setIfInBounds_toArray, List.set_cons_zero, List.set_cons_succ]
  refine wpAnyH_take (i := 7) rfl (by kernel_rfl) (by kernel_rfl) (by kernel_rfl) (fun _ _ _ h => h) (yi_move (by kernel_rfl) rfl rfl) (by assumption) ?_
  simp only [Act.put, List.getElem_toArray, List.getElem_cons_succ, List.getElem_cons_zero, List.setIfInBounds_toArray, List.set_cons_zero, List.set_cons_succ]
  refine wpAnyH_take (i := 8) rfl (by kernel_rfl) (by kernel_rfl) (by kernel_rfl) (fun _ _ _ h => h) (yi_move (by kernel_rfl) rfl rfl) (by assumption) ?_
  simp only [Act.put, List.getElem_toArray, List.getElem_cons_succ, List.getElem_cons_zero, List.setIfInBounds_toArray, List.set_cons_zero, List.set_cons_succ]
  refine wpAnyH_take (i := 9) (v := ?_) rfl (by kernel_rfl) (by kernel_rfl) (by kernel_rfl) (fun _ _ _ h => h) (Or.inl ⟨by kernel_rfl, ?_⟩) (by assumption) ?_
  rotate_left
  · (intro w hSw; (try dsimp only at hSw); go_simp; (try with_reducible rfl))
  simp only [Act.put, List.getElem_toArray, List.getElem_cons_succ, List.getElem_cons_zero, List.setIfInBounds_toArray, List.set_cons_zero, List.set_cons_succ]
  refine wpAnyH_take (i := 10) (v := ?_) rfl (by kernel_rfl) (by kernel_rfl) (by kernel_rfl) (fun _ _ _ h => h) (Or.inl ⟨by kernel_rfl, ?_⟩) (by assumption) ?_
  rotate_left
  · (intro w hSw; (try dsimp only at hSw); go_simp; (try with_reducible rfl))
  simp only [Act.put, List.getElem_toArray, List.getElem_cons_succ, List.getElem_cons_zero, List.setIfInBounds_toArray, List.set_cons_zero, List.set_cons_succ]
  refine wpAnyH_take (i := 11) (v := ?_) rfl (by kernel_rfl) (by kernel_rfl) (by kernel_rfl) (fun _ _ _ h => h) (Or.inl ⟨by kernel_rfl, ?_⟩) (by assumption) ?_
  rotate_left
  · (intro w hSw; (try dsimp only at hSw); go_simp; (try with_reducible rfl))
  simp only [Act.put, List.getElem_toArray, List.getElem_cons_succ, List.getElem_cons_zero, List.setIfInBounds_toArray, List.set_cons_zero, List.set_cons_succ]
  refine wpAnyH_take (i := 12) (v := ?_) rfl (by kernel_rfl) (by kernel_rfl) (by kernel_rfl) (fun _ _ _ h => h) (Or.inl ⟨by kernel_rfl, ?_⟩) (by assumption) ?_
  rotate_left
  · (intro w hSw; (try dsimp only at hSw); go_simp; (try with_reducible rfl))
  simp only [Act.put, List.getElem_toArray, List.getElem_cons_succ, List.getElem_cons_zero, List.setIfInBounds_toArray, List.set_cons_zero, List.set_cons_succ]
  refine wpAnyH_take (i := 13) (v := ?_) rfl (by kernel_rfl) (by kernel_rfl) (by kernel_rfl) (fun _ _ _ h => h) (Or.inl ⟨by kernel_rfl, ?_⟩) (by assumption) ?_
  rotate_left
  · (intro w hSw; (try dsimp only at hSw); go_simp; (try with_reducible rfl))
  simp only [Act.put, List.getElem_toArray, List.getElem_cons_succ, List.getElem_cons_zero, List.setIfInBounds_toArray, List.set_cons_zero, List.set_cons_succ]
  refine wpAnyH_take (i := 14) (v := ?_) rfl (by kernel_rfl) (by kernel_rfl) (by kernel_rfl) (fun _ _ _ h => h) (Or.inl ⟨by kernel_rfl, ?_⟩) (by assumption) ?_
  rotate_left
  · (intro w hSw; (try dsimp only at hSw); go_simp; (try with_reducible rfl))
  simp only [Act.put, List.getElem_toArray, List.getElem_cons_succ, List.getElem_cons_zero, List.setIfInBounds_toArray, List.set_cons_zero, List.set_cons_succ]
  refine wpAnyH_take (i := 15) rfl (by kernel_rfl) (by kernel_rfl) (by kernel_rfl) (fun _ _ _ h => h) (yi_move (by kernel_rfl) rfl rfl) (by assumption) ?_
  simp only [Act.put, List.getElem_toArray, List.getElem_cons_succ, List.getElem_cons_zero, List.setIfInBounds_toArray, List.set_cons_zero, List.set_cons_succ]
  refine wpAnyH_take (i := 16) rfl (by kernel_rfl) (by kernel_rfl) (by kernel_rfl) (fun _ _ _ h => h) (yi_move (by kernel_rfl) rfl rfl) (by assumption) ?_
  simp only [Act.put, List.getElem_toArray, List.getElem_cons_succ, List.getElem_cons_zero, List.setIfInBounds_toArray, List.set_cons_zero, List.set_cons_succ]
  refine wpAnyH_take (i := 17) (v := ?_) rfl (by kernel_rfl) (by kernel_rfl) (by kernel_rfl) (fun _ _ _ h => h) (Or.inl ⟨by kernel_rfl, ?_⟩) (by assumption) ?_
  rotate_left
  · (intro w hSw; (try dsimp only at hSw); go_simp; (try with_reducible rfl))
  simp only [Act.put, List.getElem_toArray, List.getElem_cons_succ, List.getElem_cons_zero, List.setIfInBounds_toArray, List.set_cons_zero, List.set_cons_succ]
  refine wpAnyH_take (i := 18) (v := ?_) rfl (by kernel_rfl) (by kernel_rfl) (by kernel_rfl) (fun _ _ _ h => h) (Or.inl ⟨by kernel_rfl, ?_⟩) (by assumption) ?_
  rotate_left
  · (intro w hSw; (try dsimp only at hSw); go_simp; (try with_reducible rfl))
  simp only [Act.put, List.getElem_toArray, List.getElem_cons_succ, List.getElem_cons_zero, List.setIfInBounds_toArray, List.set_cons_zero, List.set_cons_succ]
  refine wpAnyH_take (i := 19) (v := ?_) rfl (by kernel_rfl) (by kernel_rfl) (by kernel_rfl) (fun _ _ _ h => h) (Or.inl ⟨by kernel_rfl, ?_⟩) (by assumption) ?_
  rotate_left
  · (intro w hSw; (try dsimp only at hSw); go_simp; (try with_reducible rfl))
  simp only [Act.put, List.getElem_toArray, List.getElem_cons_succ, List.getElem_cons_zero, List.setIfInBounds_toArray, List.set_cons_zero, List.set_cons_succ]
  refine wpAnyH_take (i := 20) (v := ?_) rfl (by kernel_rfl) (by kernel_rfl) (by kernel_rfl) (fun _ _ _ h => h) (Or.inl ⟨by kernel_rfl, ?_⟩) (by assumption) ?_
  rotate_left
  · (intro w hSw; (try dsimp only at hSw); go_simp; (try with_reducible rfl))
  simp only [Act.put, List.getElem_toArray, List.getElem_cons_succ, List.getElem_cons_zero, List.setIfInBounds_toArray, List.set_cons_zero, List.set_cons_succ]
  refine wpAnyH_take (i := 21) (v := ?_) rfl (by kernel_rfl) (by kernel_rfl) (by kernel_rfl) (fun _ _ _ h => h) (Or.inl ⟨by kernel_rfl, ?_⟩) (by assumption) ?_
  rotate_left
  · (intro w hSw; (try dsimp only at hSw); go_simp; (try with_reducible rfl))
  simp only [Act.put, List.getElem_toArray, List.getElem_cons_succ, List.getElem_cons_zero, List.setIfInBounds_toArray, List.set_cons_zero, List.set_cons_succ]
  refine wpAnyH_take (i := 22) (v := ?_) rfl (by kernel_rfl) (by kernel_rfl) (by kernel_rfl) (fun _ _ _ h => h) (Or.inl ⟨by kernel_rfl, ?_⟩) (by assumption) ?_
  rotate_left
  · (intro w hSw; (try dsimp only at hSw); go_simp; (try with_reducible rfl))
  simp only [Act.put, List.getElem_toArray, List.getElem_cons_succ, List.getElem_cons_zero, List.setIfInBounds_toArray, List.set_cons_zero, List.set_cons_succ]
  refine wpAnyH_take (i := 23) rfl (by kernel_rfl) (by kernel_rfl) (by kernel_rfl) (fun _ _ _ h => h) (yi_move (by kernel_rfl) rfl rfl) (by assumption) ?_
  simp only [Act.put, List.getElem_toArray, List.getElem_cons_succ, List.getElem_cons_zero, List.setIfInBounds_toArray, List.set_cons_zero, List.set_cons_succ]
  refine wpAnyH_take (i := 24) rfl (by kernel_rfl) (by kernel_rfl) (by kernel_rfl) (fun _ _ _ h => h) (yi_move (by kernel_rfl) rfl rfl) (by assumption) ?_
  simp only [Act.put, List.getElem_toArray, List.getElem_cons_succ, List.getElem_cons_zero, List.setIfInBounds_toArray, List.set_cons_zero, List.set_cons_succ]
  refine wpAnyH_take (i := 25) (v := ?_) rfl (by kernel_rfl) (by kernel_rfl) (by kernel_rfl) (fun _ _ _ h => h) (Or.inl ⟨by kernel_rfl, ?_⟩) (by assumption) ?_
  rotate_left
  · (intro w hSw; (try dsimp only at hSw); go_simp; (try with_reducible rfl))
  simp only [Act.put, List.getElem_toArray, List.getElem_cons_succ, List.getElem_cons_zero, List.setIfInBounds_toArray, List.set_cons_zero, List.set_cons_succ]
  refine wpAnyH_take (i := 26) (v := ?_) rfl (by kernel_rfl) (by kernel_rfl) (by kernel_rfl) (fun _ _ _ h => h) (Or.inl ⟨by kernel_rfl, ?_⟩) (by assumption) ?_
  rotate_left
  · (intro w hSw; (try dsimp only at hSw); go_simp; (try with_reducible rfl))
  simp only [Act.put, List.getElem_toArray, List.getElem_cons_succ, List.getElem_cons_zero, List.setIfInBounds_toArray, List.set_cons_zero, List.set_cons_succ]
  refine wpAnyH_take (i := 27) (v := ?_) rfl (by kernel_rfl) (by kernel_rfl) (by kernel_rfl) (fun _ _ _ h => h) (Or.inl ⟨by kernel_rfl, ?_⟩) (by assumption) ?_
  rotate_left
  · (intro w hSw; (try dsimp only at hSw); go_simp; (try with_reducible rfl))
  simp only [Act.put, List.getElem_toArray, List.getElem_cons_succ, List.getElem_cons_zero, List.setIfInBounds_toArray, List.set_cons_zero, List.set_cons_succ]
  refine wpAnyH_take (i := 28) (v := ?_) rfl (by kernel_rfl) (by kernel_rfl) (by kernel_rfl) (fun _ _ _ h => h) (Or.inl ⟨by kernel_rfl, ?_⟩) (by assumption) ?_
  rotate_left
  · (intro w hSw; (try dsimp only at hSw); go_simp; (try with_reducible rfl))
  simp only [Act.put, List.getElem_toArray, List.getElem_cons_succ, List.getElem_cons_zero, List.setIfInBounds_toArray, List.set_cons_zero, List.set_cons_succ]
  refine wpAnyH_take (i := 29) (v := ?_) rfl (by kernel_rfl) (by kernel_rfl) (by kernel_rfl) (fun _ _ _ h => h) (Or.inl ⟨by kernel_rfl, ?_⟩) (by assumption) ?_
  rotate_left
  · (intro w hSw; (try dsimp only at hSw); go_simp; (try with_reducible rfl))
  simp only [Act.put, List.getElem_toArray, List.getElem_cons_succ, List.getElem_cons_zero, List.setIfInBounds_toArray, List.set_cons_zero, List.set_cons_succ]
  refine wpAnyH_take (i := 30) (v := ?_) rfl (by kernel_rfl) (by kernel_rfl) (by kernel_rfl) (fun _ _ _ h => h) (Or.inl ⟨by kernel_rfl, ?_⟩) (by assumption) ?_
  rotate_left
  · (intro w hSw; (try dsimp only at hSw); go_simp; (try with_reducible rfl))
  simp only [Act.put, List.getElem_toArray, List.getElem_cons_succ, List.getElem_cons_zero, List.setIfInBounds_toArray, List.set_cons_zero, List.set_cons_succ]
  refine wpAnyH_take (i := 31) rfl (by kernel_rfl) (by kernel_rfl) (by kernel_rfl) (fun _ _ _ h => h) (yi_move (by kernel_rfl) rfl rfl) (by assumption) ?_
  simp only [Act.put, List.getElem_toArray, List.getElem_cons_succ, List.getElem_cons_zero, List.setIfInBounds_toArray, List.set_cons_zero, List.set_cons_succ]
  refine wpAnyH_take (i := 32) rfl (by kernel_rfl) (by kernel_rfl) (by kernel_rfl) (fun _ _ _ h => h) (yi_move (by kernel_rfl) rfl rfl) (by assumption) ?_
  simp only [Act.put, List.getElem_toArray, List.getElem_cons_succ, List.getElem_cons_zero, List.setIfInBounds_toArray, List.set_cons_zero, List.set_cons_succ]
  refine wpAnyH_take (i := 33) (v := ?_) rfl (by kernel_rfl) (by kernel_rfl) (by kernel_rfl) (fun _ _ _ h => h) (Or.inl ⟨by kernel_rfl, ?_⟩) (by assumption) ?_
  rotate_left
  · (intro w hSw; (try dsimp only at hSw); go_simp; (try with_reducible rfl))
  simp only [Act.put, List.getElem_toArray, List.getElem_cons_succ, List.getElem_cons_zero, List.setIfInBounds_toArray, List.set_cons_zero, List.set_cons_succ]
  refine wpAnyH_take (i := 34) (v := ?_) rfl (by kernel_rfl) (by kernel_rfl) (by kernel_rfl) (fun _ _ _ h => h) (Or.inl ⟨by kernel_rfl, ?_⟩) (by assumption) ?_
  rotate_left
  · (intro w hSw; (try dsimp only at hSw); go_simp; (try with_reducible rfl))
  simp only [Act.put, List.getElem_toArray, List.getElem_cons_succ, List.getElem_cons_zero, List.setIfInBounds_toArray, List.set_cons_zero, List.set_cons_succ]
  refine wpAnyH_take (i := 35) (v := ?_) rfl (by kernel_rfl) (by kernel_rfl) (by kernel_rfl) (fun _ _ _ h => h) (Or.inl ⟨by kernel_rfl, ?_⟩) (by assumption) ?_
  rotate_left
  · (intro w hSw; (try dsimp only at hSw); go_simp; (try with_reducible rfl))
  simp only [Act.put, List.getElem_toArray, List.getElem_cons_succ, List.getElem_cons_zero, List.setIfInBounds_toArray, List.set_cons_zero, List.set_cons_succ]
  refine wpAnyH_take (i := 36) (v := ?_) rfl (by kernel_rfl) (by kernel_rfl) (by kernel_rfl) (fun _ _ _ h => h) (Or.inl ⟨by kernel_rfl, ?_⟩) (by assumption) ?_
  rotate_left
  · (intro w hSw; (try dsimp only at hSw); go_simp; (try with_reducible rfl))
  simp only [Act.put, List.getElem_toArray, List.getElem_cons_succ, List.getElem_cons_zero, List.setIfInBounds_toArray, List.set_cons_zero, List.set_cons_succ]
  refine wpAnyH_take (i := 37) (v := ?_) rfl (by kernel_rfl) (by kernel_rfl) (by kernel_rfl) (fun _ _ _ h => h) (Or.inl ⟨by kernel_rfl, ?_⟩) (by assumption) ?_
  rotate_left
  · (intro w hSw; (try dsimp only at hSw); go_simp; (try with_reducible rfl))
  simp only [Act.put, List.getElem_toArray, List.getElem_cons_succ, List.getElem_cons_zero, List.setIfInBounds_toArray, List.set_cons_zero, List.set_cons_succ]
  refine wpAnyH_take (i := 38) (v := ?_) rfl (by kernel_rfl) (by kernel_rfl) (by kernel_rfl) (fun _ _ _ h => h) (Or.inl ⟨by kernel_rfl, ?_⟩) (by assumption) ?_
  rotate_left
  · (intro w hSw; (try dsimp only at hSw); go_simp; (try with_reducible rfl))
  simp only [Act.put, List.getElem_toArray, List.getElem_cons_succ, List.getElem_cons_zero, List.setIfInBounds_toArray, List.set_cons_zero, List.set_cons_succ]
  refine wpAnyH_take (i := 39) rfl (by kernel_rfl) (by kernel_rfl) (by kernel_rfl) (fun _ _ _ h => h) (yi_move (by kernel_rfl) rfl rfl) (by assumption) ?_
  simp only [Act.put, List.getElem_toArray, List.getElem_cons_succ, List.getElem_cons_zero, List.setIfInBounds_toArray, List.set_cons_zero, List.set_cons_succ]
  refine wpAnyH_take (i := 40) rfl (by kernel_rfl) (by kernel_rfl) (by kernel_rfl) (fun _ _ _ h => h) (yi_move (by kernel_rfl) rfl rfl) (by assumption) ?_
  simp only [Act.put, List.getElem_toArray, List.getElem_cons_succ, List.getElem_cons_zero, List.setIfInBounds_toArray, List.set_cons_zero, List.set_cons_succ]
  refine wpAnyH_take (i := 41) (v := ?_) rfl (by kernel_rfl) (by kernel_rfl) (by kernel_rfl) (fun _ _ _ h => h) (Or.inl ⟨by kernel_rfl, ?_⟩) (by assumption) ?_
  rotate_left
  · (intro w hSw; (try dsimp only at hSw); go_simp; (try with_reducible rfl))
  simp only [Act.put, List.getElem_toArray, List.getElem_cons_succ, List.getElem_cons_zero, List.setIfInBounds_toArray, List.set_cons_zero, List.set_cons_succ]
  refine wpAnyH_take (i := 42) (v := ?_) rfl (by kernel_rfl) (by kernel_rfl) (by kernel_rfl) (fun _ _ _ h => h) (Or.inl ⟨by kernel_rfl, ?_⟩) (by assumption) ?_
  rotate_left
  · (intro w hSw; (try dsimp only at hSw); go_simp; (try with_reducible rfl))
  simp only [Act.put, List.getElem_toArray, List.getElem_cons_succ, List.getElem_cons_zero, List.setIfInBounds_toArray, List.set_cons_zero, List.set_cons_succ]
  refine wpAnyH_take (i := 43) rfl (by kernel_rfl) (by kernel_rfl) (by kernel_rfl) (fun _ _ _ h => h) (yi_move (by kernel_rfl) rfl rfl) (by assumption) ?_
  simp only [Act.put, List.getElem_toArray, List.getElem_cons_succ, List.getElem_cons_zero, List.setIfInBounds_toArray, List.set_cons_zero, List.set_cons_succ]
  refine wpAnyH_take (i := 44) rfl (by kernel_rfl) (by kernel_rfl) (by kernel_rfl) (fun _ _ _ h => h) (yi_move (by kernel_rfl) rfl rfl) (by assumption) ?_
  simp only [Act.put, List.getElem_toArray, List.getElem_cons_succ, List.getElem_cons_zero, List.setIfInBounds_toArray, List.set_cons_zero, List.set_cons_succ]
  refine wpAnyH_take (i := 45) (v := ?_) rfl (by kernel_rfl) (by kernel_rfl) (by kernel_rfl) (fun _ _ _ h => h) (Or.inl ⟨by kernel_rfl, ?_⟩) (by assumption) ?_
  rotate_left
  · (intro w hSw; (try dsimp only at hSw); go_simp; (try with_reducible rfl))
  simp only [Act.put, List.getElem_toArray, List.getElem_cons_succ, List.getElem_cons_zero, List.setIfInBounds_toArray, List.set_cons_zero, List.set_cons_succ]
  refine wpAnyH_take (i := 46) (v := ?_) rfl (by kernel_rfl) (by kernel_rfl) (by kernel_rfl) (fun _ _ _ h => h) (Or.inl ⟨by kernel_rfl, ?_⟩) (by assumption) ?_
  rotate_left
  · (intro w hSw; (try dsimp only at hSw); go_simp; (try with_reducible rfl))
  simp only [Act.put, List.getElem_toArray, List.getElem_cons_succ, List.getElem_cons_zero, List.setIfInBounds_toArray, List.set_cons_zero, List.set_cons_succ]
  refine wpAnyH_take (i := 47) (v := ?_) rfl (by kernel_rfl) (by kernel_rfl) (by kernel_rfl) (fun _ _ _ h => h) (Or.inl ⟨by kernel_rfl, ?_⟩) (by assumption) ?_
  rotate_left
  · (intro w hSw; (try dsimp only at hSw); go_simp; (try with_reducible rfl))
  simp only [Act.put, List.getElem_toArray, List.getElem_cons_succ, List.getElem_cons_zero, List.setIfInBounds_toArray, List.set_cons_zero, List.set_cons_succ]
  refine wpAnyH_take (i := 48) rfl (by kernel_rfl) (by kernel_rfl) (by kernel_rfl) (fun _ _ _ h => h) (yi_move (by kernel_rfl) rfl rfl) (by assumption) ?_
  simp only [Act.put, List.getElem_toArray, List.getElem_cons_succ, List.getElem_cons_zero, List.setIfInBounds_toArray, List.set_cons_zero, List.set_cons_succ]
  refine wpAnyH_take (i := 49) rfl (by kernel_rfl) (by kernel_rfl) (by kernel_rfl) (fun _ _ _ h => h) (yi_move (by kernel_rfl) rfl rfl) (by assumption) ?_
  simp only [Act.put, List.getElem_toArray, List.getElem_cons_succ, List.getElem_cons_zero, List.setIfInBounds_toArray, List.set_cons_zero, List.set_cons_succ]
  refine wpAnyH_take (i := 50) (v := ?_) rfl (by kernel_rfl) (by kernel_rfl) (by kernel_rfl) (fun _ _ _ h => h) (Or.inl ⟨by kernel_rfl, ?_⟩) (by assumption) ?_
  rotate_left
  · (intro w hSw; (try dsimp only at hSw); go_simp; (try with_reducible rfl))
  simp only [Act.put, List.getElem_toArray, List.getElem_cons_succ, List.getElem_cons_zero, List.setIfInBounds_toArray, List.set_cons_zero, List.set_cons_succ]
  refine wpAnyH_take (i := 51) (v := .agg (List.toArray (O.zd.map vb))) rfl (by kernel_rfl) (by kernel_rfl) (by kernel_rfl) (fun _ _ _ h => h) (yieldsIf_load_mid (by kernel_rfl) _ (.tmp 88) (by kernel_rfl) b2 o2 (by kernel_rfl) (O.zd.map vb) _ (fun W hW => hW.2.2.2.2.1) und27 rfl hi1) (by assumption) ?_
  simp only [Act.put, List.getElem_toArray, List.getElem_cons_succ, List.getElem_cons_zero, List.setIfInBounds_toArray, List.set_cons_zero, List.set_cons_succ]
  refine wpAnyH_take (i := 52) (v := ?_) rfl (by kernel_rfl) (by kernel_rfl) (by kernel_rfl) (fun _ _ _ h => h) (Or.inl ⟨by kernel_rfl, ?_⟩) (by assumption) ?_
  rotate_left
  · (intro w hSw; (try dsimp only at hSw); go_simp; (try with_reducible rfl))
  simp only [Act.put, List.getElem_toArray, List.getElem_cons_succ, List.getElem_cons_zero, List.setIfInBounds_toArray, List.set_cons_zero, List.set_cons_succ]
  refine wpAnyH_take (i := 53) (v := ?_) rfl (by kernel_rfl) (by kernel_rfl) (by kernel_rfl) (fun _ _ _ h => h) (Or.inl ⟨by kernel_rfl, ?_⟩) (by assumption) ?_
  rotate_left
  · (intro w hSw; (try dsimp only at hSw); go_simp; (try with_reducible rfl))
  simp only [Act.put, List.getElem_toArray, List.getElem_cons_succ, List.getElem_cons_zero, List.setIfInBounds_toArray, List.set_cons_zero, List.set_cons_succ]
  refine wpAnyH_take (i := 54) (v := ?_) rfl (by kernel_rfl) (by kernel_rfl) (by kernel_rfl) (fun _ _ _ h => h) (Or.inl ⟨by kernel_rfl, ?_⟩) (by assumption) ?_
  rotate_left
  · (intro w hSw; (try dsimp only at hSw); go_simp; (try with_reducible rfl))
  simp only [Act.put, List.getElem_toArray, List.getElem_cons_succ, List.getElem_cons_zero, List.setIfInBounds_toArray, List.set_cons_zero, List.set_cons_succ]
  refine wpAnyH_take (i := 55) rfl (by kernel_rfl) (by kernel_rfl) (by kernel_rfl) (fun _ _ _ h => h) (yi_move (by kernel_rfl) rfl rfl) (by assumption) ?_
  simp only [Act.put, List.getElem_toArray, List.getElem_cons_succ, List.getElem_cons_zero, List.setIfInBounds_toArray, List.set_cons_zero, List.set_cons_succ]
  refine wpAnyH_take (i := 56) rfl (by kernel_rfl) (by kernel_rfl) (by kernel_rfl) (fun _ _ _ h => h) (yi_move (by kernel_rfl) rfl rfl) (by assumption) ?_
  simp only [Act.put, List.getElem_toArray, List.getElem_cons_succ, List.getElem_cons_zero, List.setIfInBounds_toArray, List.set_cons_zero, List.set_cons_succ]
  refine wpAnyH_take (i := 57) (v := ?_) rfl (by kernel_rfl) (by kernel_rfl) (by kernel_rfl) (fun _ _ _ h => h) (Or.inl ⟨by kernel_rfl, ?_⟩) (by assumption) ?_
  rotate_left
  · (intro w hSw; (try dsimp only at hSw); go_simp; (try with_reducible rfl))
  simp only [Act.put, List.getElem_toArray, List.getElem_cons_succ, List.getElem_cons_zero, List.setIfInBounds_toArray, List.set_cons_zero, List.set_cons_succ]
  refine wpAnyH_take (i := 58) (v := .agg (List.toArray (KY.map vb))) rfl (by kernel_rfl) (by kernel_rfl) (by kernel_rfl) (fun _ _ _ h => h) (yieldsIf_load_mid (by kernel_rfl) _ (.tmp 95) (by kernel_rfl) b2 (o2 + 32) (by kernel_rfl) (KY.map vb) _ (fun W hW => hW.2.2.2.2.2) und27 rfl hi2) (by assumption) ?_
  simp only [Act.put, List.getElem_toArray, List.getElem_cons_succ, List.getElem_cons_zero, List.setIfInBounds_toArray, List.set_cons_zero, List.set_cons_succ]
  refine wpAnyH_take (i := 59) (v := ?_) rfl (by kernel_rfl) (by kernel_rfl) (by kernel_rfl) (fun _ _ _ h => h) (Or.inl ⟨by kernel_rfl, ?_⟩) (by assumption) ?_
  rotate_left
  · (intro w hSw; (try dsimp only at hSw); go_simp; (try with_reducible rfl))
  simp only [Act.put, List.getElem_toArray, List.getElem_cons_succ, List.getElem_cons_zero, List.setIfInBounds_toArray, List.set_cons_zero, List.set_cons_succ]
  refine wpAnyH_ready (rs := [60]) (by kernel_rfl) (by simp) ?_
  refine AllReadyH.cons (o := _) rfl (fun K hK => ?_) AllReadyH.nil
  go_simp
  refine hK.out _ _ (KP.out _ (((Bl.refl w3).drewN 1).alloc _)) (fun hHeld => ?_)
  clear hK K
  (try simp only [Act.put, List.getElem_toArray, List.getElem_cons_succ, List.getElem_cons_zero, List.setIfInBounds_toArray, List.set_cons_zero, List.set_cons_succ])
  refine wpAnyH_ready (rs := [61]) (by kernel_rfl) (by simp) ?_
  refine AllReadyH.cons (o := _) rfl (fun K hK => ?_) AllReadyH.nil
  go_simp
  go_at_call 14; refine (CY2.out _ ((Bl.refl w3).drewN 1)).mono ?_; rintro e w62 ⟨rfl, HB62⟩
  refine hK.out _ _ (KP.out _ HB62) (fun hHeld => ?_)
  clear hK K
  (try simp only [Act.put, List.getElem_toArray, List.getElem_cons_succ, List.getElem_cons_zero, List.setIfInBounds_toArray, List.set_cons_zero, List.set_cons_succ])
  refine wpAnyH_take (i := 62) (v := ?_) rfl (by kernel_rfl) (by kernel_rfl) (by kernel_rfl) (fun _ _ _ h => h) (Or.inl ⟨by kernel_rfl, ?_⟩) (by assumption) ?_
  rotate_left
  · (intro w hSw; (try dsimp only at hSw); go_simp; (try with_reducible rfl))
  simp only [Act.put, List.getElem_toArray, List.getElem_cons_succ, List.getElem_cons_zero, List.setIfInBounds_toArray, List.set_cons_zero, List.set_cons_succ]
  refine wpAnyH_take (i := 63) (v := ?_) rfl (by kernel_rfl) (by kernel_rfl) (by kernel_rfl) (fun _ _ _ h => h) (Or.inl ⟨by kernel_rfl, ?_⟩) (by assumption) ?_
  rotate_left
  · (intro w hSw; (try dsimp only at hSw); go_simp; (try with_reducible rfl))
  simp only [Act.put, List.getElem_toArray, List.getElem_cons_succ, List.getElem_cons_zero, List.setIfInBounds_toArray, List.set_cons_zero, List.set_cons_succ]
  refine wpAnyH_take (i := 64) rfl (by kernel_rfl) (by kernel_rfl) (by kernel_rfl) (fun _ _ _ h => h) (yi_move (by kernel_rfl) rfl rfl) (by assumption) ?_
  simp only [Act.put, List.getElem_toArray, List.getElem_cons_succ, List.getElem_cons_zero, List.setIfInBounds_toArray, List.set_cons_zero, List.set_cons_succ]
  refine wpAnyH_take (i := 65) rfl (by kernel_rfl) (by kernel_rfl) (by kernel_rfl) (fun _ _ _ h => h) (yi_move (by kernel_rfl) rfl rfl) (by assumption) ?_
  simp only [Act.put, List.getElem_toArray, List.getElem_cons_succ, List.getElem_cons_zero, List.setIfInBounds_toArray, List.set_cons_zero, List.set_cons_succ]
  refine wpAnyH_take (i := 66) (v := ?_) rfl (by kernel_rfl) (by kernel_rfl) (by kernel_rfl) (fun _ _ _ h => h) (Or.inl ⟨by kernel_rfl, ?_⟩) (by assumption) ?_
  rotate_left
  · (intro w hSw; (try dsimp only at hSw); go_simp; (try with_reducible rfl))
  simp only [Act.put, List.getElem_toArray, List.getElem_cons_succ, List.getElem_cons_zero, List.setIfInBounds_toArray, List.set_cons_zero, List.set_cons_succ]
  refine wpAnyH_take (i := 67) (v := ?_) rfl (by kernel_rfl) (by kernel_rfl) (by kernel_rfl) (fun _ _ _ h => h) (Or.inl ⟨by kernel_rfl, ?_⟩) (by assumption) ?_
  rotate_left
  · (intro w hSw; (try dsimp only at hSw); go_simp; (try with_reducible rfl))
  simp only [Act.put, List.getElem_toArray, List.getElem_cons_succ, List.getElem_cons_zero, List.setIfInBounds_toArray, List.set_cons_zero, List.set_cons_succ]
  refine wpAnyH_take (i := 68) (v := .bool true) rfl (by kernel_rfl) (by kernel_rfl) (by kernel_rfl) (fun _ _ _ h => h) (yi_assign (by kernel_rfl) rfl (by rfl)) (by assumption) ?_
  simp only [Act.put, List.getElem_toArray, List.getElem_cons_succ, List.getElem_cons_zero, List.setIfInBounds_toArray, List.set_cons_zero, List.set_cons_succ]
  refine wpAnyH_done (by kernel_rfl) ?_ _
  refine NoPanic.normal ?_
  go_wp2_with fail
  go_ret
  exact ⟨rfl, FIN3.out _ HB62⟩
end Go.Proofs.YtjbffhdccgmfpaaGreatDoor
