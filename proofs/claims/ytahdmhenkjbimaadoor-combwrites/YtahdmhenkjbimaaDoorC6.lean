/- The law's own 'awake' is true. -/
import Derived.Test.YtahdmhenkjbimaaDoorC5
import Derived.Test.YtahdmhenkjbimaaDoorRegT
namespace Go.Proofs.YtahdmhenkjbimaaDoor
open Go.RowKit
set_option linter.unusedVariables false
set_option linter.unusedSimpArgs false

def s70 : List UInt8 := [48, 49, 50, 51, 52, 53, 54, 55, 56, 57, 48, 49, 50, 51, 52, 53, 54, 55, 56, 57, 48, 49, 50, 51, 52, 53, 54, 55, 56, 57, 48, 49, 50, 51, 52, 53, 54, 55, 56, 57, 48, 49, 50, 51, 52, 53, 54, 55, 56, 57, 48, 49, 50, 51, 52, 53, 54, 55, 56, 57, 48, 49, 50, 51, 52, 53, 54, 55, 56, 57]
theorem s70_len : s70.length = 70 := rfl
theorem s70_split : S.split s70 = [S.chk s70 0, S.chk s70 1] := by decide +kernel

theorem goodB_split (s : List UInt8) (hs : s.length ≤ 512) : goodB (s.length : Int) (S.split s).length = true := by
  unfold goodB; rw [S.split_length]; simp; omega
theorem fitsB_split (s : List UInt8) (hs : s.length ≤ 512) (k : Nat) (hk : k < S.nch s.length) (t : List UInt8) :
    fitsB (s.length : Int) ((S.split s).map S.sha) (k : Int) t = decide (t.length = (S.chk s k).length ∧ S.sha t = S.sha (S.chk s k)) := by
  have hk2 : 64 * k < s.length := by unfold S.nch at hk; omega
  have e0 : ((S.split s).map S.sha).length = (S.split s).length := by simp
  have e3 : ((S.split s).map S.sha).getD k [] = S.sha (S.chk s k) := by
    rw [List.getD_eq_getElem?_getD, List.getElem?_map, S.split_get s k hk]; rfl
  have e1 : ((t.length : Int) = min 64 ((s.length : Int) - (k : Int) * 64)) ↔ (t.length = (S.chk s k).length) := by rw [S.chk_length]; omega
  have e2 : decide ((k : Int) < (S.split s).length) = true := by rw [S.split_length]; simp; omega
  unfold fitsB
  rw [e0, goodB_split s hs, e2, Int.toNat_natCast, e3]
  simp only [e1]
  simp
theorem getD_split (s : List UInt8) (k : Nat) (hk : k < S.nch s.length) : (S.split s).getD k [] = S.chk s k := by
  rw [List.getD_eq_getElem?_getD, S.split_get s k hk]; rfl
/-- Split, Mani, Join, Fits, Good in a world that has the tables -/
theorem Split_g (s : List UInt8) {w W : World} (h : GB w W) (hs : s.length ≤ 1000000) :
    Calls Tryd.prog 12 #[.string (M.bs s)] W fun e w' => ∃ a c, e = .returned (.slice a (S.split s).length c) ∧ TX w' a (S.split s) ∧ (S.split s).length ≤ c ∧ GB w w' ∧ Below W.heap.size W w' := by
  refine (Split_at s W hs).mono ?_
  rintro e w' ⟨a, c, rfl, h1, h2, h3⟩
  exact ⟨a, c, rfl, fun i t ht => strs_at h1 i t ht, h2, h.step h3, h3⟩
theorem Mani_g (s : List UInt8) {w W : World} (h : GB w W) (hs : s.length ≤ 512) :
    Calls Tryd.prog 13 #[.string (M.bs s)] W fun e w' => ∃ a cap, e = .returned (.tuple #[.agg (mv (S.sha s) (s.length : Int) a (S.split s).length cap), .int .i64 0]) ∧ Dgs w'.heap.size w' a ((S.split s).map S.sha) ∧ GB w w' ∧ Below W.heap.size W w' := by
  refine (Mani_at s W hs h.g).mono ?_
  rintro e w' ⟨a, cap, rfl, h1, h2⟩
  exact ⟨a, cap, rfl, h1, h.step h2, h2⟩
theorem Join_split (s : List UInt8) (pa : Option Addr) (pc : Nat) (a : Option Addr) (c : Nat) {w W : World} (h : GB w W) (hs : s.length ≤ 512) (hP : Dgs W.heap.size W pa ((S.split s).map S.sha)) (hT : TX W a (S.split s)) (hc : (S.split s).length ≤ c) :
    Calls Tryd.prog 14 #[.agg (mv (S.sha s) (s.length : Int) pa (S.split s).length pc), .slice a (S.split s).length c] W fun e w' => e = .returned (.tuple #[.string (M.bs s), .int .i64 0]) ∧ GB w w' ∧ Below W.heap.size W w' := by
  have e0 : ((S.split s).map S.sha).length = (S.split s).length := by simp
  have := join_loop (S.sha s) (s.length : Int) ((S.split s).map S.sha) pa pc (S.split s) a c W (S.sha_length _) h.g hP hT hc (by rw [e0]; exact goodB_split s hs) (by simp) (fun t ht => by have := S.mem_split_len ht; omega)
    (S.split s).length (Nat.le_refl _) (fun k hk => by
      rw [S.split_length] at hk
      rw [fitsB_split s hs k hk, getD_split s k hk]; simp) (fun h => by omega) s 0 (Or.inr (Or.inl ⟨rfl, by rw [S.split_flatten], (S.split_flatten s).symm, rfl⟩))
  rw [e0] at this
  refine this.mono ?_
  rintro e w' ⟨rfl, hb⟩
  exact ⟨rfl, h.step hb, hb⟩
theorem Fits_g (whole : List UInt8) (size : Int) (P : List (List UInt8)) (a : Option Addr) (cap : Nat) (at_ : Int) (data : List UInt8) {w W : World} (h : GB w W) (hw : whole.length = 32) (hP : Dgs W.heap.size W a P)
    (hd : data.length ≤ 576460752303423488) :
    Calls Tryd.prog 16 #[.agg (mv whole size a P.length cap), .int .i64 at_, .string (M.bs data)] W fun e w' => e = .returned (.bool (fitsB size P at_ data)) ∧ GB w w' ∧ Below W.heap.size W w' := by
  refine (Fits_at whole size P a cap at_ data W hw h.g hP hd).mono ?_
  rintro e w' ⟨rfl, hb⟩
  exact ⟨rfl, h.step hb, hb⟩

set_option maxRecDepth 8000 in
set_option maxHeartbeats 4000000 in
theorem awake3_g {w W : World} (h : GB w W) : Calls Tryd.prog 4 #[] W fun e w' => e = .returned (.bool true) ∧ GB w w' := by
  have HG : Hid (GB w W) := h
  clear h
  have h70 : (⟨([48, 49, 50, 51, 52, 53, 54, 55, 56, 57, 48, 49, 50, 51, 52, 53, 54, 55, 56, 57, 48, 49, 50, 51, 52, 53, 54, 55, 56, 57, 48, 49, 50, 51, 52].append [53, 54, 55, 56, 57, 48, 49, 50, 51, 52, 53, 54, 55, 56, 57, 48, 49, 50, 51, 52, 53, 54, 55, 56, 57, 48, 49, 50, 51, 52, 53, 54, 55, 56, 57]).toArray⟩ : ByteArray) = M.bs s70 := rfl
  have hl70 : (70 : Nat) = s70.length := s70_len.symm
  have hs2 : (S.split s70).length = 2 := by rw [s70_split]; rfl
  have CS : Hid (∀ W', GB w W' → Calls Tryd.prog 12 #[.string (M.bs s70)] W' fun e w' => ∃ a c, e = .returned (.slice a 2 c) ∧ TX w' a (S.split s70) ∧ 2 ≤ c ∧ GB w w') := fun W' h => by
    refine (Split_g s70 h (by rw [s70_len]; omega)).mono ?_
    rintro e w' ⟨a, c, rfl, h1, h2, h3, _⟩
    rw [hs2] at h2
    exact ⟨a, c, by rw [hs2], h1, h2, h3⟩
  have CM : Hid (∀ W', GB w W' → Calls Tryd.prog 13 #[.string (M.bs s70)] W' fun e w' => ∃ a cap, e = .returned (.tuple #[.agg (mv (S.sha s70) 70 a 2 cap), .int .i64 0]) ∧ Dgs w'.heap.size w' a ((S.split s70).map S.sha) ∧ GB w w' ∧ Below W'.heap.size W' w') := fun W' h => by
    have := Mani_g s70 h (by rw [s70_len]; omega)
    rw [s70_len, hs2] at this
    exact this
  have CJ : Hid (∀ W' pa pc a c, GB w W' → Dgs W'.heap.size W' pa ((S.split s70).map S.sha) → TX W' a (S.split s70) → 2 ≤ c → Calls Tryd.prog 14 #[.agg (mv (S.sha s70) 70 pa 2 pc), .slice a 2 c] W' fun e w' => e = .returned (.tuple #[.string (M.bs s70), .int .i64 0]) ∧ GB w w' ∧ Below W'.heap.size W' w') := fun W' pa pc a c h hP hT hc => by
    have := Join_split s70 pa pc a c h (by rw [s70_len]; omega) hP hT (by rw [hs2]; exact hc)
    rw [s70_len, hs2] at this
    exact this
  have hwl : (S.sha s70).length = 32 := S.sha_length _
  have hzz : ∀ W, (zeroValue 26).run Tryd.prog W = .ok (.agg zero34) W := zero27m
  have hz := zero34_size
  obtain ⟨fs, hum⟩ := und27m
  generalize zero34 = Z at *
  have HST : Hid (∀ W : World, (W.alloc (.cells Z 26)).heap[W.heap.size]? = some (.cells Z 26 (0, 0))) := fun W => heap_alloc_new W _
  have HLD : Hid (∀ (W : World) C, (W.alloc (.cells C 26)).heap[W.heap.size]? = some (.cells C 26 (0, 0))) := fun W C => heap_alloc_new W _
  go_enter Tryd.func4, Tryd.ntmps4
  rw [h70]
  clear h70
  go_wp2_with (first
    | (go_at_call 12; refine (CS.out _ HG).mono ?_; clear HG CS; rintro e w1 ⟨la, lc, rfl, HT, hlc, HG⟩)
    | (go_at_call 13; refine (CM.out _ HG).mono ?_; clear HG CM; rintro e w2 ⟨pa, pc, rfl, HP, HG, HB2⟩; have HT2 := HT.below HB2 (Nat.le_refl _); have hsm := mv_size (S.sha s70) 70 pa 2 pc hwl; have h1m := mv_one (S.sha s70) 70 pa 2 pc; obtain ⟨C, hC⟩ : ∃ C, C = mv (S.sha s70) 70 pa 2 pc := ⟨_, rfl⟩; rw [← hC] at hsm h1m ⊢; have HCC : Hid (C = mv (S.sha s70) 70 pa 2 pc) := hC; clear hC HT)
    | (refine wpList_store_row rfl 26 _ _ rfl w2.heap.size C rfl rfl 26 Z (HST.out w2) (by rw [hsm]; exact info27m) (by rw [hz, hsm]) h1m ?_; clear HST; rw [World.setRow_alloc_new])
    | (refine wpList_load_row rfl 26 _ rfl w2.heap.size rfl 26 C (0, 0) _ (HLD.out w2 C) hum rfl (by rw [hsm]; exact info27m) ?_; clear HLD))
  have h30 : (w2.alloc (.cells C 26)).heap.size = w2.heap.size + 1 := by simp
  have hB3 : Below w2.heap.size w2 (w2.alloc (.cells C 26)) := (Below.refl _ w2).alloc (Nat.le_refl _) _
  have hG3 : GB w (w2.alloc (.cells C 26)) := HG.alloc _
  have hm3 : (w2.alloc (.cells C 26)).heap[w2.heap.size]? = some (.cells C 26 (0, 0)) := heap_alloc_new _ _
  have hT3 := HT2.below hB3 (Nat.le_refl _)
  have hP3 := HP.below hB3 (show w2.heap.size ≤ (w2.alloc (.cells C 26)).heap.size by rw [h30]; omega)
  have hJ := CJ.out _ pa pc la lc hG3 hP3 hT3 hlc
  rw [← HCC.out] at hJ
  refine hJ.mono ?_
  rintro e w4 ⟨rfl, HG4, HB4⟩
  rw [h30] at HB4
  generalize hW3 : w2.alloc (.cells C 26) = w3 at *
  obtain ⟨lb, lo, rfl, hlb, hl0⟩ := hT3 0 (S.chk s70 0) (by rw [s70_split]; rfl)
  obtain ⟨lb', lo', hla, hlb', hl1⟩ := hT3 1 (S.chk s70 1) (by rw [s70_split]; rfl)
  simp only [Option.some.injEq, Addr.mk.injEq, and_true] at hla
  obtain ⟨rfl, rfl⟩ := hla
  rw [h30] at hlb
  obtain ⟨mb, hmb⟩ : ∃ mb, mb = w2.heap.size := ⟨_, rfl⟩
  rw [← hmb] at hm3 h30 HB4 hlb ⊢
  clear hW3 hmb hJ hlb' HP HT2 HB2 HG hB3
  obtain ⟨CL, hCL⟩ : ∃ CL, CL = C.toList := ⟨_, rfl⟩
  have hCA : CL.toArray = C := by rw [hCL]
  have hCl : CL.length = 34 := by rw [hCL, Array.length_toList, hsm]
  have hx0 : (S.chk s70 0).length = 64 := by decide +kernel
  have hx1 : (S.chk s70 1).length = 6 := by decide +kernel
  obtain ⟨wh, hwh⟩ : ∃ wh, wh = S.sha s70 := ⟨_, rfl⟩
  have h32 := mv_32 (S.sha s70) 70 pa 2 pc hwl
  have h33 := mv_33 (S.sha s70) 70 pa 2 pc hwl
  rw [← HCC.out] at h32 h33
  have KP0 : ∀ W, Below (mb + 1) w3 W → Below (mb + 1) w3 W ∧ W.cell? ⟨lb, lo, none⟩ = some (.string (M.bs (S.chk s70 0))) ∧ W.cell? ⟨lb, lo + 1, none⟩ = some (.string (M.bs (S.chk s70 1))) ∧ W.cell? ⟨mb, 32, none⟩ = some (.int .i64 70) ∧ W.cell? ⟨mb, 33, none⟩ = some (.slice pa 2 pc) ∧ W.rangeAt mb 0 (wh.map vb) ∧ W.rangeAt mb 0 CL := fun W hW => by
    have hmW : W.heap[mb]? = some (.cells C 26 (0, 0)) := by rw [hW.block mb (by omega)]; exact hm3
    refine ⟨hW, ?_, ?_, ?_, ?_, ?_, ?_⟩
    · rw [hW.cell (p := ⟨lb, lo, none⟩) hlb]; exact hl0
    · rw [hW.cell (p := ⟨lb, lo + 1, none⟩) hlb]; exact hl1
    · rw [cell_of_row _ _ 32 C _ _ hmW]; exact h32
    · rw [cell_of_row _ _ 33 C _ _ hmW]; exact h33
    · rw [hwh]; rw [HCC.out] at hmW; exact mv_range _ _ _ _ _ hmW hwl
    · intro j v hv
      rw [Nat.zero_add, cell_of_row _ _ j C _ _ hmW, ← Array.getElem?_toList, ← hCL]; exact hv
  have KP : Hid (∀ W, Below (mb + 1) w3 W → Below (mb + 1) w3 W ∧ W.cell? ⟨lb, lo, none⟩ = some (.string (M.bs (S.chk s70 0))) ∧ W.cell? ⟨lb, lo + 1, none⟩ = some (.string (M.bs (S.chk s70 1))) ∧ W.cell? ⟨mb, 32, none⟩ = some (.int .i64 70) ∧ W.cell? ⟨mb, 33, none⟩ = some (.slice pa 2 pc) ∧ W.rangeAt mb 0 (wh.map vb) ∧ W.rangeAt mb 0 CL) := KP0
  have hz3 : 2 ≤ w3.heap.size := hG3.g.z
  have CO : Hid (∀ W T, Below (mb + 1) w3 W → Calls Tryd.prog 15 #[.slice (some ⟨W.heap.size, 0, none⟩) 1 1] (W.alloc (.cells #[.string (M.bs s70)] T)) fun e w' => e = .returned (.agg (dg wh)) ∧ Below (mb + 1) w3 w') := fun W T hW => by
    have hWs := hW.size
    refine (Of_g s70 T (GB.refl (hG3.g.below hW (by omega))) (by rw [s70_len]; omega)).mono ?_
    rintro e w' ⟨rfl, hg⟩
    exact ⟨by rw [hwh], hW.trans (hg.b.mono (by omega))⟩
  have e0 : ((S.split s70).map S.sha).length = 2 := by simp [hs2]
  have hnc : S.nch s70.length = 2 := by rw [s70_len]; rfl
  have CF : ∀ W k, Below (mb + 1) w3 W → Calls Tryd.prog 16 #[.agg CL.toArray, .int .i64 k, .string (M.bs (S.chk s70 1))] W fun e w' => e = .returned (.bool (fitsB 70 ((S.split s70).map S.sha) k (S.chk s70 1))) ∧ Below (mb + 1) w3 w' := fun W k hW => by
    have hWs := hW.size
    have := Fits_at (S.sha s70) 70 ((S.split s70).map S.sha) pa pc k (S.chk s70 1) W hwl (hG3.g.below hW (by omega)) (hP3.below (hW.mono (Nat.le_of_eq h30)) hWs) (by omega)
    rw [e0, ← HCC.out, ← hCA] at this
    refine this.mono ?_
    rintro e w' ⟨rfl, hb⟩
    exact ⟨rfl, hW.trans (hb.mono (by omega))⟩
  have f1 := fitsB_split s70 (by rw [s70_len]; omega) 1 (by omega) (S.chk s70 1)
  have f0 := fitsB_split s70 (by rw [s70_len]; omega) 0 (by omega) (S.chk s70 1)
  rw [hx0, hx1, s70_len] at f0
  rw [s70_len] at f1
  have CF1 : Hid (∀ W, Below (mb + 1) w3 W → Calls Tryd.prog 16 #[.agg CL.toArray, .int .i64 1, .string (M.bs (S.chk s70 1))] W fun e w' => e = .returned (.bool true) ∧ Below (mb + 1) w3 w') := fun W hW => by
    have := CF W 1 hW
    rwa [show fitsB 70 ((S.split s70).map S.sha) 1 (S.chk s70 1) = true from f1.trans (by simp)] at this
  have CF0 : Hid (∀ W, Below (mb + 1) w3 W → Calls Tryd.prog 16 #[.agg CL.toArray, .int .i64 0, .string (M.bs (S.chk s70 1))] W fun e w' => e = .returned (.bool false) ∧ Below (mb + 1) w3 w') := fun W hW => by
    have := CF W 0 hW
    rwa [show fitsB 70 ((S.split s70).map S.sha) 0 (S.chk s70 1) = false from f0.trans (by simp)] at this
  have CG : Hid (∀ W, Below (mb + 1) w3 W → Calls Tryd.prog 17 #[.agg CL.toArray] W fun e w' => e = .returned (.bool true) ∧ Below (mb + 1) w3 w') := fun W hW => by
    have hWs := hW.size
    have := Good_at (S.sha s70) 70 pa 2 pc W hwl
    rw [show goodB 70 2 = true by decide +kernel, ← HCC.out, ← hCA] at this
    refine this.mono ?_
    rintro e w' ⟨rfl, hb⟩
    exact ⟨rfl, hW.trans (hb.mono (by omega))⟩
  have hu24 := und27
  have hwhl : wh.length = 32 := by rw [hwh]; exact hwl
  have hi24 : (Tryd.prog.info? 23).map (·.size) = some (wh.map vb).length := by rw [info27, List.length_map, hwhl]
  have hi27 : (Tryd.prog.info? 26).map (·.size) = some CL.length := by rw [hCl]; exact info27m
  have hEq : ∀ W, (Op.equalIn 10000 23 (.agg (wh.map vb).toArray) (.agg (dg wh))).run Tryd.prog W = .ok true W := fun W => by have := eqDg wh wh hwhl hwhl W; rw [decide_eq_true rfl] at this; exact this
  have hb0 : (M.bs (S.chk s70 0)).size = 64 := by rw [M.bs_size, hx0]
  have h3 : Hid (w3.heap.size = mb + 1) := h30
  have HG3 : Hid (GB w w3) := hG3
  clear KP0 CF f1 f0 hm3 h32 h33 hP3 hl0 hl1 hG3 hT3 HG4 CJ hzz hz hwl hs2 hl70 hx0 hx1 e0 hnc hwh hCL HCC h1m hsm hwhl hCl h30 hCA
  generalize S.chk s70 0 = c0 at *
  generalize S.chk s70 1 = c1 at *
  generalize s70 = sx at *
  go_wp2_with fail
  refine wp_region_noPanic ?_
  refine wp_region_held_drew (S := (fun W => Below (mb + 1) w3 W ∧ W.cell? ⟨lb, lo, none⟩ = some (.string (M.bs c0)) ∧ W.cell? ⟨lb, lo + 1, none⟩ = some (.string (M.bs c1)) ∧ W.cell? ⟨mb, 32, none⟩ = some (.int .i64 70) ∧ W.cell? ⟨mb, 33, none⟩ = some (.slice pa 2 pc) ∧ W.rangeAt mb 0 (wh.map vb) ∧ W.rangeAt mb 0 CL)) (by kernel_rfl) (KP.out _ HB4.drew) (fun hHeld => ?_)
  refine wpAnyH_take (i := 0) rfl (by kernel_rfl) (by kernel_rfl) (by kernel_rfl) (fun _ _ _ h => h) (yi_move (by kernel_rfl) rfl rfl) (by assumption) ?_
  simp only [Act.put, List.getElem_toArray, List.getElem_cons_succ, List.getElem_cons_zero, List.setIfInBounds_toArray, List.set_cons_zero, List.set_cons_succ]
  refine wpAnyH_take (i := 1) (v := ?va1) rfl (by kernel_rfl) (by kernel_rfl) (by kernel_rfl) (fun _ _ _ h => h) (Or.inl ⟨by kernel_rfl, ?ya1⟩) (by assumption) ?ra1
  case ya1 => (intro w hSw; (try dsimp only at hSw); go_simp; (try with_reducible rfl))
  simp only [Act.put, List.getElem_toArray, List.getElem_cons_succ, List.getElem_cons_zero, List.setIfInBounds_toArray, List.set_cons_zero, List.set_cons_succ]
  refine wpAnyH_take (i := 2) (v := ?va2) rfl (by kernel_rfl) (by kernel_rfl) (by kernel_rfl) (fun _ _ _ h => h) (Or.inl ⟨by kernel_rfl, ?ya2⟩) (by assumption) ?ra2
  case ya2 => (intro w hSw; (try dsimp only at hSw); go_simp; (try with_reducible rfl))
  simp only [Act.put, List.getElem_toArray, List.getElem_cons_succ, List.getElem_cons_zero, List.setIfInBounds_toArray, List.set_cons_zero, List.set_cons_succ]
  refine wpAnyH_take (i := 3) rfl (by kernel_rfl) (by kernel_rfl) (by kernel_rfl) (fun _ _ _ h => h) (yi_move (by kernel_rfl) rfl rfl) (by assumption) ?_
  simp only [Act.put, List.getElem_toArray, List.getElem_cons_succ, List.getElem_cons_zero, List.setIfInBounds_toArray, List.set_cons_zero, List.set_cons_succ]
  refine wpAnyH_take (i := 4) rfl (by kernel_rfl) (by kernel_rfl) (by kernel_rfl) (fun _ _ _ h => h) (yi_move (by kernel_rfl) rfl rfl) (by assumption) ?_
  simp only [Act.put, List.getElem_toArray, List.getElem_cons_succ, List.getElem_cons_zero, List.setIfInBounds_toArray, List.set_cons_zero, List.set_cons_succ]
  refine wpAnyH_take (i := 5) (v := ?va5) rfl (by kernel_rfl) (by kernel_rfl) (by kernel_rfl) (fun _ _ _ h => h) (Or.inl ⟨by kernel_rfl, ?ya5⟩) (by assumption) ?ra5
  case ya5 => (intro w hSw; (try dsimp only at hSw); go_simp; (try with_reducible rfl))
  simp only [Act.put, List.getElem_toArray, List.getElem_cons_succ, List.getElem_cons_zero, List.setIfInBounds_toArray, List.set_cons_zero, List.set_cons_succ]
  refine wpAnyH_take (i := 6) (v := ?va6) rfl (by kernel_rfl) (by kernel_rfl) (by kernel_rfl) (fun _ _ _ h => h) (Or.inl ⟨by kernel_rfl, ?ya6⟩) (by assumption) ?ra6
  case ya6 => (intro w hSw; (try dsimp only at hSw); go_simp; (try with_reducible rfl))
  simp only [Act.put, List.getElem_toArray, List.getElem_cons_succ, List.getElem_cons_zero, List.setIfInBounds_toArray, List.set_cons_zero, List.set_cons_succ]
  refine wpAnyH_take (i := 7) (v := ?va7) rfl (by kernel_rfl) (by kernel_rfl) (by kernel_rfl) (fun _ _ _ h => h) (Or.inl ⟨by kernel_rfl, ?ya7⟩) (by assumption) ?ra7
  case ya7 => (intro w hSw; (try dsimp only at hSw); go_simp; (try with_reducible rfl))
  simp only [Act.put, List.getElem_toArray, List.getElem_cons_succ, List.getElem_cons_zero, List.setIfInBounds_toArray, List.set_cons_zero, List.set_cons_succ]
  refine wpAnyH_take (i := 8) (v := ?va8) rfl (by kernel_rfl) (by kernel_rfl) (by kernel_rfl) (fun _ _ _ h => h) (Or.inl ⟨by kernel_rfl, ?ya8⟩) (by assumption) ?ra8
  case ya8 => (intro w hSw; (try dsimp only at hSw); go_simp; (try with_reducible rfl))
  simp only [Act.put, List.getElem_toArray, List.getElem_cons_succ, List.getElem_cons_zero, List.setIfInBounds_toArray, List.set_cons_zero, List.set_cons_succ]
  refine wpAnyH_take (i := 9) (v := ?va9) rfl (by kernel_rfl) (by kernel_rfl) (by kernel_rfl) (fun _ _ _ h => h) (Or.inl ⟨by kernel_rfl, ?ya9⟩) (by assumption) ?ra9
  case ya9 => (intro w hSw; (try dsimp only at hSw); go_simp; (try with_reducible rfl))
  simp only [Act.put, List.getElem_toArray, List.getElem_cons_succ, List.getElem_cons_zero, List.setIfInBounds_toArray, List.set_cons_zero, List.set_cons_succ]
  refine wpAnyH_take (i := 10) rfl (by kernel_rfl) (by kernel_rfl) (by kernel_rfl) (fun _ _ _ h => h) (yi_move (by kernel_rfl) rfl rfl) (by assumption) ?_
  simp only [Act.put, List.getElem_toArray, List.getElem_cons_succ, List.getElem_cons_zero, List.setIfInBounds_toArray, List.set_cons_zero, List.set_cons_succ]
  refine wpAnyH_take (i := 11) rfl (by kernel_rfl) (by kernel_rfl) (by kernel_rfl) (fun _ _ _ h => h) (yi_move (by kernel_rfl) rfl rfl) (by assumption) ?_
  simp only [Act.put, List.getElem_toArray, List.getElem_cons_succ, List.getElem_cons_zero, List.setIfInBounds_toArray, List.set_cons_zero, List.set_cons_succ]
  refine wpAnyH_take (i := 12) (v := ?va12) rfl (by kernel_rfl) (by kernel_rfl) (by kernel_rfl) (fun _ _ _ h => h) (Or.inl ⟨by kernel_rfl, ?ya12⟩) (by assumption) ?ra12
  case ya12 => (intro w hSw; (try dsimp only at hSw); go_simp; (try with_reducible rfl))
  simp only [Act.put, List.getElem_toArray, List.getElem_cons_succ, List.getElem_cons_zero, List.setIfInBounds_toArray, List.set_cons_zero, List.set_cons_succ]
  refine wpAnyH_take (i := 13) (v := ?va13) rfl (by kernel_rfl) (by kernel_rfl) (by kernel_rfl) (fun _ _ _ h => h) (Or.inl ⟨by kernel_rfl, ?ya13⟩) (by assumption) ?ra13
  case ya13 => (intro w hSw; (try dsimp only at hSw); go_simp; (try with_reducible rfl))
  simp only [Act.put, List.getElem_toArray, List.getElem_cons_succ, List.getElem_cons_zero, List.setIfInBounds_toArray, List.set_cons_zero, List.set_cons_succ]
  refine wpAnyH_take (i := 14) rfl (by kernel_rfl) (by kernel_rfl) (by kernel_rfl) (fun _ _ _ h => h) (yi_move (by kernel_rfl) rfl rfl) (by assumption) ?_
  simp only [Act.put, List.getElem_toArray, List.getElem_cons_succ, List.getElem_cons_zero, List.setIfInBounds_toArray, List.set_cons_zero, List.set_cons_succ]
  refine wpAnyH_take (i := 15) (v := ?va15) rfl (by kernel_rfl) (by kernel_rfl) (by kernel_rfl) (fun _ _ _ h => h) (Or.inl ⟨by kernel_rfl, ?ya15⟩) (by assumption) ?ra15
  case ya15 => (intro w hSw; (try dsimp only at hSw); go_simp; (try with_reducible rfl))
  simp only [Act.put, List.getElem_toArray, List.getElem_cons_succ, List.getElem_cons_zero, List.setIfInBounds_toArray, List.set_cons_zero, List.set_cons_succ]
  refine wpAnyH_take (i := 16) (v := ?va16) rfl (by kernel_rfl) (by kernel_rfl) (by kernel_rfl) (fun _ _ _ h => h) (Or.inl ⟨by kernel_rfl, ?ya16⟩) (by assumption) ?ra16
  case ya16 => (intro w hSw; (try dsimp only at hSw); go_simp; (try with_reducible rfl))
  simp only [Act.put, List.getElem_toArray, List.getElem_cons_succ, List.getElem_cons_zero, List.setIfInBounds_toArray, List.set_cons_zero, List.set_cons_succ]
  refine wpAnyH_take (i := 17) (v := ?va17) rfl (by kernel_rfl) (by kernel_rfl) (by kernel_rfl) (fun _ _ _ h => h) (Or.inl ⟨by kernel_rfl, ?ya17⟩) (by assumption) ?ra17
  case ya17 => (intro w hSw; (try dsimp only at hSw); go_simp; (try with_reducible rfl))
  simp only [Act.put, List.getElem_toArray, List.getElem_cons_succ, List.getElem_cons_zero, List.setIfInBounds_toArray, List.set_cons_zero, List.set_cons_succ]
  refine wpAnyH_take (i := 18) (v := ?va18) rfl (by kernel_rfl) (by kernel_rfl) (by kernel_rfl) (fun _ _ _ h => h) (Or.inl ⟨by kernel_rfl, ?ya18⟩) (by assumption) ?ra18
  case ya18 => (intro w hSw; (try dsimp only at hSw); go_simp; (try with_reducible rfl))
  simp only [Act.put, List.getElem_toArray, List.getElem_cons_succ, List.getElem_cons_zero, List.setIfInBounds_toArray, List.set_cons_zero, List.set_cons_succ]
  refine wpAnyH_take (i := 19) rfl (by kernel_rfl) (by kernel_rfl) (by kernel_rfl) (fun _ _ _ h => h) (yi_move (by kernel_rfl) rfl rfl) (by assumption) ?_
  simp only [Act.put, List.getElem_toArray, List.getElem_cons_succ, List.getElem_cons_zero, List.setIfInBounds_toArray, List.set_cons_zero, List.set_cons_succ]
  refine wpAnyH_take (i := 20) (v := ?va20) rfl (by kernel_rfl) (by kernel_rfl) (by kernel_rfl) (fun _ _ _ h => h) (Or.inl ⟨by kernel_rfl, ?ya20⟩) (by assumption) ?ra20
  case ya20 => (intro w hSw; (try dsimp only at hSw); go_simp; (try with_reducible rfl))
  simp only [Act.put, List.getElem_toArray, List.getElem_cons_succ, List.getElem_cons_zero, List.setIfInBounds_toArray, List.set_cons_zero, List.set_cons_succ]
  refine wpAnyH_take (i := 21) (v := ?va21) rfl (by kernel_rfl) (by kernel_rfl) (by kernel_rfl) (fun _ _ _ h => h) (Or.inl ⟨by kernel_rfl, ?ya21⟩) (by assumption) ?ra21
  case ya21 => (intro w hSw; (try dsimp only at hSw); go_simp; (try with_reducible rfl))
  simp only [Act.put, List.getElem_toArray, List.getElem_cons_succ, List.getElem_cons_zero, List.setIfInBounds_toArray, List.set_cons_zero, List.set_cons_succ]
  refine wpAnyH_take (i := 22) (v := ?va22) rfl (by kernel_rfl) (by kernel_rfl) (by kernel_rfl) (fun _ _ _ h => h) (Or.inl ⟨by kernel_rfl, ?ya22⟩) (by assumption) ?ra22
  case ya22 => (intro w hSw; (try dsimp only at hSw); go_simp; (try with_reducible rfl))
  simp only [Act.put, List.getElem_toArray, List.getElem_cons_succ, List.getElem_cons_zero, List.setIfInBounds_toArray, List.set_cons_zero, List.set_cons_succ]
  refine wpAnyH_take (i := 23) (v := ?va23) rfl (by kernel_rfl) (by kernel_rfl) (by kernel_rfl) (fun _ _ _ h => h) (Or.inl ⟨by kernel_rfl, ?ya23⟩) (by assumption) ?ra23
  case ya23 => (intro w hSw; (try dsimp only at hSw); go_simp; (try with_reducible rfl))
  simp only [Act.put, List.getElem_toArray, List.getElem_cons_succ, List.getElem_cons_zero, List.setIfInBounds_toArray, List.set_cons_zero, List.set_cons_succ]
  refine wpAnyH_take (i := 24) (v := ?va24) rfl (by kernel_rfl) (by kernel_rfl) (by kernel_rfl) (fun _ _ _ h => h) (Or.inl ⟨by kernel_rfl, ?ya24⟩) (by assumption) ?ra24
  case ya24 => (intro w hSw; (try dsimp only at hSw); go_simp; (try with_reducible rfl))
  simp only [Act.put, List.getElem_toArray, List.getElem_cons_succ, List.getElem_cons_zero, List.setIfInBounds_toArray, List.set_cons_zero, List.set_cons_succ]
  refine wpAnyH_take (i := 25) rfl (by kernel_rfl) (by kernel_rfl) (by kernel_rfl) (fun _ _ _ h => h) (yi_move (by kernel_rfl) rfl rfl) (by assumption) ?_
  simp only [Act.put, List.getElem_toArray, List.getElem_cons_succ, List.getElem_cons_zero, List.setIfInBounds_toArray, List.set_cons_zero, List.set_cons_succ]
  refine wpAnyH_take (i := 26) (v := ?va26) rfl (by kernel_rfl) (by kernel_rfl) (by kernel_rfl) (fun _ _ _ h => h) (Or.inl ⟨by kernel_rfl, ?ya26⟩) (by assumption) ?ra26
  case ya26 => (intro w hSw; (try dsimp only at hSw); go_simp; (try with_reducible rfl))
  simp only [Act.put, List.getElem_toArray, List.getElem_cons_succ, List.getElem_cons_zero, List.setIfInBounds_toArray, List.set_cons_zero, List.set_cons_succ]
  refine wpAnyH_take (i := 27) (v := .agg (List.toArray (wh.map vb))) rfl (by kernel_rfl) (by kernel_rfl) (by kernel_rfl) (fun _ _ _ h => h) (yieldsIf_load_mid (by kernel_rfl) _ (.tmp 46) (by kernel_rfl) mb 0 (by kernel_rfl) (wh.map vb) _ (fun W hW => hW.2.2.2.2.2.1) hu24 rfl hi24) (by assumption) ?_
  simp only [Act.put, List.getElem_toArray, List.getElem_cons_succ, List.getElem_cons_zero, List.setIfInBounds_toArray, List.set_cons_zero, List.set_cons_succ]
  refine wpAnyH_take (i := 28) rfl (by kernel_rfl) (by kernel_rfl) (by kernel_rfl) (fun _ _ _ h => h) (yi_move (by kernel_rfl) rfl rfl) (by assumption) ?_
  simp only [Act.put, List.getElem_toArray, List.getElem_cons_succ, List.getElem_cons_zero, List.setIfInBounds_toArray, List.set_cons_zero, List.set_cons_succ]
  refine wpAnyH_ready (rs := [29]) (by kernel_rfl) (by simp) ?_
  refine AllReadyH.cons (o := _) rfl (fun K hK => ?_) AllReadyH.nil
  go_simp
  refine hK.out _ _ (KP.out _ (HB4.drew.alloc (by have h := HB4.size; rw [h3.out] at h; exact h) _)) (fun hHeld => ?_)
  clear hK K
  (try simp only [Act.put, List.getElem_toArray, List.getElem_cons_succ, List.getElem_cons_zero, List.setIfInBounds_toArray, List.set_cons_zero, List.set_cons_succ])
  refine wpAnyH_ready (rs := [30]) (by kernel_rfl) (by simp) ?_
  refine AllReadyH.cons (o := _) rfl (fun K hK => ?_) AllReadyH.nil
  go_simp
  (refine (CO.out _ _ HB4.drew).mono ?_; rintro e w5 ⟨rfl, HB5⟩; dsimp only)
  refine hK.out _ _ (KP.out _ HB5) (fun hHeld => ?_)
  clear hK K
  (try simp only [Act.put, List.getElem_toArray, List.getElem_cons_succ, List.getElem_cons_zero, List.setIfInBounds_toArray, List.set_cons_zero, List.set_cons_succ])
  refine wpAnyH_take (i := 31) (v := ?va31) rfl (by kernel_rfl) (by kernel_rfl) (by kernel_rfl) (fun _ _ _ h => h) (Or.inl ⟨by kernel_rfl, ?ya31⟩) (by assumption) ?ra31
  case ya31 => (intro w hSw; (try dsimp only at hSw); go_simp; (try with_reducible rfl))
  simp only [Act.put, List.getElem_toArray, List.getElem_cons_succ, List.getElem_cons_zero, List.setIfInBounds_toArray, List.set_cons_zero, List.set_cons_succ]
  refine wpAnyH_take (i := 32) (v := ?va32) rfl (by kernel_rfl) (by kernel_rfl) (by kernel_rfl) (fun _ _ _ h => h) (Or.inl ⟨by kernel_rfl, ?ya32⟩) (by assumption) ?ra32
  case ya32 => (intro w hSw; (try dsimp only at hSw); go_simp; (try with_reducible rfl))
  simp only [Act.put, List.getElem_toArray, List.getElem_cons_succ, List.getElem_cons_zero, List.setIfInBounds_toArray, List.set_cons_zero, List.set_cons_succ]
  refine wpAnyH_take (i := 33) rfl (by kernel_rfl) (by kernel_rfl) (by kernel_rfl) (fun _ _ _ h => h) (yi_move (by kernel_rfl) rfl rfl) (by assumption) ?_
  simp only [Act.put, List.getElem_toArray, List.getElem_cons_succ, List.getElem_cons_zero, List.setIfInBounds_toArray, List.set_cons_zero, List.set_cons_succ]
  refine wpAnyH_take (i := 34) (v := .agg (List.toArray CL)) rfl (by kernel_rfl) (by kernel_rfl) (by kernel_rfl) (fun _ _ _ h => h) (yieldsIf_load_mid (by kernel_rfl) _ (.tmp 3) (by kernel_rfl) mb 0 (by kernel_rfl) CL _ (fun W hW => hW.2.2.2.2.2.2) hum rfl hi27) (by assumption) ?_
  simp only [Act.put, List.getElem_toArray, List.getElem_cons_succ, List.getElem_cons_zero, List.setIfInBounds_toArray, List.set_cons_zero, List.set_cons_succ]
  refine wpAnyH_take (i := 35) rfl (by kernel_rfl) (by kernel_rfl) (by kernel_rfl) (fun _ _ _ h => h) (yi_move (by kernel_rfl) rfl rfl) (by assumption) ?_
  simp only [Act.put, List.getElem_toArray, List.getElem_cons_succ, List.getElem_cons_zero, List.setIfInBounds_toArray, List.set_cons_zero, List.set_cons_succ]
  refine wpAnyH_take (i := 36) (v := ?va36) rfl (by kernel_rfl) (by kernel_rfl) (by kernel_rfl) (fun _ _ _ h => h) (Or.inl ⟨by kernel_rfl, ?ya36⟩) (by assumption) ?ra36
  case ya36 => (intro w hSw; (try dsimp only at hSw); go_simp; (try with_reducible rfl))
  simp only [Act.put, List.getElem_toArray, List.getElem_cons_succ, List.getElem_cons_zero, List.setIfInBounds_toArray, List.set_cons_zero, List.set_cons_succ]
  refine wpAnyH_take (i := 37) (v := ?va37) rfl (by kernel_rfl) (by kernel_rfl) (by kernel_rfl) (fun _ _ _ h => h) (Or.inl ⟨by kernel_rfl, ?ya37⟩) (by assumption) ?ra37
  case ya37 => (intro w hSw; (try dsimp only at hSw); go_simp; (try with_reducible rfl))
  simp only [Act.put, List.getElem_toArray, List.getElem_cons_succ, List.getElem_cons_zero, List.setIfInBounds_toArray, List.set_cons_zero, List.set_cons_succ]
  refine wpAnyH_ready (rs := [38]) (by kernel_rfl) (by simp) ?_
  refine AllReadyH.cons (o := _) rfl (fun K hK => ?_) AllReadyH.nil
  go_simp
  (refine (CF1.out _ HB5).mono ?_; rintro e w6 ⟨rfl, HB6⟩; dsimp only)
  refine hK.out _ _ (KP.out _ HB6) (fun hHeld => ?_)
  clear hK K
  (try simp only [Act.put, List.getElem_toArray, List.getElem_cons_succ, List.getElem_cons_zero, List.setIfInBounds_toArray, List.set_cons_zero, List.set_cons_succ])
  refine wpAnyH_take (i := 39) (v := ?va39) rfl (by kernel_rfl) (by kernel_rfl) (by kernel_rfl) (fun _ _ _ h => h) (Or.inl ⟨by kernel_rfl, ?ya39⟩) (by assumption) ?ra39
  case ya39 => (intro w hSw; (try dsimp only at hSw); go_simp; (try with_reducible rfl))
  simp only [Act.put, List.getElem_toArray, List.getElem_cons_succ, List.getElem_cons_zero, List.setIfInBounds_toArray, List.set_cons_zero, List.set_cons_succ]
  refine wpAnyH_take (i := 40) rfl (by kernel_rfl) (by kernel_rfl) (by kernel_rfl) (fun _ _ _ h => h) (yi_move (by kernel_rfl) rfl rfl) (by assumption) ?_
  simp only [Act.put, List.getElem_toArray, List.getElem_cons_succ, List.getElem_cons_zero, List.setIfInBounds_toArray, List.set_cons_zero, List.set_cons_succ]
  refine wpAnyH_take (i := 41) (v := .agg (List.toArray CL)) rfl (by kernel_rfl) (by kernel_rfl) (by kernel_rfl) (fun _ _ _ h => h) (yieldsIf_load_mid (by kernel_rfl) _ (.tmp 3) (by kernel_rfl) mb 0 (by kernel_rfl) CL _ (fun W hW => hW.2.2.2.2.2.2) hum rfl hi27) (by assumption) ?_
  simp only [Act.put, List.getElem_toArray, List.getElem_cons_succ, List.getElem_cons_zero, List.setIfInBounds_toArray, List.set_cons_zero, List.set_cons_succ]
  refine wpAnyH_take (i := 42) rfl (by kernel_rfl) (by kernel_rfl) (by kernel_rfl) (fun _ _ _ h => h) (yi_move (by kernel_rfl) rfl rfl) (by assumption) ?_
  simp only [Act.put, List.getElem_toArray, List.getElem_cons_succ, List.getElem_cons_zero, List.setIfInBounds_toArray, List.set_cons_zero, List.set_cons_succ]
  refine wpAnyH_take (i := 43) (v := ?va43) rfl (by kernel_rfl) (by kernel_rfl) (by kernel_rfl) (fun _ _ _ h => h) (Or.inl ⟨by kernel_rfl, ?ya43⟩) (by assumption) ?ra43
  case ya43 => (intro w hSw; (try dsimp only at hSw); go_simp; (try with_reducible rfl))
  simp only [Act.put, List.getElem_toArray, List.getElem_cons_succ, List.getElem_cons_zero, List.setIfInBounds_toArray, List.set_cons_zero, List.set_cons_succ]
  refine wpAnyH_take (i := 44) (v := ?va44) rfl (by kernel_rfl) (by kernel_rfl) (by kernel_rfl) (fun _ _ _ h => h) (Or.inl ⟨by kernel_rfl, ?ya44⟩) (by assumption) ?ra44
  case ya44 => (intro w hSw; (try dsimp only at hSw); go_simp; (try with_reducible rfl))
  simp only [Act.put, List.getElem_toArray, List.getElem_cons_succ, List.getElem_cons_zero, List.setIfInBounds_toArray, List.set_cons_zero, List.set_cons_succ]
  refine wpAnyH_ready (rs := [45]) (by kernel_rfl) (by simp) ?_
  refine AllReadyH.cons (o := _) rfl (fun K hK => ?_) AllReadyH.nil
  go_simp
  (refine (CF0.out _ HB6).mono ?_; rintro e w7 ⟨rfl, HB7⟩; dsimp only)
  refine hK.out _ _ (KP.out _ HB7) (fun hHeld => ?_)
  clear hK K
  (try simp only [Act.put, List.getElem_toArray, List.getElem_cons_succ, List.getElem_cons_zero, List.setIfInBounds_toArray, List.set_cons_zero, List.set_cons_succ])
  refine wpAnyH_take (i := 46) (v := ?va46) rfl (by kernel_rfl) (by kernel_rfl) (by kernel_rfl) (fun _ _ _ h => h) (Or.inl ⟨by kernel_rfl, ?ya46⟩) (by assumption) ?ra46
  case ya46 => (intro w hSw; (try dsimp only at hSw); go_simp; (try with_reducible rfl))
  simp only [Act.put, List.getElem_toArray, List.getElem_cons_succ, List.getElem_cons_zero, List.setIfInBounds_toArray, List.set_cons_zero, List.set_cons_succ]
  refine wpAnyH_take (i := 47) (v := ?va47) rfl (by kernel_rfl) (by kernel_rfl) (by kernel_rfl) (fun _ _ _ h => h) (Or.inl ⟨by kernel_rfl, ?ya47⟩) (by assumption) ?ra47
  case ya47 => (intro w hSw; (try dsimp only at hSw); go_simp; (try with_reducible rfl))
  simp only [Act.put, List.getElem_toArray, List.getElem_cons_succ, List.getElem_cons_zero, List.setIfInBounds_toArray, List.set_cons_zero, List.set_cons_succ]
  refine wpAnyH_take (i := 48) rfl (by kernel_rfl) (by kernel_rfl) (by kernel_rfl) (fun _ _ _ h => h) (yi_move (by kernel_rfl) rfl rfl) (by assumption) ?_
  simp only [Act.put, List.getElem_toArray, List.getElem_cons_succ, List.getElem_cons_zero, List.setIfInBounds_toArray, List.set_cons_zero, List.set_cons_succ]
  refine wpAnyH_take (i := 49) rfl (by kernel_rfl) (by kernel_rfl) (by kernel_rfl) (fun _ _ _ h => h) (yi_move (by kernel_rfl) rfl rfl) (by assumption) ?_
  simp only [Act.put, List.getElem_toArray, List.getElem_cons_succ, List.getElem_cons_zero, List.setIfInBounds_toArray, List.set_cons_zero, List.set_cons_succ]
  refine wpAnyH_take (i := 50) rfl (by kernel_rfl) (by kernel_rfl) (by kernel_rfl) (fun _ _ _ h => h) (yi_move (by kernel_rfl) rfl rfl) (by assumption) ?_
  simp only [Act.put, List.getElem_toArray, List.getElem_cons_succ, List.getElem_cons_zero, List.setIfInBounds_toArray, List.set_cons_zero, List.set_cons_succ]
  refine wpAnyH_take (i := 51) (v := ?va51) rfl (by kernel_rfl) (by kernel_rfl) (by kernel_rfl) (fun _ _ _ h => h) (Or.inl ⟨by kernel_rfl, ?ya51⟩) (by assumption) ?ra51
  case ya51 => (intro w hSw; (try dsimp only at hSw); go_simp; (try with_reducible rfl))
  simp only [Act.put, List.getElem_toArray, List.getElem_cons_succ, List.getElem_cons_zero, List.setIfInBounds_toArray, List.set_cons_zero, List.set_cons_succ]
  refine wpAnyH_take (i := 52) (v := ?va52) rfl (by kernel_rfl) (by kernel_rfl) (by kernel_rfl) (fun _ _ _ h => h) (Or.inl ⟨by kernel_rfl, ?ya52⟩) (by assumption) ?ra52
  case ya52 => (intro w hSw; (try dsimp only at hSw); go_simp; (try with_reducible rfl))
  simp only [Act.put, List.getElem_toArray, List.getElem_cons_succ, List.getElem_cons_zero, List.setIfInBounds_toArray, List.set_cons_zero, List.set_cons_succ]
  refine wpAnyH_take (i := 53) rfl (by kernel_rfl) (by kernel_rfl) (by kernel_rfl) (fun _ _ _ h => h) (yi_move (by kernel_rfl) rfl rfl) (by assumption) ?_
  simp only [Act.put, List.getElem_toArray, List.getElem_cons_succ, List.getElem_cons_zero, List.setIfInBounds_toArray, List.set_cons_zero, List.set_cons_succ]
  refine wpAnyH_take (i := 54) rfl (by kernel_rfl) (by kernel_rfl) (by kernel_rfl) (fun _ _ _ h => h) (yi_move (by kernel_rfl) rfl rfl) (by assumption) ?_
  simp only [Act.put, List.getElem_toArray, List.getElem_cons_succ, List.getElem_cons_zero, List.setIfInBounds_toArray, List.set_cons_zero, List.set_cons_succ]
  refine wpAnyH_take (i := 55) (v := ?va55) rfl (by kernel_rfl) (by kernel_rfl) (by kernel_rfl) (fun _ _ _ h => h) (Or.inl ⟨by kernel_rfl, ?ya55⟩) (by assumption) ?ra55
  case ya55 => (intro w hSw; (try dsimp only at hSw); go_simp; (try with_reducible rfl))
  simp only [Act.put, List.getElem_toArray, List.getElem_cons_succ, List.getElem_cons_zero, List.setIfInBounds_toArray, List.set_cons_zero, List.set_cons_succ]
  refine wpAnyH_take (i := 56) (v := ?va56) rfl (by kernel_rfl) (by kernel_rfl) (by kernel_rfl) (fun _ _ _ h => h) (Or.inl ⟨by kernel_rfl, ?ya56⟩) (by assumption) ?ra56
  case ya56 => (intro w hSw; (try dsimp only at hSw); go_simp; (try with_reducible rfl))
  simp only [Act.put, List.getElem_toArray, List.getElem_cons_succ, List.getElem_cons_zero, List.setIfInBounds_toArray, List.set_cons_zero, List.set_cons_succ]
  refine wpAnyH_take (i := 57) rfl (by kernel_rfl) (by kernel_rfl) (by kernel_rfl) (fun _ _ _ h => h) (yi_move (by kernel_rfl) rfl rfl) (by assumption) ?_
  simp only [Act.put, List.getElem_toArray, List.getElem_cons_succ, List.getElem_cons_zero, List.setIfInBounds_toArray, List.set_cons_zero, List.set_cons_succ]
  refine wpAnyH_take (i := 58) (v := .agg (List.toArray CL)) rfl (by kernel_rfl) (by kernel_rfl) (by kernel_rfl) (fun _ _ _ h => h) (yieldsIf_load_mid (by kernel_rfl) _ (.tmp 3) (by kernel_rfl) mb 0 (by kernel_rfl) CL _ (fun W hW => hW.2.2.2.2.2.2) hum rfl hi27) (by assumption) ?_
  simp only [Act.put, List.getElem_toArray, List.getElem_cons_succ, List.getElem_cons_zero, List.setIfInBounds_toArray, List.set_cons_zero, List.set_cons_succ]
  refine wpAnyH_ready (rs := [59]) (by kernel_rfl) (by simp) ?_
  refine AllReadyH.cons (o := _) rfl (fun K hK => ?_) AllReadyH.nil
  go_simp
  (refine (CG.out _ HB7).mono ?_; rintro e w8 ⟨rfl, HB8⟩; dsimp only)
  refine hK.out _ _ (KP.out _ HB8) (fun hHeld => ?_)
  clear hK K
  (try simp only [Act.put, List.getElem_toArray, List.getElem_cons_succ, List.getElem_cons_zero, List.setIfInBounds_toArray, List.set_cons_zero, List.set_cons_succ])
  refine wpAnyH_take (i := 60) (v := ?va60) rfl (by kernel_rfl) (by kernel_rfl) (by kernel_rfl) (fun _ _ _ h => h) (Or.inl ⟨by kernel_rfl, ?ya60⟩) (by assumption) ?ra60
  case ya60 => (intro w hSw; (try dsimp only at hSw); go_simp; (try with_reducible rfl))
  simp only [Act.put, List.getElem_toArray, List.getElem_cons_succ, List.getElem_cons_zero, List.setIfInBounds_toArray, List.set_cons_zero, List.set_cons_succ]
  refine wpAnyH_take (i := 61) rfl (by kernel_rfl) (by kernel_rfl) (by kernel_rfl) (fun _ _ _ h => h) (yi_assign (by kernel_rfl) rfl rfl) (by assumption) ?_
  simp only [Act.put, List.getElem_toArray, List.getElem_cons_succ, List.getElem_cons_zero, List.setIfInBounds_toArray, List.set_cons_zero, List.set_cons_succ]
  refine wpAnyH_done (by kernel_rfl) ?_ _
  refine NoPanic.normal ?_

  go_wp2_with fail
  go_ret
  exact ⟨rfl, HG3.out.step (by rw [h3.out]; exact HB8)⟩
end Go.Proofs.YtahdmhenkjbimaaDoor
