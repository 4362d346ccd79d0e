/- What comb.Fits answers. -/
import Derived.Test.YtahdmhenkjbimaaDoorC2
import Derived.BigQuiet
namespace Go.Proofs.YtahdmhenkjbimaaDoor
open Go.RowKit
set_option linter.unusedVariables false

theorem und27m : ∃ fs, Tryd.prog.underlying 26 = some (.struct fs) := ⟨_, Tryd.underlying26⟩
theorem info27m : (Tryd.prog.info? 26).map (·.size) = some 34 := by kernel_rfl

/-- a row of digests in memory below block B -/
def Dgs (B : Nat) (w : World) (a : Option Addr) (l : List (List UInt8)) : Prop := ∀ i d, l[i]? = some d → d.length = 32 ∧ ∃ b off, a = some ⟨b, off, none⟩ ∧ b < B ∧ w.rangeAt b (off + i * 32) (d.map vb)
theorem rangeAt_below {B : Nat} {w w' : World} (hb : Below B w w') {b o : Nat} {cs : List Value} (h : w.rangeAt b o cs) (hB : b < B) : w'.rangeAt b o cs := fun j v hv => by
  rw [hb.cell (p := ⟨b, o + j, none⟩) hB]; exact h j v hv
theorem Dgs.below {B B' : Nat} {w w' : World} {a : Option Addr} {l : List (List UInt8)} (h : Dgs B w a l) (hb : Below B w w') (hB : B ≤ B') : Dgs B' w' a l := fun i d hd => by
  obtain ⟨h0, b, off, h1, h2, h3⟩ := h i d hd
  exact ⟨h0, b, off, h1, by omega, rangeAt_below hb h3 h2⟩

/-- whether data fits at a place -/
def fitsB (size : Int) (P : List (List UInt8)) (at_ : Int) (data : List UInt8) : Bool :=
  goodB size P.length && decide (0 ≤ at_) && decide (at_ < P.length) && decide ((data.length : Int) = min 64 (size - at_ * 64)) && decide (S.sha data = P.getD at_.toNat [])

theorem fits_no (whole : List UInt8) (size : Int) (a : Option Addr) (n cap : Nat) (at_ : Int) (data : List UInt8) (w : World) (hw : whole.length = 32)
    (hno : goodB size n = false ∨ at_ < 0 ∨ (n : Int) ≤ at_) :
    Calls Tryd.prog 16 #[.agg (mv whole size a n cap), .int .i64 at_, .string (M.bs data)] w fun e w' => e = .returned (.bool false) ∧ Below w.heap.size w w' := by
  have h33 := mv_33 whole size a n cap hw
  have hsz := mv_size whole size a n cap hw
  obtain ⟨fs, hum⟩ := und27m
  obtain ⟨g, hg⟩ : ∃ g, goodB size n = g := ⟨_, rfl⟩
  have CG : Hid (∀ W, Calls Tryd.prog 17 #[.agg (mv whole size a n cap)] W fun e w' => e = .returned (.bool g) ∧ Below W.heap.size W w') := fun W => by
    rw [← hg]; exact Good_at whole size a n cap W hw
  rw [hg] at hno
  clear hg
  generalize mv whole size a n cap = C at *
  have HN : Hid ((w.alloc (.cells C 26)).heap[w.heap.size]? = some (.cells C 26 (0, 0))) := heap_alloc_new _ _
  have HB : Hid (Below w.heap.size w (w.alloc (.cells C 26))) := (Below.refl _ w).alloc (Nat.le_refl _) _
  have HC : Hid (∀ W, Below (w.heap.size + 1) (w.alloc (.cells C 26)) W → W.cell? ⟨w.heap.size, 33, none⟩ = some (.slice a n cap)) := fun W hW => by
    rw [hW.cell (p := ⟨w.heap.size, 33, none⟩) (show w.heap.size < w.heap.size + 1 by omega), cell_of_row _ _ 33 C _ _ HN.out]; exact h33
  have H1 : Hid ((w.alloc (.cells C 26)).heap.size = w.heap.size + 1) := by show _ = _; simp
  clear h33
  rcases Bool.eq_false_or_eq_true g with rfl | rfl
  · have hno' : at_ < 0 ∨ (n : Int) ≤ at_ := by simpa using hno
    clear hno
    by_cases h0 : at_ < 0
    · go_enter Tryd.func16, Tryd.ntmps16
      go_wp2_with (first
        | refine wpList_load_row rfl 26 _ rfl w.heap.size rfl 26 C (0, 0) _ HN.out hum rfl (by rw [hsz]; exact info27m) ?_
        | (go_at_call 17; refine (CG.out _).mono ?_; rintro e w1 ⟨rfl, hb⟩; rw [H1.out] at hb; have hc := HC.out _ hb))
      go_ret
      exact ⟨rfl, HB.out.trans (hb.mono (by omega))⟩
    · have h0' : decide (at_ < 0) = false := by simp; omega
      have h1' : (n : Int) ≤ at_ := by omega
      go_enter Tryd.func16, Tryd.ntmps16
      go_wp2_with (first
        | refine wpList_load_row rfl 26 _ rfl w.heap.size rfl 26 C (0, 0) _ HN.out hum rfl (by rw [hsz]; exact info27m) ?_
        | (go_at_call 17; refine (CG.out _).mono ?_; rintro e w1 ⟨rfl, hb⟩; rw [H1.out] at hb; have hc := HC.out _ hb))
      go_ret
      exact ⟨rfl, HB.out.trans (hb.mono (by omega))⟩
  · clear hno
    go_enter Tryd.func16, Tryd.ntmps16
    go_wp2_with (first
      | refine wpList_load_row rfl 26 _ rfl w.heap.size rfl 26 C (0, 0) _ HN.out hum rfl (by rw [hsz]; exact info27m) ?_
      | (go_at_call 17; refine (CG.out _).mono ?_; rintro e w1 ⟨rfl, hb⟩; rw [H1.out] at hb; have hc := HC.out _ hb))
    go_ret
    exact ⟨rfl, HB.out.trans (hb.mono (by omega))⟩

set_option maxRecDepth 8000 in
set_option maxHeartbeats 1000000 in
theorem fits_go (whole : List UInt8) (size k : Nat) (P : List (List UInt8)) (a : Option Addr) (cap : Nat) (data : List UInt8) (w : World) (hw : whole.length = 32) (hG : GW w) (hP : Dgs w.heap.size w a P)
    (hs : size ≤ 512) (hg : P.length = S.nch size) (hk : k < P.length) (hd : data.length ≤ 576460752303423488) :
    Calls Tryd.prog 16 #[.agg (mv whole (size : Int) a P.length cap), .int .i64 (k : Int), .string (M.bs data)] w fun e w' => e = .returned (.bool (decide (data.length = min 64 (size - 64 * k) ∧ S.sha data = P.getD k []))) ∧ Below w.heap.size w w' := by
  have h33 := mv_33 whole (size : Int) a P.length cap hw
  have h32 := mv_32 whole (size : Int) a P.length cap hw
  have hsz := mv_size whole (size : Int) a P.length cap hw
  have hgd : goodB (size : Int) P.length = true := by unfold goodB; simp; omega
  have hks : 64 * k < size := by rw [hg] at hk; unfold S.nch at hk; omega
  obtain ⟨fs, hum⟩ := und27m
  obtain ⟨d, hdk⟩ : ∃ d, P[k]? = some d := ⟨P[k], List.getElem?_eq_getElem hk⟩
  obtain ⟨hdl, b, off, rfl, hbw, hr⟩ := hP k d hdk
  have hgd2 : P.getD k [] = d := by rw [List.getD_eq_getElem?_getD, hdk]; rfl
  rw [hgd2]
  clear hgd2 hP hdk
  have hPn : P.length ≤ 8 := by rw [hg]; unfold S.nch; omega
  have CG : Hid (∀ W, Calls Tryd.prog 17 #[.agg (mv whole (size : Int) (some ⟨b, off, none⟩) P.length cap)] W fun e w' => e = .returned (.bool true) ∧ Below W.heap.size W w') := fun W => by
    rw [← hgd]; exact Good_at whole (size : Int) _ P.length cap W hw
  clear hgd hg
  generalize P.length = n at *
  generalize mv whole (size : Int) (some ⟨b, off, none⟩) n cap = C at *
  have HN : Hid ((w.alloc (.cells C 26)).heap[w.heap.size]? = some (.cells C 26 (0, 0))) := heap_alloc_new _ _
  have hB0 : Below w.heap.size w (w.alloc (.cells C 26)) := (Below.refl _ w).alloc (Nat.le_refl _) _
  have HB : Hid (Below w.heap.size w (w.alloc (.cells C 26))) := hB0
  have HC : Hid (∀ W, Below (w.heap.size + 1) (w.alloc (.cells C 26)) W → W.cell? ⟨w.heap.size, 33, none⟩ = some (.slice (some ⟨b, off, none⟩) n cap)) := fun W hW => by
    rw [hW.cell (p := ⟨w.heap.size, 33, none⟩) (show w.heap.size < w.heap.size + 1 by omega), cell_of_row _ _ 33 C _ _ HN.out]; exact h33
  have HC2 : Hid (∀ W, Below (w.heap.size + 1) (w.alloc (.cells C 26)) W → W.cell? ⟨w.heap.size, 32, none⟩ = some (.int .i64 (size : Int))) := fun W hW => by
    rw [hW.cell (p := ⟨w.heap.size, 32, none⟩) (show w.heap.size < w.heap.size + 1 by omega), cell_of_row _ _ 32 C _ _ HN.out]; exact h32
  have HR : Hid (∀ W, Below (w.heap.size + 1) (w.alloc (.cells C 26)) W → W.rangeAt b (off + k * 32) (d.map vb)) := fun W hW => rangeAt_below hW (rangeAt_below hB0 hr hbw) (by omega)
  have H1 : Hid ((w.alloc (.cells C 26)).heap.size = w.heap.size + 1) := by show _ = _; simp
  have HG1 : Hid (GW (w.alloc (.cells C 26))) := hG.below hB0 hG.z
  have hz := hG.z
  clear h33 h32 hr hB0 hG
  have hbs := M.bs_size data
  have hk0 : (0 : Int) ≤ (k : Int) := by omega
  have hk1 : (k : Int) < (n : Int) := by omega
  have hk2 : decide ((k : Int) < 0) = false := by simp
  have hk3 : decide ((n : Int) ≤ (k : Int)) = false := by simp; omega
  by_cases hlen : data.length = min 64 (size - 64 * k)
  · have hle : min 64 ((size : Int) - (k : Int) * 64) = (data.length : Int) := by omega
    obtain ⟨q, hq1, hq2⟩ : ∃ q, decide (data.length = min 64 (size - 64 * k) ∧ S.sha data = d) = q ∧ decide (S.sha data = d) = q := ⟨_, rfl, by simp [hlen]⟩
    rw [hq1]
    have hEq : ∀ W, (Op.equalIn 10000 23 (.agg (dg (S.sha data))) (.agg (d.map vb).toArray)).run Tryd.prog W = .ok q W := fun W => by rw [← hq2]; exact eqDg (S.sha data) d (S.sha_length _) hdl W
    have CO : Hid (∀ W T, Below (w.heap.size + 1) (w.alloc (.cells C 26)) W → Calls Tryd.prog 15 #[.slice (some ⟨W.heap.size, 0, none⟩) 1 1] (W.alloc (.cells #[.string (M.bs data)] T)) fun e w' => e = .returned (.agg (dg (S.sha data))) ∧ Below (w.heap.size + 1) (w.alloc (.cells C 26)) w') := fun W T hW => by
      have hWs := hW.size
      rw [H1.out] at hWs
      refine (Of_g data T (GB.refl (HG1.out.below hW (by omega))) hd).mono ?_
      rintro e w' ⟨rfl, hg⟩
      exact ⟨rfl, hW.trans (hg.b.mono (by omega))⟩
    clear hq1 hq2 hd hlen
    go_enter Tryd.func16, Tryd.ntmps16
    go_wp2_with (first
      | (refine wpList_load_row rfl 26 _ rfl w.heap.size rfl 26 C (0, 0) _ HN.out hum rfl (by rw [hsz]; exact info27m) ?_; clear HN)
      | (go_at_call 17; refine (CG.out _).mono ?_; clear CG; rintro e w1 ⟨rfl, hb⟩; rw [H1.out] at hb; have hc := HC.out _ hb))
    have HKP : Hid (∀ W, Below (w.heap.size + 1) (w.alloc (.cells C 26)) W → Below (w.heap.size + 1) (w.alloc (.cells C 26)) W ∧ W.cell? ⟨w.heap.size, 32, none⟩ = some (.int .i64 (size : Int)) ∧ W.cell? ⟨w.heap.size, 33, none⟩ = some (.slice (some ⟨b, off, none⟩) n cap) ∧ W.rangeAt b (off + k * 32) (d.map vb)) :=
      fun W hW => ⟨hW, HC2.out _ hW, HC.out _ hW, HR.out _ hW⟩
    clear HC2 HC HR HG1 hc
    have hw1 : IntKind.i64.wrap ((k : Int) * 64) = (k : Int) * 64 := by rw [IntKind.wrap_i64]; omega
    have hw2 : IntKind.i64.wrap ((size : Int) - (k : Int) * 64) = (size : Int) - (k : Int) * 64 := by rw [IntKind.wrap_i64]; omega
    have hu := und27
    have hi : (Tryd.prog.info? 23).map (·.size) = some (d.map vb).length := by rw [info27, List.length_map, hdl]
    go_region_held3 (fun W => Below (w.heap.size + 1) (w.alloc (.cells C 26)) W ∧ W.cell? ⟨w.heap.size, 32, none⟩ = some (.int .i64 (size : Int)) ∧ W.cell? ⟨w.heap.size, 33, none⟩ = some (.slice (some ⟨b, off, none⟩) n cap) ∧ W.rangeAt b (off + k * 32) (d.map vb))
      (first | exact HKP.out _ HS | exact HKP.out _ hb.drew | exact HKP.out _ (hb.drew.alloc (by have h := hb.size; rw [H1.out] at h; exact h) _))
      ((go_at_call 15; refine (CO.out _ _ hb.drew).mono ?_; rintro e w' ⟨rfl, HS⟩))
    go_wp2_with fail
    go_ret
    exact ⟨rfl, HB.out.trans (HS.mono (by omega))⟩
  · obtain ⟨m, hm⟩ : ∃ m, m = min 64 (size - 64 * k) := ⟨_, rfl⟩
    have hle : min 64 ((size : Int) - (k : Int) * 64) = (m : Int) := by omega
    have hne : ((data.length : Int) == (m : Int)) = false := by simp; omega
    rw [show decide (data.length = min 64 (size - 64 * k) ∧ S.sha data = d) = false by simp [hlen]]
    have hw1 : IntKind.i64.wrap ((k : Int) * 64) = (k : Int) * 64 := by rw [IntKind.wrap_i64]; omega
    have hw2 : IntKind.i64.wrap ((size : Int) - (k : Int) * 64) = (size : Int) - (k : Int) * 64 := by rw [IntKind.wrap_i64]; omega
    clear hlen hm hd
    go_enter Tryd.func16, Tryd.ntmps16
    go_wp2_with (first
      | (refine wpList_load_row rfl 26 _ rfl w.heap.size rfl 26 C (0, 0) _ HN.out hum rfl (by rw [hsz]; exact info27m) ?_; clear HN)
      | (go_at_call 17; refine (CG.out _).mono ?_; clear CG; rintro e w1 ⟨rfl, hb⟩; rw [H1.out] at hb; have hc := HC.out _ hb))
    have hc2 := HC2.out _ hb
    clear HC2 HC HR HG1 hc
    go_quiet (fail)
    go_wp2_with fail
    go_ret
    exact ⟨rfl, HB.out.trans ((below_drewN hb _).mono (by omega))⟩

/-- WHAT Fits ANSWERS -/
theorem Fits_at (whole : List UInt8) (size : Int) (P : List (List UInt8)) (a : Option Addr) (cap : Nat) (at_ : Int) (data : List UInt8) (w : World) (hw : whole.length = 32) (hG : GW w) (hP : Dgs w.heap.size w a P)
    (hd : data.length ≤ 576460752303423488) :
    Calls Tryd.prog 16 #[.agg (mv whole size a P.length cap), .int .i64 at_, .string (M.bs data)] w fun e w' => e = .returned (.bool (fitsB size P at_ data)) ∧ Below w.heap.size w w' := by
  by_cases hno : goodB size P.length = false ∨ at_ < 0 ∨ (P.length : Int) ≤ at_
  · have e : fitsB size P at_ data = false := by
      unfold fitsB
      rcases hno with h | h | h
      · simp [h]
      · have : decide (0 ≤ at_) = false := by simp; omega
        simp [this]
      · have : decide (at_ < P.length) = false := by simp; omega
        simp [this]
    rw [e]
    exact fits_no whole size a P.length cap at_ data w hw hno
  · simp only [not_or] at hno
    obtain ⟨h1, h2, h3⟩ := hno
    have h1' : goodB size P.length = true := by simpa using h1
    have h1'' := h1'
    unfold goodB at h1''
    simp only [decide_eq_true_eq] at h1''
    obtain ⟨g1, g2, g3⟩ := h1''
    obtain ⟨s, rfl⟩ := Int.eq_ofNat_of_zero_le g1
    obtain ⟨k, rfl⟩ := Int.eq_ofNat_of_zero_le (show 0 ≤ at_ by omega)
    have e : fitsB (s : Int) P (k : Int) data = decide (data.length = min 64 (s - 64 * k) ∧ S.sha data = P.getD k []) := by
      unfold fitsB
      have hk : k < P.length := by omega
      have hks : 64 * k < s := by rw [g3] at hk; unfold S.nch at hk; simp at hk; omega
      have e1 : ((data.length : Int) = min 64 ((s : Int) - (k : Int) * 64)) ↔ (data.length = min 64 (s - 64 * k)) := by omega
      have e2 : decide ((k : Int) < P.length) = true := by simp; omega
      rw [h1', e2]
      simp only [e1, Int.toNat_natCast]
      simp
    rw [e]
    exact fits_go whole s k P a cap data w hw hG hP (by omega) (by simpa using g3) (by omega) hd
end Go.Proofs.YtahdmhenkjbimaaDoor
