/- What the reference's Good and Fits answer. -/
import Derived.Test.YtkbggcmjicaifaaDoorC5
import Derived.Test.YtkbggcmjicaifaaDoorX3
namespace Go.Proofs.YtkbggcmjicaifaaDoor
open Go.RowKit
set_option linter.unusedVariables false
set_option linter.unusedSimpArgs false

theorem rGood_at (whole : List UInt8) (size : Int) (a : Option Addr) (n cap : Nat) (w : World) (hw : whole.length = 32) :
    Calls Tryd.prog 25 #[.agg (mv whole size a n cap)] w fun e w' => e = .returned (.bool (goodB size n)) ∧ Below w.heap.size w w' := by
  have h32 := mv_32 whole size a n cap hw
  have h33 := mv_33 whole size a n cap hw
  generalize mv whole size a n cap = C at *
  have HB : Hid (Below w.heap.size w (w.alloc (.cells C 34))) := (Below.refl _ w).alloc (Nat.le_refl _) _
  by_cases h1 : 0 ≤ size
  · by_cases h2 : size ≤ 512
    · obtain ⟨k, rfl⟩ := Int.eq_ofNat_of_zero_le h1
      obtain ⟨q, hq1, hq2⟩ : ∃ q, goodB (k : Int) n = q ∧ ((n : Int) == (S.nch k : Int)) = q := ⟨_, rfl, by
        unfold goodB
        by_cases h : n = S.nch k
        · simp [h]; omega
        · simp [h]; omega⟩
      have hd : Int.tdiv ((k : Int) + 63) 64 = (S.nch k : Int) := by unfold S.nch; rw [Int.tdiv_eq_ediv_of_nonneg (by omega)]; omega
      have hwr : IntKind.i64.wrap ((k : Int) + 63) = (k : Int) + 63 := by rw [IntKind.wrap_i64]; omega
      have hn : S.nch k ≤ 1000000 := by unfold S.nch; omega
      rw [hq1]
      clear hq1
      go_enter Tryd.func25, Tryd.ntmps25
      go_wp2_with fail
      go_ret
      exact ⟨rfl, HB.out⟩
    · have hg : goodB size n = false := by unfold goodB; simp; omega
      rw [hg]
      have hd : decide (size ≤ 512) = false := by simp; omega
      go_enter Tryd.func25, Tryd.ntmps25
      go_wp2_with fail
      go_ret
      exact ⟨rfl, HB.out⟩
  · have hg : goodB size n = false := by unfold goodB; simp; omega
    rw [hg]
    have hd : decide (0 ≤ size) = false := by simp; omega
    go_enter Tryd.func25, Tryd.ntmps25
    go_wp2_with fail
    go_ret
    exact ⟨rfl, HB.out⟩

theorem rfits_no (whole : List UInt8) (size : Int) (a : Option Addr) (n cap : Nat) (at_ : Int) (data : List UInt8) (w : World) (hw : whole.length = 32)
    (hno : goodB size n = false ∨ at_ < 0 ∨ (n : Int) ≤ at_) :
    Calls Tryd.prog 27 #[.agg (mv whole size a n cap), .int .i64 at_, .string (M.bs data)] w fun e w' => e = .returned (.bool false) ∧ Below w.heap.size w w' := by
  have h33 := mv_33 whole size a n cap hw
  have hsz := mv_size whole size a n cap hw
  obtain ⟨fs, hum⟩ := und27m
  obtain ⟨g, hg⟩ : ∃ g, goodB size n = g := ⟨_, rfl⟩
  have CG : Hid (∀ W, Calls Tryd.prog 25 #[.agg (mv whole size a n cap)] W fun e w' => e = .returned (.bool g) ∧ Below W.heap.size W w') := fun W => by
    rw [← hg]; exact rGood_at whole size a n cap W hw
  rw [hg] at hno
  clear hg
  generalize mv whole size a n cap = C at *
  have HN : Hid ((w.alloc (.cells C 34)).heap[w.heap.size]? = some (.cells C 34 (0, 0))) := heap_alloc_new _ _
  have HB : Hid (Below w.heap.size w (w.alloc (.cells C 34))) := (Below.refl _ w).alloc (Nat.le_refl _) _
  have HC : Hid (∀ W, Below (w.heap.size + 1) (w.alloc (.cells C 34)) W → W.cell? ⟨w.heap.size, 33, none⟩ = some (.slice a n cap)) := fun W hW => by
    rw [hW.cell (p := ⟨w.heap.size, 33, none⟩) (show w.heap.size < w.heap.size + 1 by omega), cell_of_row _ _ 33 C _ _ HN.out]; exact h33
  have H1 : Hid ((w.alloc (.cells C 34)).heap.size = w.heap.size + 1) := by show _ = _; simp
  clear h33
  rcases Bool.eq_false_or_eq_true g with rfl | rfl
  · have hno' : at_ < 0 ∨ (n : Int) ≤ at_ := by simpa using hno
    clear hno
    by_cases h0 : at_ < 0
    · go_enter Tryd.func27, Tryd.ntmps27
      go_wp2_with (first
        | refine wpList_load_row rfl 34 _ rfl w.heap.size rfl 34 C (0, 0) _ HN.out hum rfl (by rw [hsz]; exact info27m) ?_
        | (go_at_call 25; refine (CG.out _).mono ?_; rintro e w1 ⟨rfl, hb⟩; rw [H1.out] at hb; have hc := HC.out _ hb))
      go_ret
      exact ⟨rfl, HB.out.trans (hb.mono (by omega))⟩
    · have h0' : decide (at_ < 0) = false := by simp; omega
      have h1' : (n : Int) ≤ at_ := by omega
      go_enter Tryd.func27, Tryd.ntmps27
      go_wp2_with (first
        | refine wpList_load_row rfl 34 _ rfl w.heap.size rfl 34 C (0, 0) _ HN.out hum rfl (by rw [hsz]; exact info27m) ?_
        | (go_at_call 25; refine (CG.out _).mono ?_; rintro e w1 ⟨rfl, hb⟩; rw [H1.out] at hb; have hc := HC.out _ hb))
      go_ret
      exact ⟨rfl, HB.out.trans (hb.mono (by omega))⟩
  · clear hno
    go_enter Tryd.func27, Tryd.ntmps27
    go_wp2_with (first
      | refine wpList_load_row rfl 34 _ rfl w.heap.size rfl 34 C (0, 0) _ HN.out hum rfl (by rw [hsz]; exact info27m) ?_
      | (go_at_call 25; refine (CG.out _).mono ?_; rintro e w1 ⟨rfl, hb⟩; rw [H1.out] at hb; have hc := HC.out _ hb))
    go_ret
    exact ⟨rfl, HB.out.trans (hb.mono (by omega))⟩

theorem decide_and_true {p q : Prop} [Decidable p] [Decidable q] (h : p) : decide (p ∧ q) = decide q := by simp [h]
theorem decide_and_false {p q : Prop} [Decidable p] [Decidable q] (h : ¬ p) : decide (p ∧ q) = false := by simp [h]

set_option maxRecDepth 8000 in
set_option maxHeartbeats 1000000 in
theorem rfits_go (whole : List UInt8) (size k : Nat) (P : List (List UInt8)) (a : Option Addr) (cap : Nat) (data : List UInt8) (w : World) (hw : whole.length = 32) (hP : Dgs w.heap.size w a P)
    (hs : size ≤ 512) (hg : P.length = S.nch size) (hk : k < P.length) (hd : data.length ≤ 1048576) :
    Calls Tryd.prog 27 #[.agg (mv whole (size : Int) a P.length cap), .int .i64 (k : Int), .string (M.bs data)] w fun e w' => e = .returned (.bool (decide (data.length = min 64 (size - 64 * k) ∧ S.sha data = P.getD k []))) ∧ Below w.heap.size w w' := by
  have h33 := mv_33 whole (size : Int) a P.length cap hw
  have h32 := mv_32 whole (size : Int) a P.length cap hw
  have hsz := mv_size whole (size : Int) a P.length cap hw
  have hgd : goodB (size : Int) P.length = true := by unfold goodB; simp; omega
  have hks : 64 * k < size := by rw [hg] at hk; unfold S.nch at hk; omega
  obtain ⟨fs, hum⟩ := und27m
  obtain ⟨d, hdk⟩ : ∃ d, P[k]? = some d := ⟨P[k], List.getElem?_eq_getElem hk⟩
  obtain ⟨hdl, b, off, rfl, hbw, hr⟩ := hP k d hdk
  have hgd2 : P.getD k [] = d := by rw [List.getD_eq_getElem?_getD, hdk]; rfl
  rw [hgd2]
  clear hgd2 hP hdk
  have hPn : P.length ≤ 8 := by rw [hg]; unfold S.nch; omega
  have CG : Hid (∀ W, Calls Tryd.prog 25 #[.agg (mv whole (size : Int) (some ⟨b, off, none⟩) P.length cap)] W fun e w' => e = .returned (.bool true) ∧ Below W.heap.size W w') := fun W => by
    rw [← hgd]; exact rGood_at whole (size : Int) _ P.length cap W hw
  clear hgd hg
  generalize P.length = n at *
  generalize mv whole (size : Int) (some ⟨b, off, none⟩) n cap = C at *
  have HN : Hid ((w.alloc (.cells C 34)).heap[w.heap.size]? = some (.cells C 34 (0, 0))) := heap_alloc_new _ _
  have hB0 : Below w.heap.size w (w.alloc (.cells C 34)) := (Below.refl _ w).alloc (Nat.le_refl _) _
  have HB : Hid (Below w.heap.size w (w.alloc (.cells C 34))) := hB0
  have HC : Hid (∀ W, Below (w.heap.size + 1) (w.alloc (.cells C 34)) W → W.cell? ⟨w.heap.size, 33, none⟩ = some (.slice (some ⟨b, off, none⟩) n cap)) := fun W hW => by
    rw [hW.cell (p := ⟨w.heap.size, 33, none⟩) (show w.heap.size < w.heap.size + 1 by omega), cell_of_row _ _ 33 C _ _ HN.out]; exact h33
  have HC2 : Hid (∀ W, Below (w.heap.size + 1) (w.alloc (.cells C 34)) W → W.cell? ⟨w.heap.size, 32, none⟩ = some (.int .i64 (size : Int))) := fun W hW => by
    rw [hW.cell (p := ⟨w.heap.size, 32, none⟩) (show w.heap.size < w.heap.size + 1 by omega), cell_of_row _ _ 32 C _ _ HN.out]; exact h32
  have HR : Hid (∀ W, Below (w.heap.size + 1) (w.alloc (.cells C 34)) W → W.rangeAt b (off + k * 32) (d.map vb)) := fun W hW => rangeAt_below hW (rangeAt_below hB0 hr hbw) (by omega)
  have H1 : Hid ((w.alloc (.cells C 34)).heap.size = w.heap.size + 1) := by show _ = _; simp
  clear h33 h32 hr hB0
  have hbs := M.bs_size data
  have hk0 : (0 : Int) ≤ (k : Int) := by omega
  have hk1 : (k : Int) < (n : Int) := by omega
  have hk2 : decide ((k : Int) < 0) = false := by simp
  have hk3 : decide ((n : Int) ≤ (k : Int)) = false := by simp; omega
  have hw1 : IntKind.i64.wrap (64 * (k : Int)) = 64 * (k : Int) := by rw [IntKind.wrap_i64]; omega
  have hw2 : IntKind.i64.wrap ((size : Int) - 64 * (k : Int)) = (size : Int) - 64 * (k : Int) := by rw [IntKind.wrap_i64]; omega
  obtain ⟨N, hN⟩ : ∃ N : Nat, N = size - 64 * k := ⟨_, rfl⟩
  have hNI : (size : Int) - 64 * (k : Int) = (N : Int) := by omega
  have hNw : IntKind.i64.wrap (N : Int) = (N : Int) := by rw [IntKind.wrap_i64]; omega
  rw [hNI] at hw2
  rw [← hN]
  clear hN hks
  have CO : Hid (∀ W, Below (w.heap.size + 1) (w.alloc (.cells C 34)) W → Calls Tryd.prog 11 #[.string (M.bs data)] W fun e w' => e = .returned (.agg (dg (S.sha data))) ∧ Below (w.heap.size + 1) (w.alloc (.cells C 34)) w') := fun W hW => by
      have hWs := hW.size
      rw [H1.out] at hWs
      refine (rOf data hd W).mono ?_
      rintro e w' ⟨rfl, hg⟩
      exact ⟨rfl, hW.trans (hg.mono (by omega))⟩
  have HKP : Hid (∀ W, Below (w.heap.size + 1) (w.alloc (.cells C 34)) W → Below (w.heap.size + 1) (w.alloc (.cells C 34)) W ∧ W.cell? ⟨w.heap.size, 33, none⟩ = some (.slice (some ⟨b, off, none⟩) n cap) ∧ W.rangeAt b (off + k * 32) (d.map vb)) :=
      fun W hW => ⟨hW, HC.out _ hW, HR.out _ hW⟩
  have hu := und27
  have hi : (Tryd.prog.info? 27).map (·.size) = some (d.map vb).length := by rw [info27, List.length_map, hdl]
  obtain ⟨q, hq2⟩ : ∃ q, decide (S.sha data = d) = q := ⟨_, rfl⟩
  have hEq : ∀ W, (Op.equalIn 10000 27 (.agg (dg (S.sha data))) (.agg (d.map vb).toArray)).run Tryd.prog W = .ok q W := fun W => by rw [← hq2]; exact eqDg (S.sha data) d (S.sha_length _) hdl W
  obtain ⟨M, hM⟩ : ∃ M : Nat, M = min 64 N := ⟨_, rfl⟩
  rw [← hM]
  have HM : Hid ((64 < N → M = 64) ∧ (¬ 64 < N → M = N)) := ⟨fun h => by omega, fun h => by omega⟩
  clear hM
  by_cases h64 : 64 < N
  · obtain rfl := HM.out.1 h64
    have hd64 : decide ((N : Int) > 64) = true := by simp; omega
    have hd65 : (64 : Int) < (N : Int) := by omega
    clear HM
    by_cases hlen : data.length = 64
    · have hll : ((data.length : Int) == 64) = true := by simp; omega
      rw [decide_and_true hlen, hq2]
      clear hq2 hlen
      go_enter Tryd.func27, Tryd.ntmps27
      go_wp2_with (first
        | (refine wpList_load_row rfl 34 _ rfl w.heap.size rfl 34 C (0, 0) _ HN.out hum rfl (by rw [hsz]; exact info27m) ?_; clear HN)
        | (go_at_call 25; refine (CG.out _).mono ?_; clear CG; rintro e w1 ⟨rfl, hb⟩; rw [H1.out] at hb; have hc := HC.out _ hb; have hc2 := HC2.out _ hb))
      clear HC2 HC HR hc hc2
      go_region_held3 (fun W => Below (w.heap.size + 1) (w.alloc (.cells C 34)) W ∧ W.cell? ⟨w.heap.size, 33, none⟩ = some (.slice (some ⟨b, off, none⟩) n cap) ∧ W.rangeAt b (off + k * 32) (d.map vb))
        (first | exact HKP.out _ HS | exact HKP.out _ hb.drew)
        ((go_at_call 11; refine (CO.out _ hb.drew).mono ?_; rintro e w' ⟨rfl, HS⟩))
      go_wp2_with fail
      go_ret
      exact ⟨rfl, HB.out.trans (HS.mono (by omega))⟩
    · rw [decide_and_false hlen]
      have hne : ((data.length : Int) == 64) = false := by simp; omega
      clear hq2 hlen
      go_enter Tryd.func27, Tryd.ntmps27
      go_wp2_with (first
        | (refine wpList_load_row rfl 34 _ rfl w.heap.size rfl 34 C (0, 0) _ HN.out hum rfl (by rw [hsz]; exact info27m) ?_; clear HN)
        | (go_at_call 25; refine (CG.out _).mono ?_; clear CG; rintro e w1 ⟨rfl, hb⟩; rw [H1.out] at hb; have hc := HC.out _ hb; have hc2 := HC2.out _ hb))
      clear HC2 HC HR hc hc2
      go_quiet (fail)
      go_wp2_with fail
      go_ret
      exact ⟨rfl, HB.out.trans ((below_drewN hb _).mono (by omega))⟩
  · obtain rfl := HM.out.2 h64
    have hd65 : ¬ (64 : Int) < (M : Int) := by omega
    clear HM
    by_cases hlen : data.length = M
    · have hll : ((data.length : Int) == (M : Int)) = true := by simp; omega
      rw [decide_and_true hlen, hq2]
      clear hq2 hlen
      go_enter Tryd.func27, Tryd.ntmps27
      go_wp2_with (first
        | (refine wpList_load_row rfl 34 _ rfl w.heap.size rfl 34 C (0, 0) _ HN.out hum rfl (by rw [hsz]; exact info27m) ?_; clear HN)
        | (go_at_call 25; refine (CG.out _).mono ?_; clear CG; rintro e w1 ⟨rfl, hb⟩; rw [H1.out] at hb; have hc := HC.out _ hb; have hc2 := HC2.out _ hb))
      clear HC2 HC HR hc hc2
      go_region_held3 (fun W => Below (w.heap.size + 1) (w.alloc (.cells C 34)) W ∧ W.cell? ⟨w.heap.size, 33, none⟩ = some (.slice (some ⟨b, off, none⟩) n cap) ∧ W.rangeAt b (off + k * 32) (d.map vb))
        (first | exact HKP.out _ HS | exact HKP.out _ hb.drew)
        ((go_at_call 11; refine (CO.out _ hb.drew).mono ?_; rintro e w' ⟨rfl, HS⟩))
      go_wp2_with fail
      go_ret
      exact ⟨rfl, HB.out.trans (HS.mono (by omega))⟩
    · rw [decide_and_false hlen]
      have hne : ((data.length : Int) == (M : Int)) = false := by simp; omega
      clear hq2 hlen
      go_enter Tryd.func27, Tryd.ntmps27
      go_wp2_with (first
        | (refine wpList_load_row rfl 34 _ rfl w.heap.size rfl 34 C (0, 0) _ HN.out hum rfl (by rw [hsz]; exact info27m) ?_; clear HN)
        | (go_at_call 25; refine (CG.out _).mono ?_; clear CG; rintro e w1 ⟨rfl, hb⟩; rw [H1.out] at hb; have hc := HC.out _ hb; have hc2 := HC2.out _ hb))
      clear HC2 HC HR hc hc2
      go_quiet (fail)
      go_wp2_with fail
      go_ret
      exact ⟨rfl, HB.out.trans ((below_drewN hb _).mono (by omega))⟩

/-- WHAT Fits ANSWERS -/
theorem rFits_at (whole : List UInt8) (size : Int) (P : List (List UInt8)) (a : Option Addr) (cap : Nat) (at_ : Int) (data : List UInt8) (w : World) (hw : whole.length = 32) (hP : Dgs w.heap.size w a P)
    (hd : data.length ≤ 1048576) :
    Calls Tryd.prog 27 #[.agg (mv whole size a P.length cap), .int .i64 at_, .string (M.bs data)] w fun e w' => e = .returned (.bool (fitsB size P at_ data)) ∧ Below w.heap.size w w' := by
  by_cases hno : goodB size P.length = false ∨ at_ < 0 ∨ (P.length : Int) ≤ at_
  · have e : fitsB size P at_ data = false := by
      unfold fitsB
      rcases hno with h | h | h
      · simp [h]
      · have : decide (0 ≤ at_) = false := by simp; omega
        simp [this]
      · have : decide (at_ < P.length) = false := by simp; omega
        simp [this]
    rw [e]
    exact rfits_no whole size a P.length cap at_ data w hw hno
  · simp only [not_or] at hno
    obtain ⟨h1, h2, h3⟩ := hno
    have h1' : goodB size P.length = true := by simpa using h1
    have h1'' := h1'
    unfold goodB at h1''
    simp only [decide_eq_true_eq] at h1''
    obtain ⟨g1, g2, g3⟩ := h1''
    obtain ⟨s, rfl⟩ := Int.eq_ofNat_of_zero_le g1
    obtain ⟨k, rfl⟩ := Int.eq_ofNat_of_zero_le (show 0 ≤ at_ by omega)
    have e : fitsB (s : Int) P (k : Int) data = decide (data.length = min 64 (s - 64 * k) ∧ S.sha data = P.getD k []) := by
      unfold fitsB
      have hk : k < P.length := by omega
      have hks : 64 * k < s := by rw [g3] at hk; unfold S.nch at hk; simp at hk; omega
      have e1 : ((data.length : Int) = min 64 ((s : Int) - (k : Int) * 64)) ↔ (data.length = min 64 (s - 64 * k)) := by omega
      have e2 : decide ((k : Int) < P.length) = true := by simp; omega
      rw [h1', e2]
      simp only [e1, Int.toNat_natCast]
      simp
    rw [e]
    exact rfits_go whole s k P a cap data w hw hP (by omega) (by simpa using g3) (by omega) hd
end Go.Proofs.YtkbggcmjicaifaaDoor
