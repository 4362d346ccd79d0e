/- What comb.Join answers. -/
import Derived.Test.YtahdmhenkjbimaaDoorC4
import Derived.Test.YtahdmhenkjbimaaDoorShelf2
namespace Go.Proofs.YtahdmhenkjbimaaDoor
open Go.RowKit
set_option linter.unusedVariables false

theorem TX.below {B : Nat} {w w' : World} {a : Option Addr} {l : List (List UInt8)} (h : TX w a l) (hb : Below B w w') (hB : w.heap.size ≤ B) : TX w' a l := fun i t ht => by
  obtain ⟨sb, off, h1, h2, h3⟩ := h i t ht
  exact ⟨sb, off, h1, by have := hb.size; omega, by rw [hb.cell (p := ⟨sb, off + i, none⟩) (show sb < B by omega)]; exact h3⟩
theorem tx_strs {w : World} {a : Option Addr} {l : List (List UInt8)} {c : Nat} (h : TX w a l) : Strs w.heap.size w (.slice a l.length c) l := by
  cases l with
  | nil => exact Or.inl ⟨rfl, a, c, rfl⟩
  | cons t l =>
    obtain ⟨sb, off, rfl, h2, h3⟩ := h 0 t rfl
    refine Or.inr ⟨sb, off, c, rfl, h2, fun i u hu => ?_⟩
    obtain ⟨sb', off', h1', h2', h3'⟩ := h i u hu
    simp only [Option.some.injEq, Addr.mk.injEq, and_true] at h1'
    obtain ⟨rfl, rfl⟩ := h1'
    exact h3'
theorem flat_len (l : List (List UInt8)) (c : Nat) (h : ∀ t ∈ l, t.length ≤ c) : l.flatten.length ≤ c * l.length := by
  induction l with
  | nil => simp
  | cons t l ih =>
    have h1 := h t (by simp)
    have h2 := ih (fun t ht => h t (by simp [ht]))
    rw [List.flatten_cons, List.length_append, List.length_cons, Nat.mul_succ]
    omega

set_option maxRecDepth 8000 in
theorem join_arg (whole : List UInt8) (size : Int) (pa : Option Addr) (n pc : Nat) (a : Option Addr) (m c : Nat) (w : World) (hw : whole.length = 32) (hn : n ≤ 9223372036854775807) (hm : m ≤ 9223372036854775807)
    (hno : goodB size n = false ∨ m ≠ n) :
    Calls Tryd.prog 14 #[.agg (mv whole size pa n pc), .slice a m c] w fun e w' => e = .returned (.tuple #[.string ⟨#[]⟩, .int .i64 1]) ∧ Below w.heap.size w w' := by
  have h33 := mv_33 whole size pa n pc hw
  have hsz := mv_size whole size pa n pc hw
  obtain ⟨fs, hum⟩ := und27m
  obtain ⟨g, hg⟩ : ∃ g, goodB size n = g := ⟨_, rfl⟩
  have CG : Hid (∀ W, Calls Tryd.prog 17 #[.agg (mv whole size pa n pc)] W fun e w' => e = .returned (.bool g) ∧ Below W.heap.size W w') := fun W => by
    rw [← hg]; exact Good_at whole size pa n pc W hw
  rw [hg] at hno
  clear hg
  generalize mv whole size pa n pc = C at *
  have HN : Hid ((w.alloc (.cells C 26)).heap[w.heap.size]? = some (.cells C 26 (0, 0))) := heap_alloc_new _ _
  have HB : Hid (Below w.heap.size w (w.alloc (.cells C 26))) := (Below.refl _ w).alloc (Nat.le_refl _) _
  have HC : Hid (∀ W, Below (w.heap.size + 1) (w.alloc (.cells C 26)) W → W.cell? ⟨w.heap.size, 33, none⟩ = some (.slice pa n pc)) := fun W hW => by
    rw [hW.cell (p := ⟨w.heap.size, 33, none⟩) (show w.heap.size < w.heap.size + 1 by omega), cell_of_row _ _ 33 C _ _ HN.out]; exact h33
  have H1 : Hid ((w.alloc (.cells C 26)).heap.size = w.heap.size + 1) := by show _ = _; simp
  clear h33
  rcases Bool.eq_false_or_eq_true g with rfl | rfl
  · have hno' : ((m : Int) == (n : Int)) = false := by simp at hno ⊢; omega
    clear hno
    go_enter Tryd.func14, Tryd.ntmps14
    go_wp2_with (first
      | (refine wpList_load_row rfl 26 _ rfl w.heap.size rfl 26 C (0, 0) _ HN.out hum rfl (by rw [hsz]; exact info27m) ?_; clear HN)
      | (go_at_call 17; refine (CG.out _).mono ?_; clear CG; rintro e w1 ⟨rfl, hb⟩; rw [H1.out] at hb; have hc := HC.out _ hb))
    go_ret2
    exact ⟨rfl, HB.out.trans (hb.mono (by omega))⟩
  · clear hno
    go_enter Tryd.func14, Tryd.ntmps14
    go_wp2_with (first
      | (refine wpList_load_row rfl 26 _ rfl w.heap.size rfl 26 C (0, 0) _ HN.out hum rfl (by rw [hsz]; exact info27m) ?_; clear HN)
      | (go_at_call 17; refine (CG.out _).mono ?_; clear CG; rintro e w1 ⟨rfl, hb⟩; rw [H1.out] at hb; have hc := HC.out _ hb))
    go_ret2
    exact ⟨rfl, HB.out.trans (hb.mono (by omega))⟩

set_option maxRecDepth 8000 in
set_option maxHeartbeats 1000000 in
theorem join_loop (whole : List UInt8) (size : Int) (P : List (List UInt8)) (pa : Option Addr) (pc : Nat) (L : List (List UInt8)) (a : Option Addr) (c : Nat) (w : World) (hw : whole.length = 32) (hG : GW w) (hP : Dgs w.heap.size w pa P)
    (hT : TX w a L) (hc : L.length ≤ c) (hgd : goodB size P.length = true) (hln : L.length = P.length) (hlen : ∀ t ∈ L, t.length ≤ 1000000)
    (j : Nat) (hj : j ≤ L.length) (hfit : ∀ k, k < j → fitsB size P (k : Int) (L.getD k []) = true) (hbad : j < L.length → fitsB size P (j : Int) (L.getD j []) = false) (X : List UInt8) (E : Int)
    (hX : (j < L.length ∧ X = [] ∧ E = 5) ∨ (j = L.length ∧ S.sha L.flatten = whole ∧ X = L.flatten ∧ E = 0) ∨ (j = L.length ∧ S.sha L.flatten ≠ whole ∧ X = [] ∧ E = 5)) :
    Calls Tryd.prog 14 #[.agg (mv whole size pa P.length pc), .slice a L.length c] w fun e w' => e = .returned (.tuple #[.string (M.bs X), .int .i64 E]) ∧ Below w.heap.size w w' := by
  have h33 := mv_33 whole size pa P.length pc hw
  have hsz := mv_size whole size pa P.length pc hw
  have hPn : P.length ≤ 8 := by unfold goodB at hgd; simp only [decide_eq_true_eq] at hgd; unfold S.nch at hgd; omega
  obtain ⟨fs, hum⟩ := und27m
  have hGz := hG.z
  have hB0 : Below w.heap.size w (w.alloc (.cells (mv whole size pa P.length pc) 26)) := (Below.refl _ w).alloc (Nat.le_refl _) _
  have e1 : (w.alloc (.cells (mv whole size pa P.length pc) 26)).heap.size = w.heap.size + 1 := by simp
  have CG : Hid (∀ W, Calls Tryd.prog 17 #[.agg (mv whole size pa P.length pc)] W fun e w' => e = .returned (.bool true) ∧ Below W.heap.size W w') := fun W => by
    rw [← hgd]; exact Good_at whole size pa P.length pc W hw
  have CF : Hid (∀ W (k : Nat) t, Below (w.heap.size + 1) (w.alloc (.cells (mv whole size pa P.length pc) 26)) W → L[k]? = some t → Calls Tryd.prog 16 #[.agg (mv whole size pa P.length pc), .int .i64 (k : Int), .string (M.bs t)] W fun e w' => e = .returned (.bool (fitsB size P (k : Int) t)) ∧ Below (w.heap.size + 1) (w.alloc (.cells (mv whole size pa P.length pc) 26)) w') := fun W k t hW ht => by
    have hWs := hW.size
    rw [e1] at hWs
    have hBW : Below w.heap.size w W := hB0.trans (hW.mono (by omega))
    refine (Fits_at whole size P pa pc (k : Int) t W hw (hG.below hBW hGz) (hP.below hBW (by omega)) (by have := hlen t (List.mem_of_getElem? ht); omega)).mono ?_
    rintro e w' ⟨rfl, hb⟩
    exact ⟨rfl, hW.trans (hb.mono hWs)⟩
  have CO : Hid (∀ W, Below (w.heap.size + 1) (w.alloc (.cells (mv whole size pa P.length pc) 26)) W → Calls Tryd.prog 15 #[.slice a L.length c] W fun e w' => e = .returned (.agg (dg (S.sha L.flatten))) ∧ Below (w.heap.size + 1) (w.alloc (.cells (mv whole size pa P.length pc) 26)) w') := fun W hW => by
    have hWs := hW.size
    rw [e1] at hWs
    have hBW : Below w.heap.size w W := hB0.trans (hW.mono (by omega))
    have hfl := flat_len L 1000000 hlen
    refine (Of_at L a c W (hG.below hBW hGz) (hT.below hBW (Nat.le_refl _)) (by omega) (by omega)).mono ?_
    rintro e w' ⟨rfl, hb⟩
    exact ⟨rfl, hW.trans (hb.mono hWs)⟩
  have CJ : Hid (∀ W, Below (w.heap.size + 1) (w.alloc (.cells (mv whole size pa P.length pc) 26)) W → Calls Tryd.prog 35 #[.slice a L.length c, .string ⟨#[]⟩] W fun e w' => e = .returned (.string (M.bs L.flatten)) ∧ Below (w.heap.size + 1) (w.alloc (.cells (mv whole size pa P.length pc) 26)) w') := fun W hW => by
    have hWs := hW.size
    rw [e1] at hWs
    have hBW : Below w.heap.size w W := hB0.trans (hW.mono (by omega))
    have hfl := flat_len L 1000000 hlen
    refine (joinS _ L W (tx_strs (hT.below hBW (Nat.le_refl _))) (fun a' n' c' h => by simp only [Value.slice.injEq] at h; omega) (by omega) (by omega)).mono ?_
    rintro e w' ⟨rfl, hb⟩
    exact ⟨rfl, hW.trans (hb.mono hWs)⟩
  have HN : Hid ((w.alloc (.cells (mv whole size pa P.length pc) 26)).heap[w.heap.size]? = some (.cells (mv whole size pa P.length pc) 26 (0, 0))) := heap_alloc_new _ _
  have HNW : Hid (∀ W, Below (w.heap.size + 1) (w.alloc (.cells (mv whole size pa P.length pc) 26)) W → W.heap[w.heap.size]? = some (.cells (mv whole size pa P.length pc) 26 (0, 0))) := fun W hW => by rw [hW.block _ (by omega)]; exact HN.out
  have HR : Hid (∀ W, Below (w.heap.size + 1) (w.alloc (.cells (mv whole size pa P.length pc) 26)) W → W.rangeAt w.heap.size 0 (whole.map vb)) := fun W hW => mv_range _ _ _ _ _ (HNW.out W hW) hw
  have HTX : Hid (∀ W (k : Nat) t, Below (w.heap.size + 1) (w.alloc (.cells (mv whole size pa P.length pc) 26)) W → L[k]? = some t → ∃ sb off, a = some ⟨sb, off, none⟩ ∧ W.cell? ⟨sb, off + k, none⟩ = some (.string (M.bs t))) := fun W k t hW ht => by
    have hWs := hW.size
    rw [e1] at hWs
    obtain ⟨sb, off, h1, h2, h3⟩ := (hT.below (hB0.trans (hW.mono (by omega))) (Nat.le_refl _)) k t ht
    exact ⟨sb, off, h1, h3⟩
  have HC : Hid (∀ W, Below (w.heap.size + 1) (w.alloc (.cells (mv whole size pa P.length pc) 26)) W → W.cell? ⟨w.heap.size, 33, none⟩ = some (.slice pa P.length pc)) := fun W hW => by
    rw [cell_of_row _ _ 33 _ _ _ (HNW.out W hW)]; exact h33
  have HB : Hid (Below w.heap.size w (w.alloc (.cells (mv whole size pa P.length pc) 26))) := hB0
  have HX : Hid ((j < L.length ∧ X = [] ∧ E = 5) ∨ (j = L.length ∧ S.sha L.flatten = whole ∧ X = L.flatten ∧ E = 0) ∨ (j = L.length ∧ S.sha L.flatten ≠ whole ∧ X = [] ∧ E = 5)) := hX
  have HFT : Hid (∀ k, k < j → fitsB size P (k : Int) (L.getD k []) = true) := hfit
  have HBD : Hid (j < L.length → fitsB size P (j : Int) (L.getD j []) = false) := hbad
  have H1 : Hid ((w.alloc (.cells (mv whole size pa P.length pc) 26)).heap.size = w.heap.size + 1) := e1
  clear h33 hB0 e1 hX hfit hbad hT hP hG hgd
  generalize mv whole size pa P.length pc = C at *
  have hlnI : ((L.length : Int) != (P.length : Int)) = false := by simp; omega
  have hLn : L.length ≤ 8 := by omega
  clear hln
  go_enter Tryd.func14, Tryd.ntmps14
  go_wp2_with (first
    | (refine wpList_load_row rfl 26 _ rfl w.heap.size rfl 26 C (0, 0) _ HN.out hum rfl (by rw [hsz]; exact info27m) ?_; clear HN)
    | (go_at_call 17; refine (CG.out _).mono ?_; clear CG; rintro e w1 ⟨rfl, hb⟩; rw [H1.out] at hb; have hc := HC.out _ hb))
  have HB1 : Hid (Below (w.heap.size + 1) (w.alloc (.cells C 26)) w1) := hb
  clear hb hc HC
  go_loopw [6, 7, 21] (fun u6 u7 u21 wr => ∃ k : Nat, k ≤ j ∧ u21 = .int .i64 k ∧ Below (w.heap.size + 1) (w.alloc (.cells C 26)) wr) (fun _ _ u21 _ => L.length - (intOf u21).toNat)
  case atStart => exact ⟨0, Nat.zero_le _, rfl, HB1.out⟩
  case round =>
    obtain ⟨k, hk, rfl, hbe⟩ := hrel
    clear HB1
    have HBE : Hid (Below (w.heap.size + 1) (w.alloc (.cells C 26)) wr) := hbe
    clear hbe
    by_cases hlt : k < L.length
    · obtain ⟨t, ht⟩ : ∃ t, L[k]? = some t := ⟨L[k], List.getElem?_eq_getElem hlt⟩
      obtain ⟨sb, off, rfl, hcell⟩ := HTX.out wr k t HBE.out ht
      have htD : L.getD k [] = t := by rw [List.getD_eq_getElem?_getD, ht]; rfl
      have hf1 := CF.out wr k t HBE.out ht
      have HNR : Hid (wr.heap[w.heap.size]? = some (.cells C 26 (0, 0))) := HNW.out wr HBE.out
      have hk0 : (0 : Int) ≤ (k : Int) := by omega
      have hk1 : (k : Int) < (L.length : Int) := by omega
      by_cases hkj : k < j
      · have hft := HFT.out k hkj
        rw [htD] at hft
        rw [hft] at hf1
        have CF1 : Hid (Calls Tryd.prog 16 #[.agg C, .int .i64 (k : Int), .string (M.bs t)] wr fun e w' => e = .returned (.bool true) ∧ Below (w.heap.size + 1) (w.alloc (.cells C 26)) w') := hf1
        clear hf1 hft htD ht HTX CF CO CJ HNW HR HBE HX HFT HBD
        go_wp2_with (first
          | (refine wpList_load_row rfl 26 _ rfl w.heap.size rfl 26 C (0, 0) _ HNR.out hum rfl (by rw [hsz]; exact info27m) ?_; clear HNR)
          | (go_at_call 16; refine CF1.out.mono ?_; clear CF1; rintro e w' ⟨rfl, HB2⟩))
        go_roundw
        case rel => exact ⟨k + 1, by omega, by go_num, HB2⟩
        case measure => simp [intOf]; omega
      · obtain rfl : k = j := by omega
        have hft := HBD.out hlt
        rw [htD] at hft
        rw [hft] at hf1
        obtain ⟨rfl, rfl⟩ : X = [] ∧ E = 5 := by
          rcases HX.out with ⟨_, h1, h2⟩ | ⟨h, _⟩ | ⟨h, _⟩
          · exact ⟨h1, h2⟩
          · omega
          · omega
        have CF1 : Hid (Calls Tryd.prog 16 #[.agg C, .int .i64 (k : Int), .string (M.bs t)] wr fun e w' => e = .returned (.bool false) ∧ Below (w.heap.size + 1) (w.alloc (.cells C 26)) w') := hf1
        clear hf1 hft htD ht HTX CF CO CJ HNW HR HBE HX HFT HBD
        go_wp2_with (first
          | (refine wpList_load_row rfl 26 _ rfl w.heap.size rfl 26 C (0, 0) _ HNR.out hum rfl (by rw [hsz]; exact info27m) ?_; clear HNR)
          | (go_at_call 16; refine CF1.out.mono ?_; clear CF1; rintro e w' ⟨rfl, HB2⟩))
        go_ret2
        exact ⟨rfl, HB.out.trans (HB2.mono (by omega))⟩
    · have hkL : Hid (k = L.length) := by show _ = _; omega
      have hjL : Hid (j = L.length) := by show _ = _; omega
      have hdf : decide ((k : Int) < (L.length : Int)) = false := by simp; omega
      have HKP : Hid (∀ W, Below (w.heap.size + 1) (w.alloc (.cells C 26)) W → W.rangeAt w.heap.size 0 (whole.map vb)) := HR
      obtain ⟨q, hq⟩ : ∃ q, decide (S.sha L.flatten = whole) = q := ⟨_, rfl⟩
      have hEq : ∀ W, (Op.equalIn 10000 23 (.agg (dg (S.sha L.flatten))) (.agg (whole.map vb).toArray)).run Tryd.prog W = .ok q W := fun W => by rw [← hq]; exact eqDg (S.sha L.flatten) whole (S.sha_length _) hw W
      have hu := und27
      have hi : (Tryd.prog.info? 23).map (·.size) = some (whole.map vb).length := by rw [info27, List.length_map, hw]
      have hb := HBE.out
      have HQ : Hid (decide (S.sha L.flatten = whole) = q) := hq
      clear hq HTX CF HNW HR HFT HBD
      obtain ⟨F, hF⟩ : ∃ F, F = L.flatten := ⟨_, rfl⟩
      rw [← hF] at CO CJ hEq HX HQ
      clear hF
      rcases Bool.eq_false_or_eq_true q with rfl | rfl
      · obtain ⟨rfl, rfl⟩ : X = F ∧ E = 0 := by
          have h0 : S.sha F = whole := of_decide_eq_true HQ.out
          have hjl := hjL.out
          rcases HX.out with ⟨h, _⟩ | ⟨_, _, h1, h2⟩ | ⟨_, h, _⟩
          · omega
          · exact ⟨h1, h2⟩
          · exact absurd h0 h
        clear HX HQ hw
        go_wp2_with fail
        go_region_held3 (fun W => W.rangeAt w.heap.size 0 (whole.map vb))
          (first | exact HKP.out _ HS | exact HKP.out _ hb.drew)
          ((go_at_call 15; refine (CO.out _ hb.drew).mono ?_; rintro e w' ⟨rfl, HS⟩))
        go_wp2_with (first
          | (go_at_call 35; refine (CJ.out _ HS).mono ?_; clear CJ; rintro e w9 ⟨rfl, HS9⟩))
        go_ret2
        exact ⟨rfl, HB.out.trans (HS9.mono (by omega))⟩
      · obtain ⟨rfl, rfl⟩ : X = [] ∧ E = 5 := by
          have h0 : ¬ S.sha F = whole := of_decide_eq_false HQ.out
          have hjl := hjL.out
          rcases HX.out with ⟨h, _⟩ | ⟨_, h, _, _⟩ | ⟨_, _, h1, h2⟩
          · omega
          · exact absurd h h0
          · exact ⟨h1, h2⟩
        clear HX HQ hw
        go_wp2_with fail
        go_region_held3 (fun W => W.rangeAt w.heap.size 0 (whole.map vb))
          (first | exact HKP.out _ HS | exact HKP.out _ hb.drew)
          ((go_at_call 15; refine (CO.out _ hb.drew).mono ?_; rintro e w' ⟨rfl, HS⟩))
        go_wp2_with fail
        go_ret2
        exact ⟨rfl, HB.out.trans (HS.mono (by omega))⟩
end Go.Proofs.YtahdmhenkjbimaaDoor
