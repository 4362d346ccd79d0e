/- What (*Press).Add and stamp.Of do with texts one behind the other. -/
import Derived.Test.YtfbjakhanjbaeaaDoorS10
import Derived.Test.YtfbjakhanjbaeaaDoorW9
namespace Go.Proofs.YtfbjakhanjbaeaaDoor
open Go.RowKit
set_option linter.unusedVariables false
attribute [local go_sem ↓] zero27

theorem PrN.lt {b n : Nat} {m : List UInt8} {w : World} (h : PrN b m n w) : b < w.heap.size := by
  obtain ⟨C, _, hC, _⟩ := h
  rcases Nat.lt_or_ge b w.heap.size with h | h
  · exact h
  · rw [Array.getElem?_eq_none h] at hC; simp at hC
theorem PrN.below {b n B : Nat} {m : List UInt8} {w w' : World} (h : PrN b m n w) (hb : Below B w w') (hB : b < B) : PrN b m n w' := by
  obtain ⟨C, rest, hC, hr⟩ := h
  exact ⟨C, rest, by rw [hb.block b hB]; exact hC, hr⟩
theorem PrN.off {b b' n : Nat} {m : List UInt8} {w w' : World} (h : PrN b m n w) (ho : Off b' w w') (hB : b ≠ b') : PrN b m n w' := by
  have hl := h.lt
  obtain ⟨C, rest, hC, hr⟩ := h
  exact ⟨C, rest, by rw [ho.block b hl hB]; exact hC, hr⟩

def cat (l : List (List UInt8)) (k : Nat) : List UInt8 := (l.take k).flatten
theorem cat_zero (l) : cat l 0 = [] := by simp [cat]
theorem cat_all (l : List (List UInt8)) : cat l l.length = l.flatten := by simp [cat]
theorem cat_succ (l : List (List UInt8)) (k : Nat) (t : List UInt8) (h : l[k]? = some t) : cat l (k + 1) = cat l k ++ t := by
  unfold cat; rw [List.take_add_one, h]; simp
theorem cat_le (l : List (List UInt8)) (k : Nat) : (cat l k).length ≤ l.flatten.length := by
  have e : l.flatten = cat l k ++ (l.drop k).flatten := by unfold cat; rw [← List.flatten_append, List.take_append_drop]
  rw [e, List.length_append]; omega

set_option maxHeartbeats 800000 in
theorem Add_at (b : Nat) (m : List UInt8) (l : List (List UInt8)) (a : Option Addr) (cap : Nat) (w : World) (hP : Hid (PrN b m m.length w)) (hK : Hid (KW w)) (hb : 2 ≤ b)
    (hv : Hid (∀ i t, l[i]? = some t → ∃ sb off, a = some ⟨sb, off, none⟩ ∧ sb < w.heap.size ∧ sb ≠ b ∧ w.cell? ⟨sb, off + i, none⟩ = some (.string (M.bs t))))
    (hlen : m.length + l.flatten.length ≤ 576460752303423488) (hl : l.length ≤ 140737488355328) :
    Calls Tryd.prog 43 #[.pointer (some ⟨b, 0, none⟩), .slice a l.length cap] w fun e w' => e = .returned (.pointer (some ⟨b, 0, none⟩)) ∧ PrN b (m ++ l.flatten) (m ++ l.flatten).length w' ∧ Off b w w' := by
  have hbw := hP.out.lt
  go_enter Tryd.func43, Tryd.ntmps43
  go_wp2_with fail
  go_loopw [6, 11] (fun u6 u11 wr => ∃ k : Nat, k ≤ l.length ∧ u11 = .int .i64 k ∧ PrN b (m ++ cat l k) (m ++ cat l k).length wr ∧ Off b w wr) (fun _ u11 _ => l.length - (intOf u11).toNat)
  case atStart => exact ⟨0, Nat.zero_le _, rfl, by rw [cat_zero, List.append_nil]; exact hP.out, Off.refl _ _⟩
  case round =>
    obtain ⟨k, hk, rfl, hPr, hO⟩ := hrel
    have HP : Hid (PrN b (m ++ cat l k) (m ++ cat l k).length wr) := hPr
    have HO : Hid (Off b w wr) := hO
    have hsz := hO.size
    clear hPr hO
    by_cases hlt : k < l.length
    · obtain ⟨t, ht⟩ : ∃ t, l[k]? = some t := ⟨l[k], List.getElem?_eq_getElem hlt⟩
      obtain ⟨sb, off, rfl, hsb, hne, hcell⟩ := hv.out k t ht
      have hc : wr.cell? ⟨sb, off + k, none⟩ = some (.string (M.bs t)) := by rw [HO.out.cell (p := ⟨sb, off + k, none⟩) hsb hne]; exact hcell
      have hcs := cat_succ l k t ht
      have hle := cat_le l (k + 1)
      rw [hcs, List.length_append] at hle
      have HCS : Hid (cat l (k + 1) = cat l k ++ t) := hcs
      have CT : Hid (Calls Tryd.prog 58 #[.pointer (some ⟨b, 0, none⟩), .string (M.bs t)] wr fun e w' => e = .returned (.tuple #[]) ∧ PrN b (m ++ cat l (k + 1)) (m ++ cat l (k + 1)).length w' ∧ Off b wr w') := by
        refine (take b (m ++ cat l k) t wr HP.out (hK.out.off HO.out (by omega) (by omega)) hb (by omega) (by rw [List.length_append]; omega)).mono ?_
        rintro e w' ⟨rfl, h1, h2⟩
        refine ⟨rfl, ?_, h2⟩
        rw [hcs, ← List.append_assoc, List.length_append]; exact h1
      clear hcs hcell ht hv
      go_wp2_with (go_at_call 58; refine CT.out.mono ?_; rintro e w' ⟨rfl, g1, g2⟩)
      go_roundw
      case rel => exact ⟨k + 1, by omega, by go_num, g1, HO.out.trans g2⟩
      case measure => simp [intOf]; omega
    · obtain rfl : k = l.length := by omega
      rw [cat_all] at HP
      go_wp2_with fail
      go_ret
      exact ⟨rfl, HP.out, HO.out⟩
theorem Add_nil (v : Value) (w : World) : Calls Tryd.prog 43 #[.pointer none, v] w fun e w' => e = .returned (.pointer none) ∧ w' = w := by
  go_enter Tryd.func43, Tryd.ntmps43
  go_wp2_with fail
  go_ret
  exact ⟨rfl, rfl⟩
def d0 : List UInt8 := List.replicate 32 0
theorem dg_d0 : dg d0 = zero32 := by unfold dg d0 zero32; rw [List.map_replicate]; rfl

/-- a row of texts as a value, read in the world w0, none of them in a press that is written -/
def TX (w0 : World) (a : Option Addr) (l : List (List UInt8)) : Prop := ∀ i t, l[i]? = some t → ∃ sb off, a = some ⟨sb, off, none⟩ ∧ sb < w0.heap.size ∧ w0.cell? ⟨sb, off + i, none⟩ = some (.string (M.bs t))

/-- New, Add and Sum in a row -/
theorem Of_parts (l : List (List UInt8)) (a : Option Addr) (cap : Nat) (W : World) (hG : GW W) (hv : TX W a l) (hlen : l.flatten.length ≤ 576460752303423488) (hl : l.length ≤ 140737488355328) :
    Calls Tryd.prog 43 #[.pointer (some ⟨W.heap.size, 0, none⟩), .slice a l.length cap] (W.alloc (.cells newC 95)) fun e w' => e = .returned (.pointer (some ⟨W.heap.size, 0, none⟩)) ∧ PrN W.heap.size l.flatten l.flatten.length w' ∧ GW w' ∧ Below W.heap.size W w' := by
  have hz := hG.z
  have hb2 : Below W.heap.size W (W.alloc (.cells newC 95)) := (Below.refl _ W).alloc (Nat.le_refl _) _
  have hG2 := hG.below hb2 hz
  refine (Add_at W.heap.size [] l a cap _ (newC_pr W) hG2.k hz (fun i t ht => ?_) (by simpa using hlen) hl).mono ?_
  · obtain ⟨sb, off, h1, h2, h3⟩ := hv i t ht
    exact ⟨sb, off, h1, by simp; omega, by omega, by rw [hb2.cell (p := ⟨sb, off + i, none⟩) h2]; exact h3⟩
  · rintro e w' ⟨rfl, h1, h2⟩
    rw [List.nil_append] at h1
    exact ⟨rfl, h1, hG2.off h2 hz, hb2.trans (h2.below (Nat.le_refl _) (by simp))⟩

theorem Of_at (l : List (List UInt8)) (a : Option Addr) (cap : Nat) (w : World) (hG : Hid (GW w)) (hv : Hid (TX w a l)) (hlen : l.flatten.length ≤ 576460752303423488) (hl : l.length ≤ 140737488355328) :
    Calls Tryd.prog 24 #[.slice a l.length cap] w fun e w' => e = .returned (.agg (dg (S.sha l.flatten))) ∧ Below w.heap.size w w' := by
  have hz := hG.out.z
  have hB1 : Below w.heap.size w (w.alloc (.cells zero32 24)) := (Below.refl _ w).alloc (Nat.le_refl _) _
  have hG1 := hG.out.below hB1 hz
  have h10 : (w.alloc (.cells zero32 24)).heap.size = w.heap.size + 1 := by simp
  have hR0 : (w.alloc (.cells zero32 24)).heap[w.heap.size]? = some (.cells zero32 24 (0, 0)) := heap_alloc_new _ _
  have hv1 : TX (w.alloc (.cells zero32 24)) a l := fun i t ht => by
    obtain ⟨sb, off, h1, h2, h3⟩ := hv.out i t ht
    exact ⟨sb, off, h1, by omega, by rw [hB1.cell (p := ⟨sb, off + i, none⟩) h2]; exact h3⟩
  have HB1 : Hid (Below w.heap.size w (w.alloc (.cells zero32 24))) := hB1
  have HG1 : Hid (GW (w.alloc (.cells zero32 24))) := hG1
  have H10 : Hid ((w.alloc (.cells zero32 24)).heap.size = w.heap.size + 1) := h10
  have HR0 : Hid ((w.alloc (.cells zero32 24)).heap[w.heap.size]? = some (.cells zero32 24 (0, 0))) := hR0
  have HOP := Of_parts l a cap _ hG1 hv1 hlen hl
  rw [h10] at HOP
  have HOP' : Hid (Calls Tryd.prog 43 #[.pointer (some ⟨w.heap.size + 1, 0, none⟩), .slice a l.length cap] ((w.alloc (.cells zero32 24)).alloc (.cells newC 95)) fun e w' => e = .returned (.pointer (some ⟨w.heap.size + 1, 0, none⟩)) ∧ PrN (w.heap.size + 1) l.flatten l.flatten.length w' ∧ GW w' ∧ Below (w.heap.size + 1) (w.alloc (.cells zero32 24)) w') := HOP
  clear HOP hB1 hG1 h10 hR0 hv1 hG hv
  go_enter Tryd.func24, Tryd.ntmps24
  go_wp2_with (first
    | (go_at_call 42; refine (New_at _ HG1).mono ?_; rintro e w1 ⟨rfl, rfl⟩)
    | (go_at_call 43; refine HOP'.out.mono ?_; rintro e w2 ⟨rfl, g1, g2, g3⟩)
    | (go_at_call 44; refine (Sum_at _ _ _ g1 g2 hlen).mono ?_; rintro e w3 ⟨rfl, g4⟩)
    | refine wpList_store_row rfl 24 _ _ rfl w.heap.size _ rfl rfl 24 zero32 (by rw [g4.block _ (by have := g3.size; have := H10.out; omega), g3.block _ (by omega)]; exact HR0.out) (by rw [dg_size, S.sha_length]; exact info27) (by rw [dg_size, S.sha_length]; exact zero32_size) (dg_one _) ?_)
  have hf : w3.heap[w.heap.size]? = some (.cells zero32 24 (0, 0)) := by
    rw [g4.block _ (by have := g3.size; have := H10.out; omega), g3.block _ (by omega)]; exact HR0.out
  (try simp only [Exit.inBlock, Exit.then])
  refine bodyPost_ret (results_cell_row rfl _ _ _ 24 _ (0, 0) _ rfl (setRow_heap _ _ _ _ _ _ hf) und27 rfl (by rw [dg_size, S.sha_length]; exact info27)) rfl ?_
  refine ⟨rfl, below_setRow ?_ (Nat.le_refl _) _⟩
  exact HB1.out.trans ((g3.mono (by omega)).trans (g4.mono (by have := g3.size; have := H10.out; omega)))
end Go.Proofs.YtfbjakhanjbaeaaDoor
