/- What hive.readRecord and hive.decode answer. -/
import Derived.Test.YtlkllcnnnndllaaGreatDoorE6
namespace Go.Proofs.YtlkllcnnnndllaaGreatDoor
open Go.RowKit
set_option linter.unusedVariables false
set_option linter.unusedSimpArgs false
attribute [local go_sem ↓] zero35
attribute [local go_sem ↓] zero27
attribute [local go_sem ↓] zero77
attribute [local go_sem ↓] zero73

def rrV : Option V.Rc → Value
  | some r => rrYes r
  | none => rrNo
/-- WHAT readRecord ANSWERS -/
theorem readRec_at (l : List (List UInt8)) (a : Option Addr) (c : Nat) (w : World) (hl : l.length ≤ 4) (ht : ∀ t ∈ l, t.length ≤ 9223372036854775807) (hv : Strs w.heap.size w (.slice a l.length c) l) :
    Calls Tryz.prog 71 #[.slice a l.length c] w fun e w' => e = .returned (rrV (V.readRec l)) ∧ Below w.heap.size w w' := by
  by_cases h4 : l.length = 4
  · obtain ⟨k, x, n, o, rfl⟩ : ∃ k x n o, l = [k, x, n, o] := by
      match l, h4 with
      | [k, x, n, o], _ => exact ⟨k, x, n, o, rfl⟩
    have hx := ht x (by simp)
    have ho := ht o (by simp)
    have hn := ht n (by simp)
    by_cases hf : k = V.kr ∧ x.length = 32 ∧ o.length = 32
    · obtain ⟨rfl, h1, h2⟩ := hf
      have e0 : V.readRec [V.kr, x, n, o] = (match M.readNum n with | some (c, []) => if V.canB ⟨x, c, o⟩ then some ⟨x, c, o⟩ else none | _ => none) := by simp [V.readRec, h1, h2]; rfl
      cases hN : M.readNum n with
      | none =>
        rw [e0, hN]
        exact rr_num x n o a c w h1 h2 hn hv (fun y hy => by rw [hN] at hy; cases hy)
      | some z =>
        obtain ⟨v, r⟩ := z
        cases r with
        | nil =>
          rw [e0, hN]
          cases hc : V.canB ⟨x, v, o⟩ with
          | true =>
            simp only [hc, if_true]
            exact rr_yes x n o v a c w h1 h2 hn hv hN hc
          | false =>
            simp only [hc, Bool.false_eq_true, if_false]
            exact rr_cant x n o v a c w h1 h2 hn hv hN hc
        | cons y r =>
          rw [e0, hN]
          exact rr_num x n o a c w h1 h2 hn hv (fun y' hy => by rw [hN] at hy; simp at hy)
    · have e : V.readRec [k, x, n, o] = none := by simp only [V.readRec]; rw [if_neg hf]
      rw [e]
      refine rr_form k x n o a c w ⟨hx, ho⟩ hv ?_
      by_cases a1 : k = V.kr
      · by_cases a2 : x.length = 32
        · exact Or.inr (Or.inr fun a3 => hf ⟨a1, a2, a3⟩)
        · exact Or.inr (Or.inl a2)
      · exact Or.inl a1
  · have e : V.readRec l = none := by
      unfold V.readRec
      split
      · simp at h4
      · rfl
    rw [e]
    exact rr_len l a c w hl h4

theorem und77 : ∃ fs, Tryz.prog.underlying 76 = some (.struct fs) := ⟨_, Tryz.underlying76⟩
theorem info77 : (Tryz.prog.info? 76).map (·.size) = some 131 := by kernel_rfl
theorem und73 : ∃ fs, Tryz.prog.underlying 72 = some (.struct fs) := ⟨_, Tryz.underlying72⟩
theorem info73 : (Tryz.prog.info? 72).map (·.size) = some 33 := by kernel_rfl
theorem zc_size : (cv zc).size = 131 := by rw [cv, List.size_toArray]; exact cvL_length zd_length zd_length zr32
theorem cv_size {c : V.Ct} (h : c.dig.length = 32) (hc : c.ck.length = 32) (hr : Rc32 c.rc) : (cv c).size = 131 := by rw [cv, List.size_toArray]; exact cvL_length h hc hr
theorem cv_one (c : V.Ct) : (cv c).all (·.oneCell') = true := all_oneCell_toArray (cvL_one c)
theorem nmv_size {k d : List UInt8} (h : d.length = 32) : (nmv k d).size = 33 := by rw [nmv, List.size_toArray]; exact nmL_length h
theorem nmv_one (k d : List UInt8) : (nmv k d).all (·.oneCell') = true := all_oneCell_toArray (nmL_one k d)
theorem hst77 (W : World) : (W.alloc (.cells (cv zc) 76)).heap[W.heap.size]? = some (.cells (cv zc) 76 (0, 0)) := heap_alloc_new _ _
def dcV : Option V.Ct → Value
  | some c => .tuple #[.agg (cv c), .bool true]
  | none => .tuple #[.agg (cv zc), .bool false]

set_option maxRecDepth 8000 in
set_option maxHeartbeats 2000000 in
/-- the text is no entry's -/
theorem decode_no (t : List UInt8) (w : World) (hG : GW w) (hl : t.length ≤ 640) (hu : V.unsl t = none) :
    Calls Tryz.prog 53 #[.string (M.bs t)] w fun e w' => e = .returned (dcV none) ∧ Below w.heap.size w w' := by
  have hzs := zc_size
  have hz3 := zero32_size
  have h31 : zero32.all (·.oneCell') = true := by rw [← zd_dg]; exact dg_one _
  have h1 := cv_one zc
  obtain ⟨fs, hum⟩ := und77
  have hB0 : Below w.heap.size w (w.alloc (.cells (cv zc) 76)) := (Below.refl _ w).alloc (Nat.le_refl _) _
  have HG : GB (w.alloc (.cells (cv zc) 76)) (w.alloc (.cells (cv zc) 76)) := GB.refl (hG.below hB0 hG.z)
  have HE : Hid (∀ W, GB (w.alloc (.cells (cv zc) 76)) W → Below w.heap.size w W ∧ W.heap[w.heap.size]? = some (.cells (cv zc) 76 (0, 0))) := fun W hW => ⟨hB0.trans (hW.b.mono (by simp)), by rw [hW.b.block _ (by simp)]; exact hst77 w⟩
  have CU : Hid (∀ W, GB (w.alloc (.cells (cv zc) 76)) W → Calls Tryz.prog 69 #[.string (M.bs t)] W fun e w' => e = .returned (.tuple #[.agg zero32, .slice none 0 0, .bool false]) ∧ GB (w.alloc (.cells (cv zc) 76)) w') := fun W hW => by
    by_cases h32 : t.length < 32
    · refine (unseal_short t W h32).mono ?_
      rintro e w' ⟨rfl, hb⟩; exact ⟨rfl, hW.step hb⟩
    · refine (unseal_long t W hW.g (by omega) hl).mono ?_
      rintro e w' ⟨hb, he⟩
      rw [hu] at he
      exact ⟨he, hW.step hb⟩
  have HST : Hid (∀ W : World, (W.alloc (.cells zero32 39)).heap[W.heap.size]? = some (.cells zero32 39 (0, 0))) := hst32
  simp only [dcV]
  clear hG hl hu hB0
  go_enter Tryz.func53, Tryz.ntmps53
  go_wp2_with (first
    | (go_at_call 69; refine (CU.out _ HG).mono ?_; clear CU HG; rintro e w1 ⟨rfl, HG⟩)
    | (refine wpList_store_row rfl 39 _ _ rfl w1.heap.size zero32 rfl rfl 39 zero32 (HST.out w1) (by rw [hz3]; exact info27) rfl h31 ?_; clear HST; rw [World.setRow_alloc_new]; replace HG := HG.alloc (.cells zero32 39); have HN : Hid _ := (HE.out _ HG).2; have HF : Hid _ := (HE.out _ HG).1)
    | (refine wpList_store_row rfl 76 _ _ rfl w.heap.size (cv zc) rfl rfl 76 (cv zc) HN.out (by rw [hzs]; exact info77) rfl h1 ?_))
  (try simp only [Exit.inBlock, Exit.then])
  refine bodyPost_ret (results2_rowV rfl _ _ _ 76 (cv zc) (0, 0) _ rfl (setRow_heap _ _ _ _ _ _ HN.out) hum rfl (by rw [hzs]; exact info77)) rfl ?_
  exact ⟨rfl, below_setRow HF.out (Nat.le_refl _) _⟩

theorem unsl_small {t : List UInt8} {l : List (List UInt8)} (h : V.unsl t = some l) (hl : t.length ≤ 640) : 32 ≤ t.length ∧ l.length ≤ 4 ∧ ∀ x ∈ l, x.length ≤ 640 := by
  unfold V.unsl at h
  split at h
  · simp at h
  · rename_i h32
    split at h
    · simp at h
    · split at h
      · rename_i l' hr
        cases h
        obtain ⟨e1, e2⟩ := M.readRow_some _ _ _ _ hr
        refine ⟨by omega, by omega, fun x hx => ?_⟩
        have hlen := congrArg List.length e1
        rw [List.append_nil, M.rowB, List.length_append, List.length_drop] at hlen
        have hs : List.Sublist (M.textB x) (M.textsB l) := List.sublist_flatten_of_mem (List.mem_map_of_mem hx)
        have hle := hs.length_le
        rw [M.textB, List.length_append] at hle
        omega
      · simp at h

set_option maxRecDepth 8000 in
set_option maxHeartbeats 2000000 in
/-- a blob's text -/
theorem decode_b (t b : List UInt8) (l : List (List UInt8)) (w : World) (hG : GW w) (hl : t.length ≤ 640) (hu : V.unsl t = some l) (hb : V.readBlob l = some b) :
    Calls Tryz.prog 53 #[.string (M.bs t)] w fun e w' => e = .returned (dcV (some ⟨V.kb, S.sha b, t.take 32, b, V.zr⟩)) ∧ Below w.heap.size w w' := by
  obtain ⟨h32, hl4, hx⟩ := unsl_small hu hl
  have hb5 : b.length ≤ 640 := by
    unfold V.readBlob at hb
    split at hb
    · split at hb
      · cases hb; exact hx _ (by simp)
      · simp at hb
    · simp at hb
  have hzs := zc_size
  have hz3 := zero32_size
  have hck : (t.take 32).length = 32 := by simp; omega
  have hsl := S.sha_length b
  have hcs := cv_size (c := ⟨V.kb, S.sha b, t.take 32, b, V.zr⟩) hsl hck zr32
  have hc1 := cv_one ⟨V.kb, S.sha b, t.take 32, b, V.zr⟩
  obtain ⟨fs, hum⟩ := und77
  obtain ⟨fs3, hum3⟩ := und73
  have hB0 : Below w.heap.size w (w.alloc (.cells (cv zc) 76)) := (Below.refl _ w).alloc (Nat.le_refl _) _
  have HG : GB (w.alloc (.cells (cv zc) 76)) (w.alloc (.cells (cv zc) 76)) := GB.refl (hG.below hB0 hG.z)
  have HE : Hid (∀ W, GB (w.alloc (.cells (cv zc) 76)) W → Below w.heap.size w W ∧ W.heap[w.heap.size]? = some (.cells (cv zc) 76 (0, 0))) := fun W hW => ⟨hB0.trans (hW.b.mono (by simp)), by rw [hW.b.block _ (by simp)]; exact hst77 w⟩
  have CU : Hid (∀ W, GB (w.alloc (.cells (cv zc) 76)) W → Calls Tryz.prog 69 #[.string (M.bs t)] W fun e w' => ∃ a c, e = .returned (.tuple #[.agg (dg (t.take 32)), .slice a l.length c, .bool true]) ∧ Strs w'.heap.size w' (.slice a l.length c) l ∧ GB (w.alloc (.cells (cv zc) 76)) w') := fun W hW => by
    refine (unseal_long t W hW.g h32 hl).mono ?_
    rintro e w' ⟨hb, he⟩
    rw [hu] at he
    obtain ⟨a, c, rfl, hs⟩ := he
    exact ⟨a, c, rfl, hs, hW.step hb⟩
  have CB : Hid (∀ (W : World) a c, Strs W.heap.size W (.slice a l.length c) l → Calls Tryz.prog 70 #[.slice a l.length c] W fun e w' => e = .returned (.tuple #[.string (M.bs b), .bool true]) ∧ w' = W) := fun W a c hs => by
    have h := readBlob_at l a c W hl4 (fun x hxx => by have := hx x hxx; omega) hs
    rw [hb] at h
    exact h
  have CO : Hid (∀ W T q, GB (w.alloc (.cells (cv zc) 76)) W → W.heap.size = q → Calls Tryz.prog 18 #[.slice (some ⟨q, 0, none⟩) 1 1] (W.alloc (.cells #[.string (M.bs b)] T)) fun e w' => e = .returned (.agg (dg (S.sha b))) ∧ GB (w.alloc (.cells (cv zc) 76)) w' ∧ Below W.heap.size W w') := fun W T q hW hq => by
    subst hq
    refine (Of_g b T (GB.refl hW.g) (by omega)).mono ?_
    rintro e w' ⟨rfl, hg⟩
    exact ⟨rfl, hW.step hg.b, hg.b⟩
  have HST : Hid (∀ W : World, (W.alloc (.cells zero32 39)).heap[W.heap.size]? = some (.cells zero32 39 (0, 0))) := hst32
  have HSN : Hid (∀ W : World, (W.alloc (.cells (nmv [] V.zd) 72)).heap[W.heap.size]? = some (.cells (nmv [] V.zd) 72 (0, 0))) := fun W => heap_alloc_new _ _
  have hDs : (dg (t.take 32)).size = 32 := by rw [dg_size, hck]
  have hD1 := dg_one (t.take 32)
  have hn0 := nmv_size (k := []) zd_length
  have hns := nmv_size (k := V.kb) hsl
  have hn1 := nmv_one V.kb (S.sha b)
  have b73 := build73 V.kb (S.sha b) hsl
  have b75 := build75 V.kb (S.sha b) (t.take 32) hsl hck
  have b77 := build77b V.kb (S.sha b) (t.take 32) b hsl hck
  simp only [dcV]
  have HB73 : Hid _ := b73
  have HB75 : Hid _ := b75
  have HB77 : Hid _ := b77
  generalize dg (t.take 32) = DA at *
  generalize dg (S.sha b) = DB at *
  generalize nmv V.kb (S.sha b) = NB at *
  generalize ev V.kb (S.sha b) (t.take 32) = EB at *
  generalize cv ⟨V.kb, S.sha b, t.take 32, b, V.zr⟩ = CB2 at *
  clear hG hl hu hB0 hb hx b73 b75 b77 hck hsl
  go_enter Tryz.func53, Tryz.ntmps53
  go_wp2_with (first
    | (go_at_call 69; refine (CU.out _ HG).mono ?_; clear CU HG; rintro e w1 ⟨a, c, rfl, HS1, HG⟩)
    | (refine wpList_store_row rfl 39 _ _ rfl w1.heap.size DA rfl rfl 39 zero32 (HST.out w1) (by rw [hDs]; exact info27) (by rw [hz3, hDs]) hD1 ?_; clear HST; rw [World.setRow_alloc_new]; have HG0 := HG; replace HG := HG.alloc (.cells DA 39); have HS2 : Strs (w1.alloc (.cells DA 39)).heap.size (w1.alloc (.cells DA 39)) (.slice a l.length c) l := HS1.below ((Below.refl _ w1).alloc (Nat.le_refl _) _) (by simp))
    | (go_at_call 70; refine (CB.out _ _ _ HS2).mono ?_; clear CB HS2; rintro e w9 ⟨rfl, rfl⟩)
    | (go_at_call 18; refine (CO.out _ _ _ HG (by simp)).mono ?_; clear CO; rintro e w2 ⟨rfl, HG2, HBB⟩)
    | (refine wl_build rfl 72 _ rfl _ (by rfl) _ HB73.out ?_; clear HB73)
    | (refine wpList_store_row rfl 72 _ _ rfl w2.heap.size NB rfl rfl 72 (nmv [] V.zd) (HSN.out w2) (by rw [hns]; exact info73) (by rw [hn0, hns]) hn1 ?_; clear HSN; rw [World.setRow_alloc_new]; replace HG := HG2.alloc (.cells NB 72); have HN : Hid _ := (HE.out _ HG).2; have HF : Hid _ := (HE.out _ HG).1; have f3 : (w2.alloc (.cells NB 72)).heap[w2.heap.size]? = some (.cells NB 72 (0, 0)) := heap_alloc_new _ _; have f4 : (w2.alloc (.cells NB 72)).heap[w1.heap.size]? = some (.cells DA 39 (0, 0)) := by (have hsz := HBB.size; simp at hsz; rw [Below.heap_alloc _ _ _ (by omega), HBB.block _ (by simp)]; exact heap_alloc_new _ _))
    | (refine wpList_load_row rfl 72 _ rfl w2.heap.size rfl 72 NB (0, 0) _ f3 hum3 rfl (by rw [hns]; exact info73) ?_)
    | (refine wpList_load_row rfl 39 _ rfl w1.heap.size rfl 39 DA (0, 0) _ f4 und27 rfl (by rw [hDs]; exact info27) ?_)
    | (refine wl_build rfl 74 _ rfl _ (by rfl) _ HB75.out ?_; clear HB75)
    | (refine wl_build rfl 76 _ rfl _ (by rfl) _ HB77.out ?_; clear HB77)
    | (refine wpList_store_row rfl 76 _ _ rfl w.heap.size CB2 rfl rfl 76 (cv zc) HN.out (by rw [hcs]; exact info77) (by rw [hzs, hcs]) hc1 ?_))
  (try simp only [Exit.inBlock, Exit.then])
  refine bodyPost_ret (results2_rowV rfl _ _ _ 76 CB2 (0, 0) _ rfl (setRow_heap _ _ _ _ _ _ HN.out) hum rfl (by rw [hcs]; exact info77)) rfl ?_
  exact ⟨rfl, below_setRow HF.out (Nat.le_refl _) _⟩
end Go.Proofs.YtlkllcnnnndllaaGreatDoor
