/- The texts S9 S10 S11 S12 S13 S14 S15 as one. -/
import Derived.Test.YtlkllcnnnndllaaGreatDoorGS
import Derived.Test.YtlkllcnnnndllaaGreatDoorGA
import Derived.Laws.StructEq
/- What stamp.New, (*Press).Len, Sum, Add and stamp.Of do. -/
namespace Go.Proofs.YtlkllcnnnndllaaGreatDoor
open Go.RowKit
set_option linter.unusedVariables false

/-- the program's tables lie in their variables -/
structure GW (w : World) : Prop where
  k : KW w
  s : ∀ i, i < 8 → w.cell? ⟨0, i, none⟩ = some (vw (S.init.toL.getD i 0))
  z : 2 ≤ w.heap.size
theorem GW.below {B : Nat} {w w' : World} (h : GW w) (hb : Below B w w') (hB : 2 ≤ B) : GW w' :=
  ⟨fun t ht => by rw [hb.cell (p := ⟨1, t, none⟩) (show 1 < B by omega)]; exact h.k t ht, fun i hi => by rw [hb.cell (p := ⟨0, i, none⟩) (show 0 < B by omega)]; exact h.s i hi, Nat.le_trans h.z hb.size⟩
theorem GW.off {b : Nat} {w w' : World} (h : GW w) (o : Off b w w') (hb : 2 ≤ b) : GW w' := by
  have := h.z
  exact ⟨h.k.off o (by omega) (by omega), fun i hi => by rw [o.cell (p := ⟨0, i, none⟩) (show 0 < w.heap.size by omega) (show 0 ≠ b by omega)]; exact h.s i hi, Nat.le_trans h.z o.size⟩

def newC : Array Value := ((S.init.toL.map vw) ++ List.replicate 64 (Value.int .u8 0) ++ [Value.int .i64 0, Value.int .i64 0]).toArray
theorem newC_pc : PC newC S.init (List.replicate 64 0) 0 0 := by
  refine ⟨by simp [newC, S.St.toL], fun i hi => ?_, fun i hi => ?_, ?_, ?_⟩
  · unfold newC
    rw [List.getElem?_toArray, List.append_assoc, List.getElem?_append_left (by simp [S.St.toL]; omega)]
    rcases i with _ | _ | _ | _ | _ | _ | _ | _ | i
    all_goals first | rfl | omega
  · unfold newC
    rw [List.getElem?_toArray, List.getElem?_append_left (by simp [S.St.toL]; omega), List.getElem?_append_right (by simp [S.St.toL]), List.getElem?_replicate, if_pos (by simp [S.St.toL]; omega)]
    have : S.by8 (List.replicate 64 0) i = 0 := by8_zeroB i hi
    rw [this]; rfl
  · unfold newC; rw [List.getElem?_toArray, List.getElem?_append_right (by simp [S.St.toL])]; simp [S.St.toL]
  · unfold newC; rw [List.getElem?_toArray, List.getElem?_append_right (by simp [S.St.toL])]; simp [S.St.toL]
theorem newC_pr (w : World) : PrN w.heap.size [] 0 (w.alloc (.cells newC 118)) :=
  ⟨newC, List.replicate 64 0, heap_alloc_new _ _, newC_pc, rfl, by simp⟩
def zero74 : Array Value := (List.replicate 8 (Value.int .u32 0) ++ List.replicate 64 (Value.int .u8 0) ++ [Value.int .i64 0, Value.int .i64 0]).toArray
theorem zero54 (W : World) : (zeroValue 118).run Tryz.prog W = .ok (.agg zero74) W := by kernel_rfl
theorem fold54 : List.foldl (fun cs x => cs.setIfInBounds x.snd x.fst) zero74 (S.init.toL.map vw).zipIdx = newC := by kernel_rfl
theorem New_at (w : World) (hG : Hid (GW w)) : Calls Tryz.prog 41 #[] w fun e w' => e = .returned (.pointer (some ⟨w.heap.size, 0, none⟩)) ∧ w' = w.alloc (.cells newC 118) := by
  have hrow : w.rangeAt 0 0 (S.init.toL.map vw) := fun j v hv => by
    have hj : j < 8 := (List.getElem?_eq_some_iff.1 hv).1
    rw [Nat.zero_add, hG.out.s j hj, ← hv, List.getElem?_map]
    rcases j with _ | _ | _ | _ | _ | _ | _ | _ | j
    all_goals first | rfl | omega
  obtain ⟨Z, hz, hZ, hf⟩ : ∃ Z : Array Value, (∀ W, (zeroValue 118).run Tryz.prog W = .ok (.agg Z) W) ∧ Z.size = 74 ∧ List.foldl (fun cs x => cs.setIfInBounds x.snd x.fst) Z (S.init.toL.map vw).zipIdx = newC :=
    ⟨zero74, zero54, by simp [zero74], fold54⟩
  generalize hL : S.init.toL.map vw = L at *
  have hLl : L.length = 8 := by rw [← hL]; rfl
  clear hL
  go_enter Tryz.func41, Tryz.ntmps41
  go_wp2_with (refine wpList_load_mid rfl 115 _ rfl 0 0 rfl L _ hrow und52 rfl (by rw [hLl]; exact info52) ?_)
  go_ret
  exact ⟨rfl, rfl⟩
end Go.Proofs.YtlkllcnnnndllaaGreatDoor

/- What (*Press).Sum answers: the digest of all that came; the press stays as it was. -/
namespace Go.Proofs.YtlkllcnnnndllaaGreatDoor
open Go.RowKit
set_option linter.unusedVariables false
attribute [local go_sem ↓] zero27

theorem PC.one {C : Array Value} {s : S.St} {rest : List UInt8} {h N : Nat} (p : PC C s rest h N) : C.all (·.oneCell') = true := by
  rw [Array.all_eq_true]
  intro i hi
  have e : C[i]? = some C[i] := Array.getElem?_eq_getElem hi
  have hs := p.size
  by_cases h1 : i < 8
  · rw [p.st i h1] at e; rw [← Option.some.inj e]; rfl
  · by_cases h2 : i < 72
    · have e' := p.rest (i - 8) (by omega)
      rw [show 8 + (i - 8) = i by omega, e] at e'
      rw [Option.some.inj e']; rfl
    · by_cases h3 : i = 72
      · subst h3; rw [p.held] at e; rw [← Option.some.inj e]; rfl
      · obtain rfl : i = 73 := by omega
        rw [p.all] at e; rw [← Option.some.inj e]; rfl
theorem toL_get (s : S.St) (j : Nat) (hj : j < 8) : (s.toL.map vw)[j]? = some (vw (s.toL.getD j 0)) := by
  rcases j with _ | _ | _ | _ | _ | _ | _ | _ | j
  all_goals first | rfl | omega
theorem atSt_arr (s : S.St) : AtSt (s.toL.map vw).toArray s := fun i hi => by rw [List.getElem?_toArray]; exact toL_get s i hi
theorem atSt_range {w : World} {b : Nat} {D : Array Value} {T : TypeId} {s : S.St} (hD : w.heap[b]? = some (.cells D T (0, 0))) (hs : AtSt D s) : w.rangeAt b 0 (s.toL.map vw) := fun j v hv => by
  have hj : j < 8 := (List.getElem?_eq_some_iff.1 hv).1
  rw [Nat.zero_add, cell_of_row _ _ j D _ _ hD, hs j hj, ← hv, toL_get s j hj]
theorem und54 : ∃ fs, Tryz.prog.underlying 118 = some (.struct fs) := ⟨_, Tryz.underlying118⟩
theorem info54 : (Tryz.prog.info? 118).map (·.size) = some 74 := by kernel_rfl
theorem zero74_size : zero74.size = 74 := by simp [zero74]

set_option maxHeartbeats 1600000 in
theorem Sum_at (b : Nat) (m : List UInt8) (w : World) (hP : Hid (PrN b m m.length w)) (hG : Hid (GW w)) (hlen : m.length ≤ 576460752303423488) :
    Calls Tryz.prog 43 #[.pointer (some ⟨b, 0, none⟩)] w fun e w' => e = .returned (.agg (dg (S.sha m))) ∧ Below w.heap.size w w' := by
  obtain ⟨C, rest, hC, hPC, hrest, hr64⟩ := hP.out
  have hbw : b < w.heap.size := by
    rcases Nat.lt_or_ge b w.heap.size with h | h
    · exact h
    · rw [Array.getElem?_eq_none h] at hC; simp at hC
  have hz2 := hG.out.z
  obtain ⟨fs, hu54⟩ := und54
  have HL : Hid ((w.alloc (.cells zero32 39)).heap[b]? = some (.cells C 118 (0, 0))) := by show _ = _; rw [Below.heap_alloc _ _ _ hbw]; exact hC
  have hsz := hPC.size
  have hone := hPC.one
  have hz := zero54
  have hzs := zero74_size
  have h10 : (w.alloc (.cells zero32 39)).heap.size = w.heap.size + 1 := by simp
  have HR : Hid (((w.alloc (.cells zero32 39)).alloc (.cells zero74 118)).heap[w.heap.size + 1]? = some (.cells zero74 118 (0, 0))) := by
    have := heap_alloc_new (w.alloc (.cells zero32 39)) (.cells zero74 118)
    rw [h10] at this; exact this
  have hrow : ((w.alloc (.cells zero32 39)).alloc (.cells zero74 118)).setRow (w.heap.size + 1) C = (w.alloc (.cells zero32 39)).alloc (.cells C 118) := by
    rw [← h10]; exact World.setRow_alloc_new _ _ _ _
  have hB2 : Below w.heap.size w ((w.alloc (.cells zero32 39)).alloc (.cells C 118)) := ((Below.refl _ w).alloc (Nat.le_refl _) _).alloc (by simp) _
  have hP2 : PrN (w.heap.size + 1) m m.length ((w.alloc (.cells zero32 39)).alloc (.cells C 118)) := by
    refine ⟨C, rest, ?_, hPC, hrest, hr64⟩
    have := heap_alloc_new (w.alloc (.cells zero32 39)) (.cells C 118)
    rw [h10] at this; exact this
  have hR0 : ((w.alloc (.cells zero32 39)).alloc (.cells C 118)).heap[w.heap.size]? = some (.cells zero32 39 (0, 0)) := by
    rw [Below.heap_alloc _ _ _ (by simp)]; exact heap_alloc_new _ _
  have hsz2 : ((w.alloc (.cells zero32 39)).alloc (.cells C 118)).heap.size = w.heap.size + 2 := by simp
  have CF := fin (w.heap.size + 1) m _ hP2 (hG.out.below hB2 hz2).k (by omega) (by rw [hsz2]; omega) hlen
  generalize hW2 : (w.alloc (.cells zero32 39)).alloc (.cells C 118) = W2 at *
  have HCF : Hid (Calls Tryz.prog 59 #[.pointer (some ⟨w.heap.size + 1, 0, none⟩)] W2 fun e w' => e = .returned (.tuple #[]) ∧
      (∃ D, w'.heap[w.heap.size + 1]? = some (.cells D 118 (0, 0)) ∧ D.size = 74 ∧ AtSt D (S.stN (S.pad m) ((S.pad m).length / 64))) ∧ Off (w.heap.size + 1) W2 w') := CF
  have HB2 : Hid (Below w.heap.size w W2) := hB2
  have HR0 : Hid (W2.heap[w.heap.size]? = some (.cells zero32 39 (0, 0))) := hR0
  have HS2 : Hid (W2.heap.size = w.heap.size + 2) := hsz2
  clear CF hB2 hP2 hR0 hsz2 hW2 hrest hr64 hPC hC h10
  go_enter Tryz.func43, Tryz.ntmps43
  go_wp2_with (first
    | refine wpList_load_row rfl 118 _ rfl _ rfl 118 C (0, 0) _ HL.out hu54 rfl (by rw [hsz]; exact info54) ?_
    | (refine wpList_store_row rfl 118 _ _ rfl _ C rfl rfl 118 zero74 HR.out (by rw [hsz]; exact info54) (by rw [hzs, hsz]) hone ?_; rw [hrow])
    | (go_at_call 59; refine HCF.out.mono ?_; clear HCF HR HL hrow; rintro e w3 ⟨rfl, ⟨D, g1, g2, g3⟩, g4⟩)
    | refine wpList_load_mid rfl 115 _ rfl (w.heap.size + 1) 0 rfl _ _ (atSt_range g1 g3) und52 rfl info52 ?_
    | (go_at_call 60; refine (digest (S.stN (S.pad m) ((S.pad m).length / 64)) _ rfl (atSt_arr _) _).mono ?_; rintro e w4 ⟨rfl, HB4⟩)
    | refine wpList_store_row rfl 39 _ _ rfl w.heap.size _ rfl rfl 39 zero32 (by rw [HB4.block _ (by have := g4.size; have := HS2.out; omega), g4.block _ (by have := HS2.out; omega) (by omega)]; exact HR0.out) (by rw [dg_size, S.digB_length]; exact info27) (by rw [dg_size, S.digB_length]; exact zero32_size) (dg_one _) ?_)
  have hf : w4.heap[w.heap.size]? = some (.cells zero32 39 (0, 0)) := by
    rw [HB4.block _ (by have := g4.size; have := HS2.out; omega), g4.block _ (by have := HS2.out; omega) (by omega)]; exact HR0.out
  (try simp only [Exit.inBlock, Exit.then])
  refine bodyPost_ret (results_cell_row rfl _ _ _ 39 _ (0, 0) _ rfl (setRow_heap _ _ _ _ _ _ hf) und27 rfl (by rw [dg_size, S.digB_length]; exact info27)) rfl ?_
  refine ⟨rfl, below_setRow ?_ (Nat.le_refl _) _⟩
  exact HB2.out.trans ((g4.below (by omega) (by have := HS2.out; omega)).trans (HB4.mono (by have := g4.size; have := HS2.out; omega)))
end Go.Proofs.YtlkllcnnnndllaaGreatDoor

/- What (*Press).Add and stamp.Of do with texts one behind the other. -/
namespace Go.Proofs.YtlkllcnnnndllaaGreatDoor
open Go.RowKit
set_option linter.unusedVariables false
attribute [local go_sem ↓] zero27

theorem PrN.lt {b n : Nat} {m : List UInt8} {w : World} (h : PrN b m n w) : b < w.heap.size := by
  obtain ⟨C, _, hC, _⟩ := h
  rcases Nat.lt_or_ge b w.heap.size with h | h
  · exact h
  · rw [Array.getElem?_eq_none h] at hC; simp at hC
theorem PrN.below {b n B : Nat} {m : List UInt8} {w w' : World} (h : PrN b m n w) (hb : Below B w w') (hB : b < B) : PrN b m n w' := by
  obtain ⟨C, rest, hC, hr⟩ := h
  exact ⟨C, rest, by rw [hb.block b hB]; exact hC, hr⟩
theorem PrN.off {b b' n : Nat} {m : List UInt8} {w w' : World} (h : PrN b m n w) (ho : Off b' w w') (hB : b ≠ b') : PrN b m n w' := by
  have hl := h.lt
  obtain ⟨C, rest, hC, hr⟩ := h
  exact ⟨C, rest, by rw [ho.block b hl hB]; exact hC, hr⟩

def cat (l : List (List UInt8)) (k : Nat) : List UInt8 := (l.take k).flatten
theorem cat_zero (l) : cat l 0 = [] := by simp [cat]
theorem cat_all (l : List (List UInt8)) : cat l l.length = l.flatten := by simp [cat]
theorem cat_succ (l : List (List UInt8)) (k : Nat) (t : List UInt8) (h : l[k]? = some t) : cat l (k + 1) = cat l k ++ t := by
  unfold cat; rw [List.take_add_one, h]; simp
theorem cat_le (l : List (List UInt8)) (k : Nat) : (cat l k).length ≤ l.flatten.length := by
  have e : l.flatten = cat l k ++ (l.drop k).flatten := by unfold cat; rw [← List.flatten_append, List.take_append_drop]
  rw [e, List.length_append]; omega

set_option maxHeartbeats 800000 in
theorem Add_at (b : Nat) (m : List UInt8) (l : List (List UInt8)) (a : Option Addr) (cap : Nat) (w : World) (hP : Hid (PrN b m m.length w)) (hK : Hid (KW w)) (hb : 2 ≤ b)
    (hv : Hid (∀ i t, l[i]? = some t → ∃ sb off, a = some ⟨sb, off, none⟩ ∧ sb < w.heap.size ∧ sb ≠ b ∧ w.cell? ⟨sb, off + i, none⟩ = some (.string (M.bs t))))
    (hlen : m.length + l.flatten.length ≤ 576460752303423488) (hl : l.length ≤ 140737488355328) :
    Calls Tryz.prog 42 #[.pointer (some ⟨b, 0, none⟩), .slice a l.length cap] w fun e w' => e = .returned (.pointer (some ⟨b, 0, none⟩)) ∧ PrN b (m ++ l.flatten) (m ++ l.flatten).length w' ∧ Off b w w' := by
  have hbw := hP.out.lt
  go_enter Tryz.func42, Tryz.ntmps42
  go_wp2_with fail
  go_loopw [6, 11] (fun u6 u11 wr => ∃ k : Nat, k ≤ l.length ∧ u11 = .int .i64 k ∧ PrN b (m ++ cat l k) (m ++ cat l k).length wr ∧ Off b w wr) (fun _ u11 _ => l.length - (intOf u11).toNat)
  case atStart => exact ⟨0, Nat.zero_le _, rfl, by rw [cat_zero, List.append_nil]; exact hP.out, Off.refl _ _⟩
  case round =>
    obtain ⟨k, hk, rfl, hPr, hO⟩ := hrel
    have HP : Hid (PrN b (m ++ cat l k) (m ++ cat l k).length wr) := hPr
    have HO : Hid (Off b w wr) := hO
    have hsz := hO.size
    clear hPr hO
    by_cases hlt : k < l.length
    · obtain ⟨t, ht⟩ : ∃ t, l[k]? = some t := ⟨l[k], List.getElem?_eq_getElem hlt⟩
      obtain ⟨sb, off, rfl, hsb, hne, hcell⟩ := hv.out k t ht
      have hc : wr.cell? ⟨sb, off + k, none⟩ = some (.string (M.bs t)) := by rw [HO.out.cell (p := ⟨sb, off + k, none⟩) hsb hne]; exact hcell
      have hcs := cat_succ l k t ht
      have hle := cat_le l (k + 1)
      rw [hcs, List.length_append] at hle
      have HCS : Hid (cat l (k + 1) = cat l k ++ t) := hcs
      have CT : Hid (Calls Tryz.prog 58 #[.pointer (some ⟨b, 0, none⟩), .string (M.bs t)] wr fun e w' => e = .returned (.tuple #[]) ∧ PrN b (m ++ cat l (k + 1)) (m ++ cat l (k + 1)).length w' ∧ Off b wr w') := by
        refine (take b (m ++ cat l k) t wr HP.out (hK.out.off HO.out (by omega) (by omega)) hb (by omega) (by rw [List.length_append]; omega)).mono ?_
        rintro e w' ⟨rfl, h1, h2⟩
        refine ⟨rfl, ?_, h2⟩
        rw [hcs, ← List.append_assoc, List.length_append]; exact h1
      clear hcs hcell ht hv
      go_wp2_with (go_at_call 58; refine CT.out.mono ?_; rintro e w' ⟨rfl, g1, g2⟩)
      go_roundw
      case rel => exact ⟨k + 1, by omega, by go_num, g1, HO.out.trans g2⟩
      case measure => simp [intOf]; omega
    · obtain rfl : k = l.length := by omega
      rw [cat_all] at HP
      go_wp2_with fail
      go_ret
      exact ⟨rfl, HP.out, HO.out⟩
theorem Add_nil (v : Value) (w : World) : Calls Tryz.prog 42 #[.pointer none, v] w fun e w' => e = .returned (.pointer none) ∧ w' = w := by
  go_enter Tryz.func42, Tryz.ntmps42
  go_wp2_with fail
  go_ret
  exact ⟨rfl, rfl⟩
def d0 : List UInt8 := List.replicate 32 0
theorem dg_d0 : dg d0 = zero32 := by unfold dg d0 zero32; rw [List.map_replicate]; rfl

/-- a row of texts as a value, read in the world w0, none of them in a press that is written -/
def TX (w0 : World) (a : Option Addr) (l : List (List UInt8)) : Prop := ∀ i t, l[i]? = some t → ∃ sb off, a = some ⟨sb, off, none⟩ ∧ sb < w0.heap.size ∧ w0.cell? ⟨sb, off + i, none⟩ = some (.string (M.bs t))

/-- New, Add and Sum in a row -/
theorem Of_parts (l : List (List UInt8)) (a : Option Addr) (cap : Nat) (W : World) (hG : GW W) (hv : TX W a l) (hlen : l.flatten.length ≤ 576460752303423488) (hl : l.length ≤ 140737488355328) :
    Calls Tryz.prog 42 #[.pointer (some ⟨W.heap.size, 0, none⟩), .slice a l.length cap] (W.alloc (.cells newC 118)) fun e w' => e = .returned (.pointer (some ⟨W.heap.size, 0, none⟩)) ∧ PrN W.heap.size l.flatten l.flatten.length w' ∧ GW w' ∧ Below W.heap.size W w' := by
  have hz := hG.z
  have hb2 : Below W.heap.size W (W.alloc (.cells newC 118)) := (Below.refl _ W).alloc (Nat.le_refl _) _
  have hG2 := hG.below hb2 hz
  refine (Add_at W.heap.size [] l a cap _ (newC_pr W) hG2.k hz (fun i t ht => ?_) (by simpa using hlen) hl).mono ?_
  · obtain ⟨sb, off, h1, h2, h3⟩ := hv i t ht
    exact ⟨sb, off, h1, by simp; omega, by omega, by rw [hb2.cell (p := ⟨sb, off + i, none⟩) h2]; exact h3⟩
  · rintro e w' ⟨rfl, h1, h2⟩
    rw [List.nil_append] at h1
    exact ⟨rfl, h1, hG2.off h2 hz, hb2.trans (h2.below (Nat.le_refl _) (by simp))⟩

theorem Of_at (l : List (List UInt8)) (a : Option Addr) (cap : Nat) (w : World) (hG : Hid (GW w)) (hv : Hid (TX w a l)) (hlen : l.flatten.length ≤ 576460752303423488) (hl : l.length ≤ 140737488355328) :
    Calls Tryz.prog 18 #[.slice a l.length cap] w fun e w' => e = .returned (.agg (dg (S.sha l.flatten))) ∧ Below w.heap.size w w' := by
  have hz := hG.out.z
  have hB1 : Below w.heap.size w (w.alloc (.cells zero32 39)) := (Below.refl _ w).alloc (Nat.le_refl _) _
  have hG1 := hG.out.below hB1 hz
  have h10 : (w.alloc (.cells zero32 39)).heap.size = w.heap.size + 1 := by simp
  have hR0 : (w.alloc (.cells zero32 39)).heap[w.heap.size]? = some (.cells zero32 39 (0, 0)) := heap_alloc_new _ _
  have hv1 : TX (w.alloc (.cells zero32 39)) a l := fun i t ht => by
    obtain ⟨sb, off, h1, h2, h3⟩ := hv.out i t ht
    exact ⟨sb, off, h1, by omega, by rw [hB1.cell (p := ⟨sb, off + i, none⟩) h2]; exact h3⟩
  have HB1 : Hid (Below w.heap.size w (w.alloc (.cells zero32 39))) := hB1
  have HG1 : Hid (GW (w.alloc (.cells zero32 39))) := hG1
  have H10 : Hid ((w.alloc (.cells zero32 39)).heap.size = w.heap.size + 1) := h10
  have HR0 : Hid ((w.alloc (.cells zero32 39)).heap[w.heap.size]? = some (.cells zero32 39 (0, 0))) := hR0
  have HOP := Of_parts l a cap _ hG1 hv1 hlen hl
  rw [h10] at HOP
  have HOP' : Hid (Calls Tryz.prog 42 #[.pointer (some ⟨w.heap.size + 1, 0, none⟩), .slice a l.length cap] ((w.alloc (.cells zero32 39)).alloc (.cells newC 118)) fun e w' => e = .returned (.pointer (some ⟨w.heap.size + 1, 0, none⟩)) ∧ PrN (w.heap.size + 1) l.flatten l.flatten.length w' ∧ GW w' ∧ Below (w.heap.size + 1) (w.alloc (.cells zero32 39)) w') := HOP
  clear HOP hB1 hG1 h10 hR0 hv1 hG hv
  go_enter Tryz.func18, Tryz.ntmps18
  go_wp2_with (first
    | (go_at_call 41; refine (New_at _ HG1).mono ?_; rintro e w1 ⟨rfl, rfl⟩)
    | (go_at_call 42; refine HOP'.out.mono ?_; rintro e w2 ⟨rfl, g1, g2, g3⟩)
    | (go_at_call 43; refine (Sum_at _ _ _ g1 g2 hlen).mono ?_; rintro e w3 ⟨rfl, g4⟩)
    | refine wpList_store_row rfl 39 _ _ rfl w.heap.size _ rfl rfl 39 zero32 (by rw [g4.block _ (by have := g3.size; have := H10.out; omega), g3.block _ (by omega)]; exact HR0.out) (by rw [dg_size, S.sha_length]; exact info27) (by rw [dg_size, S.sha_length]; exact zero32_size) (dg_one _) ?_)
  have hf : w3.heap[w.heap.size]? = some (.cells zero32 39 (0, 0)) := by
    rw [g4.block _ (by have := g3.size; have := H10.out; omega), g3.block _ (by omega)]; exact HR0.out
  (try simp only [Exit.inBlock, Exit.then])
  refine bodyPost_ret (results_cell_row rfl _ _ _ 39 _ (0, 0) _ rfl (setRow_heap _ _ _ _ _ _ hf) und27 rfl (by rw [dg_size, S.sha_length]; exact info27)) rfl ?_
  refine ⟨rfl, below_setRow ?_ (Nat.le_refl _) _⟩
  exact HB1.out.trans ((g3.mono (by omega)).trans (g4.mono (by have := g3.size; have := H10.out; omega)))
end Go.Proofs.YtlkllcnnnndllaaGreatDoor

/- What stamp.Row and stamp.Less answer. -/
namespace Go.Proofs.YtlkllcnnnndllaaGreatDoor
open Go.RowKit
set_option linter.unusedVariables false
attribute [local go_sem ↓] zero27

theorem TX.one {W : World} {sb : Nat} {t : List UInt8} (h1 : sb < W.heap.size) (h2 : W.cell? ⟨sb, 0, none⟩ = some (.string (M.bs t))) : TX W (some ⟨sb, 0, none⟩) [t] := fun i u hu => by
  rcases i with _ | i
  · simp at hu; subst hu; exact ⟨sb, 0, rfl, h1, h2⟩
  · simp at hu
theorem Of_one (t : List UInt8) (sb cap : Nat) (W : World) (hG : GW W) (h1 : sb < W.heap.size) (h2 : W.cell? ⟨sb, 0, none⟩ = some (.string (M.bs t))) (hlen : t.length ≤ 576460752303423488) :
    Calls Tryz.prog 18 #[.slice (some ⟨sb, 0, none⟩) 1 cap] W fun e w' => e = .returned (.agg (dg (S.sha t))) ∧ Below W.heap.size W w' := by
  have := Of_at [t] (some ⟨sb, 0, none⟩) cap W hG (TX.one h1 h2) (by simpa using hlen) (by simp)
  simpa using this

/-- the order of bytes -/
def ltB : List UInt8 → List UInt8 → Bool
  | x :: a, y :: b => if x = y then ltB a b else decide (x.toNat < y.toNat)
  | _, _ => false
theorem ltB_at : ∀ (a b : List UInt8) (k : Nat), a.length = b.length → k < a.length → (∀ j, j < k → S.by8 a j = S.by8 b j) → S.by8 a k ≠ S.by8 b k → ltB a b = decide ((S.by8 a k).toNat < (S.by8 b k).toNat)
  | [], _, k, _, h, _, _ => by simp at h
  | _ :: _, [], k, h, _, _, _ => by simp at h
  | x :: a, y :: b, 0, _, _, _, hne => by
    have : x ≠ y := by simpa [S.by8] using hne
    simp [ltB, this, S.by8]
  | x :: a, y :: b, k + 1, hl, hk, hj, hne => by
    have h0 : x = y := by simpa [S.by8] using hj 0 (by omega)
    have ih := ltB_at a b k (by simpa using hl) (by simpa using hk) (fun j h => by have := hj (j + 1) (by omega); simpa [S.by8] using this) (by simpa [S.by8] using hne)
    simp only [ltB, h0, if_true]
    rw [ih]
    simp [S.by8]
theorem ltB_self : ∀ a : List UInt8, ltB a a = false
  | [] => rfl
  | x :: a => by simp [ltB, ltB_self a]
theorem eq_by8 {a b : List UInt8} (hl : a.length = b.length) (h : ∀ j, j < a.length → S.by8 a j = S.by8 b j) : a = b := by
  apply List.ext_getElem hl
  intro i h1 h2
  have := h i h1
  simpa [S.by8, List.getD_eq_getElem?_getD, List.getElem?_eq_getElem h1, List.getElem?_eq_getElem h2] using this
theorem dg_at (d : List UInt8) (k : Nat) (h : k < d.length) : (dg d)[k]? = some (vb (S.by8 d k)) := by
  unfold dg
  rw [List.getElem?_toArray, List.getElem?_map, List.getElem?_eq_getElem h]
  simp [S.by8, h]

set_option maxHeartbeats 1600000 in
theorem Less_at (a b : List UInt8) (ha : a.length = 32) (hb : b.length = 32) (w : World) :
    Calls Tryz.prog 63 #[.agg (dg a), .agg (dg b)] w fun e w' => e = .returned (.bool (ltB a b)) ∧ Below w.heap.size w w' := by
  have hA : Hid (∀ k, k < 32 → (dg a)[k]? = some (vb (S.by8 a k))) := fun k hk => dg_at a k (by omega)
  have hB : Hid (∀ k, k < 32 → (dg b)[k]? = some (vb (S.by8 b k))) := fun k hk => dg_at b k (by omega)
  have hsA : (dg a).size = 32 := by rw [dg_size, ha]
  have hsB : (dg b).size = 32 := by rw [dg_size, hb]
  generalize dg a = A at *
  generalize dg b = B at *
  obtain ⟨q, hq⟩ : ∃ q, q = ltB a b := ⟨_, rfl⟩
  rw [← hq]
  have HQ : Hid (q = ltB a b) := hq
  clear hq
  go_enter Tryz.func63, Tryz.ntmps63
  go_wp2_with fail
  go_loopw [5, 6] (fun u5 u6 wr => ∃ (k : Nat), k ≤ 32 ∧ u6 = .int .i64 k ∧ Below (w.heap.size + 2) ((w.alloc (.cells A 39)).alloc (.cells B 39)) wr ∧ ∀ j, j < k → S.by8 a j = S.by8 b j) (fun _ u6 _ => 32 - (intOf u6).toNat)
  case atStart => exact ⟨0, by omega, rfl, Below.refl _ _, fun j hj => by omega⟩
  case round =>
    obtain ⟨k, hk, rfl, hBl, hj⟩ := hrel
    have HJ : Hid (∀ j, j < k → S.by8 a j = S.by8 b j) := hj
    have HBl : Hid (Below (w.heap.size + 2) ((w.alloc (.cells A 39)).alloc (.cells B 39)) wr) := hBl
    clear hj hBl
    have HBw : Hid (Below w.heap.size w ((w.alloc (.cells A 39)).alloc (.cells B 39))) := ((Below.refl _ w).alloc (Nat.le_refl _) _).alloc (by simp) _
    by_cases hlt : k < 32
    · have cA : wr.cell? ⟨w.heap.size, k, none⟩ = some (vb (S.by8 a k)) := by
        rw [HBl.out.cell (p := ⟨w.heap.size, k, none⟩) (show w.heap.size < w.heap.size + 2 by omega), cell_of_row _ _ k A _ (0, 0) (by rw [Below.heap_alloc _ _ _ (by simp)]; exact heap_alloc_new _ _)]
        exact hA.out k hlt
      have cB : wr.cell? ⟨w.heap.size + 1, k, none⟩ = some (vb (S.by8 b k)) := by
        rw [HBl.out.cell (p := ⟨w.heap.size + 1, k, none⟩) (show w.heap.size + 1 < w.heap.size + 2 by omega), cell_of_row _ _ k B _ (0, 0) (by
          have := heap_alloc_new (w.alloc (.cells A 39)) (.cells B 39)
          rwa [show (w.alloc (.cells A 39)).heap.size = w.heap.size + 1 by simp] at this)]
        exact hB.out k hlt
      have i0 : (0 : Int) ≤ (k : Int) := by omega
      have j0 : (k : Int) < 32 := by omega
      have HE := ltB_at a b k (by omega) (by omega) HJ.out
      have HE2 : Hid (S.by8 a k ≠ S.by8 b k → ltB a b = decide ((S.by8 a k).toNat < (S.by8 b k).toNat)) := HE
      have HN : Hid (S.by8 a k = S.by8 b k ↔ (S.by8 a k).toNat = (S.by8 b k).toNat) := UInt8.toNat_inj.symm
      clear HE
      have HS : Hid (∀ j, j < k + 1 → S.by8 a k = S.by8 b k → S.by8 a j = S.by8 b j) := fun j hj he => by
        by_cases h : j = k
        · subst h; exact he
        · exact HJ.out j (by omega)
      generalize S.by8 a k = x at *
      generalize S.by8 b k = y at *
      by_cases hxy : x.toNat = y.toNat
      · have hxI : ((x.toNat : Int) == (y.toNat : Int)) = true := by simp [hxy]
        have hxI2 : ((x.toNat : Int) != (y.toNat : Int)) = false := by simp [hxy]
        go_wp2_with fail
        go_quiet (fail)
        go_wp2_with fail
        go_roundw
        case rel => exact ⟨k + 1, by omega, by go_num, below_drewN HBl.out _, fun j hj => HS.out j hj (HN.out.2 hxy)⟩
        case measure => simp [intOf]; omega
      · have hxI : ((x.toNat : Int) == (y.toNat : Int)) = false := by simp; omega
        have hxI2 : ((x.toNat : Int) != (y.toNat : Int)) = true := by simp; omega
        have hql : decide (x.toNat < y.toNat) = q := by
          rw [HQ.out, HE2.out (fun e => hxy (HN.out.1 e))]
        clear HQ
        go_wp2_with fail
        go_quiet (fail)
        go_wp2_with fail
        go_quiet (fail)
        go_wp2_with fail
        go_ret
        exact ⟨by rw [← hql]; rfl, HBw.out.trans ((below_drewN (below_drewN HBl.out _) _).mono (by omega))⟩
    · have hdf : decide ((k : Int) < 32) = false := by simp; omega
      have hqf : q = false := by
        rw [HQ.out, eq_by8 (by omega) (fun j hj => HJ.out j (by omega)), ltB_self]
      subst hqf
      go_wp2_with fail
      go_ret
      exact ⟨rfl, HBw.out.trans (HBl.out.mono (by omega))⟩
end Go.Proofs.YtlkllcnnnndllaaGreatDoor

/- What stamp.Hex answers: a digest's 64 digits. -/
namespace Go.Proofs.YtlkllcnnnndllaaGreatDoor
open Go.RowKit
set_option linter.unusedVariables false

def digits : List UInt8 := [48, 49, 50, 51, 52, 53, 54, 55, 56, 57, 97, 98, 99, 100, 101, 102]
def hexd (n : Nat) : UInt8 := digits.getD n 0
/-- digit j of a digest -/
def hexAt (d : List UInt8) (j : Nat) : UInt8 := if j % 2 = 0 then hexd ((S.by8 d (j / 2)).toNat / 16) else hexd ((S.by8 d (j / 2)).toNat % 16)
def hexB (d : List UInt8) : List UInt8 := (List.range 64).map (hexAt d)
theorem hexB_length (d) : (hexB d).length = 64 := by simp [hexB]
theorem hexB_at (d : List UInt8) (j : Nat) (h : j < 64) : (hexB d)[j]? = some (hexAt d j) := by simp [hexB, h]

def zero64b : Array Value := (List.replicate 64 (Value.int .u8 0)).toArray
theorem zero51 (W : World) : (zeroValue 116).run Tryz.prog W = .ok (.agg zero64b) W := by kernel_rfl
theorem zero64b_size : zero64b.size = 64 := by simp [zero64b]
attribute [local go_sem ↓] zero51
theorem index27 (BA : Array Value) (k : Nat) (v : Value) (hk : k < 32) (h : BA[k]? = some v) (W : World) : (Instr.index 39 (.agg BA) (.int .i64 k)).run Tryz.prog W = .ok v W := by
  simp [Instr.index, run_underlying und27, asIntOf, go_sem, hk, h, Tryz.sizeOf5]
def digS : ByteArray := ⟨#[48, 49, 50, 51, 52, 53, 54, 55, 56, 57, 97, 98, 99, 100, 101, 102]⟩
theorem digS_at (n : Nat) (h : n < 16) (k : IntKind) (W : World) : (Instr.index 9 (.string digS) (.int k n)).run Tryz.prog W = .ok (vb (hexd n)) W := by
  have hs : digS.size = 16 := rfl
  have e : digS[n]? = some (hexd n) := by
    have hh : ∀ m : Fin 16, digS[m.val]? = some (hexd m.val) := by decide +kernel
    exact hh ⟨n, h⟩
  simp [Instr.index, run_underlying Tryz.underlying9, asIntOf, go_sem, e]
theorem conv64 (W : World) (b : Nat) (C : Array Value) (T : TypeId) (l : List UInt8) (hl : l.length = 64) (hC : W.heap[b]? = some (.cells C T (0, 0))) (hc : ∀ j (hj : j < l.length), C[j]? = some (.int .u8 (l[j].toNat : Int))) :
    (convert 111 9 (.slice (some ⟨b, 0, none⟩) 64 64)).run Tryz.prog W = .ok (.string (M.bs l)) W := by
  rw [← hl]
  exact run_convert_bytes_back (P := Tryz.prog) _ 111 9 5 ⟨b, 0, none⟩ _ l Tryz.underlying111 Tryz.underlying5 Tryz.underlying9 (fun j hj => by
    rw [Addr.add_mid, Nat.zero_add, cell_of_row _ _ j C _ _ hC]; exact hc j hj)

end Go.Proofs.YtlkllcnnnndllaaGreatDoor

/- Two digests compared by '=='. -/
namespace Go.Proofs.YtlkllcnnnndllaaGreatDoor
open Go.RowKit
set_option linter.unusedVariables false

theorem equal5 (d : Nat) (x y : UInt8) (W : World) : (Op.equalIn (d + 1) 5 (vb x) (vb y)).run Tryz.prog W = .ok (decide (x = y)) W := by
  have e : ((x.toNat : Int) == (y.toNat : Int)) = decide (x = y) := by
    by_cases h : x = y
    · subst h; simp
    · have : x.toNat ≠ y.toNat := fun e => h (UInt8.toNat_inj.1 e)
      simp [h]; omega
  simp only [Op.equalIn, Sem.run_bind, run_underlying Tryz.underlying5, Result.andThen_ok, if_true, Sem.run_pure, e]
theorem part5 (A : Array Value) (i : Nat) (v : Value) (h : A[i]? = some v) (W : World) : (part 5 A (i * 1)).run Tryz.prog W = .ok v W := by
  simp [part, Sem.run_bind, Tryz.isAgg5, h]
theorem eqLoop (d : Nat) (a b : List UInt8) (A B : Array Value) (W : World) : ∀ l : List Nat, (∀ i ∈ l, A[i]? = some (vb (S.by8 a i)) ∧ B[i]? = some (vb (S.by8 b i))) →
    ((forIn l ((none, ()) : Option Bool × PUnit) fun i r => do
        let x ← part 5 A (i * 1)
        let y ← part 5 B (i * 1)
        let q ← Op.equalIn (d + 1) 5 x y
        if (!q) = true then pure (ForInStep.done (some false, ())) else pure (ForInStep.yield (none, ())) : Sem (Option Bool × PUnit))).run Tryz.prog W =
      .ok (if ∀ i ∈ l, S.by8 a i = S.by8 b i then (none, ()) else (some false, ())) W := by
  intro l
  induction l with
  | nil => intro _; simp
  | cons i l ih =>
    intro h
    have h0 := h i (by simp)
    rw [List.forIn_cons]
    simp only [Sem.run_bind, part5 A i _ h0.1, part5 B i _ h0.2, Result.andThen_ok, equal5]
    by_cases he : S.by8 a i = S.by8 b i
    · have := ih (fun j hj => h j (by simp [hj]))
      rw [show decide (S.by8 a i = S.by8 b i) = true from decide_eq_true he]
      simp only [Bool.not_true, Bool.false_eq_true, if_false, Sem.run_pure, Result.andThen_ok]
      rw [this]
      simp [he]
    · simp [he]
theorem eqDg (a b : List UInt8) (ha : a.length = 32) (hb : b.length = 32) (W : World) : (Op.equalIn 10000 39 (.agg (dg a)) (.agg (dg b))).run Tryz.prog W = .ok (decide (a = b)) W := by
  rw [show 10000 = 9998 + 1 + 1 by rfl]
  rw [Op.equalIn]
  simp only [Sem.run_bind, run_underlying und27, Result.andThen_ok, Tryz.sizeOf5]
  rw [Std.Legacy.Range.forIn_eq_forIn_range']
  have hl : ∀ i ∈ List.range' 0 32 1, (dg a)[i]? = some (vb (S.by8 a i)) ∧ (dg b)[i]? = some (vb (S.by8 b i)) := fun i hi => by
    have : i < 32 := by simp [List.mem_range'] at hi; omega
    exact ⟨dg_at a i (by omega), dg_at b i (by omega)⟩
  have h := eqLoop 9998 a b (dg a) (dg b) W (List.range' 0 32 1) hl
  show ((Sem.run Tryz.prog (forIn (List.range' 0 32 1) _ _) W).andThen _) = _
  rw [h]
  by_cases he : a = b
  · subst he; simp
  · have hne : ¬ ∀ i ∈ List.range' 0 32 1, S.by8 a i = S.by8 b i := fun hall => he (eq_by8 (by omega) (fun j hj => hall j (by simp [List.mem_range']; omega)))
    rw [if_neg hne]; simp [he]
end Go.Proofs.YtlkllcnnnndllaaGreatDoor

/- The law's own 'awake' is true: the digest of "abc", a press, a row, the order. -/
namespace Go.Proofs.YtlkllcnnnndllaaGreatDoor
open Go.RowKit
set_option linter.unusedVariables false
attribute [local go_sem ↓] zero27

/-- the program's tables are there, and what lay in memory when the call began lies there still -/
structure GB (w W : World) : Prop where
  g : GW W
  b : Below w.heap.size w W
theorem GB.refl {w : World} (h : GW w) : GB w w := ⟨h, Below.refl _ _⟩
theorem GB.step {w W W' : World} (h : GB w W) (hb : Below W.heap.size W W') : GB w W' := ⟨h.g.below hb h.g.z, h.b.trans (hb.mono h.b.size)⟩
theorem GB.alloc {w W : World} (h : GB w W) (o : Obj) : GB w (W.alloc o) := h.step ((Below.refl _ W).alloc (Nat.le_refl _) _)
theorem GB.drewN {w W : World} (h : GB w W) (n : Nat) : GB w (W.drewN n) := h.step (below_drewN (Below.refl _ _) n)
theorem cell_new1 (W : World) (v : Value) (T : TypeId) : (W.alloc (.cells #[v] T)).cell? ⟨W.heap.size, 0, none⟩ = some v := by
  rw [cell_of_row _ _ 0 #[v] T (0, 0) (heap_alloc_new _ _)]; rfl

theorem Of_g (t : List UInt8) {w W : World} (T : TypeId) (h : GB w W) (hl : t.length ≤ 576460752303423488) :
    Calls Tryz.prog 18 #[.slice (some ⟨W.heap.size, 0, none⟩) 1 1] (W.alloc (.cells #[.string (M.bs t)] T)) fun e w' => e = .returned (.agg (dg (S.sha t))) ∧ GB w w' := by
  refine (Of_one t W.heap.size 1 _ (h.alloc _).g (by simp) (cell_new1 _ _ _) hl).mono ?_
  rintro e w' ⟨rfl, hb⟩
  exact ⟨rfl, (h.alloc _).step hb⟩
theorem Add2_g (t u : List UInt8) {w W : World} (T : TypeId) (h : GB w W) (hl : t.length + u.length ≤ 1048576) :
    Calls Tryz.prog 42 #[.pointer (some ⟨W.heap.size, 0, none⟩), .slice (some ⟨W.heap.size + 1, 0, none⟩) 2 2] ((W.alloc (.cells newC 118)).alloc (.cells #[.string (M.bs t), .string (M.bs u)] T)) fun e w' =>
      e = .returned (.pointer (some ⟨W.heap.size, 0, none⟩)) ∧ PrN W.heap.size (t ++ u) (t ++ u).length w' ∧ GB w w' := by
  have hz := h.g.z
  have h1 : (W.alloc (.cells newC 118)).heap.size = W.heap.size + 1 := by simp
  have hrow : ((W.alloc (.cells newC 118)).alloc (.cells #[.string (M.bs t), .string (M.bs u)] T)).heap[W.heap.size + 1]? = some (.cells #[.string (M.bs t), .string (M.bs u)] T (0, 0)) := by
    have := heap_alloc_new (W.alloc (.cells newC 118)) (.cells #[.string (M.bs t), .string (M.bs u)] T)
    rwa [h1] at this
  have hg := (h.alloc (.cells newC 118)).alloc (.cells #[.string (M.bs t), .string (M.bs u)] T)
  refine (Add_at W.heap.size [] [t, u] (some ⟨W.heap.size + 1, 0, none⟩) 2 _ ((newC_pr W).below ((Below.refl (W.heap.size + 1) _).alloc (by omega) _) (by omega)) hg.g.k hz (fun i v hv => ?_) (by simp; omega) (by simp)).mono ?_
  · refine ⟨W.heap.size + 1, 0, rfl, by simp, by omega, ?_⟩
    rw [cell_of_row _ _ _ _ _ _ hrow]
    rcases i with _ | _ | i
    · simp at hv; subst hv; rfl
    · simp at hv; subst hv; rfl
    · simp at hv
  · rintro e w' ⟨rfl, p1, p2⟩
    refine ⟨rfl, by simpa using p1, hg.g.off p2 hz, ?_⟩
    have hb2 : Below W.heap.size W ((W.alloc (.cells newC 118)).alloc (.cells #[.string (M.bs t), .string (M.bs u)] T)) := ((Below.refl _ W).alloc (Nat.le_refl _) _).alloc (by simp) _
    exact h.b.trans ((hb2.trans (p2.below (Nat.le_refl _) (by simp; omega))).mono h.b.size)
theorem Sum_g (b : Nat) (m : List UInt8) {w W : World} (h : GB w W) (hP : PrN b m m.length W) (hl : m.length ≤ 576460752303423488) :
    Calls Tryz.prog 43 #[.pointer (some ⟨b, 0, none⟩)] W fun e w' => e = .returned (.agg (dg (S.sha m))) ∧ GB w w' := by
  refine (Sum_at b m W hP h.g hl).mono ?_
  rintro e w' ⟨rfl, hb⟩
  exact ⟨rfl, h.step hb⟩
theorem Less_g (a b : List UInt8) {w W : World} (h : GB w W) (ha : a.length = 32) (hb : b.length = 32) :
    Calls Tryz.prog 63 #[.agg (dg a), .agg (dg b)] W fun e w' => e = .returned (.bool (ltB a b)) ∧ GB w w' := by
  refine (Less_at a b ha hb W).mono ?_
  rintro e w' ⟨rfl, hb⟩
  exact ⟨rfl, h.step hb⟩

def abcH : List UInt8 := [98, 97, 55, 56, 49, 54, 98, 102, 56, 102, 48, 49, 99, 102, 101, 97, 52, 49, 52, 49, 52, 48, 100, 101, 53, 100, 97, 101, 50, 50, 50, 51, 98, 48, 48, 51, 54, 49, 97, 51, 57, 54, 49, 55, 55, 97, 57, 99, 98, 52, 49, 48, 102, 102, 54, 49, 102, 50, 48, 48, 49, 53, 97, 100]
theorem hexAbc : hexB (S.sha [97, 98, 99]) = abcH := by rw [S.abc]; decide +kernel

end Go.Proofs.YtlkllcnnnndllaaGreatDoor
