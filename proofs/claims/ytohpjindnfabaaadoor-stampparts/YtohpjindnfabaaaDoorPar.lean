/- The walk of the law StampParts. -/
import Derived.Test.YtohpjindnfabaaaDoorJoi
import Derived.Deep.RegionHeld3
import Derived.LaidEqlPtr
namespace Go.Proofs.YtohpjindnfabaaaDoor
open Go.RowKit
set_option linter.unusedVariables false
attribute [local go_sem ↓] zero27

/-- a press behind m in block b, the tables, and what lay in memory when the call began -/
structure PG (w : World) (b : Nat) (m : List UInt8) (W : World) : Prop where
  p : PrN b m m.length W
  g : GB w W
theorem PG.step {w W W' : World} {b : Nat} {m : List UInt8} (h : PG w b m W) (hb : Below W.heap.size W W') : PG w b m W' := ⟨h.p.below hb h.p.lt, h.g.step hb⟩
theorem PG.alloc {w W : World} {b : Nat} {m : List UInt8} (h : PG w b m W) (o : Obj) : PG w b m (W.alloc o) := h.step ((Below.refl _ W).alloc (Nat.le_refl _) _)
theorem PG.drew {w W : World} {b : Nat} {m : List UInt8} (h : PG w b m W) : PG w b m W.drew := h.step (Below.refl _ W).drew
theorem Sum_pg {w W : World} {b : Nat} {m : List UInt8} (h : PG w b m W) (hl : m.length ≤ 576460752303423488) :
    Calls Tryd.prog 20 #[.pointer (some ⟨b, 0, none⟩)] W fun e w' => e = .returned (.agg (dg (S.sha m))) ∧ Below W.heap.size W w' ∧ PG w b m w' := by
  refine (Sum_at b m W h.p h.g.g hl).mono ?_
  rintro e w' ⟨rfl, hb⟩
  exact ⟨rfl, hb, h.step hb⟩
theorem Of_pg {w W : World} {b : Nat} {m : List UInt8} (h : PG w b m W) (t : List UInt8) (sb cap : Nat) (h2 : W.cell? ⟨sb, 0, none⟩ = some (.string (M.bs t))) (hl : t.length ≤ 576460752303423488) :
    Calls Tryd.prog 11 #[.slice (some ⟨sb, 0, none⟩) 1 cap] W fun e w' => e = .returned (.agg (dg (S.sha t))) ∧ Below W.heap.size W w' ∧ PG w b m w' := by
  have hlt : sb < W.heap.size := by
    rcases Nat.lt_or_ge sb W.heap.size with h | h
    · exact h
    · simp [World.cell?, Array.getElem?_eq_none h] at h2
  refine (Of_one t sb cap W h.g.g hlt h2 hl).mono ?_
  rintro e w' ⟨rfl, hb⟩
  exact ⟨rfl, hb, h.step hb⟩
theorem take_bs (s : List UInt8) (n : Nat) : (M.bs s).extract 0 n = M.bs (s.take n) := by
  rw [Lib.extract_eq]; simp [M.bs]
theorem Add1_pg {w W : World} {b : Nat} {m : List UInt8} (h : PG w b m W) (t : List UInt8) (T : TypeId) (hb : w.heap.size ≤ b) (hl : m.length + t.length ≤ 576460752303423488) (h2 : 2 ≤ b) :
    Calls Tryd.prog 22 #[.pointer (some ⟨b, 0, none⟩), .slice (some ⟨W.heap.size, 0, none⟩) 1 1] (W.alloc (.cells #[.string (M.bs t)] T)) fun e w' =>
      e = .returned (.pointer (some ⟨b, 0, none⟩)) ∧ PG w b (m ++ t) w' := by
  refine (Add1_g b m t T h.g h.p hb hl h2).mono ?_
  rintro e w' ⟨rfl, p1, g1⟩
  exact ⟨rfl, p1, g1⟩

theorem neq_same (a : Addr) (W : World) : (binOp .neq 34 (.pointer (some a)) (.pointer (some a))).run Tryd.prog W = .ok (.bool false) W := by
  obtain ⟨j, hj⟩ : ∃ j, Tryd.prog.info? 54 = some j := by
    have := info54
    cases h : Tryd.prog.info? 54 with
    | none => rw [h] at this; simp at this
    | some j => exact ⟨j, rfl⟩
  have h : ∀ d : Nat, (Op.equalIn (d + 1) 34 (.pointer (some a)) (.pointer (some a))).run Tryd.prog W = .ok true W := fun d => by
    simp [Op.equalIn, run_underlying Tryd.underlying34, sizeOf, typeInfo, hj, run_sameAddr_same]
  simp only [binOp]
  simp [Op.equal, Op.maxDepth, h 9999]

/-- two presses behind F -/
structure P2 (w : World) (b c : Nat) (F : List UInt8) (W : World) : Prop where
  pg : PG w b F W
  q : PrN c F F.length W
theorem P2.step {w W W' : World} {b c : Nat} {F : List UInt8} (h : P2 w b c F W) (hb : Below W.heap.size W W') : P2 w b c F W' := ⟨h.pg.step hb, h.q.below hb h.q.lt⟩
theorem P2.alloc {w W : World} {b c : Nat} {F : List UInt8} (h : P2 w b c F W) (o : Obj) : P2 w b c F (W.alloc o) := h.step ((Below.refl _ W).alloc (Nat.le_refl _) _)
theorem zero_eq (W : World) : (Op.equalIn 10000 27 (.agg zero32) (.agg zero32)).run Tryd.prog W = .ok true W := by
  have := eqDg d0 d0 (by simp [d0]) (by simp [d0]) W
  rwa [dg_d0, decide_eq_true rfl] at this
theorem Sum_nil (W : World) : Calls Tryd.prog 20 #[.pointer none] W fun e w' => e = .returned (.agg zero32) ∧ Below W.heap.size W w' := by
  have hR0 : (W.alloc (.cells zero32 27)).heap[W.heap.size]? = some (.cells zero32 27 (0, 0)) := heap_alloc_new _ _
  have HR0 : Hid ((W.alloc (.cells zero32 27)).heap[W.heap.size]? = some (.cells zero32 27 (0, 0))) := hR0
  clear hR0
  have hzs := zero32_size
  have hone : zero32.all (·.oneCell') = true := by rw [← dg_d0]; exact dg_one _
  have HB : Hid (Below W.heap.size W (W.alloc (.cells zero32 27))) := (Below.refl _ W).alloc (Nat.le_refl _) _
  go_enter Tryd.func20, Tryd.ntmps20
  go_wp2_with (refine wpList_store_row rfl 27 _ _ rfl W.heap.size zero32 rfl rfl 27 zero32 HR0.out (by rw [hzs]; exact info27) rfl hone ?_)
  (try simp only [Exit.inBlock, Exit.then])
  refine bodyPost_ret (results_cell_row rfl _ _ _ 27 _ (0, 0) _ rfl (setRow_heap _ _ _ _ _ _ HR0.out) und27 rfl (by rw [hzs]; exact info27)) rfl ?_
  exact ⟨rfl, below_setRow HB.out (Nat.le_refl _) _⟩

set_option maxRecDepth 4000 in
set_option maxHeartbeats 8000000 in
theorem stampParts_walk (l : List (List UInt8)) (a : Option Addr) (cap : Nat) (w : World) (hv : Hid (TX w a l)) (hn : l.length ≤ 100) (hall : Hid (∀ t ∈ l, t.length ≤ 4096)) (hG : GW w) :
    Calls Tryd.prog 5 #[.slice a l.length cap] w fun e w' => e = .returned (.bool true) ∧ Below w.heap.size w w' := by
  have hz := hG.z
  have HG : Hid (GB w w) := GB.refl hG
  clear hG
  have hfl : l.flatten.length ≤ 409600 := by
    have := cat_len l l.length hall.out
    rw [cat_all] at this; omega
  have hbf := M.bs_size l.flatten
  have CJ : Hid (∀ W, GB w W → Calls Tryd.prog 10 #[.slice a l.length cap] W fun e w' => e = .returned (.tuple #[.string (M.bs l.flatten), .bool true]) ∧ w' = W) := fun W h =>
    joined_loop l a cap W (fun i t ht => by
      obtain ⟨sb, off, h1, h2, h3⟩ := hv.out i t ht
      exact ⟨sb, off, h1, Nat.lt_of_lt_of_le h2 h.b.size, by rw [h.b.cell (p := ⟨sb, off + i, none⟩) h2]; exact h3⟩) hn l.length (Nat.le_refl _) (fun i u _ hu => hall.out u (List.mem_of_getElem? hu)) (fun u hu => by rw [List.getElem?_eq_none (Nat.le_refl _)] at hu; simp at hu) _ (by show if _ then _ else _; rw [if_pos rfl])
  obtain ⟨F, hF⟩ : ∃ F, F = l.flatten := ⟨_, rfl⟩
  rw [← hF] at hfl hbf CJ
  have HF : Hid (F = l.flatten) := hF
  clear hF
  go_enter Tryd.func5, Tryd.ntmps5
  go_wp2_with (first
    | (go_at_call 9; refine (awake_g HG).mono ?_; clear HG; rintro e w1 ⟨rfl, HG⟩)
    | (go_at_call 10; refine (CJ.out _ HG).mono ?_; rintro e w1 ⟨rfl, rfl⟩)
    | (go_at_call 19; refine (New_g HG).mono ?_; have HSz := HG.b.size; clear HG; rintro e w2 ⟨rfl, HP, HG⟩))
  obtain ⟨b, hb⟩ : ∃ b, b = w1.heap.size := ⟨_, rfl⟩
  rw [← hb] at HP HSz ⊢
  clear hb
  have hb2 : 2 ≤ b := by omega
  have HPG : Hid (PG w b [] w2) := ⟨HP, HG⟩
  clear HP HG
  go_loopw [6, 7] (fun u6 u7 wr => ∃ k : Nat, k ≤ l.length ∧ u7 = .int .i64 k ∧ u6 = .int .i64 ((cat l k).length : Int) ∧ PG w b (cat l k) wr) (fun _ u7 _ => l.length - (intOf u7).toNat)
  case atStart => exact ⟨0, Nat.zero_le _, rfl, rfl, HPG.out⟩
  case round =>
    obtain ⟨k, hk, rfl, rfl, hS⟩ := hrel
    clear HPG
    have hcle := cat_le l k
    rw [← HF.out] at hcle
    by_cases hlt : k < l.length
    · obtain ⟨t, ht⟩ : ∃ t, l[k]? = some t := ⟨l[k], List.getElem?_eq_getElem hlt⟩
      have hcs := cat_succ l k t ht
      have hcl2 := cat_le l (k + 1)
      rw [hcs, List.length_append, ← HF.out] at hcl2
      have HCS : Hid (cat l (k + 1) = cat l k ++ t) := hcs
      have htk : F.take (cat l k).length = cat l k := by
        rw [HF.out]
        have e : l.flatten = cat l k ++ (l.drop k).flatten := by unfold cat; rw [← List.flatten_append, List.take_append_drop]
        rw [e, List.take_left]
      have hex : (M.bs F).extract 0 (cat l k).length = M.bs (cat l k) := by rw [take_bs, htk]
      have HCell : Hid (∀ W, GB w W → ∃ sb off, a = some ⟨sb, off, none⟩ ∧ W.cell? ⟨sb, off + k, none⟩ = some (.string (M.bs t))) := fun W h => by
        obtain ⟨sb, off, h1, h2, h3⟩ := hv.out k t ht
        exact ⟨sb, off, h1, by rw [h.b.cell (p := ⟨sb, off + k, none⟩) h2]; exact h3⟩
      obtain ⟨sb0, off0, rfl, _, _⟩ := hv.out k t ht
      have HCell2 : Hid (∀ W, GB w W → W.cell? ⟨sb0, off0 + k, none⟩ = some (.string (M.bs t))) := fun W h => by
        obtain ⟨sb, off, h1, h3⟩ := HCell.out W h
        obtain ⟨rfl, rfl⟩ : sb0 = sb ∧ off0 = off := by simpa using h1
        exact h3
      have hbt := M.bs_size t
      clear hcs htk HCell ht hv
      obtain ⟨m, hm⟩ : ∃ m, m = cat l k := ⟨_, rfl⟩
      rw [← hm] at hS hcle hcl2 hex ⊢
      have HM : Hid (m = cat l k) := hm
      clear hm
      have e1 : ∀ W, (Op.equalIn 10000 27 (.agg (dg (S.sha m))) (.agg (dg (S.sha m)))).run Tryd.prog W = .ok (decide (S.sha m = S.sha m)) W := eqDg (S.sha m) (S.sha m) (S.sha_length _) (S.sha_length _)
      rw [decide_eq_true rfl] at e1
      have hml : m.length ≤ 409600 := by omega
      have j1 : (m.length : Int) ≤ (F.length : Int) := by omega
      have j0 : (0 : Int) ≤ (m.length : Int) := by omega
      have jn : ((m.length : Int)).toNat = m.length := by omega
      have hbe : ((m.length : Int) == (m.length : Int)) = true := by simp
      have hbn : ((m.length : Int) != (m.length : Int)) = false := by simp
      have HS : PG w b m wr := hS
      have hkl : (k : Int) < (l.length : Int) := by omega
      have hpn := neq_same ⟨b, 0, none⟩
      have hll : t.length ≤ 409600 := by omega
      go_wp2_with fail
      go_region_held3 (fun w' => PG w b m w') (first | exact HS | exact HS.drew | exact HS.alloc _ | exact HS.drew.alloc _)
        (first
          | (go_at_call 20; refine (Sum_pg (by first | exact HS | exact HS.drew | exact HS.alloc _ | exact HS.drew.alloc _) (by omega)).mono ?_; clear HS; rintro e w' ⟨rfl, g, HS⟩)
          | (go_at_call 11; refine (Of_pg (by first | exact HS | exact HS.drew | exact HS.alloc _ | exact HS.drew.alloc _) m _ _ (by first | exact cell_new1 _ _ _ | exact (g.cell (p := ⟨_, 0, none⟩) (by simp)).trans (cell_new1 _ _ _)) (by omega)).mono ?_; clear HS; rintro e w' ⟨rfl, g', HS⟩)
          | (go_at_call 21; refine (Len_at b m _ HS.p).mono ?_; rintro e w' ⟨rfl, rfl⟩))
      all_goals
        have hcell := HCell2.out _ HS.g
        have CA : Hid (∀ W T, PG w b m W → Calls Tryd.prog 22 #[.pointer (some ⟨b, 0, none⟩), .slice (some ⟨W.heap.size, 0, none⟩) 1 1] (W.alloc (.cells #[.string (M.bs t)] T)) fun e w' => e = .returned (.pointer (some ⟨b, 0, none⟩)) ∧ PG w b (m ++ t) w') :=
          fun W T h => Add1_pg h t T HSz (by omega) hb2
        go_wp2_with (go_at_call 22; refine (CA.out _ _ HS).mono ?_; clear HS hcell; rintro e w' ⟨rfl, HS⟩; have hcell := HCell2.out _ HS.g)
      all_goals
        go_roundw
        case rel =>
          refine ⟨k + 1, by omega, by go_num, ?_, ?_⟩
          · rw [HCS.out, ← HM.out, List.length_append]; congr 1
          · rw [HCS.out, ← HM.out]; exact HS
        case measure => simp [intOf]; omega
    · have hdf : decide ((k : Int) < (l.length : Int)) = false := by simp; omega
      have hnl : ¬ (k : Int) < (l.length : Int) := by omega
      have hcf : cat l k = F := by rw [HF.out, ← cat_all]; congr 1; omega
      rw [hcf] at hS hcle ⊢
      have e1 : ∀ W, (Op.equalIn 10000 27 (.agg (dg (S.sha F))) (.agg (dg (S.sha F)))).run Tryd.prog W = .ok (decide (S.sha F = S.sha F)) W := eqDg (S.sha F) (S.sha F) (S.sha_length _) (S.sha_length _)
      rw [decide_eq_true rfl] at e1
      clear hcf
      obtain ⟨c, hc⟩ : ∃ c, c = wr.heap.size := ⟨_, rfl⟩
      have hbc : b < c := by rw [hc]; exact hS.p.lt
      have CA : Hid (Calls Tryd.prog 22 #[.pointer (some ⟨wr.heap.size, 0, none⟩), .slice a l.length cap] (wr.alloc (.cells newC 54)) fun e w' => e = .returned (.pointer (some ⟨c, 0, none⟩)) ∧ P2 w b c F w') := by
        have hS2 := hS
        refine (Of_parts l a cap wr hS.g.g (fun i t ht => ?_) (by rw [← HF.out]; omega) (by omega)).mono ?_
        · obtain ⟨sb, off, h1, h2, h3⟩ := hv.out i t ht
          exact ⟨sb, off, h1, Nat.lt_of_lt_of_le h2 hS2.g.b.size, by rw [hS2.g.b.cell (p := ⟨sb, off + i, none⟩) h2]; exact h3⟩
        · rintro e w' ⟨rfl, h1, h2, h3⟩
          rw [← HF.out, ← hc] at h1
          exact ⟨by rw [hc], hS2.step h3, h1⟩
      have CA0 : Hid (∀ W, P2 w b c F W → Calls Tryd.prog 22 #[.pointer (some ⟨c, 0, none⟩), .slice none 0 0] W fun e w' => e = .returned (.pointer (some ⟨c, 0, none⟩)) ∧ P2 w b c F w') := fun W h => by
        refine (Add_at c F [] none 0 W h.q h.pg.g.g.k (by omega) (fun i t ht => by simp at ht) (by simp; omega) (by simp)).mono ?_
        rintro e w' ⟨rfl, h1, h2⟩
        simp only [List.flatten_nil, List.append_nil] at h1
        exact ⟨rfl, ⟨⟨h.pg.p.off h2 (by omega), h.pg.g.g.off h2 (by omega), h.pg.g.b.trans (h2.below (by omega) h.pg.g.b.size)⟩, h1⟩⟩
      have CS : Hid (∀ (x : Nat) (W : World), (x = b ∨ x = c) → P2 w b c F W → Calls Tryd.prog 20 #[.pointer (some ⟨x, 0, none⟩)] W fun e w' => e = .returned (.agg (dg (S.sha F))) ∧ P2 w b c F w') := fun x W hx h => by
        refine (Sum_at x F W (by rcases hx with rfl | rfl; exact h.pg.p; exact h.q) h.pg.g.g (by omega)).mono ?_
        rintro e w' ⟨rfl, hb⟩
        exact ⟨rfl, h.step hb⟩
      have CO : Hid (∀ W T, P2 w b c F W → Calls Tryd.prog 11 #[.slice (some ⟨W.heap.size, 0, none⟩) 1 1] (W.alloc (.cells #[.string (M.bs F)] T)) fun e w' => e = .returned (.agg (dg (S.sha F))) ∧ P2 w b c F w') := fun W T h => by
        refine (Of_one F W.heap.size 1 _ (h.alloc _).pg.g.g (by simp) (cell_new1 _ _ _) (by omega)).mono ?_
        rintro e w' ⟨rfl, hb⟩
        exact ⟨rfl, (h.alloc _).step hb⟩
      have CN : Hid (∀ W, P2 w b c F W → Calls Tryd.prog 20 #[.pointer none] W fun e w' => e = .returned (.agg zero32) ∧ P2 w b c F w') := fun W h => by
        refine (Sum_nil W).mono ?_
        rintro e w' ⟨rfl, hb⟩
        exact ⟨rfl, h.step hb⟩
      have hzE := zero_eq
      have hz32 : zero32.size = 32 := zero32_size
      have hFe : ((F.length : Int) == (F.length : Int)) = true := by simp
      have HNew : Hid (GW wr) := hS.g.g
      have T1 : Hid (∀ W : World, P2 w b c F W → Calls Tryd.prog 20 #[.pointer (some ⟨b, 0, none⟩)] W fun e w' => e = .returned (.agg (dg (S.sha F))) ∧ P2 w b c F w') := fun W h => CS.out b W (Or.inl rfl) h
      have T2 : Hid (∀ W : World, P2 w b c F W → Calls Tryd.prog 20 #[.pointer (some ⟨c, 0, none⟩)] W fun e w' => e = .returned (.agg (dg (S.sha F))) ∧ P2 w b c F w') := fun W h => CS.out c W (Or.inr rfl) h
      have T3 := T1
      have T4 : Hid (∀ W : World, P2 w b c F W → Calls Tryd.prog 21 #[.pointer (some ⟨b, 0, none⟩)] W fun e w' => e = .returned (.int .i64 (F.length : Int)) ∧ w' = W) := fun W h => Len_at b F W h.pg.p
      clear hS hc CS
      go_wp2_with (first
        | (go_at_call 19; refine (New_at _ HNew.out).mono ?_; rintro e w3 ⟨rfl, rfl⟩)
        | (go_at_call 22; refine CA.out.mono ?_; clear CA; rintro e w' ⟨rfl, HS⟩)
        | (go_at_call 22; refine (CA0.out _ HS).mono ?_; clear HS CA0; rintro e w' ⟨rfl, HS⟩)
        | (go_at_call 22; refine (Add_nil _ _).mono ?_; rintro e w' ⟨rfl, rfl⟩)
        | (go_at_call 20; refine (T1.out _ HS).mono ?_; clear HS T1; rintro e w' ⟨rfl, HS⟩)
        | (go_at_call 20; refine (T2.out _ HS).mono ?_; clear HS T2; rintro e w' ⟨rfl, HS⟩)
        | (go_at_call 20; refine (T3.out _ HS).mono ?_; clear HS T3; rintro e w' ⟨rfl, HS⟩)
        | (go_at_call 20; refine (CN.out _ (HS.alloc _)).mono ?_; clear HS; rintro e w' ⟨rfl, HS⟩)
        | (go_at_call 11; refine (CO.out _ _ HS).mono ?_; clear HS; rintro e w' ⟨rfl, HS⟩)
        | (go_at_call 21; refine (T4.out _ HS).mono ?_; clear T4; rintro e w' ⟨rfl, rfl⟩)
        | (go_at_call 21; refine (Len_nil _).mono ?_; rintro e w' ⟨rfl, rfl⟩))
      go_ret
      exact ⟨rfl, HS.pg.g.b⟩
end Go.Proofs.YtohpjindnfabaaaDoor
