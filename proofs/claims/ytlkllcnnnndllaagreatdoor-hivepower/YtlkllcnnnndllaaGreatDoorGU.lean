/- The texts Y5i Y5j as one. -/
import Derived.Test.YtlkllcnnnndllaaGreatDoorGY
import Derived.Test.YtlkllcnnnndllaaGreatDoorE9
import Derived.Deep.AppendLies
/- For HivePower: records in a list; known. -/
namespace Go.Proofs.YtlkllcnnnndllaaGreatDoor
open Go.RowKit Go.Maps
set_option linter.unusedVariables false
set_option linter.unusedSimpArgs false

/-- records as a slice -/
def RL (W : World) (a : Option Addr) (L : List V.Rc) : Prop := ∀ (i : Nat) (r : V.Rc), L[i]? = some r → ∃ g off, a = some ⟨g, off, none⟩ ∧ g < W.heap.size ∧ W.rangeAt g (off + i * 65) (rvL r) ∧ Rc32 r
theorem RL.below {W W' : World} {a : Option Addr} {L : List V.Rc} (h : RL W a L) (hb : Below W.heap.size W W') : RL W' a L := fun i r hr => by
  obtain ⟨g, off, h1, h2, h3, h4⟩ := h i r hr
  exact ⟨g, off, h1, by have := hb.size; omega, fun j v hv => by rw [hb.cell (p := ⟨g, off + i * 65 + j, none⟩) h2]; exact h3 j v hv, h4⟩
def eqR (x r : V.Rc) : Bool := decide (x.key = r.key ∧ x.code = r.code ∧ x.out = r.out)
theorem eqR_iff {x r : V.Rc} : eqR x r = true ↔ x = r := by
  unfold eqR
  rw [decide_eq_true_eq]
  cases x; cases r
  simp
def knB (L : List V.Rc) (r : V.Rc) : Bool := L.any (fun x => eqR x r)
theorem knB_iff {L : List V.Rc} {r : V.Rc} : knB L r = true ↔ r ∈ L := by
  unfold knB
  rw [List.any_eq_true]
  constructor
  · rintro ⟨x, hx, he⟩
    rw [← eqR_iff.1 he]; exact hx
  · intro h
    exact ⟨r, h, eqR_iff.2 rfl⟩
set_option maxRecDepth 8000 in
set_option maxHeartbeats 2000000 in
theorem known_at (a : Option Addr) (c : Nat) (L : List V.Rc) (r : V.Rc) (hr : Rc32 r) (W : World) (h : RL W a L) (hn : L.length ≤ 9223372036854775807) :
    Calls Tryz.prog 21 #[.slice a L.length c, .agg (rv r)] W fun e w' => e = .returned (.bool (knB L r)) ∧ Below W.heap.size W w' := by
  obtain ⟨fs35, hum35⟩ := und35
  have HT : Hid (RL W a L) := h
  have HB0 : Hid (Below W.heap.size W (W.alloc (.cells (rv r) 41))) := (Below.refl _ W).alloc (Nat.le_refl _) _
  have HRR : Hid ((W.alloc (.cells (rv r) 41)).heap[W.heap.size]? = some (.cells (rv r) 41 (0, 0))) := heap_alloc_new _ _
  have hi35r : (Tryz.prog.info? 41).map (·.size) = some (rvL r).length := by rw [rvL_length hr]; exact info35
  clear h
  go_enter Tryz.func21, Tryz.ntmps21
  go_wp2_with fail
  go_loopw [5] (fun u5 wr => ∃ k : Nat, k ≤ L.length ∧ u5 = .int .i64 (k : Int) ∧ Below (W.heap.size + 1) (W.alloc (.cells (rv r) 41)) wr ∧ ∀ (j : Nat) (y : V.Rc), j < k → L[j]? = some y → eqR y r = false) (fun u5 _ => L.length - (intOf u5).toNat)
  case atStart => exact ⟨0, Nat.zero_le _, rfl, Below.refl _ _, fun j y h => by omega⟩
  case round =>
    obtain ⟨k, hk, rfl, hbe1, hpre⟩ := hrel
    have HBE1 : Hid (Below (W.heap.size + 1) (W.alloc (.cells (rv r) 41)) wr) := hbe1
    have HBE : Hid (Below W.heap.size W wr) := HB0.out.trans (hbe1.mono (by omega))
    have HP : Hid (∀ (j : Nat) (y : V.Rc), j < k → L[j]? = some y → eqR y r = false) := hpre
    clear hbe1 hpre
    by_cases hlt : k < L.length
    · obtain ⟨y, hy⟩ : ∃ y, L[k]? = some y := ⟨L[k], List.getElem?_eq_getElem hlt⟩
      obtain ⟨sb, off, ha, hsb, hrg, hy32⟩ := HT.out k y hy
      cases ha
      have hi35y : (Tryz.prog.info? 41).map (·.size) = some (rvL y).length := by rw [rvL_length hy32]; exact info35
      have k0 : (0 : Int) ≤ (k : Int) := by omega
      have k1 : (k : Int) < (L.length : Int) := by omega
      have KP0 : wr.drew.rangeAt sb (off + k * 65) (rvL y) ∧ wr.drew.rangeAt W.heap.size 0 (rvL r) :=
        ⟨fun j v hv => by have := HBE.out.drew.cell (p := ⟨sb, off + k * 65 + j, none⟩) hsb; rw [this]; exact hrg j v hv,
         range_part (C := rv r) (T := 41) (by rw [HBE1.out.drew.block _ (by omega)]; exact HRR.out) [] (rvL r) [] 0 (by simp [rv]) rfl⟩
      have HY : Hid (L[k]? = some y) := hy
      by_cases he : eqR y r = true
      · have HYES : Hid (knB L r = true) := knB_iff.2 (by rw [← eqR_iff.1 he]; exact List.mem_of_getElem? hy)
        have hEQ : ∀ W', (Op.equalIn 10000 41 (.agg (rvL y).toArray) (.agg (rvL r).toArray)).run Tryz.prog W' = .ok true W' := fun W' => by
          have := eqRc y r hy32 hr W'
          unfold eqR at he
          rw [he] at this
          exact this
        clear he hy hrg HP
        go_wp2_with fail
        refine wp_region_noPanic ?_
        refine wp_region_held_drew (S := (fun W' => W'.rangeAt sb (off + k * 65) (rvL y) ∧ W'.rangeAt W.heap.size 0 (rvL r))) (by kernel_rfl) (KP0) (fun hHeld => ?_)
        refine wpAnyH_take (i := 0) rfl (by kernel_rfl) (by kernel_rfl) (by kernel_rfl) (fun _ _ _ h => h) (yi_move (by kernel_rfl) rfl rfl) (by assumption) ?_
        simp only [Act.put, List.getElem_toArray, List.getElem_cons_succ, List.getElem_cons_zero, List.setIfInBounds_toArray, List.set_cons_zero, List.set_cons_succ]
        refine wpAnyH_take (i := 1) rfl (by kernel_rfl) (by kernel_rfl) (by kernel_rfl) (fun _ _ _ h => h) (yi_move (by kernel_rfl) rfl rfl) (by assumption) ?_
        simp only [Act.put, List.getElem_toArray, List.getElem_cons_succ, List.getElem_cons_zero, List.setIfInBounds_toArray, List.set_cons_zero, List.set_cons_succ]
        refine wpAnyH_take (i := 2) (v := ?_) rfl (by kernel_rfl) (by kernel_rfl) (by kernel_rfl) (fun _ _ _ h => h) (Or.inl ⟨by kernel_rfl, ?_⟩) (by assumption) ?_
        rotate_left
        · (intro w hSw; (try dsimp only at hSw); go_simp; (try with_reducible rfl))
        simp only [Act.put, List.getElem_toArray, List.getElem_cons_succ, List.getElem_cons_zero, List.setIfInBounds_toArray, List.set_cons_zero, List.set_cons_succ]
        refine wpAnyH_take (i := 3) (v := .agg (List.toArray (rvL y))) rfl (by kernel_rfl) (by kernel_rfl) (by kernel_rfl) (fun _ _ _ h => h) (yieldsIf_load_mid (by kernel_rfl) _ (.tmp 14) (by kernel_rfl) sb (off + k * 65) (by kernel_rfl) (rvL y) _ (fun W hW => hW.1) hum35 rfl hi35y) (by assumption) ?_
        simp only [Act.put, List.getElem_toArray, List.getElem_cons_succ, List.getElem_cons_zero, List.setIfInBounds_toArray, List.set_cons_zero, List.set_cons_succ]
        refine wpAnyH_take (i := 4) (v := .agg (List.toArray (rvL r))) rfl (by kernel_rfl) (by kernel_rfl) (by kernel_rfl) (fun _ _ _ h => h) (yieldsIf_load_mid (by kernel_rfl) _ (.tmp 3) (by kernel_rfl) W.heap.size 0 (by kernel_rfl) (rvL r) _ (fun W hW => hW.2) hum35 rfl hi35r) (by assumption) ?_
        simp only [Act.put, List.getElem_toArray, List.getElem_cons_succ, List.getElem_cons_zero, List.setIfInBounds_toArray, List.set_cons_zero, List.set_cons_succ]
        refine wpAnyH_take (i := 5) (v := ?_) rfl (by kernel_rfl) (by kernel_rfl) (by kernel_rfl) (fun _ _ _ h => h) (Or.inl ⟨by kernel_rfl, ?_⟩) (by assumption) ?_
        rotate_left
        · (intro w hSw; have heq := hEQ w; go_simp; (try with_reducible rfl))
        simp only [Act.put, List.getElem_toArray, List.getElem_cons_succ, List.getElem_cons_zero, List.setIfInBounds_toArray, List.set_cons_zero, List.set_cons_succ]
        refine wpAnyH_done (by kernel_rfl) ?_ _
        refine NoPanic.normal ?_
        clear hHeld KP0 hEQ
        go_wp2_with fail
        go_ret
        exact ⟨by rw [HYES.out]; rfl, HBE.out.drew⟩
      · have he' : eqR y r = false := by simpa using he
        have HN : Hid (∀ (j : Nat) (z : V.Rc), j < k + 1 → L[j]? = some z → eqR z r = false) := fun j z hj hz => by
          by_cases e : j = k
          · subst e; rw [HY.out] at hz; cases hz; exact he'
          · exact HP.out j z (by omega) hz
        have hEQ : ∀ W', (Op.equalIn 10000 41 (.agg (rvL y).toArray) (.agg (rvL r).toArray)).run Tryz.prog W' = .ok false W' := fun W' => by
          have := eqRc y r hy32 hr W'
          unfold eqR at he'
          rw [he'] at this
          exact this
        clear he he' hy hrg HP
        go_wp2_with fail
        refine wp_region_noPanic ?_
        refine wp_region_held_drew (S := (fun W' => W'.rangeAt sb (off + k * 65) (rvL y) ∧ W'.rangeAt W.heap.size 0 (rvL r))) (by kernel_rfl) (KP0) (fun hHeld => ?_)
        refine wpAnyH_take (i := 0) rfl (by kernel_rfl) (by kernel_rfl) (by kernel_rfl) (fun _ _ _ h => h) (yi_move (by kernel_rfl) rfl rfl) (by assumption) ?_
        simp only [Act.put, List.getElem_toArray, List.getElem_cons_succ, List.getElem_cons_zero, List.setIfInBounds_toArray, List.set_cons_zero, List.set_cons_succ]
        refine wpAnyH_take (i := 1) rfl (by kernel_rfl) (by kernel_rfl) (by kernel_rfl) (fun _ _ _ h => h) (yi_move (by kernel_rfl) rfl rfl) (by assumption) ?_
        simp only [Act.put, List.getElem_toArray, List.getElem_cons_succ, List.getElem_cons_zero, List.setIfInBounds_toArray, List.set_cons_zero, List.set_cons_succ]
        refine wpAnyH_take (i := 2) (v := ?_) rfl (by kernel_rfl) (by kernel_rfl) (by kernel_rfl) (fun _ _ _ h => h) (Or.inl ⟨by kernel_rfl, ?_⟩) (by assumption) ?_
        rotate_left
        · (intro w hSw; (try dsimp only at hSw); go_simp; (try with_reducible rfl))
        simp only [Act.put, List.getElem_toArray, List.getElem_cons_succ, List.getElem_cons_zero, List.setIfInBounds_toArray, List.set_cons_zero, List.set_cons_succ]
        refine wpAnyH_take (i := 3) (v := .agg (List.toArray (rvL y))) rfl (by kernel_rfl) (by kernel_rfl) (by kernel_rfl) (fun _ _ _ h => h) (yieldsIf_load_mid (by kernel_rfl) _ (.tmp 14) (by kernel_rfl) sb (off + k * 65) (by kernel_rfl) (rvL y) _ (fun W hW => hW.1) hum35 rfl hi35y) (by assumption) ?_
        simp only [Act.put, List.getElem_toArray, List.getElem_cons_succ, List.getElem_cons_zero, List.setIfInBounds_toArray, List.set_cons_zero, List.set_cons_succ]
        refine wpAnyH_take (i := 4) (v := .agg (List.toArray (rvL r))) rfl (by kernel_rfl) (by kernel_rfl) (by kernel_rfl) (fun _ _ _ h => h) (yieldsIf_load_mid (by kernel_rfl) _ (.tmp 3) (by kernel_rfl) W.heap.size 0 (by kernel_rfl) (rvL r) _ (fun W hW => hW.2) hum35 rfl hi35r) (by assumption) ?_
        simp only [Act.put, List.getElem_toArray, List.getElem_cons_succ, List.getElem_cons_zero, List.setIfInBounds_toArray, List.set_cons_zero, List.set_cons_succ]
        refine wpAnyH_take (i := 5) (v := ?_) rfl (by kernel_rfl) (by kernel_rfl) (by kernel_rfl) (fun _ _ _ h => h) (Or.inl ⟨by kernel_rfl, ?_⟩) (by assumption) ?_
        rotate_left
        · (intro w hSw; have heq := hEQ w; go_simp; (try with_reducible rfl))
        simp only [Act.put, List.getElem_toArray, List.getElem_cons_succ, List.getElem_cons_zero, List.setIfInBounds_toArray, List.set_cons_zero, List.set_cons_succ]
        refine wpAnyH_done (by kernel_rfl) ?_ _
        refine NoPanic.normal ?_
        clear hHeld KP0 hEQ
        go_wp2_with fail
        go_roundw
        case rel => exact ⟨k + 1, by omega, by go_num, HBE1.out.drew, HN.out⟩
        case measure => simp [intOf]; omega
    · obtain rfl : k = L.length := by omega
      have HNO : Hid (knB L r = false) := by
        show _ = _
        unfold knB
        rw [List.any_eq_false]
        intro y hy
        obtain ⟨i, hi, rfl⟩ := List.getElem_of_mem hy
        rw [HP.out i L[i] hi (List.getElem?_eq_getElem hi)]
        simp
      go_wp2_with fail
      go_ret
      exact ⟨by rw [HNO.out]; rfl, HBE.out⟩
end Go.Proofs.YtlkllcnnnndllaaGreatDoor

/- For HivePower: records are appended to a row of one's own. -/
namespace Go.Proofs.YtlkllcnnnndllaaGreatDoor
open Go.RowKit Go.Maps
set_option linter.unusedVariables false
set_option linter.unusedSimpArgs false

/-- records' cells in a row -/
def flR (L : List V.Rc) : List Value := L.flatMap rvL
theorem flR_len : ∀ {L : List V.Rc}, (∀ r ∈ L, Rc32 r) → (flR L).length = L.length * 65
  | [], _ => rfl
  | d :: r, h => by
    have hr := flR_len (L := r) (fun x hx => h x (List.mem_cons_of_mem _ hx))
    have hd := rvL_length (h d (List.mem_cons_self ..))
    unfold flR at hr ⊢
    rw [List.flatMap_cons, List.length_append, hd, hr, List.length_cons]; omega
theorem flR_at : ∀ {L : List V.Rc} (_ : ∀ r ∈ L, Rc32 r) {i : Nat} {d : V.Rc}, L[i]? = some d → ∃ a z, flR L = a ++ (rvL d ++ z) ∧ a.length = i * 65
  | [], _, i, d, h => by simp at h
  | x :: r, hA, i, d, h => by
    cases i with
    | zero =>
      simp at h; subst h
      exact ⟨[], flR r, rfl, rfl⟩
    | succ i =>
      have h' : r[i]? = some d := by simpa using h
      obtain ⟨a, z, h1, h2⟩ := flR_at (L := r) (fun y hy => hA y (List.mem_cons_of_mem _ hy)) h'
      refine ⟨rvL x ++ a, z, ?_, by rw [List.length_append, rvL_length (hA x (List.mem_cons_self ..)), h2]; omega⟩
      unfold flR at h1 ⊢
      rw [List.flatMap_cons, h1, List.append_assoc]
theorem flR_get {L : List V.Rc} (h : ∀ r ∈ L, Rc32 r) {t : Nat} {u : Value} (hu : (flR L)[t]? = some u) : ∃ d, L[t / 65]? = some d ∧ (rvL d)[t % 65]? = some u := by
  have hl := flR_len h
  have ht : t < L.length * 65 := by have := (List.getElem?_eq_some_iff.1 hu).1; omega
  have hq : t / 65 < L.length := by omega
  have hd : L[t / 65]? = some L[t / 65] := List.getElem?_eq_getElem hq
  obtain ⟨a, z, h1, h2⟩ := flR_at h hd
  have hr := rvL_length (h _ (List.mem_of_getElem? hd))
  refine ⟨_, hd, ?_⟩
  rw [h1, List.getElem?_append_right (by omega), h2, List.getElem?_append_left (by omega), show t - t / 65 * 65 = t % 65 by omega] at hu
  exact hu
theorem flR_one {L : List V.Rc} : ∀ u ∈ flR L, u.oneCell' = true := fun u hu => by
  unfold flR at hu
  obtain ⟨r, _, hr⟩ := List.mem_flatMap.1 hu
  exact rvL_one r u hr
/-- a row of one's own, read as records -/
theorem owns_rl {N : Nat} {W : World} {v : Value} {ks : List V.Rc} (h32 : ∀ r ∈ ks, Rc32 r) (h : W.ownsRow N 41 65 v ks.length (flR ks)) : ∃ a c, v = .slice a ks.length c ∧ RL W a ks ∧ (∀ g, v.ownBlock = some g → N ≤ g ∧ g < W.heap.size) := by
  obtain ⟨h0, ⟨h1, h2⟩ | ⟨g, cap, cur, h1, h2, h3, h4, h5, h6, h7⟩⟩ := h
  · subst h1
    rw [h2]
    exact ⟨none, 0, rfl, fun i r hr => by have := (List.getElem?_eq_some_iff.1 hr).1; omega, fun g hg => by cases hg⟩
  · subst h1
    refine ⟨some ⟨g, 0, none⟩, cap, rfl, fun i r hr => ?_, fun g' hg => by cases hg; exact ⟨h2, lt_of_heap h3⟩⟩
    refine ⟨g, 0, rfl, lt_of_heap h3, fun j u hu => ?_, h32 r (List.mem_of_getElem? hr)⟩
    obtain ⟨a, z, e1, e2⟩ := flR_at h32 hr
    have hi : i < ks.length := (List.getElem?_eq_some_iff.1 hr).1
    have hrl := rvL_length (h32 r (List.mem_of_getElem? hr))
    have hj : j < 65 := by have := (List.getElem?_eq_some_iff.1 hu).1; omega
    rw [cell_of_row _ _ _ _ _ _ h3, Nat.zero_add, ← Array.getElem?_toList]
    have e3 : (cur.toList.take (ks.length * 65))[i * 65 + j]? = cur.toList[i * 65 + j]? := by rw [List.getElem?_take, if_pos (by omega)]
    rw [← e3, h7, e1, List.getElem?_append_right (by omega), e2, Nat.add_sub_cancel_left, List.getElem?_append_left (by omega)]
    exact hu
theorem und35s : Tryz.prog.underlying 35 = some (.slice 41) := Tryz.underlying35
/-- records are appended to a row of one's own -/
theorem wl_appR {ops : Array Oper} {rest : List Oper} {o : Oper} {a : Act} {w : World} {Q : Exit → Act → World → Prop} (hgd : o.guard = none) (s x : Operand)
    (ho : o.op = .call { callee := .builtin .append, args := #[s, x], argTypes := #[35, 35] }) (base : Nat) (ks : List V.Rc) (v : Value) (hs : a.eval s = v) (hown : w.ownsRow base 41 65 v ks.length (flR ks))
    (ad : Option Addr) (l : List V.Rc) (c : Nat) (hx : a.eval x = .slice ad l.length c) (hl : RL w ad l) (hbase : base ≤ w.heap.size) (hn : ks.length + l.length ≤ 100000)
    (h : ∀ v' w', w'.ownsRow base 41 65 v' (ks ++ l).length (flR (ks ++ l)) → w.grownBy w' v.ownBlock → (v'.ownBlock = v.ownBlock ∨ v'.ownBlock = some w.heap.size) → wpList Tryz.prog ops Q rest (a.put o.dst v') w') : wpList Tryz.prog ops Q (o :: rest) a w := by
  obtain ⟨i0, hi0, hz0, hz1, hz2⟩ := info_partsV (show (Tryz.prog.info? 41).map (fun i => (i.zero, i.size, i.bytes)) = some (some (.agg (rv V.zr)), 65, 72) by kernel_rfl)
  by_cases h0 : l = []
  · subst h0
    refine wpList_plain hgd fun K hK => ?_
    have hrun : (Builtin.append_ #[35, 35] o.type #[v, .slice ad 0 c]).run Tryz.prog w = .ok v w := by
      have hld : ∀ a : Addr, (loadCells a 0).run Tryz.prog w = .ok #[] w := fun a => by simp [loadCells, loadCellsFrom]
      rcases hown.2 with ⟨rfl, hh⟩ | ⟨g, cap, cur, rfl, _, _, hnc, _⟩ <;> cases ad
      · simp [Builtin.append_, run_underlying und35s, sizeOf, typeInfo, hi0, Builtin.lenOf, Builtin.firstCells, hh]
      · simp [Builtin.append_, run_underlying und35s, sizeOf, typeInfo, hi0, Builtin.lenOf, Builtin.firstCells, hh, hld]
      · simp [Builtin.append_, run_underlying und35s, sizeOf, typeInfo, hi0, Builtin.lenOf, Builtin.firstCells, hnc, storeCells]
      · simp [Builtin.append_, run_underlying und35s, sizeOf, typeInfo, hi0, Builtin.lenOf, Builtin.firstCells, hnc, storeCells, hld]
    have hK' := hK _ _ (h v w (by simpa using hown) ⟨rfl, rfl, rfl, Nat.le_refl _, fun _ _ _ => rfl⟩ (.inl rfl))
    have hx' : a.eval x = .slice ad 0 c := hx
    unfold Oper.wp
    simp [execOp, ho, resolve, invoke, builtin, hs, hx', hrun, Result.andThen]
    exact hK'
  · have hpos : 0 < l.length := List.length_pos_iff.2 h0
    obtain ⟨t0, ht0⟩ : ∃ t0, l[0]? = some t0 := ⟨l[0], List.getElem?_eq_getElem hpos⟩
    obtain ⟨sb, off, rfl, _, _⟩ := hl 0 t0 ht0
    have h32 : ∀ r ∈ l, Rc32 r := fun r hr => by
      obtain ⟨i, hi⟩ := List.mem_iff_getElem?.1 hr
      obtain ⟨_, _, _, _, _, q⟩ := hl i r hi
      exact q
    refine wpList_append_lies _ hgd s x 35 ho base 41 i0 (.agg (rv V.zr)) 65 72 und35s hi0 hz0 hz1 hz2 (rv_size zr32) (by decide) v ks.length (flR ks) hs hown ⟨sb, off, none⟩ l.length c (flR l) hx (flR_len h32) (fun j u hu => ?_) flR_one hpos (by unfold maxLen; omega) (by omega) hbase w.heap.size rfl (fun g cap w' h1 h2 h3 h4 => ?_)
    · obtain ⟨d, hd, hdu⟩ := flR_get h32 hu
      obtain ⟨sb', off', e, _, hc, _⟩ := hl _ d hd
      cases e
      have := hc _ _ hdu
      rw [Addr.add_mid]
      rwa [show off + j / 65 * 65 + j % 65 = off + j by omega] at this
    · exact h _ w' (by rw [List.length_append, show flR (ks ++ l) = flR ks ++ flR l by simp [flR]]; exact h1) h2 (h3.imp Eq.symm (fun e => by rw [e]; rfl))
end Go.Proofs.YtlkllcnnnndllaaGreatDoor
