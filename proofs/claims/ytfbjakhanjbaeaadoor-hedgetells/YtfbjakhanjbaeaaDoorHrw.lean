/- The law's row: the bytes of which a range's digest is made. -/
import Derived.Test.YtfbjakhanjbaeaaDoorHgU
import Derived.Test.YtfbjakhanjbaeaaDoorHqa
namespace Go.Proofs.YtfbjakhanjbaeaaDoor
open Go.RowKit Go.Maps Go.Sort Go.Shelf Go.Lib
set_option linter.unusedVariables false
set_option linter.unusedSimpArgs false

theorem stepo_app1X {α : Type} (E : Lay α) {ops : Array Oper} {o : Oper} {a : Act} {W U : World} {K : Act → World → Prop} {Q : Exit → Act → World → Prop} {El : Prop} (T TS : TypeId) (z : Value) (bytes : Nat)
    (hund : Tryd.prog.underlying TS = some (.slice T)) (hinfo : (Tryd.prog.info? T).map (fun i => (i.zero, i.size, i.bytes)) = some (some z, E.k, bytes)) (hzc : z.cells.size = E.k) (hby : bytes ≤ 4096)
    (hgd : o.guard = none) (s x : Operand) (ho : o.op = .call { callee := .builtin .append, args := #[s, x], argTypes := #[TS, TS] }) (B n : Nat) (ks : List α) (hnk : n = ks.length) (t : α) (v : Value) (hs : a.eval s = v) (hB : B ≤ W.heap.size) (hown : W.ownsRow B T E.k v n (flG E ks))
    (N : Nat) (hN : N = W.heap.size) (hx : a.eval x = .slice (some ⟨N, 0, none⟩) 1 1) (hn : n ≤ 90000)
    (h : ∀ g c' w', w'.ownsRow B T E.k (.slice (some ⟨g, 0, none⟩) (n + 1) c') (n + 1) (flG E (ks ++ [t])) → W.grownBy w' v.ownBlock → (v.ownBlock = some g ∨ W.heap.size ≤ g) → g < w'.heap.size → K (a.put o.dst (.slice (some ⟨g, 0, none⟩) (n + 1) c')) w') (C : Array Value) (hC : C = (E.f t).toArray) (hU : U = W.alloc (.cells C T)) : if Region.wanted o (yielded ops a.tmps) = true then Oper.wp Tryd.prog o a U K Q else El := by
  subst hnk hU hC hN
  obtain ⟨i0, hi0, hz0, hz1, hz2⟩ := info_partsT hinfo
  have hsz : B ≤ (W.alloc (.cells (E.f t).toArray T)).heap.size := by simp; omega
  have hk := E.pos
  refine step_append_lies _ hgd s x TS ho B T i0 z E.k bytes hund hi0 hz0 hz1 hz2 hzc ?_ v ks.length (flG E ks) hs (ownsRow_bl hown ((Bl.refl W).alloc _)) ⟨W.heap.size, 0, none⟩ 1 1 (E.f t) hx (by rw [E.len]; omega) (fun j u hu => ?_) (E.one t) (by omega) (by unfold maxLen; omega) ?_ hsz _ rfl (fun g cap w' h1 h2 h3 h4 => ?_)
  · omega
  · rw [Addr.add_mid, Lib.cell_of_heap (heap_alloc_new W _), Nat.zero_add]
    simpa using hu
  · have : (ks.length + 1) * bytes ≤ 90001 * 4096 := Nat.mul_le_mul (by omega) hby
    omega
  · refine h _ _ w' (by rw [flG_app]; simpa [flG] using h1) ((World.grownBy_alloc W _ _).trans h2) ?_ h4
    rcases h3 with h3 | h3
    · exact Or.inl h3
    · right; simp at h3; omega

namespace HG
theorem tx_inj (x y : R) (h : tx x = tx y) : x = y := by
  unfold tx at h
  rw [List.append_assoc, List.append_assoc] at h
  obtain ⟨h1, h2⟩ := List.append_inj h (by rw [x.hk, y.hk])
  have a := M.readNum_numB x.c (by have := x.h1; omega) (by have := x.h2; omega) x.o
  have b := M.readNum_numB y.c (by have := y.h1; omega) (by have := y.h2; omega) y.o
  rw [h2, b] at a
  have := Option.some.inj a
  simp only [Prod.mk.injEq] at this
  exact R.ext' h1 this.1.symm this.2.symm
theorem map_inj : ∀ (l m : List R), l.map tx = m.map tx → l = m
  | [], [], _ => rfl
  | [], _ :: _, h => by simp at h
  | _ :: _, [], h => by simp at h
  | x :: l, y :: m, h => by
    simp only [List.map_cons, List.cons.injEq] at h
    rw [tx_inj x y h.1, map_inj l m h.2]
theorem row_inj (l m : List R) (hl : l.length ≤ 1000) (hm : m.length ≤ 1000) (h : M.rowB (l.map tx) = M.rowB (m.map tx)) : l = m := by
  have tl : ∀ (l : List R), ∀ t ∈ l.map tx, t.length < 9223372036854775808 := fun l t ht => by
    obtain ⟨r, _, rfl⟩ := List.mem_map.1 ht
    have := M.numB_len r.c
    unfold tx; rw [List.length_append, List.length_append, r.hk, r.ho]; omega
  have a := M.readRow_rowB (l.map tx) [] 1000 (by simp; omega) (tl l) (by simp; omega)
  have b := M.readRow_rowB (m.map tx) [] 1000 (by simp; omega) (tl m) (by simp; omega)
  rw [h, b] at a
  have := Option.some.inj a
  simp only [Prod.mk.injEq] at this
  exact (map_inj m l this.1).symm
end HG
set_option maxHeartbeats 4000000 in
set_option maxRecDepth 8000 in
theorem row_x (l : List HG.R) (v : Value) (W : World) (hv : SL W v l) (hl : l.length ≤ 1000) :
    Calls Tryd.prog 23 #[v] W fun e w' => e = .returned (.string (M.bs (M.rowB (l.map HG.tx)))) ∧ Bl W w' := by
  obtain ⟨a, c, rfl, hrs, hnn⟩ := hv
  have HRS := hidI hrs
  obtain ⟨n, hn⟩ : ∃ n, n = l.length := ⟨_, rfl⟩
  have HN := hidI hn
  have CR : Hid (∀ U v' N, U.ownsRow N 9 1 v' (l.map HG.tx).length (flG lyT (l.map HG.tx)) → Calls Tryd.prog 41 #[v'] U fun e w' => e = .returned (.string (M.bs (M.rowB (l.map HG.tx)))) ∧ Bl U w') := fun U v' N h => by
    rw [flG_T] at h
    exact row_any v' (l.map HG.tx) U (strs_of_owns h) (by have := rowT_le l; omega) (by simp; omega)
  have CN : Hid (∀ (r : HG.R) U, Calls Tryd.prog 40 #[.int .i64 r.c] U fun e w' => e = .returned (.string (M.bs (M.numB r.c))) ∧ Bl U w') := fun r U => num_any r.c U (by have := r.h1; omega) (by have := r.h2; omega)
  rw [← hn] at hl ⊢
  have HE0 : Hid ((W.alloc (.cells #[] 9)).ownsRow W.heap.size 9 1 (.slice (some ⟨W.heap.size, 0, none⟩) 0 0) ([] : List (List UInt8)).length (flG lyT [])) := own_empty9 W _ 1
  obtain ⟨TT, hTT⟩ : ∃ TT, TT = M.bs (M.rowB (l.map HG.tx)) := ⟨_, rfl⟩
  rw [← hTT] at CR ⊢
  clear hrs hnn hn hTT
  go_enter Tryd.func23, Tryd.ntmps23
  go_wp2_with fail
  go_loopw [3, 4] (fun u3 u4 wr => ∃ i : Nat, i ≤ n ∧ u4 = .int .i64 i ∧ wr.ownsRow W.heap.size 9 1 u3 ((l.take i).map HG.tx).length (flG lyT ((l.take i).map HG.tx)) ∧ Bl W wr) (fun _ u4 _ => n - (intOf u4).toNat)
  case atStart => exact ⟨0, Nat.zero_le _, rfl, HE0.out, (Bl.refl W).alloc _⟩
  case round =>
    obtain ⟨i, hin, rfl, ho, hb⟩ := hrel
    have HO := hidI ho
    have HB := hidI hb
    clear ho hb HE0
    by_cases hlt : i < n
    · have hltz : (i : Int) < (n : Int) := by omega
      obtain ⟨r, hr⟩ : ∃ r, l[i]? = some r := ⟨l[i]'(by have := HN.out; omega), List.getElem?_eq_getElem (by have := HN.out; omega)⟩
      obtain ⟨b, off, rfl, hbs, hrg⟩ := HRS.out i r hr
      have hrg : W.rangeAt b (off + i * 65) (fR r) := hrg
      have r1 : W.rangeAt b (off + i * 65) (r.k.map vb) := fun j v hv => hrg j v (by unfold fR; rw [List.getElem?_append_left (List.getElem?_eq_some_iff.1 hv).1]; exact hv)
      have r2 : W.rangeAt b (off + i * 65 + 33) (r.o.map vb) := fun j v hv => by
        have := hrg (33 + j) v (by
          unfold fR
          rw [List.getElem?_append_right (by simp [r.hk]; omega), show 33 + j - (r.k.map vb).length = j + 1 by simp [r.hk]; omega, List.getElem?_cons_succ]; exact hv)
        rwa [← Nat.add_assoc] at this
      have rc : W.cell? ⟨b, off + i * 65 + 32, none⟩ = some (.int .i64 r.c) := hrg 32 _ (by
        unfold fR
        rw [List.getElem?_append_right (by simp [r.hk])]; simp [r.hk])
      have HC1 : Hid (∀ U, Bl W U → (convert 64 9 (.slice (some ⟨b, off + i * 65, none⟩) 32 32)).run Tryd.prog U = .ok (.string (M.bs r.k)) U) := fun U h => by
        have := convB 32 (Bl.range h hbs r1); rwa [r.hk] at this
      have HC2 : Hid (∀ U, Bl W U → (convert 64 9 (.slice (some ⟨b, off + i * 65 + 33, none⟩) 32 32)).run Tryd.prog U = .ok (.string (M.bs r.o)) U) := fun U h => by
        have := convB 32 (Bl.range h hbs r2); rwa [r.ho] at this
      have HCC : Hid (∀ U, Bl W U → U.cell? ⟨b, off + i * 65 + 32, none⟩ = some (.int .i64 r.c)) := fun U h => by rw [Bl.cell h hbs]; exact rc
      have C1 := hidI (CN.out r)
      have HT : Hid ((l.take (i + 1)).map HG.tx = (l.take i).map HG.tx ++ [HG.tx r]) := by show _ = _; rw [List.take_add_one, hr]; simp
      obtain ⟨LX, hLX⟩ : ∃ LX, LX = (l.take i).map HG.tx := ⟨_, rfl⟩
      have hll : LX.length = i := by rw [hLX]; simp; have := HN.out; omega
      rw [← hLX] at HO HT
      have s1 : (M.bs r.k).size = 32 := by rw [M.bs_size, r.hk]
      have s2 : (M.bs r.o).size = 32 := by rw [M.bs_size, r.ho]
      have s3 : (M.bs (M.numB r.c)).size ≤ 1000 := by rw [M.bs_size]; have := M.numB_len r.c; omega
      have HET : Hid (encS (HG.tx r) = .string (M.bs r.k ++ M.bs (M.numB r.c) ++ M.bs r.o)) := by
        show _ = _
        unfold HG.tx encS; rw [bs_append, bs_append]
      obtain ⟨t, ht⟩ : ∃ t, t = HG.tx r := ⟨_, rfl⟩
      rw [← ht] at HT HET
      clear hr hrg r1 r2 rc hLX CN ht
      generalize M.bs r.k = SK at *
      generalize M.bs r.o = SO at *
      generalize M.bs (M.numB r.c) = SN at *
      generalize r.c = cc at *
      have n1 : ¬ (9223372036854775807 < SK.size + SN.size) := by omega
      have n2 : ¬ (9223372036854775807 < (SK ++ SN).size + SO.size) := by rw [ByteArray.size_append]; omega
      have n3 : ¬ (9223372036854775807 < SK.size + SN.size + SO.size) := by omega
      clear s1 s2 s3
      go_upto_region 5 with (first | go_skip)
      refine wp_region_noPanic ?_
      refine wp_region_held_drew (S := fun U => Bl W U) (by kernel_rfl) ((bl_tr HB.out ((Bl.refl wr).drew))) (fun hHeld => ?_)
      refine wpAnyH_take (i := 0) rfl (by kernel_rfl) (by kernel_rfl) (by kernel_rfl) (fun _ _ _ h => h) (yi_move (by kernel_rfl) rfl rfl) (by assumption) ?_
      simp only [Act.put, List.getElem_toArray, List.getElem_cons_succ, List.getElem_cons_zero, List.setIfInBounds_toArray, List.set_cons_zero, List.set_cons_succ, Act.eval, Array.getD_eq_getD_getElem?, List.getElem?_toArray, List.getElem?_cons_succ, List.getElem?_cons_zero, Option.getD_some]
      refine wpAnyH_take (i := 1) rfl (by kernel_rfl) (by kernel_rfl) (by kernel_rfl) (fun _ _ _ h => h) (yi_move (by kernel_rfl) rfl rfl) (by assumption) ?_
      simp only [Act.put, List.getElem_toArray, List.getElem_cons_succ, List.getElem_cons_zero, List.setIfInBounds_toArray, List.set_cons_zero, List.set_cons_succ, Act.eval, Array.getD_eq_getD_getElem?, List.getElem?_toArray, List.getElem?_cons_succ, List.getElem?_cons_zero, Option.getD_some]
      refine wpAnyH_take (i := 2) rfl (by kernel_rfl) (by kernel_rfl) (by kernel_rfl) (fun _ _ _ h => h) (yi_move (by kernel_rfl) rfl rfl) (by assumption) ?_
      simp only [Act.put, List.getElem_toArray, List.getElem_cons_succ, List.getElem_cons_zero, List.setIfInBounds_toArray, List.set_cons_zero, List.set_cons_succ, Act.eval, Array.getD_eq_getD_getElem?, List.getElem?_toArray, List.getElem?_cons_succ, List.getElem?_cons_zero, Option.getD_some]
      refine wpAnyH_take (i := 3) (v := ?_) rfl (by kernel_rfl) (by kernel_rfl) (by kernel_rfl) (fun _ _ _ h => h) (Or.inl ⟨by kernel_rfl, ?_⟩) (by assumption) ?_
      rotate_left
      · (intro w hSw; (try dsimp only at hSw); go_simp; (try with_reducible rfl))
      simp only [Act.put, List.getElem_toArray, List.getElem_cons_succ, List.getElem_cons_zero, List.setIfInBounds_toArray, List.set_cons_zero, List.set_cons_succ, Act.eval, Array.getD_eq_getD_getElem?, List.getElem?_toArray, List.getElem?_cons_succ, List.getElem?_cons_zero, Option.getD_some]
      refine wpAnyH_take (i := 4) (v := ?_) rfl (by kernel_rfl) (by kernel_rfl) (by kernel_rfl) (fun _ _ _ h => h) (Or.inl ⟨by kernel_rfl, ?_⟩) (by assumption) ?_
      rotate_left
      · (intro w hSw; (try dsimp only at hSw); go_simp; (try with_reducible rfl))
      simp only [Act.put, List.getElem_toArray, List.getElem_cons_succ, List.getElem_cons_zero, List.setIfInBounds_toArray, List.set_cons_zero, List.set_cons_succ, Act.eval, Array.getD_eq_getD_getElem?, List.getElem?_toArray, List.getElem?_cons_succ, List.getElem?_cons_zero, Option.getD_some]
      refine wpAnyH_take (i := 5) (v := ?_) rfl (by kernel_rfl) (by kernel_rfl) (by kernel_rfl) (fun _ _ _ h => h) (Or.inl ⟨by kernel_rfl, ?_⟩) (by assumption) ?_
      rotate_left
      · (intro w hSw; (try dsimp only at hSw); go_simp; (try with_reducible rfl))
      simp only [Act.put, List.getElem_toArray, List.getElem_cons_succ, List.getElem_cons_zero, List.setIfInBounds_toArray, List.set_cons_zero, List.set_cons_succ, Act.eval, Array.getD_eq_getD_getElem?, List.getElem?_toArray, List.getElem?_cons_succ, List.getElem?_cons_zero, Option.getD_some]
      refine wpAnyH_take (i := 6) (v := ?_) rfl (by kernel_rfl) (by kernel_rfl) (by kernel_rfl) (fun _ _ _ h => h) (Or.inl ⟨by kernel_rfl, ?_⟩) (by assumption) ?_
      rotate_left
      · (intro w hSw; have hX := HC1.out _ hSw; go_simp; (try with_reducible rfl))
      simp only [Act.put, List.getElem_toArray, List.getElem_cons_succ, List.getElem_cons_zero, List.setIfInBounds_toArray, List.set_cons_zero, List.set_cons_succ, Act.eval, Array.getD_eq_getD_getElem?, List.getElem?_toArray, List.getElem?_cons_succ, List.getElem?_cons_zero, Option.getD_some]
      refine wpAnyH_take (i := 7) rfl (by kernel_rfl) (by kernel_rfl) (by kernel_rfl) (fun _ _ _ h => h) (yi_move (by kernel_rfl) rfl rfl) (by assumption) ?_
      simp only [Act.put, List.getElem_toArray, List.getElem_cons_succ, List.getElem_cons_zero, List.setIfInBounds_toArray, List.set_cons_zero, List.set_cons_succ, Act.eval, Array.getD_eq_getD_getElem?, List.getElem?_toArray, List.getElem?_cons_succ, List.getElem?_cons_zero, Option.getD_some]
      refine wpAnyH_take (i := 8) rfl (by kernel_rfl) (by kernel_rfl) (by kernel_rfl) (fun _ _ _ h => h) (yi_move (by kernel_rfl) rfl rfl) (by assumption) ?_
      simp only [Act.put, List.getElem_toArray, List.getElem_cons_succ, List.getElem_cons_zero, List.setIfInBounds_toArray, List.set_cons_zero, List.set_cons_succ, Act.eval, Array.getD_eq_getD_getElem?, List.getElem?_toArray, List.getElem?_cons_succ, List.getElem?_cons_zero, Option.getD_some]
      refine wpAnyH_take (i := 9) (v := ?_) rfl (by kernel_rfl) (by kernel_rfl) (by kernel_rfl) (fun _ _ _ h => h) (Or.inl ⟨by kernel_rfl, ?_⟩) (by assumption) ?_
      rotate_left
      · (intro w hSw; (try dsimp only at hSw); go_simp; (try with_reducible rfl))
      simp only [Act.put, List.getElem_toArray, List.getElem_cons_succ, List.getElem_cons_zero, List.setIfInBounds_toArray, List.set_cons_zero, List.set_cons_succ, Act.eval, Array.getD_eq_getD_getElem?, List.getElem?_toArray, List.getElem?_cons_succ, List.getElem?_cons_zero, Option.getD_some]
      refine wpAnyH_take (i := 10) (v := ?_) rfl (by kernel_rfl) (by kernel_rfl) (by kernel_rfl) (fun _ _ _ h => h) (Or.inl ⟨by kernel_rfl, ?_⟩) (by assumption) ?_
      rotate_left
      · (intro w hSw; (try dsimp only at hSw); go_simp; (try with_reducible rfl))
      simp only [Act.put, List.getElem_toArray, List.getElem_cons_succ, List.getElem_cons_zero, List.setIfInBounds_toArray, List.set_cons_zero, List.set_cons_succ, Act.eval, Array.getD_eq_getD_getElem?, List.getElem?_toArray, List.getElem?_cons_succ, List.getElem?_cons_zero, Option.getD_some]
      refine wpAnyH_take (i := 11) (v := ?_) rfl (by kernel_rfl) (by kernel_rfl) (by kernel_rfl) (fun _ _ _ h => h) (Or.inl ⟨by kernel_rfl, ?_⟩) (by assumption) ?_
      rotate_left
      · (intro w hSw; have hX := HCC.out _ hSw; go_simp; (try with_reducible rfl))
      simp only [Act.put, List.getElem_toArray, List.getElem_cons_succ, List.getElem_cons_zero, List.setIfInBounds_toArray, List.set_cons_zero, List.set_cons_succ, Act.eval, Array.getD_eq_getD_getElem?, List.getElem?_toArray, List.getElem?_cons_succ, List.getElem?_cons_zero, Option.getD_some]
      refine wpAnyH_take (i := 14) rfl (by kernel_rfl) (by kernel_rfl) (by kernel_rfl) (fun _ _ _ h => h) (yi_move (by kernel_rfl) rfl rfl) (by assumption) ?_
      simp only [Act.put, List.getElem_toArray, List.getElem_cons_succ, List.getElem_cons_zero, List.setIfInBounds_toArray, List.set_cons_zero, List.set_cons_succ, Act.eval, Array.getD_eq_getD_getElem?, List.getElem?_toArray, List.getElem?_cons_succ, List.getElem?_cons_zero, Option.getD_some]
      refine wpAnyH_take (i := 15) rfl (by kernel_rfl) (by kernel_rfl) (by kernel_rfl) (fun _ _ _ h => h) (yi_move (by kernel_rfl) rfl rfl) (by assumption) ?_
      simp only [Act.put, List.getElem_toArray, List.getElem_cons_succ, List.getElem_cons_zero, List.setIfInBounds_toArray, List.set_cons_zero, List.set_cons_succ, Act.eval, Array.getD_eq_getD_getElem?, List.getElem?_toArray, List.getElem?_cons_succ, List.getElem?_cons_zero, Option.getD_some]
      refine wpAnyH_take (i := 16) (v := ?_) rfl (by kernel_rfl) (by kernel_rfl) (by kernel_rfl) (fun _ _ _ h => h) (Or.inl ⟨by kernel_rfl, ?_⟩) (by assumption) ?_
      rotate_left
      · (intro w hSw; (try dsimp only at hSw); go_simp; (try with_reducible rfl))
      simp only [Act.put, List.getElem_toArray, List.getElem_cons_succ, List.getElem_cons_zero, List.setIfInBounds_toArray, List.set_cons_zero, List.set_cons_succ, Act.eval, Array.getD_eq_getD_getElem?, List.getElem?_toArray, List.getElem?_cons_succ, List.getElem?_cons_zero, Option.getD_some]
      refine wpAnyH_take (i := 17) (v := ?_) rfl (by kernel_rfl) (by kernel_rfl) (by kernel_rfl) (fun _ _ _ h => h) (Or.inl ⟨by kernel_rfl, ?_⟩) (by assumption) ?_
      rotate_left
      · (intro w hSw; (try dsimp only at hSw); go_simp; (try with_reducible rfl))
      simp only [Act.put, List.getElem_toArray, List.getElem_cons_succ, List.getElem_cons_zero, List.setIfInBounds_toArray, List.set_cons_zero, List.set_cons_succ, Act.eval, Array.getD_eq_getD_getElem?, List.getElem?_toArray, List.getElem?_cons_succ, List.getElem?_cons_zero, Option.getD_some]
      refine wpAnyH_take (i := 18) (v := ?_) rfl (by kernel_rfl) (by kernel_rfl) (by kernel_rfl) (fun _ _ _ h => h) (Or.inl ⟨by kernel_rfl, ?_⟩) (by assumption) ?_
      rotate_left
      · (intro w hSw; (try dsimp only at hSw); go_simp; (try with_reducible rfl))
      simp only [Act.put, List.getElem_toArray, List.getElem_cons_succ, List.getElem_cons_zero, List.setIfInBounds_toArray, List.set_cons_zero, List.set_cons_succ, Act.eval, Array.getD_eq_getD_getElem?, List.getElem?_toArray, List.getElem?_cons_succ, List.getElem?_cons_zero, Option.getD_some]
      refine wpAnyH_take (i := 19) (v := ?_) rfl (by kernel_rfl) (by kernel_rfl) (by kernel_rfl) (fun _ _ _ h => h) (Or.inl ⟨by kernel_rfl, ?_⟩) (by assumption) ?_
      rotate_left
      · (intro w hSw; have hX := HC2.out _ hSw; go_simp; (try with_reducible rfl))
      simp only [Act.put, List.getElem_toArray, List.getElem_cons_succ, List.getElem_cons_zero, List.setIfInBounds_toArray, List.set_cons_zero, List.set_cons_succ, Act.eval, Array.getD_eq_getD_getElem?, List.getElem?_toArray, List.getElem?_cons_succ, List.getElem?_cons_zero, Option.getD_some]
      refine wpAnyH_ready (rs := [12]) (by kernel_rfl) (by simp) ?_
      refine AllReadyH.cons (o := _) rfl (fun K hK => ?_) AllReadyH.nil
      go_simp
      go_at_call 40; refine (C1.out _).mono ?_; rintro e V19 ⟨rfl, hV19⟩; have HB19 := ((Bl.refl wr).drew).step hV19; have HBP := HB19; clear hV19
      (try clear hHeld)
      refine hK.out _ _ ((bl_tr HB.out (HB19))) (fun hHeld => ?_)
      clear hK K
      (try simp only [Act.put, List.getElem_toArray, List.getElem_cons_succ, List.getElem_cons_zero, List.setIfInBounds_toArray, List.set_cons_zero, List.set_cons_succ, Act.eval, Array.getD_eq_getD_getElem?, List.getElem?_toArray, List.getElem?_cons_succ, List.getElem?_cons_zero, Option.getD_some])
      refine wpAnyH_take (i := 13) (v := ?_) rfl (by kernel_rfl) (by kernel_rfl) (by kernel_rfl) (fun _ _ _ h => h) (Or.inl ⟨by kernel_rfl, ?_⟩) (by assumption) ?_
      rotate_left
      · (intro w hSw; (try dsimp only at hSw); go_simp; (try with_reducible rfl))
      simp only [Act.put, List.getElem_toArray, List.getElem_cons_succ, List.getElem_cons_zero, List.setIfInBounds_toArray, List.set_cons_zero, List.set_cons_succ, Act.eval, Array.getD_eq_getD_getElem?, List.getElem?_toArray, List.getElem?_cons_succ, List.getElem?_cons_zero, Option.getD_some]
      refine wpAnyH_take (i := 20) (v := ?_) rfl (by kernel_rfl) (by kernel_rfl) (by kernel_rfl) (fun _ _ _ h => h) (Or.inl ⟨by kernel_rfl, ?_⟩) (by assumption) ?_
      rotate_left
      · (intro w hSw; (try dsimp only at hSw); go_simp; (try with_reducible rfl))
      simp only [Act.put, List.getElem_toArray, List.getElem_cons_succ, List.getElem_cons_zero, List.setIfInBounds_toArray, List.set_cons_zero, List.set_cons_succ, Act.eval, Array.getD_eq_getD_getElem?, List.getElem?_toArray, List.getElem?_cons_succ, List.getElem?_cons_zero, Option.getD_some]
      refine wpAnyH_ready (rs := [21]) (by kernel_rfl) (by simp) ?_
      refine AllReadyH.cons (o := _) rfl (fun K hK => ?_) AllReadyH.nil
      go_simp
      (try clear hHeld)
      refine hK.out _ _ ((bl_tr HB.out (((HB19).alloc _)))) (fun hHeld => ?_)
      clear hK K
      (try simp only [Act.put, List.getElem_toArray, List.getElem_cons_succ, List.getElem_cons_zero, List.setIfInBounds_toArray, List.set_cons_zero, List.set_cons_succ, Act.eval, Array.getD_eq_getD_getElem?, List.getElem?_toArray, List.getElem?_cons_succ, List.getElem?_cons_zero, Option.getD_some])
      refine wpAnyH_ready (rs := [22]) (by kernel_rfl) (by simp) ?_
      refine AllReadyH.cons (o := _) rfl (fun K hK => ?_) AllReadyH.nil
      refine stepo_app1X lyT 9 55 _ 16 undTs infoTx3 rfl (by decide) rfl _ _ rfl W.heap.size LX.length LX rfl t _ rfl (Below.size (bl_tr HB.out HBP)) (ownsRow_bl HO.out HBP) _ rfl rfl (by omega) (fun g c' w' k1 k2 k3 k4 => ?_) _ (by rw [show (lyT.f t) = [encS t] from rfl, HET.out]) rfl
      have HBN := hidI (Below.grown (bl_tr HB.out HBP) k2 (Below.size (bl_tr HB.out HBP)) (fun q hq => (owns_ge (ownsRow_bl HO.out HBP) hq).1))
      have HON := hidI k1
      refine hK.out _ _ HBN.out (fun hHeld => ?_)
      clear hK K
      (try simp only [Act.put, List.getElem_toArray, List.getElem_cons_succ, List.getElem_cons_zero, List.setIfInBounds_toArray, List.set_cons_zero, List.set_cons_succ, Act.eval, Array.getD_eq_getD_getElem?, List.getElem?_toArray, List.getElem?_cons_succ, List.getElem?_cons_zero, Option.getD_some])
      refine wpAnyH_take (i := 23) rfl (by kernel_rfl) (by kernel_rfl) (by kernel_rfl) (fun _ _ _ h => h) (yi_assign (by kernel_rfl) rfl rfl) (by assumption) ?_
      simp only [Act.put, List.getElem_toArray, List.getElem_cons_succ, List.getElem_cons_zero, List.setIfInBounds_toArray, List.set_cons_zero, List.set_cons_succ, Act.eval, Array.getD_eq_getD_getElem?, List.getElem?_toArray, List.getElem?_cons_succ, List.getElem?_cons_zero, Option.getD_some]
      refine wpAnyH_done (by kernel_rfl) ?_ _
      refine NoPanic.normal ?_
      go_wp2_with fail
      go_roundw
      case rel => exact ⟨i + 1, by omega, by go_num, by rw [HT.out, List.length_append]; exact HON.out, HBN.out⟩
      case measure => simp [intOf]; omega
    · obtain rfl : i = n := by omega
      have HE : Hid (l.take i = l) := by show _ = _; rw [HN.out, List.take_length]
      rw [HE.out] at HO
      have hltz : ¬ (i : Int) < (i : Int) := by omega
      clear HE HRS CN
      go_wp2_with (first | go_skip | (go_at_call 41; refine (CR.out _ _ _ HO.out).mono ?_; clear CR; rintro e w1 ⟨rfl, b1⟩))
      go_ret
      exact ⟨rfl, HB.out.step b1⟩
end Go.Proofs.YtfbjakhanjbaeaaDoor
