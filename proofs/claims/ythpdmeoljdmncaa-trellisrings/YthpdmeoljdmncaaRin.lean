/- TrellisRings, walked. -/
import Derived.Test.YthpdmeoljdmncaaAw8
import Derived.Test.YthpdmeoljdmncaaZG
import Derived.Test.YthpdmeoljdmncaaRMt
import Derived.Test.YthpdmeoljdmncaaErr8
namespace Go.Proofs.Ythpdmeoljdmncaa
open Go.RowKit
set_option linter.unusedVariables false
set_option linter.unusedSimpArgs false

/-- the last action's inputs are taken away -/
theorem AO.last {N K : Nat} {w : World} {v : Value} {A : List RC.Ac} {ys : List (Option Addr × Nat)} {n : List UInt8} {ins : List (List UInt8)} {c : List UInt8} (h : AO N K w v (A ++ [(n, ins, c)]) ys) :
    ∃ ab cap x cc zs, v = .slice (some ⟨ab, 0, none⟩) (A.length + 1) cap ∧ K ≤ ab ∧ ab < w.heap.size ∧ w.cell? ⟨ab, A.length * 3 + 1, none⟩ = some (.slice x ins.length cc) ∧ w.frozen? ⟨ab, A.length * 3 + 1, none⟩ = false ∧ AO N K (w.setCell ⟨ab, A.length * 3 + 1, none⟩ (.slice none 0 0)) v (A ++ [(n, [], c)]) zs := by
  have hl : ys.length = A.length + 1 := by rw [h.len]; simp
  obtain ⟨ys', p, rfl⟩ : ∃ ys' p, ys = ys' ++ [p] := by
    refine ⟨ys.dropLast, ys.getLast (by intro e; rw [e] at hl; simp at hl), ?_⟩
    exact (List.dropLast_concat_getLast _).symm
  obtain ⟨x, cc⟩ := p
  have hyl : ys'.length = A.length := by simpa using hl
  obtain ⟨h0, ⟨_, h2⟩ | ⟨ab, cap, cur, rfl, h2, h3, h4, h5, h6, h7⟩⟩ := h.own
  · simp at h2
  · have e1 : (A ++ [(n, ins, c)]).length = A.length + 1 := by simp
    rw [e1] at h4 h7 ⊢
    rw [flatA_app A _ ys' _ hyl] at h7
    have hfl := flatA_len A ys' hyl
    have e2 : flatA [((n, ins, c) : RC.Ac)] [(x, cc)] = [.string (M.bs n), .slice x ins.length cc, .string (M.bs c)] := by simp [flatA, acL]
    rw [e2] at h7
    have hcell : cur[A.length * 3 + 1]? = some (.slice x ins.length cc) := by
      have h8 : (cur.toList.take ((A.length + 1) * 3))[A.length * 3 + 1]? = (flatA A ys' ++ [.string (M.bs n), .slice x ins.length cc, .string (M.bs c)])[A.length * 3 + 1]? := by rw [h7]
      rw [List.getElem?_take_of_lt (by omega), List.getElem?_append_right (by omega), hfl, show A.length * 3 + 1 - A.length * 3 = 1 by omega] at h8
      simpa using h8
    refine ⟨ab, cap, x, cc, ys' ++ [(none, 0)], rfl, h2, TA.lt_heap h3, by rw [Lib.cell_of_heap h3]; exact hcell, by simp [World.frozen?, h3], ⟨?_, by simp [hyl], fun i t y d h8 h9 => ?_, h.nm, by simp; exact h.m⟩⟩
    · have e3 : (A ++ [((n, [], c) : RC.Ac)]).length = A.length + 1 := by simp
      rw [e3]
      refine ⟨by rw [flatA_app A _ ys' _ hyl, List.length_append, hfl]; simp [flatA, acL]; omega, Or.inr ⟨ab, cap, cur.setIfInBounds (A.length * 3 + 1) (.slice none 0 0), rfl, h2, by rw [heap_setCell_rowR h3], h4, h5, by simpa using h6, ?_⟩⟩
      rw [flatA_app A _ ys' _ hyl, Array.toList_setIfInBounds, List.take_set, h7, List.set_append_right _ _ (by omega), hfl, show A.length * 3 + 1 - A.length * 3 = 1 by omega]
      simp [flatA, acL]
    · rcases Nat.lt_or_ge i A.length with hlt | hge
      · rw [List.getElem?_append_left hlt] at h8
        rw [List.getElem?_append_left (by omega)] at h9
        rcases h.ins i t y d (by rw [List.getElem?_append_left hlt]; exact h8) (by rw [List.getElem?_append_left (by omega)]; exact h9) with h10 | h10
        · exact Or.inl (h10.below ((Below.refl N w).setCell (Nat.le_trans h.nm h2) _) (Nat.le_refl _))
        · exact Or.inr (ownsRow_setK h10 h3 (by decide))
      · rw [List.getElem?_append_right hge] at h8
        rw [List.getElem?_append_right (by omega), hyl] at h9
        rcases hi : i - A.length with _ | q
        · rw [hi] at h8 h9
          cases h8; cases h9
          exact Or.inl (Or.inl ⟨rfl, none, 0, rfl⟩)
        · rw [hi] at h8; simp at h8
theorem range_last {i : Nat} (h : 1 ≤ i) : List.range i = List.range (i - 1) ++ [i - 1] := by
  obtain ⟨j, rfl⟩ : ∃ j, i = j + 1 := ⟨i - 1, by omega⟩
  simp [List.range_succ]
theorem ext_at (i : Nat) (h : i < 12) : (⟨#[97, 98, 99, 100, 101, 102, 103, 104, 105, 106, 107, 108]⟩ : ByteArray).extract i (i + 1) = M.bs [UInt8.ofNat (97 + i)] := by
  have : ∀ j : Fin 12, (⟨#[97, 98, 99, 100, 101, 102, 103, 104, 105, 106, 107, 108]⟩ : ByteArray).extract j.val (j.val + 1) = M.bs [UInt8.ofNat (97 + j.val)] := by decide +kernel
  exact this ⟨i, h⟩
theorem app_at (x : UInt8) : (⟨#[116]⟩ : ByteArray) ++ M.bs [x] = M.bs [116, x] := by
  rfl
def abcl : ByteArray := ⟨#[97, 98, 99, 100, 101, 102, 103, 104, 105, 106, 107, 108]⟩
set_option maxRecDepth 8000 in
set_option maxHeartbeats 16000000 in
theorem rings_x (W : World) (x : Int) (code c : List UInt8) (hcode : code.length ≤ maxLen) (hc : c.length ≤ 64) (hcc : (code.length ≤ 64 ∧ c = code) ∨ (64 < code.length ∧ c = [])) :
    Calls Try.prog 6 #[.int .i64 x, .string (M.bs code)] W fun e w' => e = .returned (.bool true) ∧ Bl W w' := by
  have CA : Hid (Calls Try.prog 9 #[] W fun e w' => e = .returned (.bool true) ∧ Bl W w') := awake_8 (Bl.refl _)
  obtain ⟨k, hk12, hkx, hkw⟩ := rem_nat (x := x) (n := 12) (by decide) (by decide)
  obtain ⟨m, hm⟩ : ∃ m, m = k + 1 := ⟨_, rfl⟩
  have hkx' : (IntKind.u64.wrap x).tmod 12 = (k : Int) := hkx
  have hm1 : (1 : Int) + (k : Int) = (m : Int) := by omega
  have hm12 : m ≤ 12 := by omega
  have hm0 : 1 ≤ m := by omega
  have hmw : wrap64 (m : Int) = (m : Int) := by unfold wrap64; omega
  have hbs := M.bs_size code
  unfold maxLen at hcode
  clear hkx hm hk12
  rcases hcc with ⟨hc64, rfl⟩ | ⟨hc64, rfl⟩
  · go_enter Try.func6, Try.ntmps6
    go_wp2_with (first
      | (go_at_call 9; refine CA.out.mono ?_; clear CA; rintro e w1 ⟨rfl, HB1⟩))
    have HB1H : Hid (Bl W w1) := HB1
    have AO0 : Hid (AO w1.heap.size w1.heap.size (w1.alloc (.cells #[.slice none 0 0, .slice none 0 0] 25)) (.slice none 0 0) (rg m c 0).2 []) := AO.nil (Nat.le_refl _) (by simp)
    have BK0 : Hid ((w1.alloc (.cells #[.slice none 0 0, .slice none 0 0] 25)).heap[w1.heap.size]? = some (.cells #[.slice none 0 0, .slice none 0 0] 25 (0, 0))) := heap_alloc_new _ _
    have BL0 : Hid (Bl w1 (w1.alloc (.cells #[.slice none 0 0, .slice none 0 0] 25))) := (Bl.refl w1).alloc _
    clear HB1
    go_loopw [6, 7] (fun u6 u7 wr => ∃ i : Nat, i ≤ m ∧ u6 = .int .i64 i ∧ Bl w1 wr ∧ ∃ v ys, wr.heap[w1.heap.size]? = some (.cells #[.slice none 0 0, v] 25 (0, 0)) ∧ AO w1.heap.size w1.heap.size wr v (rg m c i).2 ys) (fun u6 _ _ => m - (intOf u6).toNat)
    case atStart => exact ⟨0, Nat.zero_le _, rfl, BL0.out, _, _, BK0.out, AO0.out⟩
    case round =>
      obtain ⟨i, hi0, rfl, hb, v, ys, hbk, hao⟩ := hrel
      have HBR : Hid (Bl w1 wr) := hb
      have HBK : Hid (wr.heap[w1.heap.size]? = some (.cells #[.slice none 0 0, v] 25 (0, 0))) := hbk
      have HAO : Hid (AO w1.heap.size w1.heap.size wr v (rg m c i).2 ys) := hao
      clear hb hbk hao AO0 BK0 BL0
      by_cases hlt : i < m
      · obtain ⟨r, hr⟩ : ∃ r, r = (i + 1) % m := ⟨_, rfl⟩
        have hrm : r < m := by rw [hr]; exact Nat.mod_lt _ (by omega)
        obtain ⟨i1, hi1⟩ : ∃ j, j = i + 1 := ⟨_, rfl⟩
        obtain ⟨r1, hr1⟩ : ∃ j, j = r + 1 := ⟨_, rfl⟩
        have hw1 : IntKind.i64.wrap ((i : Int) + 1) = (i1 : Int) := by rw [hi1, IntKind.wrap_i64]; omega
        have hw2 : IntKind.i64.wrap ((r : Int) + 1) = (r1 : Int) := by rw [hr1, IntKind.wrap_i64]; omega
        have hrt : (i1 : Int).tmod (m : Int) = (r : Int) := by
          rw [hi1, hr, Int.tmod_eq_emod_of_nonneg (by omega)]
          exact (Int.natCast_emod _ _).symm
        have g1 : (i1 : Int) ≤ 12 := by omega
        have g2 : (i : Int) ≤ (i1 : Int) := by omega
        have g3 : (r1 : Int) ≤ 12 := by omega
        have g4 : (r : Int) ≤ (r1 : Int) := by omega
        have hx1 : (⟨#[97, 98, 99, 100, 101, 102, 103, 104, 105, 106, 107, 108]⟩ : ByteArray).extract i i1 = M.bs [UInt8.ofNat (97 + i)] := by rw [hi1]; exact ext_at i (by omega)
        have hx2 : (⟨#[97, 98, 99, 100, 101, 102, 103, 104, 105, 106, 107, 108]⟩ : ByteArray).extract r r1 = M.bs [UInt8.ofNat (97 + r)] := by rw [hr1]; exact ext_at r (by omega)
        have ha1 : (⟨#[116]⟩ : ByteArray) ++ M.bs [UInt8.ofNat (97 + i)] = M.bs (tn i) := app_at _
        have ha2 : (⟨#[116]⟩ : ByteArray) ++ M.bs [UInt8.ofNat (97 + r)] = M.bs (tn r) := app_at _
        have hs1 := M.bs_size [UInt8.ofNat (97 + i)]
        have hs2 := M.bs_size [UInt8.ofNat (97 + r)]
        simp only [List.length_singleton] at hs1 hs2
        have hmn : ¬ m = 0 := by omega
        have HR : Hid (r = (i + 1) % m) := hr
        have HI1 : Hid (i1 = i + 1) := hi1
        clear hr hi1 hr1
        generalize UInt8.ofNat (97 + i) = ch1 at *
        generalize UInt8.ofNat (97 + r) = ch2 at *
        go_wp2_with fail
        refine wp_region_noPanic ?_
        refine wp_region_held_drew (S := fun _ => True) (by kernel_rfl) (trivial) (fun hHeld => ?_)
        refine wpAnyH_take (i := 0) rfl (by kernel_rfl) (by kernel_rfl) (by kernel_rfl) (fun _ _ _ h => h) (yi_move (by kernel_rfl) rfl rfl) (by assumption) ?_
        simp only [Act.put, List.getElem_toArray, List.getElem_cons_succ, List.getElem_cons_zero, List.setIfInBounds_toArray, List.set_cons_zero, List.set_cons_succ]
        refine wpAnyH_take (i := 1) rfl (by kernel_rfl) (by kernel_rfl) (by kernel_rfl) (fun _ _ _ h => h) (yi_move (by kernel_rfl) rfl rfl) (by assumption) ?_
        simp only [Act.put, List.getElem_toArray, List.getElem_cons_succ, List.getElem_cons_zero, List.setIfInBounds_toArray, List.set_cons_zero, List.set_cons_succ]
        refine wpAnyH_take (i := 2) (v := ?_) rfl (by kernel_rfl) (by kernel_rfl) (by kernel_rfl) (fun _ _ _ h => h) (Or.inl ⟨by kernel_rfl, ?_⟩) (by assumption) ?_
        rotate_left
        · (intro w hSw; (try dsimp only at hSw); go_simp; (try with_reducible rfl))
        simp only [Act.put, List.getElem_toArray, List.getElem_cons_succ, List.getElem_cons_zero, List.setIfInBounds_toArray, List.set_cons_zero, List.set_cons_succ]
        refine wpAnyH_take (i := 3) (v := ?_) rfl (by kernel_rfl) (by kernel_rfl) (by kernel_rfl) (fun _ _ _ h => h) (Or.inl ⟨by kernel_rfl, ?_⟩) (by assumption) ?_
        rotate_left
        · (intro w hSw; (try dsimp only at hSw); go_simp; (try with_reducible rfl))
        simp only [Act.put, List.getElem_toArray, List.getElem_cons_succ, List.getElem_cons_zero, List.setIfInBounds_toArray, List.set_cons_zero, List.set_cons_succ]
        refine wpAnyH_take (i := 4) (v := ?_) rfl (by kernel_rfl) (by kernel_rfl) (by kernel_rfl) (fun _ _ _ h => h) (Or.inl ⟨by kernel_rfl, ?_⟩) (by assumption) ?_
        rotate_left
        · (intro w hSw; (try dsimp only at hSw); go_simp; (try with_reducible rfl))
        simp only [Act.put, List.getElem_toArray, List.getElem_cons_succ, List.getElem_cons_zero, List.setIfInBounds_toArray, List.set_cons_zero, List.set_cons_succ]
        refine wpAnyH_take (i := 5) rfl (by kernel_rfl) (by kernel_rfl) (by kernel_rfl) (fun _ _ _ h => h) (yi_move (by kernel_rfl) rfl rfl) (by assumption) ?_
        simp only [Act.put, List.getElem_toArray, List.getElem_cons_succ, List.getElem_cons_zero, List.setIfInBounds_toArray, List.set_cons_zero, List.set_cons_succ]
        refine wpAnyH_take (i := 6) (v := ?_) rfl (by kernel_rfl) (by kernel_rfl) (by kernel_rfl) (fun _ _ _ h => h) (Or.inl ⟨by kernel_rfl, ?_⟩) (by assumption) ?_
        rotate_left
        · (intro w hSw; (try dsimp only at hSw); go_simp; (try with_reducible rfl))
        simp only [Act.put, List.getElem_toArray, List.getElem_cons_succ, List.getElem_cons_zero, List.setIfInBounds_toArray, List.set_cons_zero, List.set_cons_succ]
        refine wpAnyH_take (i := 7) rfl (by kernel_rfl) (by kernel_rfl) (by kernel_rfl) (fun _ _ _ h => h) (yi_move (by kernel_rfl) rfl rfl) (by assumption) ?_
        simp only [Act.put, List.getElem_toArray, List.getElem_cons_succ, List.getElem_cons_zero, List.setIfInBounds_toArray, List.set_cons_zero, List.set_cons_succ]
        refine wpAnyH_take (i := 8) (v := ?_) rfl (by kernel_rfl) (by kernel_rfl) (by kernel_rfl) (fun _ _ _ h => h) (Or.inl ⟨by kernel_rfl, ?_⟩) (by assumption) ?_
        rotate_left
        · (intro w hSw; (try dsimp only at hSw); go_simp; (try with_reducible rfl))
        simp only [Act.put, List.getElem_toArray, List.getElem_cons_succ, List.getElem_cons_zero, List.setIfInBounds_toArray, List.set_cons_zero, List.set_cons_succ]
        refine wpAnyH_take (i := 9) rfl (by kernel_rfl) (by kernel_rfl) (by kernel_rfl) (fun _ _ _ h => h) (yi_move (by kernel_rfl) rfl rfl) (by assumption) ?_
        simp only [Act.put, List.getElem_toArray, List.getElem_cons_succ, List.getElem_cons_zero, List.setIfInBounds_toArray, List.set_cons_zero, List.set_cons_succ]
        refine wpAnyH_take (i := 10) (v := ?_) rfl (by kernel_rfl) (by kernel_rfl) (by kernel_rfl) (fun _ _ _ h => h) (Or.inl ⟨by kernel_rfl, ?_⟩) (by assumption) ?_
        rotate_left
        · (intro w hSw; (try dsimp only at hSw); go_simp; (try with_reducible rfl))
        simp only [Act.put, List.getElem_toArray, List.getElem_cons_succ, List.getElem_cons_zero, List.setIfInBounds_toArray, List.set_cons_zero, List.set_cons_succ]
        refine wpAnyH_take (i := 11) rfl (by kernel_rfl) (by kernel_rfl) (by kernel_rfl) (fun _ _ _ h => h) (yi_move (by kernel_rfl) rfl rfl) (by assumption) ?_
        simp only [Act.put, List.getElem_toArray, List.getElem_cons_succ, List.getElem_cons_zero, List.setIfInBounds_toArray, List.set_cons_zero, List.set_cons_succ]
        refine wpAnyH_take (i := 12) (v := ?_) rfl (by kernel_rfl) (by kernel_rfl) (by kernel_rfl) (fun _ _ _ h => h) (Or.inl ⟨by kernel_rfl, ?_⟩) (by assumption) ?_
        rotate_left
        · (intro w hSw; (try dsimp only at hSw); go_simp; (try with_reducible rfl))
        simp only [Act.put, List.getElem_toArray, List.getElem_cons_succ, List.getElem_cons_zero, List.setIfInBounds_toArray, List.set_cons_zero, List.set_cons_succ]
        refine wpAnyH_take (i := 13) (v := ?_) rfl (by kernel_rfl) (by kernel_rfl) (by kernel_rfl) (fun _ _ _ h => h) (Or.inl ⟨by kernel_rfl, ?_⟩) (by assumption) ?_
        rotate_left
        · (intro w hSw; (try dsimp only at hSw); go_simp; (try with_reducible rfl))
        simp only [Act.put, List.getElem_toArray, List.getElem_cons_succ, List.getElem_cons_zero, List.setIfInBounds_toArray, List.set_cons_zero, List.set_cons_succ]
        refine wpAnyH_take (i := 14) (v := ?_) rfl (by kernel_rfl) (by kernel_rfl) (by kernel_rfl) (fun _ _ _ h => h) (Or.inl ⟨by kernel_rfl, ?_⟩) (by assumption) ?_
        rotate_left
        · (intro w hSw; (try dsimp only at hSw); go_simp; (try with_reducible rfl))
        simp only [Act.put, List.getElem_toArray, List.getElem_cons_succ, List.getElem_cons_zero, List.setIfInBounds_toArray, List.set_cons_zero, List.set_cons_succ]
        refine wpAnyH_take (i := 15) (v := ?_) rfl (by kernel_rfl) (by kernel_rfl) (by kernel_rfl) (fun _ _ _ h => h) (Or.inl ⟨by kernel_rfl, ?_⟩) (by assumption) ?_
        rotate_left
        · (intro w hSw; (try dsimp only at hSw); go_simp; (try with_reducible rfl))
        simp only [Act.put, List.getElem_toArray, List.getElem_cons_succ, List.getElem_cons_zero, List.setIfInBounds_toArray, List.set_cons_zero, List.set_cons_succ]
        refine wpAnyH_ready (rs := [16, 18]) (by kernel_rfl) (by simp) ?_
        refine AllReadyH.cons (o := _) rfl (fun K hK => ?_) ?_
        · go_simp
          refine hK.out _ _ trivial (fun hHeld => ?_)
          clear hK K
          (try simp only [Act.put, List.getElem_toArray, List.getElem_cons_succ, List.getElem_cons_zero, List.setIfInBounds_toArray, List.set_cons_zero, List.set_cons_succ])
          refine wpAnyH_ready (rs := [17, 18]) (by kernel_rfl) (by simp) ?_
          refine AllReadyH.cons (o := _) rfl (fun K hK => ?_) ?_
          · go_simp
            go_at_call 22; refine (action_x _ _ _ _ _).mono ?_; rintro e w' ⟨rfl, hw'⟩; rw [hw']; clear hw' w'
            refine hK.out _ _ (trivial) (fun hHeld => ?_)
            clear hK K
            (try simp only [Act.put, List.getElem_toArray, List.getElem_cons_succ, List.getElem_cons_zero, List.setIfInBounds_toArray, List.set_cons_zero, List.set_cons_succ])
            refine wpAnyH_ready (rs := [18]) (by kernel_rfl) (by simp) ?_
            refine AllReadyH.cons (o := _) rfl (fun K hK => ?_) AllReadyH.nil
            go_simp
            refine hK.out _ _ trivial (fun hHeld => ?_)
            clear hK K
            (try simp only [Act.put, List.getElem_toArray, List.getElem_cons_succ, List.getElem_cons_zero, List.setIfInBounds_toArray, List.set_cons_zero, List.set_cons_succ])
            refine wpAnyH_ready (rs := [19]) (by kernel_rfl) (by simp) ?_
            refine AllReadyH.cons (o := _) rfl (fun K hK => ?_) AllReadyH.nil
            go_simp
            refine hK.out _ _ trivial (fun hHeld => ?_)
            clear hK K
            (try simp only [Act.put, List.getElem_toArray, List.getElem_cons_succ, List.getElem_cons_zero, List.setIfInBounds_toArray, List.set_cons_zero, List.set_cons_succ])
            refine wpAnyH_done (by kernel_rfl) ?_ _
            refine NoPanic.normal ?_
            have hws : w1.heap.size < wr.heap.size := TA.lt_heap HBK.out
            have CELL : ∀ o1 o2 o3, (((wr.alloc o1).alloc o2).alloc o3).cell? ⟨w1.heap.size, 1, none⟩ = some v := fun o1 o2 o3 => by
              rw [Bl.cell ((((Bl.refl wr).alloc o1).alloc o2).alloc o3) hws, Lib.cell_of_heap HBK.out]; rfl
            have FA : Hid (∀ o1 o2 o3 o4, AO w1.heap.size w1.heap.size ((((wr.alloc o1).alloc o2).alloc o3).alloc o4).drew v (rg m c i).2 ys) := fun o1 o2 o3 o4 => HAO.out.bl (((((((Bl.refl wr).alloc _).alloc _).alloc _).alloc _)).drewN 1)
            have FN : Hid (∀ o1 o2 o3, ∀ (j : Nat) (u : Value), (flatA [((tn i, [tn r], c) : RC.Ac)] [(some ⟨wr.heap.size, 0, none⟩, 1)])[j]? = some u → ((((wr.alloc o1).alloc o2).alloc o3).alloc (.cells #[.string (M.bs (tn i)), .slice (some ⟨wr.heap.size, 0, none⟩) 1 1, .string (M.bs c)] 41)).drew.cell? ⟨wr.heap.size + 1 + 1 + 1, 0 + j, none⟩ = some u) := fun o1 o2 o3 j u hu => by
              show ((((wr.alloc o1).alloc o2).alloc o3).alloc _).cell? _ = _
              rw [show wr.heap.size + 1 + 1 + 1 = (((wr.alloc o1).alloc o2).alloc o3).heap.size by simp, Lib.cell_of_heap (heap_alloc_new _ _), Nat.zero_add]
              rcases j with _ | _ | _ | j
              · cases hu; rfl
              · cases hu; rfl
              · cases hu; rfl
              · simp [flatA, acL] at hu
            have FI : Hid (∀ o1 o3 o4, ∀ (q : Nat) (t : RC.Ac) (x : Option Addr) (c' : Nat), [((tn i, [tn r], c) : RC.Ac)][q]? = some t → [((some ⟨wr.heap.size, 0, none⟩, 1) : Option Addr × Nat)][q]? = some (x, c') → IO w1.heap.size ((((wr.alloc (.cells #[.string (M.bs (tn r))] 9)).alloc o1).alloc o3).alloc o4).drew x c' t.2.1) := fun o1 o3 o4 q t x c' h1 h2 => by
              rcases q with _ | q
              · cases h1; cases h2
                exact Or.inr (ownsRow_belowT (ownsRow_base (TA.own_new wr [tn r] (by unfold maxLen; simp)) (Nat.le_of_lt hws)) ((((Bl.refl (wr.alloc (.cells #[.string (M.bs (tn r))] 9))).alloc o1).alloc o3).alloc o4 |>.drewN 1))
              · simp at h1
            have FW : Hid (∀ o1 o2 o3 o4, Bl w1 ((((wr.alloc o1).alloc o2).alloc o3).alloc o4).drew) := fun o1 o2 o3 o4 => ((((HBR.out.alloc _).alloc _).alloc _).alloc _).drewN 1
            have FB : Hid (∀ o1 o2 o3 o4 (a8 : Option Addr) (c8 : Nat) (w8 : World), AO w1.heap.size w1.heap.size w8 (.slice a8 ((rg m c i).2 ++ [(tn i, [tn r], c)]).length c8) ((rg m c i).2 ++ [(tn i, [tn r], c)]) (ys ++ [(some ⟨wr.heap.size, 0, none⟩, 1)]) → ((((wr.alloc o1).alloc o2).alloc o3).alloc o4).drew.grownBy w8 v.ownBlock → w8.cell? ⟨w1.heap.size, 1, none⟩ = some v ∧ w8.frozen? ⟨w1.heap.size, 1, none⟩ = false ∧ w1.heap.size < w8.heap.size ∧ Bl w1 (w8.setCell ⟨w1.heap.size, 1, none⟩ (.slice a8 (i + 1) c8)) ∧ (w8.setCell ⟨w1.heap.size, 1, none⟩ (.slice a8 (i + 1) c8)).heap[w1.heap.size]? = some (.cells #[.slice none 0 0, .slice a8 (i + 1) c8] 25 (0, 0)) ∧ AO w1.heap.size w1.heap.size (w8.setCell ⟨w1.heap.size, 1, none⟩ (.slice a8 (i + 1) c8)) (.slice a8 (i + 1) c8) (rg m c (i + 1)).2 (ys ++ [(some ⟨wr.heap.size, 0, none⟩, 1)])) := fun o1 o2 o3 o4 a8 c8 w8 hA hg => by
              have hA0 := FA.out o1 o2 o3 o4
              have hbk1 : ((((wr.alloc o1).alloc o2).alloc o3).alloc o4).drew.heap[w1.heap.size]? = some (.cells #[.slice none 0 0, v] 25 (0, 0)) := by
                show ((((wr.alloc o1).alloc o2).alloc o3).alloc o4).heap[w1.heap.size]? = _
                rw [Below.block (((((Bl.refl wr).alloc o1).alloc o2).alloc o3).alloc o4) _ hws]; exact HBK.out
              have hne : some w1.heap.size ≠ v.ownBlock := fun e => by
                obtain ⟨_, ⟨e2, _⟩ | ⟨g', cap, cur, e2, _, h3, _⟩⟩ := hA0.own
                · rw [e2] at e; cases e
                · rw [e2] at e
                  simp only [Value.ownBlock, Option.some.injEq] at e
                  subst e
                  rw [h3] at hbk1
                  simp only [Option.some.injEq, Obj.cells.injEq] at hbk1
                  exact absurd hbk1.2.1 (by decide)
              have hbk8 : w8.heap[w1.heap.size]? = some (.cells #[.slice none 0 0, v] 25 (0, 0)) := by
                rw [hg.block _ (TA.lt_heap hbk1) hne]; exact hbk1
              have hB8 : Bl w1 w8 := hA0.below (FW.out o1 o2 o3 o4) (Nat.le_refl _) hg
              have e1 : ((rg m c i).2 ++ [((tn i, [tn r], c) : RC.Ac)]).length = i + 1 := by simp [rg]
              have e2 : (rg m c (i + 1)).2 = (rg m c i).2 ++ [(tn i, [tn r], c)] := by
                unfold rg rgA
                simp only []
                rw [List.range_succ, List.map_append, HR.out]; rfl
              rw [e1] at hA
              rw [e2]
              exact ⟨by rw [Lib.cell_of_heap hbk8]; rfl, by simp [World.frozen?, hbk8], TA.lt_heap hbk8, Below.setCell hB8 (Nat.le_refl _) _, by rw [heap_setCell_rowR hbk8]; rfl, hA.setK hbk8 (Nat.le_refl _)⟩
            have hln : (rg m c i).2.length = i := by simp [rg]
            clear HAO HBK
            go_wp2_with (refine wl_appX rfl _ _ rfl w1.heap.size w1.heap.size (rg m c i).2 ys v rfl (FA.out _ _ _ _) [(tn i, [tn r], c)] [(some ⟨wr.heap.size, 0, none⟩, 1)] (wr.heap.size + 1 + 1 + 1) 0 1 1 rfl rfl (FN.out _ _ _) rfl (FI.out _ _ _) (by simp) (by rw [hln]; simp; omega) (fun a8 c8 w8 HA8 hg8 => ?_); obtain ⟨k1, k2, k3, K4, K5, K6⟩ := FB.out _ _ _ _ _ _ _ HA8 hg8; have HK4 : Hid _ := K4; have HK5 : Hid _ := K5; have HK6 : Hid _ := K6; clear K4 K5 K6 FA FN FI FB FW HA8 hg8 CELL)
            go_roundw
            case rel => exact ⟨i + 1, by omega, by rw [HI1.out], HK4.out, _, _, HK5.out, HK6.out⟩
            case measure => (have := HI1.out; simp [intOf]; omega)
          refine AllReadyH.cons (o := _) rfl (fun K hK => ?_) ?_
          · go_simp
            refine hK.out _ _ trivial (fun hHeld => ?_)
            clear hK K
            (try simp only [Act.put, List.getElem_toArray, List.getElem_cons_succ, List.getElem_cons_zero, List.setIfInBounds_toArray, List.set_cons_zero, List.set_cons_succ])
            refine wpAnyH_ready (rs := [17]) (by kernel_rfl) (by simp) ?_
            refine AllReadyH.cons (o := _) rfl (fun K hK => ?_) AllReadyH.nil
            go_simp
            go_at_call 22; refine (action_x _ _ _ _ _).mono ?_; rintro e w' ⟨rfl, hw'⟩; rw [hw']; clear hw' w'
            refine hK.out _ _ (trivial) (fun hHeld => ?_)
            clear hK K
            (try simp only [Act.put, List.getElem_toArray, List.getElem_cons_succ, List.getElem_cons_zero, List.setIfInBounds_toArray, List.set_cons_zero, List.set_cons_succ])
            refine wpAnyH_ready (rs := [19]) (by kernel_rfl) (by simp) ?_
            refine AllReadyH.cons (o := _) rfl (fun K hK => ?_) AllReadyH.nil
            go_simp
            refine hK.out _ _ trivial (fun hHeld => ?_)
            clear hK K
            (try simp only [Act.put, List.getElem_toArray, List.getElem_cons_succ, List.getElem_cons_zero, List.setIfInBounds_toArray, List.set_cons_zero, List.set_cons_succ])
            refine wpAnyH_done (by kernel_rfl) ?_ _
            refine NoPanic.normal ?_
            have hws : w1.heap.size < wr.heap.size := TA.lt_heap HBK.out
            have CELL : ∀ o1 o2 o3, (((wr.alloc o1).alloc o2).alloc o3).cell? ⟨w1.heap.size, 1, none⟩ = some v := fun o1 o2 o3 => by
              rw [Bl.cell ((((Bl.refl wr).alloc o1).alloc o2).alloc o3) hws, Lib.cell_of_heap HBK.out]; rfl
            have FA : Hid (∀ o1 o2 o3 o4, AO w1.heap.size w1.heap.size ((((wr.alloc o1).alloc o2).alloc o3).alloc o4).drew v (rg m c i).2 ys) := fun o1 o2 o3 o4 => HAO.out.bl (((((((Bl.refl wr).alloc _).alloc _).alloc _).alloc _)).drewN 1)
            have FN : Hid (∀ o1 o2 o3, ∀ (j : Nat) (u : Value), (flatA [((tn i, [tn r], c) : RC.Ac)] [(some ⟨wr.heap.size, 0, none⟩, 1)])[j]? = some u → ((((wr.alloc o1).alloc o2).alloc o3).alloc (.cells #[.string (M.bs (tn i)), .slice (some ⟨wr.heap.size, 0, none⟩) 1 1, .string (M.bs c)] 41)).drew.cell? ⟨wr.heap.size + 1 + 1 + 1, 0 + j, none⟩ = some u) := fun o1 o2 o3 j u hu => by
              show ((((wr.alloc o1).alloc o2).alloc o3).alloc _).cell? _ = _
              rw [show wr.heap.size + 1 + 1 + 1 = (((wr.alloc o1).alloc o2).alloc o3).heap.size by simp, Lib.cell_of_heap (heap_alloc_new _ _), Nat.zero_add]
              rcases j with _ | _ | _ | j
              · cases hu; rfl
              · cases hu; rfl
              · cases hu; rfl
              · simp [flatA, acL] at hu
            have FI : Hid (∀ o1 o3 o4, ∀ (q : Nat) (t : RC.Ac) (x : Option Addr) (c' : Nat), [((tn i, [tn r], c) : RC.Ac)][q]? = some t → [((some ⟨wr.heap.size, 0, none⟩, 1) : Option Addr × Nat)][q]? = some (x, c') → IO w1.heap.size ((((wr.alloc (.cells #[.string (M.bs (tn r))] 9)).alloc o1).alloc o3).alloc o4).drew x c' t.2.1) := fun o1 o3 o4 q t x c' h1 h2 => by
              rcases q with _ | q
              · cases h1; cases h2
                exact Or.inr (ownsRow_belowT (ownsRow_base (TA.own_new wr [tn r] (by unfold maxLen; simp)) (Nat.le_of_lt hws)) ((((Bl.refl (wr.alloc (.cells #[.string (M.bs (tn r))] 9))).alloc o1).alloc o3).alloc o4 |>.drewN 1))
              · simp at h1
            have FW : Hid (∀ o1 o2 o3 o4, Bl w1 ((((wr.alloc o1).alloc o2).alloc o3).alloc o4).drew) := fun o1 o2 o3 o4 => ((((HBR.out.alloc _).alloc _).alloc _).alloc _).drewN 1
            have FB : Hid (∀ o1 o2 o3 o4 (a8 : Option Addr) (c8 : Nat) (w8 : World), AO w1.heap.size w1.heap.size w8 (.slice a8 ((rg m c i).2 ++ [(tn i, [tn r], c)]).length c8) ((rg m c i).2 ++ [(tn i, [tn r], c)]) (ys ++ [(some ⟨wr.heap.size, 0, none⟩, 1)]) → ((((wr.alloc o1).alloc o2).alloc o3).alloc o4).drew.grownBy w8 v.ownBlock → w8.cell? ⟨w1.heap.size, 1, none⟩ = some v ∧ w8.frozen? ⟨w1.heap.size, 1, none⟩ = false ∧ w1.heap.size < w8.heap.size ∧ Bl w1 (w8.setCell ⟨w1.heap.size, 1, none⟩ (.slice a8 (i + 1) c8)) ∧ (w8.setCell ⟨w1.heap.size, 1, none⟩ (.slice a8 (i + 1) c8)).heap[w1.heap.size]? = some (.cells #[.slice none 0 0, .slice a8 (i + 1) c8] 25 (0, 0)) ∧ AO w1.heap.size w1.heap.size (w8.setCell ⟨w1.heap.size, 1, none⟩ (.slice a8 (i + 1) c8)) (.slice a8 (i + 1) c8) (rg m c (i + 1)).2 (ys ++ [(some ⟨wr.heap.size, 0, none⟩, 1)])) := fun o1 o2 o3 o4 a8 c8 w8 hA hg => by
              have hA0 := FA.out o1 o2 o3 o4
              have hbk1 : ((((wr.alloc o1).alloc o2).alloc o3).alloc o4).drew.heap[w1.heap.size]? = some (.cells #[.slice none 0 0, v] 25 (0, 0)) := by
                show ((((wr.alloc o1).alloc o2).alloc o3).alloc o4).heap[w1.heap.size]? = _
                rw [Below.block (((((Bl.refl wr).alloc o1).alloc o2).alloc o3).alloc o4) _ hws]; exact HBK.out
              have hne : some w1.heap.size ≠ v.ownBlock := fun e => by
                obtain ⟨_, ⟨e2, _⟩ | ⟨g', cap, cur, e2, _, h3, _⟩⟩ := hA0.own
                · rw [e2] at e; cases e
                · rw [e2] at e
                  simp only [Value.ownBlock, Option.some.injEq] at e
                  subst e
                  rw [h3] at hbk1
                  simp only [Option.some.injEq, Obj.cells.injEq] at hbk1
                  exact absurd hbk1.2.1 (by decide)
              have hbk8 : w8.heap[w1.heap.size]? = some (.cells #[.slice none 0 0, v] 25 (0, 0)) := by
                rw [hg.block _ (TA.lt_heap hbk1) hne]; exact hbk1
              have hB8 : Bl w1 w8 := hA0.below (FW.out o1 o2 o3 o4) (Nat.le_refl _) hg
              have e1 : ((rg m c i).2 ++ [((tn i, [tn r], c) : RC.Ac)]).length = i + 1 := by simp [rg]
              have e2 : (rg m c (i + 1)).2 = (rg m c i).2 ++ [(tn i, [tn r], c)] := by
                unfold rg rgA
                simp only []
                rw [List.range_succ, List.map_append, HR.out]; rfl
              rw [e1] at hA
              rw [e2]
              exact ⟨by rw [Lib.cell_of_heap hbk8]; rfl, by simp [World.frozen?, hbk8], TA.lt_heap hbk8, Below.setCell hB8 (Nat.le_refl _) _, by rw [heap_setCell_rowR hbk8]; rfl, hA.setK hbk8 (Nat.le_refl _)⟩
            have hln : (rg m c i).2.length = i := by simp [rg]
            clear HAO HBK
            go_wp2_with (refine wl_appX rfl _ _ rfl w1.heap.size w1.heap.size (rg m c i).2 ys v rfl (FA.out _ _ _ _) [(tn i, [tn r], c)] [(some ⟨wr.heap.size, 0, none⟩, 1)] (wr.heap.size + 1 + 1 + 1) 0 1 1 rfl rfl (FN.out _ _ _) rfl (FI.out _ _ _) (by simp) (by rw [hln]; simp; omega) (fun a8 c8 w8 HA8 hg8 => ?_); obtain ⟨k1, k2, k3, K4, K5, K6⟩ := FB.out _ _ _ _ _ _ _ HA8 hg8; have HK4 : Hid _ := K4; have HK5 : Hid _ := K5; have HK6 : Hid _ := K6; clear K4 K5 K6 FA FN FI FB FW HA8 hg8 CELL)
            go_roundw
            case rel => exact ⟨i + 1, by omega, by rw [HI1.out], HK4.out, _, _, HK5.out, HK6.out⟩
            case measure => (have := HI1.out; simp [intOf]; omega)
          exact AllReadyH.nil
        refine AllReadyH.cons (o := _) rfl (fun K hK => ?_) ?_
        · go_simp
          refine hK.out _ _ trivial (fun hHeld => ?_)
          clear hK K
          (try simp only [Act.put, List.getElem_toArray, List.getElem_cons_succ, List.getElem_cons_zero, List.setIfInBounds_toArray, List.set_cons_zero, List.set_cons_succ])
          refine wpAnyH_ready (rs := [16]) (by kernel_rfl) (by simp) ?_
          refine AllReadyH.cons (o := _) rfl (fun K hK => ?_) AllReadyH.nil
          go_simp
          refine hK.out _ _ trivial (fun hHeld => ?_)
          clear hK K
          (try simp only [Act.put, List.getElem_toArray, List.getElem_cons_succ, List.getElem_cons_zero, List.setIfInBounds_toArray, List.set_cons_zero, List.set_cons_succ])
          refine wpAnyH_ready (rs := [17]) (by kernel_rfl) (by simp) ?_
          refine AllReadyH.cons (o := _) rfl (fun K hK => ?_) AllReadyH.nil
          go_simp
          go_at_call 22; refine (action_x _ _ _ _ _).mono ?_; rintro e w' ⟨rfl, hw'⟩; rw [hw']; clear hw' w'
          refine hK.out _ _ (trivial) (fun hHeld => ?_)
          clear hK K
          (try simp only [Act.put, List.getElem_toArray, List.getElem_cons_succ, List.getElem_cons_zero, List.setIfInBounds_toArray, List.set_cons_zero, List.set_cons_succ])
          refine wpAnyH_ready (rs := [19]) (by kernel_rfl) (by simp) ?_
          refine AllReadyH.cons (o := _) rfl (fun K hK => ?_) AllReadyH.nil
          go_simp
          refine hK.out _ _ trivial (fun hHeld => ?_)
          clear hK K
          (try simp only [Act.put, List.getElem_toArray, List.getElem_cons_succ, List.getElem_cons_zero, List.setIfInBounds_toArray, List.set_cons_zero, List.set_cons_succ])
          refine wpAnyH_done (by kernel_rfl) ?_ _
          refine NoPanic.normal ?_
          have hws : w1.heap.size < wr.heap.size := TA.lt_heap HBK.out
          have CELL : ∀ o1 o2 o3, (((wr.alloc o1).alloc o2).alloc o3).cell? ⟨w1.heap.size, 1, none⟩ = some v := fun o1 o2 o3 => by
            rw [Bl.cell ((((Bl.refl wr).alloc o1).alloc o2).alloc o3) hws, Lib.cell_of_heap HBK.out]; rfl
          have FA : Hid (∀ o1 o2 o3 o4, AO w1.heap.size w1.heap.size ((((wr.alloc o1).alloc o2).alloc o3).alloc o4).drew v (rg m c i).2 ys) := fun o1 o2 o3 o4 => HAO.out.bl (((((((Bl.refl wr).alloc _).alloc _).alloc _).alloc _)).drewN 1)
          have FN : Hid (∀ o1 o2 o3, ∀ (j : Nat) (u : Value), (flatA [((tn i, [tn r], c) : RC.Ac)] [(some ⟨wr.heap.size + 1, 0, none⟩, 1)])[j]? = some u → ((((wr.alloc o1).alloc o2).alloc o3).alloc (.cells #[.string (M.bs (tn i)), .slice (some ⟨wr.heap.size + 1, 0, none⟩) 1 1, .string (M.bs c)] 41)).drew.cell? ⟨wr.heap.size + 1 + 1 + 1, 0 + j, none⟩ = some u) := fun o1 o2 o3 j u hu => by
            show ((((wr.alloc o1).alloc o2).alloc o3).alloc _).cell? _ = _
            rw [show wr.heap.size + 1 + 1 + 1 = (((wr.alloc o1).alloc o2).alloc o3).heap.size by simp, Lib.cell_of_heap (heap_alloc_new _ _), Nat.zero_add]
            rcases j with _ | _ | _ | j
            · cases hu; rfl
            · cases hu; rfl
            · cases hu; rfl
            · simp [flatA, acL] at hu
          have FI : Hid (∀ o1 o3 o4, ∀ (q : Nat) (t : RC.Ac) (x : Option Addr) (c' : Nat), [((tn i, [tn r], c) : RC.Ac)][q]? = some t → [((some ⟨wr.heap.size + 1, 0, none⟩, 1) : Option Addr × Nat)][q]? = some (x, c') → IO w1.heap.size ((((wr.alloc o1).alloc (.cells #[.string (M.bs (tn r))] 9)).alloc o3).alloc o4).drew x c' t.2.1) := fun o1 o3 o4 q t x c' h1 h2 => by
            rcases q with _ | q
            · cases h1; cases h2
              exact Or.inr ((by have h := ownsRow_belowT (ownsRow_base (TA.own_new (wr.alloc o1) [tn r] (by unfold maxLen; simp)) (Nat.le_of_lt (Nat.lt_of_lt_of_le hws (by simp)))) ((((Bl.refl ((wr.alloc o1).alloc (.cells #[.string (M.bs (tn r))] 9))).alloc o3).alloc o4).drewN 1); rw [show (wr.alloc o1).heap.size = wr.heap.size + 1 by simp] at h; exact h))
            · simp at h1
          have FW : Hid (∀ o1 o2 o3 o4, Bl w1 ((((wr.alloc o1).alloc o2).alloc o3).alloc o4).drew) := fun o1 o2 o3 o4 => ((((HBR.out.alloc _).alloc _).alloc _).alloc _).drewN 1
          have FB : Hid (∀ o1 o2 o3 o4 (a8 : Option Addr) (c8 : Nat) (w8 : World), AO w1.heap.size w1.heap.size w8 (.slice a8 ((rg m c i).2 ++ [(tn i, [tn r], c)]).length c8) ((rg m c i).2 ++ [(tn i, [tn r], c)]) (ys ++ [(some ⟨wr.heap.size + 1, 0, none⟩, 1)]) → ((((wr.alloc o1).alloc o2).alloc o3).alloc o4).drew.grownBy w8 v.ownBlock → w8.cell? ⟨w1.heap.size, 1, none⟩ = some v ∧ w8.frozen? ⟨w1.heap.size, 1, none⟩ = false ∧ w1.heap.size < w8.heap.size ∧ Bl w1 (w8.setCell ⟨w1.heap.size, 1, none⟩ (.slice a8 (i + 1) c8)) ∧ (w8.setCell ⟨w1.heap.size, 1, none⟩ (.slice a8 (i + 1) c8)).heap[w1.heap.size]? = some (.cells #[.slice none 0 0, .slice a8 (i + 1) c8] 25 (0, 0)) ∧ AO w1.heap.size w1.heap.size (w8.setCell ⟨w1.heap.size, 1, none⟩ (.slice a8 (i + 1) c8)) (.slice a8 (i + 1) c8) (rg m c (i + 1)).2 (ys ++ [(some ⟨wr.heap.size + 1, 0, none⟩, 1)])) := fun o1 o2 o3 o4 a8 c8 w8 hA hg => by
            have hA0 := FA.out o1 o2 o3 o4
            have hbk1 : ((((wr.alloc o1).alloc o2).alloc o3).alloc o4).drew.heap[w1.heap.size]? = some (.cells #[.slice none 0 0, v] 25 (0, 0)) := by
              show ((((wr.alloc o1).alloc o2).alloc o3).alloc o4).heap[w1.heap.size]? = _
              rw [Below.block (((((Bl.refl wr).alloc o1).alloc o2).alloc o3).alloc o4) _ hws]; exact HBK.out
            have hne : some w1.heap.size ≠ v.ownBlock := fun e => by
              obtain ⟨_, ⟨e2, _⟩ | ⟨g', cap, cur, e2, _, h3, _⟩⟩ := hA0.own
              · rw [e2] at e; cases e
              · rw [e2] at e
                simp only [Value.ownBlock, Option.some.injEq] at e
                subst e
                rw [h3] at hbk1
                simp only [Option.some.injEq, Obj.cells.injEq] at hbk1
                exact absurd hbk1.2.1 (by decide)
            have hbk8 : w8.heap[w1.heap.size]? = some (.cells #[.slice none 0 0, v] 25 (0, 0)) := by
              rw [hg.block _ (TA.lt_heap hbk1) hne]; exact hbk1
            have hB8 : Bl w1 w8 := hA0.below (FW.out o1 o2 o3 o4) (Nat.le_refl _) hg
            have e1 : ((rg m c i).2 ++ [((tn i, [tn r], c) : RC.Ac)]).length = i + 1 := by simp [rg]
            have e2 : (rg m c (i + 1)).2 = (rg m c i).2 ++ [(tn i, [tn r], c)] := by
              unfold rg rgA
              simp only []
              rw [List.range_succ, List.map_append, HR.out]; rfl
            rw [e1] at hA
            rw [e2]
            exact ⟨by rw [Lib.cell_of_heap hbk8]; rfl, by simp [World.frozen?, hbk8], TA.lt_heap hbk8, Below.setCell hB8 (Nat.le_refl _) _, by rw [heap_setCell_rowR hbk8]; rfl, hA.setK hbk8 (Nat.le_refl _)⟩
          have hln : (rg m c i).2.length = i := by simp [rg]
          clear HAO HBK
          go_wp2_with (refine wl_appX rfl _ _ rfl w1.heap.size w1.heap.size (rg m c i).2 ys v rfl (FA.out _ _ _ _) [(tn i, [tn r], c)] [(some ⟨wr.heap.size + 1, 0, none⟩, 1)] (wr.heap.size + 1 + 1 + 1) 0 1 1 rfl rfl (FN.out _ _ _) rfl (FI.out _ _ _) (by simp) (by rw [hln]; simp; omega) (fun a8 c8 w8 HA8 hg8 => ?_); obtain ⟨k1, k2, k3, K4, K5, K6⟩ := FB.out _ _ _ _ _ _ _ HA8 hg8; have HK4 : Hid _ := K4; have HK5 : Hid _ := K5; have HK6 : Hid _ := K6; clear K4 K5 K6 FA FN FI FB FW HA8 hg8 CELL)
          go_roundw
          case rel => exact ⟨i + 1, by omega, by rw [HI1.out], HK4.out, _, _, HK5.out, HK6.out⟩
          case measure => (have := HI1.out; simp [intOf]; omega)
        exact AllReadyH.nil
      · obtain rfl : i = m := by omega
        obtain ⟨va, vc, rfl⟩ := own_shape HAO.out.own
        have hrl : (rg i c i).2.length = i := by simp [rg]
        have hrgl : (rg i c i).2 = (rg i c (i - 1)).2 ++ [(tn (i - 1), [tn ((i - 1 + 1) % i)], c)] := by
          unfold rg rgA
          simp only []
          have e := range_last hm0
          rw [e]
          rw [List.map_append]
          rfl
        have hchn : (chn i c) = ([], (rg i c (i - 1)).2 ++ [(tn (i - 1), [], c)]) := by unfold chn rg; rfl
        have hrl1 : (rg i c (i - 1)).2.length = i - 1 := by simp [rg]
        rw [hrl] at HBK HAO
        have hnil : ∀ (V : World), Strs V.heap.size V (.slice none ([] : List (List UInt8)).length 0) [] := fun V => Or.inl ⟨rfl, none, 0, rfl⟩
        have HG : Hid (∀ U, Bl wr U → GA U.heap.size U (rg i c i) none 0 va vc) := fun U hU => by
          obtain ⟨a', c', e, h⟩ := (HAO.out.bl hU).ga (w0 := w1) (S := []) (sa := none) (sc := 0) (HBR.out.step hU) (hnil w1)
          rw [hrl] at e
          simp only [Value.slice.injEq] at e
          obtain ⟨e1, _, e3⟩ := e
          subst e1
          subst e3
          exact h
        have HOK : Hid (grOk (rg i c i)) := by
          refine ⟨by simp [rg, maxLen], by simp [rg], by rw [hrl]; unfold maxLen; omega, fun a ha => ?_⟩
          obtain ⟨q, _, rfl⟩ := List.mem_map.1 ha
          exact ⟨by unfold maxLen; simp [rgA, tn], by unfold maxLen; simp [rgA], by unfold maxLen; simp [rgA, tn], by unfold maxLen; simp [rgA] <;> omega⟩
        have hgv : gv (rg i c i) none 0 va vc = #[.slice none 0 0, .slice va i vc] := by unfold gv; rw [hrl]; rfl
        have CC : Hid (Calls Try.prog 11 #[.agg #[.slice none 0 0, .slice va i vc]] wr fun e w' => e = .returned (.int .i64 23) ∧ Bl wr w') := by
          have h := Check_x (rg i c i) none 0 va vc (Bl.refl wr) (HG.out wr (Bl.refl wr)) HOK.out
          rw [rg_chk hm0 hm12 hc, hgv] at h; exact h
        have CO : Hid (∀ U, Bl wr U → Calls Try.prog 14 #[.agg #[.slice none 0 0, .slice va i vc]] U fun e w' => ∃ a c', e = .returned (.slice a 0 c') ∧ Bl wr w') := fun U hU => by
          have h := Order_x (rg i c i) none 0 va vc hU (HG.out U hU) HOK.out
          rw [rg_ord hm0 hm12 hc, hgv] at h
          refine Calls.mono h ?_
          rintro e w' ⟨a, c', rfl, _, hb⟩
          exact ⟨a, c', rfl, hb⟩
        have CN : Hid (∀ U, Bl wr U → Calls Try.prog 17 #[.agg #[.slice none 0 0, .slice va i vc], .string ⟨#[116, 97]⟩] U fun e w' => ∃ a c', e = .returned (.slice a 0 c') ∧ Bl wr w') := fun U hU => by
          have h := Needs_x (rg i c i) none 0 va vc (tn 0) hU (HG.out U hU) HOK.out
          rw [rg_nd hm0 hm12 hc, hgv] at h
          refine Calls.mono h ?_
          rintro e w' ⟨v, rfl, ho, hb⟩
          obtain ⟨a, c', rfl⟩ := own_shape ho
          exact ⟨a, c', rfl, hb⟩
        have CD : Hid (∀ U, Bl wr U → Calls Try.prog 19 #[.agg #[.slice none 0 0, .slice va i vc], .slice (some ⟨U.heap.size, 0, none⟩) 1 1] (U.alloc (.cells #[.string ⟨#[116, 97]⟩] 9)) fun e w' => ∃ a c', e = .returned (.slice a 0 c') ∧ Bl wr w') := fun U hU => by
          have hs : Strs (U.alloc (.cells #[.string ⟨#[116, 97]⟩] 9)).heap.size (U.alloc (.cells #[.string ⟨#[116, 97]⟩] 9)) (.slice (some ⟨U.heap.size, 0, none⟩) 1 1) [tn 0] := strs_of_owns (TA.own_new U [tn 0] (by unfold maxLen; simp))
          have h := Dirty_x (rg i c i) none 0 va vc [tn 0] _ 1 (hU.alloc _) (HG.out _ (hU.alloc _)) HOK.out hs (by unfold maxLen; simp)
          rw [rg_dr hm0 hm12 hc, hgv] at h
          refine Calls.mono h ?_
          rintro e w' ⟨a, c', rfl, _, hb⟩
          exact ⟨a, c', rfl, hb⟩
        have hws : w1.heap.size < wr.heap.size := TA.lt_heap HBK.out
        have HCL : Hid (∀ U, Bl wr U → U.cell? ⟨w1.heap.size, 0, none⟩ = some (.slice none 0 0) ∧ U.cell? ⟨w1.heap.size, 1, none⟩ = some (.slice va i vc) ∧ U.heap[w1.heap.size]? = some (.cells #[.slice none 0 0, .slice va i vc] 25 (0, 0))) := fun U hU =>
          ⟨by rw [Bl.cell hU hws, Lib.cell_of_heap HBK.out]; rfl, by rw [Bl.cell hU hws, Lib.cell_of_heap HBK.out]; rfl, by rw [Below.block hU _ hws]; exact HBK.out⟩
        obtain ⟨d0, d1, _⟩ := HCL.out wr (Bl.refl wr)
        have HGB : Hid (∀ (U : World) (ab q cap : Nat) (zs : List (Option Addr × Nat)), AO w1.heap.size w1.heap.size (U.setCell ⟨ab, q, none⟩ (.slice none 0 0)) (.slice (some ⟨ab, 0, none⟩) i cap) ((rg i c (i - 1)).2 ++ [(tn (i - 1), [], c)]) zs → U.heap[w1.heap.size]? = some (.cells #[.slice none 0 0, .slice (some ⟨ab, 0, none⟩) i cap] 25 (0, 0)) → w1.heap.size ≤ ab → (U.setCell ⟨ab, q, none⟩ (.slice none 0 0)).heap[w1.heap.size]? = some (.cells #[.slice none 0 0, .slice (some ⟨ab, 0, none⟩) i cap] 25 (0, 0))) := fun U ab q cap zs hA hb hle => by
          have hne : w1.heap.size ≠ ab := fun e => by
            subst e
            obtain ⟨_, ⟨e2, _⟩ | ⟨g', cap', cur, e2, _, h3, _⟩⟩ := hA.own
            · cases e2
            · have e3 := congrArg Value.ownBlock e2
              simp only [Value.ownBlock, Option.some.injEq] at e3
              rw [← e3, heap_setCell_rowR hb] at h3
              simp only [Option.some.injEq, Obj.cells.injEq] at h3
              exact absurd h3.2.1 (by decide)
          rw [heap_setCell_otherR hne]; exact hb
        have hcl : (chn i c).2.length = i := by rw [hchn]; simp [hrl1]; omega
        have HX2 : Hid (∀ (V : World) (ab : Nat) (zs : List (Option Addr × Nat)), AO w1.heap.size w1.heap.size V (.slice (some ⟨ab, 0, none⟩) i vc) ((rg i c (i - 1)).2 ++ [(tn (i - 1), [], c)]) zs → Bl w1 V → ∀ U, Bl V U → GA U.heap.size U (chn i c) none 0 (some ⟨ab, 0, none⟩) vc) := fun V ab zs hA hB U hU => by
          obtain ⟨a', c', e, h⟩ := (hA.bl hU).ga (w0 := w1) (S := []) (sa := none) (sc := 0) (hB.step hU) (hnil w1)
          rw [show ((rg i c (i - 1)).2 ++ [((tn (i - 1), [], c) : RC.Ac)]).length = i by simp [hrl1]; omega] at e
          simp only [Value.slice.injEq] at e
          obtain ⟨e1, _, e3⟩ := e
          subst e1
          subst e3
          rw [hchn]
          exact h
        have HOK2 : Hid (grOk (chn i c)) := by
          refine ⟨by simp [chn, maxLen], by simp [chn], by rw [hcl]; unfold maxLen; omega, fun a ha => ?_⟩
          rcases List.mem_append.1 ha with h1 | h1
          · obtain ⟨q, _, rfl⟩ := List.mem_map.1 h1
            exact ⟨by unfold maxLen; simp [rgA, tn], by unfold maxLen; simp [rgA], by unfold maxLen; simp [rgA, tn], by unfold maxLen; simp [rgA] <;> omega⟩
          · simp at h1
            rw [h1]
            exact ⟨by unfold maxLen; simp [tn], by unfold maxLen; simp, by simp, by unfold maxLen; simp <;> omega⟩
        obtain ⟨c1, c2, c3⟩ := chn_all hm0 hm12 hc
        have hgv2 : ∀ ab, gv (chn i c) none 0 (some ⟨ab, 0, none⟩) vc = #[.slice none 0 0, .slice (some ⟨ab, 0, none⟩) i vc] := fun ab => by unfold gv; rw [hcl]; rfl
        have CC2 : Hid (∀ U ab, GA U.heap.size U (chn i c) none 0 (some ⟨ab, 0, none⟩) vc → Calls Try.prog 11 #[.agg #[.slice none 0 0, .slice (some ⟨ab, 0, none⟩) i vc]] U fun e w' => e = .returned (.int .i64 0) ∧ Bl U w') := fun U ab hG => by
          have h := Check_x (chn i c) none 0 _ vc (Bl.refl U) hG HOK2.out
          rw [c1, hgv2] at h; exact h
        have CO2 : Hid (∀ U ab, GA U.heap.size U (chn i c) none 0 (some ⟨ab, 0, none⟩) vc → Calls Try.prog 14 #[.agg #[.slice none 0 0, .slice (some ⟨ab, 0, none⟩) i vc]] U fun e w' => ∃ a c', e = .returned (.slice a i c') ∧ IA w' a ((List.range i).map (fun q => i - 1 - q)) ∧ Bl U w') := fun U ab hG => by
          have h := Order_x (chn i c) none 0 _ vc (Bl.refl U) hG HOK2.out
          rw [c2, hgv2, List.length_map, List.length_range] at h; exact h
        have CN2 : Hid (∀ U ab, GA U.heap.size U (chn i c) none 0 (some ⟨ab, 0, none⟩) vc → Calls Try.prog 17 #[.agg #[.slice none 0 0, .slice (some ⟨ab, 0, none⟩) i vc], .string ⟨#[116, 97]⟩] U fun e w' => ∃ a c', e = .returned (.slice a (i - 1) c') ∧ Bl U w') := fun U ab hG => by
          have h := Needs_x (chn i c) none 0 _ vc (tn 0) (Bl.refl U) hG HOK2.out
          rw [hgv2] at h
          refine Calls.mono h ?_
          rintro e w' ⟨v, rfl, ho, hb⟩
          obtain ⟨a, c', e'⟩ := own_shape ho
          exact ⟨a, c', by rw [e', c3], hb⟩
        have HRGL : Hid ((rg i c i).2 = (rg i c (i - 1)).2 ++ [(tn (i - 1), [tn ((i - 1 + 1) % i)], c)]) := hrgl
        clear hrgl hgv HG HBK
        go_wp2_with (first
          | (go_at_call 11; refine CC.out.mono ?_; clear CC d0 d1; rintro e w2 ⟨rfl, HB2⟩; obtain ⟨d0, d1, _⟩ := HCL.out _ HB2)
          | (go_at_call 14; refine (CO.out _ HB2).mono ?_; clear CO d0 d1 HB2; rintro e w3 ⟨a3, c3, rfl, HB3⟩; obtain ⟨d0, d1, _⟩ := HCL.out _ HB3)
          | (go_at_call 17; refine (CN.out _ HB3).mono ?_; clear CN d0 d1 HB3; rintro e w4 ⟨a4, c4, rfl, HB4⟩; obtain ⟨d0, d1, _⟩ := HCL.out _ HB4)
          | (go_at_call 19; refine (CD.out _ HB4).mono ?_; clear CD d0 d1 HB4; rintro e w5 ⟨a5, c5, rfl, HB5⟩; obtain ⟨d0, d1, d2⟩ := HCL.out _ HB5; have HD2 : Hid _ := d2; have HA5 := HAO.out.bl HB5; rw [HRGL.out] at HA5; obtain ⟨ab, cap, xx, cx, zs, ev, hab, habl, hac, haf, HA6⟩ := HA5.last; have HB5H : Hid (Bl wr w5) := HB5; have HA6H : Hid _ := HA6; rw [hrl1] at ev hac haf HA6H; simp only [Value.slice.injEq] at ev; obtain ⟨rfl, ev2, rfl⟩ := ev; have hgb : (w5.setCell ⟨ab, (i - 1) * 3 + 1, none⟩ (.slice none 0 0)).heap[w1.heap.size]? = some (.cells #[.slice none 0 0, .slice (some ⟨ab, 0, none⟩) i vc] 25 (0, 0)) := HGB.out _ _ _ _ _ HA6H.out HD2.out hab; have HGBH : Hid _ := hgb; have f0 : (w5.setCell ⟨ab, (i - 1) * 3 + 1, none⟩ (.slice none 0 0)).cell? ⟨w1.heap.size, 0, none⟩ = some (.slice none 0 0) := (by rw [Lib.cell_of_heap hgb]; rfl); have f1 : (w5.setCell ⟨ab, (i - 1) * 3 + 1, none⟩ (.slice none 0 0)).cell? ⟨w1.heap.size, 1, none⟩ = some (.slice (some ⟨ab, 0, none⟩) i vc) := (by rw [Lib.cell_of_heap hgb]; rfl); have f2 := TA.lt_heap hgb; have hii : IntKind.i64.wrap ((i : Int) - 1) = ((i - 1 : Nat) : Int) := (by rw [IntKind.wrap_i64]; omega); have HWV : Bl w1 (w5.setCell ⟨ab, (i - 1) * 3 + 1, none⟩ (.slice none 0 0)) := Below.setCell (HBR.out.step HB5) hab _; have HGC : Hid (∀ U, Bl (w5.setCell ⟨ab, (i - 1) * 3 + 1, none⟩ (.slice none 0 0)) U → GA U.heap.size U (chn i c) none 0 (some ⟨ab, 0, none⟩) vc) := HX2.out _ _ _ HA6H.out HWV; have HWVH : Hid (Bl w1 (w5.setCell ⟨ab, (i - 1) * 3 + 1, none⟩ (.slice none 0 0))) := HWV; clear HA5 HA6 d2 HB5 ev2 hgb HWV HX2)
          | (go_at_call 14; refine (CO2.out _ _ (HGC.out _ (Bl.refl _))).mono ?_; clear CO2 d0 d1; rintro e w7 ⟨la, lc, rfl, hia, hb7⟩; have HIA : Hid (IA w7 la ((List.range i).map (fun q => i - 1 - q))) := hia; have HB7 : Hid (Bl (w5.setCell ⟨ab, (i - 1) * 3 + 1, none⟩ (.slice none 0 0)) w7) := hb7; have d0 : w7.cell? ⟨w1.heap.size, 0, none⟩ = some (.slice none 0 0) := (by rw [Bl.cell hb7 f2]; exact f0); have d1 : w7.cell? ⟨w1.heap.size, 1, none⟩ = some (.slice (some ⟨ab, 0, none⟩) i vc) := (by rw [Bl.cell hb7 f2]; exact f1); have d3 : w1.heap.size < w7.heap.size := Nat.lt_of_lt_of_le f2 (Below.size hb7); clear hia hb7 f0 f1))
        have hi1 : ((i - 1 : Nat) : Int) = (i : Int) - 1 := by omega
        go_loop [9] (fun u9 => ∃ q : Nat, q ≤ i ∧ u9 = .int .i64 q) (fun u9 => i - (intOf u9).toNat)
        case atStart => exact ⟨0, Nat.zero_le _, rfl⟩
        case round =>
          obtain ⟨q, hq0, rfl⟩ := hrel
          by_cases hlq : q < i
          · obtain ⟨lb, loff, rfl, _, hlc⟩ := HIA.out q (i - 1 - q) (by rw [List.getElem?_map, List.getElem?_range hlq]; rfl)
            go_wp2_with fail
            go_round
            case rel => exact ⟨q + 1, by omega, by go_num⟩
            case measure => simp [intOf]; omega
          · obtain rfl : q = i := by omega
            have hnn : ((q : Int) == (q : Int)) = true := by simp
            have hn1 : (((q - 1 : Nat) : Int) == (q : Int) - 1) = true := by rw [beq_iff_eq]; omega
            go_wp2_with (first
              | (go_at_call 11; refine (CC2.out _ _ (HGC.out _ HB7.out)).mono ?_; clear CC2; rintro e w8 ⟨rfl, hb8⟩; have HB8 : Hid (Bl w7 w8) := hb8; have e0 : w8.cell? ⟨w1.heap.size, 0, none⟩ = some (.slice none 0 0) := (by rw [Bl.cell hb8 d3]; exact d0); have e1 : w8.cell? ⟨w1.heap.size, 1, none⟩ = some (.slice (some ⟨ab, 0, none⟩) q vc) := (by rw [Bl.cell hb8 d3]; exact d1); clear d0 d1 hb8)
              | (go_at_call 17; refine (CN2.out _ _ (HGC.out _ (HB7.out.step HB8.out))).mono ?_; clear CN2; rintro e w9 ⟨a9, c9, rfl, hb9⟩; have HB9 : Hid (Bl w8 w9) := hb9; clear hb9))
            go_ret
            exact ⟨rfl, HB1H.out.step (HWVH.out.step (HB7.out.step (HB8.out.step HB9.out)))⟩
  · have hd64 : decide ((64 : Int) < (code.length : Int)) = true := by simp; omega
    have hd65 : decide (64 < code.length) = true := by simp; omega
    go_enter Try.func6, Try.ntmps6
    go_wp2_with (first
      | (go_at_call 9; refine CA.out.mono ?_; clear CA; rintro e w1 ⟨rfl, HB1⟩))
    have HB1H : Hid (Bl W w1) := HB1
    have AO0 : Hid (AO w1.heap.size w1.heap.size (w1.alloc (.cells #[.slice none 0 0, .slice none 0 0] 25)) (.slice none 0 0) (rg m ([] : List UInt8) 0).2 []) := AO.nil (Nat.le_refl _) (by simp)
    have BK0 : Hid ((w1.alloc (.cells #[.slice none 0 0, .slice none 0 0] 25)).heap[w1.heap.size]? = some (.cells #[.slice none 0 0, .slice none 0 0] 25 (0, 0))) := heap_alloc_new _ _
    have BL0 : Hid (Bl w1 (w1.alloc (.cells #[.slice none 0 0, .slice none 0 0] 25))) := (Bl.refl w1).alloc _
    clear HB1
    go_loopw [6, 7] (fun u6 u7 wr => ∃ i : Nat, i ≤ m ∧ u6 = .int .i64 i ∧ Bl w1 wr ∧ ∃ v ys, wr.heap[w1.heap.size]? = some (.cells #[.slice none 0 0, v] 25 (0, 0)) ∧ AO w1.heap.size w1.heap.size wr v (rg m ([] : List UInt8) i).2 ys) (fun u6 _ _ => m - (intOf u6).toNat)
    case atStart => exact ⟨0, Nat.zero_le _, rfl, BL0.out, _, _, BK0.out, AO0.out⟩
    case round =>
      obtain ⟨i, hi0, rfl, hb, v, ys, hbk, hao⟩ := hrel
      have HBR : Hid (Bl w1 wr) := hb
      have HBK : Hid (wr.heap[w1.heap.size]? = some (.cells #[.slice none 0 0, v] 25 (0, 0))) := hbk
      have HAO : Hid (AO w1.heap.size w1.heap.size wr v (rg m ([] : List UInt8) i).2 ys) := hao
      clear hb hbk hao AO0 BK0 BL0
      by_cases hlt : i < m
      · obtain ⟨r, hr⟩ : ∃ r, r = (i + 1) % m := ⟨_, rfl⟩
        have hrm : r < m := by rw [hr]; exact Nat.mod_lt _ (by omega)
        obtain ⟨i1, hi1⟩ : ∃ j, j = i + 1 := ⟨_, rfl⟩
        obtain ⟨r1, hr1⟩ : ∃ j, j = r + 1 := ⟨_, rfl⟩
        have hw1 : IntKind.i64.wrap ((i : Int) + 1) = (i1 : Int) := by rw [hi1, IntKind.wrap_i64]; omega
        have hw2 : IntKind.i64.wrap ((r : Int) + 1) = (r1 : Int) := by rw [hr1, IntKind.wrap_i64]; omega
        have hrt : (i1 : Int).tmod (m : Int) = (r : Int) := by
          rw [hi1, hr, Int.tmod_eq_emod_of_nonneg (by omega)]
          exact (Int.natCast_emod _ _).symm
        have g1 : (i1 : Int) ≤ 12 := by omega
        have g2 : (i : Int) ≤ (i1 : Int) := by omega
        have g3 : (r1 : Int) ≤ 12 := by omega
        have g4 : (r : Int) ≤ (r1 : Int) := by omega
        have hx1 : (⟨#[97, 98, 99, 100, 101, 102, 103, 104, 105, 106, 107, 108]⟩ : ByteArray).extract i i1 = M.bs [UInt8.ofNat (97 + i)] := by rw [hi1]; exact ext_at i (by omega)
        have hx2 : (⟨#[97, 98, 99, 100, 101, 102, 103, 104, 105, 106, 107, 108]⟩ : ByteArray).extract r r1 = M.bs [UInt8.ofNat (97 + r)] := by rw [hr1]; exact ext_at r (by omega)
        have ha1 : (⟨#[116]⟩ : ByteArray) ++ M.bs [UInt8.ofNat (97 + i)] = M.bs (tn i) := app_at _
        have ha2 : (⟨#[116]⟩ : ByteArray) ++ M.bs [UInt8.ofNat (97 + r)] = M.bs (tn r) := app_at _
        have hs1 := M.bs_size [UInt8.ofNat (97 + i)]
        have hs2 := M.bs_size [UInt8.ofNat (97 + r)]
        simp only [List.length_singleton] at hs1 hs2
        have hmn : ¬ m = 0 := by omega
        have HR : Hid (r = (i + 1) % m) := hr
        have HI1 : Hid (i1 = i + 1) := hi1
        clear hr hi1 hr1
        generalize UInt8.ofNat (97 + i) = ch1 at *
        generalize UInt8.ofNat (97 + r) = ch2 at *
        go_wp2_with fail
        refine wp_region_noPanic ?_
        refine wp_region_held_drew (S := fun _ => True) (by kernel_rfl) (trivial) (fun hHeld => ?_)
        refine wpAnyH_take (i := 0) rfl (by kernel_rfl) (by kernel_rfl) (by kernel_rfl) (fun _ _ _ h => h) (yi_move (by kernel_rfl) rfl rfl) (by assumption) ?_
        simp only [Act.put, List.getElem_toArray, List.getElem_cons_succ, List.getElem_cons_zero, List.setIfInBounds_toArray, List.set_cons_zero, List.set_cons_succ]
        refine wpAnyH_take (i := 1) rfl (by kernel_rfl) (by kernel_rfl) (by kernel_rfl) (fun _ _ _ h => h) (yi_move (by kernel_rfl) rfl rfl) (by assumption) ?_
        simp only [Act.put, List.getElem_toArray, List.getElem_cons_succ, List.getElem_cons_zero, List.setIfInBounds_toArray, List.set_cons_zero, List.set_cons_succ]
        refine wpAnyH_take (i := 2) (v := ?_) rfl (by kernel_rfl) (by kernel_rfl) (by kernel_rfl) (fun _ _ _ h => h) (Or.inl ⟨by kernel_rfl, ?_⟩) (by assumption) ?_
        rotate_left
        · (intro w hSw; (try dsimp only at hSw); go_simp; (try with_reducible rfl))
        simp only [Act.put, List.getElem_toArray, List.getElem_cons_succ, List.getElem_cons_zero, List.setIfInBounds_toArray, List.set_cons_zero, List.set_cons_succ]
        refine wpAnyH_take (i := 3) (v := ?_) rfl (by kernel_rfl) (by kernel_rfl) (by kernel_rfl) (fun _ _ _ h => h) (Or.inl ⟨by kernel_rfl, ?_⟩) (by assumption) ?_
        rotate_left
        · (intro w hSw; (try dsimp only at hSw); go_simp; (try with_reducible rfl))
        simp only [Act.put, List.getElem_toArray, List.getElem_cons_succ, List.getElem_cons_zero, List.setIfInBounds_toArray, List.set_cons_zero, List.set_cons_succ]
        refine wpAnyH_take (i := 4) (v := ?_) rfl (by kernel_rfl) (by kernel_rfl) (by kernel_rfl) (fun _ _ _ h => h) (Or.inl ⟨by kernel_rfl, ?_⟩) (by assumption) ?_
        rotate_left
        · (intro w hSw; (try dsimp only at hSw); go_simp; (try with_reducible rfl))
        simp only [Act.put, List.getElem_toArray, List.getElem_cons_succ, List.getElem_cons_zero, List.setIfInBounds_toArray, List.set_cons_zero, List.set_cons_succ]
        refine wpAnyH_take (i := 5) rfl (by kernel_rfl) (by kernel_rfl) (by kernel_rfl) (fun _ _ _ h => h) (yi_move (by kernel_rfl) rfl rfl) (by assumption) ?_
        simp only [Act.put, List.getElem_toArray, List.getElem_cons_succ, List.getElem_cons_zero, List.setIfInBounds_toArray, List.set_cons_zero, List.set_cons_succ]
        refine wpAnyH_take (i := 6) (v := ?_) rfl (by kernel_rfl) (by kernel_rfl) (by kernel_rfl) (fun _ _ _ h => h) (Or.inl ⟨by kernel_rfl, ?_⟩) (by assumption) ?_
        rotate_left
        · (intro w hSw; (try dsimp only at hSw); go_simp; (try with_reducible rfl))
        simp only [Act.put, List.getElem_toArray, List.getElem_cons_succ, List.getElem_cons_zero, List.setIfInBounds_toArray, List.set_cons_zero, List.set_cons_succ]
        refine wpAnyH_take (i := 7) rfl (by kernel_rfl) (by kernel_rfl) (by kernel_rfl) (fun _ _ _ h => h) (yi_move (by kernel_rfl) rfl rfl) (by assumption) ?_
        simp only [Act.put, List.getElem_toArray, List.getElem_cons_succ, List.getElem_cons_zero, List.setIfInBounds_toArray, List.set_cons_zero, List.set_cons_succ]
        refine wpAnyH_take (i := 8) (v := ?_) rfl (by kernel_rfl) (by kernel_rfl) (by kernel_rfl) (fun _ _ _ h => h) (Or.inl ⟨by kernel_rfl, ?_⟩) (by assumption) ?_
        rotate_left
        · (intro w hSw; (try dsimp only at hSw); go_simp; (try with_reducible rfl))
        simp only [Act.put, List.getElem_toArray, List.getElem_cons_succ, List.getElem_cons_zero, List.setIfInBounds_toArray, List.set_cons_zero, List.set_cons_succ]
        refine wpAnyH_take (i := 9) rfl (by kernel_rfl) (by kernel_rfl) (by kernel_rfl) (fun _ _ _ h => h) (yi_move (by kernel_rfl) rfl rfl) (by assumption) ?_
        simp only [Act.put, List.getElem_toArray, List.getElem_cons_succ, List.getElem_cons_zero, List.setIfInBounds_toArray, List.set_cons_zero, List.set_cons_succ]
        refine wpAnyH_take (i := 10) (v := ?_) rfl (by kernel_rfl) (by kernel_rfl) (by kernel_rfl) (fun _ _ _ h => h) (Or.inl ⟨by kernel_rfl, ?_⟩) (by assumption) ?_
        rotate_left
        · (intro w hSw; (try dsimp only at hSw); go_simp; (try with_reducible rfl))
        simp only [Act.put, List.getElem_toArray, List.getElem_cons_succ, List.getElem_cons_zero, List.setIfInBounds_toArray, List.set_cons_zero, List.set_cons_succ]
        refine wpAnyH_take (i := 11) rfl (by kernel_rfl) (by kernel_rfl) (by kernel_rfl) (fun _ _ _ h => h) (yi_move (by kernel_rfl) rfl rfl) (by assumption) ?_
        simp only [Act.put, List.getElem_toArray, List.getElem_cons_succ, List.getElem_cons_zero, List.setIfInBounds_toArray, List.set_cons_zero, List.set_cons_succ]
        refine wpAnyH_take (i := 12) (v := ?_) rfl (by kernel_rfl) (by kernel_rfl) (by kernel_rfl) (fun _ _ _ h => h) (Or.inl ⟨by kernel_rfl, ?_⟩) (by assumption) ?_
        rotate_left
        · (intro w hSw; (try dsimp only at hSw); go_simp; (try with_reducible rfl))
        simp only [Act.put, List.getElem_toArray, List.getElem_cons_succ, List.getElem_cons_zero, List.setIfInBounds_toArray, List.set_cons_zero, List.set_cons_succ]
        refine wpAnyH_take (i := 13) (v := ?_) rfl (by kernel_rfl) (by kernel_rfl) (by kernel_rfl) (fun _ _ _ h => h) (Or.inl ⟨by kernel_rfl, ?_⟩) (by assumption) ?_
        rotate_left
        · (intro w hSw; (try dsimp only at hSw); go_simp; (try with_reducible rfl))
        simp only [Act.put, List.getElem_toArray, List.getElem_cons_succ, List.getElem_cons_zero, List.setIfInBounds_toArray, List.set_cons_zero, List.set_cons_succ]
        refine wpAnyH_take (i := 14) (v := ?_) rfl (by kernel_rfl) (by kernel_rfl) (by kernel_rfl) (fun _ _ _ h => h) (Or.inl ⟨by kernel_rfl, ?_⟩) (by assumption) ?_
        rotate_left
        · (intro w hSw; (try dsimp only at hSw); go_simp; (try with_reducible rfl))
        simp only [Act.put, List.getElem_toArray, List.getElem_cons_succ, List.getElem_cons_zero, List.setIfInBounds_toArray, List.set_cons_zero, List.set_cons_succ]
        refine wpAnyH_take (i := 15) (v := ?_) rfl (by kernel_rfl) (by kernel_rfl) (by kernel_rfl) (fun _ _ _ h => h) (Or.inl ⟨by kernel_rfl, ?_⟩) (by assumption) ?_
        rotate_left
        · (intro w hSw; (try dsimp only at hSw); go_simp; (try with_reducible rfl))
        simp only [Act.put, List.getElem_toArray, List.getElem_cons_succ, List.getElem_cons_zero, List.setIfInBounds_toArray, List.set_cons_zero, List.set_cons_succ]
        refine wpAnyH_ready (rs := [16, 18]) (by kernel_rfl) (by simp) ?_
        refine AllReadyH.cons (o := _) rfl (fun K hK => ?_) ?_
        · go_simp
          refine hK.out _ _ trivial (fun hHeld => ?_)
          clear hK K
          (try simp only [Act.put, List.getElem_toArray, List.getElem_cons_succ, List.getElem_cons_zero, List.setIfInBounds_toArray, List.set_cons_zero, List.set_cons_succ])
          refine wpAnyH_ready (rs := [17, 18]) (by kernel_rfl) (by simp) ?_
          refine AllReadyH.cons (o := _) rfl (fun K hK => ?_) ?_
          · go_simp
            go_at_call 22; refine (action_x _ _ _ _ _).mono ?_; rintro e w' ⟨rfl, hw'⟩; rw [hw']; clear hw' w'
            refine hK.out _ _ (trivial) (fun hHeld => ?_)
            clear hK K
            (try simp only [Act.put, List.getElem_toArray, List.getElem_cons_succ, List.getElem_cons_zero, List.setIfInBounds_toArray, List.set_cons_zero, List.set_cons_succ])
            refine wpAnyH_ready (rs := [18]) (by kernel_rfl) (by simp) ?_
            refine AllReadyH.cons (o := _) rfl (fun K hK => ?_) AllReadyH.nil
            go_simp
            refine hK.out _ _ trivial (fun hHeld => ?_)
            clear hK K
            (try simp only [Act.put, List.getElem_toArray, List.getElem_cons_succ, List.getElem_cons_zero, List.setIfInBounds_toArray, List.set_cons_zero, List.set_cons_succ])
            refine wpAnyH_ready (rs := [19]) (by kernel_rfl) (by simp) ?_
            refine AllReadyH.cons (o := _) rfl (fun K hK => ?_) AllReadyH.nil
            go_simp
            refine hK.out _ _ trivial (fun hHeld => ?_)
            clear hK K
            (try simp only [Act.put, List.getElem_toArray, List.getElem_cons_succ, List.getElem_cons_zero, List.setIfInBounds_toArray, List.set_cons_zero, List.set_cons_succ])
            refine wpAnyH_done (by kernel_rfl) ?_ _
            refine NoPanic.normal ?_
            have hws : w1.heap.size < wr.heap.size := TA.lt_heap HBK.out
            have CELL : ∀ o1 o2 o3, (((wr.alloc o1).alloc o2).alloc o3).cell? ⟨w1.heap.size, 1, none⟩ = some v := fun o1 o2 o3 => by
              rw [Bl.cell ((((Bl.refl wr).alloc o1).alloc o2).alloc o3) hws, Lib.cell_of_heap HBK.out]; rfl
            have FA : Hid (∀ o1 o2 o3 o4, AO w1.heap.size w1.heap.size ((((wr.alloc o1).alloc o2).alloc o3).alloc o4).drew v (rg m ([] : List UInt8) i).2 ys) := fun o1 o2 o3 o4 => HAO.out.bl (((((((Bl.refl wr).alloc _).alloc _).alloc _).alloc _)).drewN 1)
            have FN : Hid (∀ o1 o2 o3, ∀ (j : Nat) (u : Value), (flatA [((tn i, [tn r], ([] : List UInt8)) : RC.Ac)] [(some ⟨wr.heap.size, 0, none⟩, 1)])[j]? = some u → ((((wr.alloc o1).alloc o2).alloc o3).alloc (.cells #[.string (M.bs (tn i)), .slice (some ⟨wr.heap.size, 0, none⟩) 1 1, .string (M.bs ([] : List UInt8))] 41)).drew.cell? ⟨wr.heap.size + 1 + 1 + 1, 0 + j, none⟩ = some u) := fun o1 o2 o3 j u hu => by
              show ((((wr.alloc o1).alloc o2).alloc o3).alloc _).cell? _ = _
              rw [show wr.heap.size + 1 + 1 + 1 = (((wr.alloc o1).alloc o2).alloc o3).heap.size by simp, Lib.cell_of_heap (heap_alloc_new _ _), Nat.zero_add]
              rcases j with _ | _ | _ | j
              · cases hu; rfl
              · cases hu; rfl
              · cases hu; rfl
              · simp [flatA, acL] at hu
            have FI : Hid (∀ o1 o3 o4, ∀ (q : Nat) (t : RC.Ac) (x : Option Addr) (c' : Nat), [((tn i, [tn r], ([] : List UInt8)) : RC.Ac)][q]? = some t → [((some ⟨wr.heap.size, 0, none⟩, 1) : Option Addr × Nat)][q]? = some (x, c') → IO w1.heap.size ((((wr.alloc (.cells #[.string (M.bs (tn r))] 9)).alloc o1).alloc o3).alloc o4).drew x c' t.2.1) := fun o1 o3 o4 q t x c' h1 h2 => by
              rcases q with _ | q
              · cases h1; cases h2
                exact Or.inr (ownsRow_belowT (ownsRow_base (TA.own_new wr [tn r] (by unfold maxLen; simp)) (Nat.le_of_lt hws)) ((((Bl.refl (wr.alloc (.cells #[.string (M.bs (tn r))] 9))).alloc o1).alloc o3).alloc o4 |>.drewN 1))
              · simp at h1
            have FW : Hid (∀ o1 o2 o3 o4, Bl w1 ((((wr.alloc o1).alloc o2).alloc o3).alloc o4).drew) := fun o1 o2 o3 o4 => ((((HBR.out.alloc _).alloc _).alloc _).alloc _).drewN 1
            have FB : Hid (∀ o1 o2 o3 o4 (a8 : Option Addr) (c8 : Nat) (w8 : World), AO w1.heap.size w1.heap.size w8 (.slice a8 ((rg m ([] : List UInt8) i).2 ++ [(tn i, [tn r], ([] : List UInt8))]).length c8) ((rg m ([] : List UInt8) i).2 ++ [(tn i, [tn r], ([] : List UInt8))]) (ys ++ [(some ⟨wr.heap.size, 0, none⟩, 1)]) → ((((wr.alloc o1).alloc o2).alloc o3).alloc o4).drew.grownBy w8 v.ownBlock → w8.cell? ⟨w1.heap.size, 1, none⟩ = some v ∧ w8.frozen? ⟨w1.heap.size, 1, none⟩ = false ∧ w1.heap.size < w8.heap.size ∧ Bl w1 (w8.setCell ⟨w1.heap.size, 1, none⟩ (.slice a8 (i + 1) c8)) ∧ (w8.setCell ⟨w1.heap.size, 1, none⟩ (.slice a8 (i + 1) c8)).heap[w1.heap.size]? = some (.cells #[.slice none 0 0, .slice a8 (i + 1) c8] 25 (0, 0)) ∧ AO w1.heap.size w1.heap.size (w8.setCell ⟨w1.heap.size, 1, none⟩ (.slice a8 (i + 1) c8)) (.slice a8 (i + 1) c8) (rg m ([] : List UInt8) (i + 1)).2 (ys ++ [(some ⟨wr.heap.size, 0, none⟩, 1)])) := fun o1 o2 o3 o4 a8 c8 w8 hA hg => by
              have hA0 := FA.out o1 o2 o3 o4
              have hbk1 : ((((wr.alloc o1).alloc o2).alloc o3).alloc o4).drew.heap[w1.heap.size]? = some (.cells #[.slice none 0 0, v] 25 (0, 0)) := by
                show ((((wr.alloc o1).alloc o2).alloc o3).alloc o4).heap[w1.heap.size]? = _
                rw [Below.block (((((Bl.refl wr).alloc o1).alloc o2).alloc o3).alloc o4) _ hws]; exact HBK.out
              have hne : some w1.heap.size ≠ v.ownBlock := fun e => by
                obtain ⟨_, ⟨e2, _⟩ | ⟨g', cap, cur, e2, _, h3, _⟩⟩ := hA0.own
                · rw [e2] at e; cases e
                · rw [e2] at e
                  simp only [Value.ownBlock, Option.some.injEq] at e
                  subst e
                  rw [h3] at hbk1
                  simp only [Option.some.injEq, Obj.cells.injEq] at hbk1
                  exact absurd hbk1.2.1 (by decide)
              have hbk8 : w8.heap[w1.heap.size]? = some (.cells #[.slice none 0 0, v] 25 (0, 0)) := by
                rw [hg.block _ (TA.lt_heap hbk1) hne]; exact hbk1
              have hB8 : Bl w1 w8 := hA0.below (FW.out o1 o2 o3 o4) (Nat.le_refl _) hg
              have e1 : ((rg m ([] : List UInt8) i).2 ++ [((tn i, [tn r], ([] : List UInt8)) : RC.Ac)]).length = i + 1 := by simp [rg]
              have e2 : (rg m ([] : List UInt8) (i + 1)).2 = (rg m ([] : List UInt8) i).2 ++ [(tn i, [tn r], ([] : List UInt8))] := by
                unfold rg rgA
                simp only []
                rw [List.range_succ, List.map_append, HR.out]; rfl
              rw [e1] at hA
              rw [e2]
              exact ⟨by rw [Lib.cell_of_heap hbk8]; rfl, by simp [World.frozen?, hbk8], TA.lt_heap hbk8, Below.setCell hB8 (Nat.le_refl _) _, by rw [heap_setCell_rowR hbk8]; rfl, hA.setK hbk8 (Nat.le_refl _)⟩
            have hln : (rg m ([] : List UInt8) i).2.length = i := by simp [rg]
            clear HAO HBK
            go_wp2_with (refine wl_appX rfl _ _ rfl w1.heap.size w1.heap.size (rg m ([] : List UInt8) i).2 ys v rfl (FA.out _ _ _ _) [(tn i, [tn r], ([] : List UInt8))] [(some ⟨wr.heap.size, 0, none⟩, 1)] (wr.heap.size + 1 + 1 + 1) 0 1 1 rfl rfl (FN.out _ _ _) rfl (FI.out _ _ _) (by simp) (by rw [hln]; simp; omega) (fun a8 c8 w8 HA8 hg8 => ?_); obtain ⟨k1, k2, k3, K4, K5, K6⟩ := FB.out _ _ _ _ _ _ _ HA8 hg8; have HK4 : Hid _ := K4; have HK5 : Hid _ := K5; have HK6 : Hid _ := K6; clear K4 K5 K6 FA FN FI FB FW HA8 hg8 CELL)
            go_roundw
            case rel => exact ⟨i + 1, by omega, by rw [HI1.out], HK4.out, _, _, HK5.out, HK6.out⟩
            case measure => (have := HI1.out; simp [intOf]; omega)
          refine AllReadyH.cons (o := _) rfl (fun K hK => ?_) ?_
          · go_simp
            refine hK.out _ _ trivial (fun hHeld => ?_)
            clear hK K
            (try simp only [Act.put, List.getElem_toArray, List.getElem_cons_succ, List.getElem_cons_zero, List.setIfInBounds_toArray, List.set_cons_zero, List.set_cons_succ])
            refine wpAnyH_ready (rs := [17]) (by kernel_rfl) (by simp) ?_
            refine AllReadyH.cons (o := _) rfl (fun K hK => ?_) AllReadyH.nil
            go_simp
            go_at_call 22; refine (action_x _ _ _ _ _).mono ?_; rintro e w' ⟨rfl, hw'⟩; rw [hw']; clear hw' w'
            refine hK.out _ _ (trivial) (fun hHeld => ?_)
            clear hK K
            (try simp only [Act.put, List.getElem_toArray, List.getElem_cons_succ, List.getElem_cons_zero, List.setIfInBounds_toArray, List.set_cons_zero, List.set_cons_succ])
            refine wpAnyH_ready (rs := [19]) (by kernel_rfl) (by simp) ?_
            refine AllReadyH.cons (o := _) rfl (fun K hK => ?_) AllReadyH.nil
            go_simp
            refine hK.out _ _ trivial (fun hHeld => ?_)
            clear hK K
            (try simp only [Act.put, List.getElem_toArray, List.getElem_cons_succ, List.getElem_cons_zero, List.setIfInBounds_toArray, List.set_cons_zero, List.set_cons_succ])
            refine wpAnyH_done (by kernel_rfl) ?_ _
            refine NoPanic.normal ?_
            have hws : w1.heap.size < wr.heap.size := TA.lt_heap HBK.out
            have CELL : ∀ o1 o2 o3, (((wr.alloc o1).alloc o2).alloc o3).cell? ⟨w1.heap.size, 1, none⟩ = some v := fun o1 o2 o3 => by
              rw [Bl.cell ((((Bl.refl wr).alloc o1).alloc o2).alloc o3) hws, Lib.cell_of_heap HBK.out]; rfl
            have FA : Hid (∀ o1 o2 o3 o4, AO w1.heap.size w1.heap.size ((((wr.alloc o1).alloc o2).alloc o3).alloc o4).drew v (rg m ([] : List UInt8) i).2 ys) := fun o1 o2 o3 o4 => HAO.out.bl (((((((Bl.refl wr).alloc _).alloc _).alloc _).alloc _)).drewN 1)
            have FN : Hid (∀ o1 o2 o3, ∀ (j : Nat) (u : Value), (flatA [((tn i, [tn r], ([] : List UInt8)) : RC.Ac)] [(some ⟨wr.heap.size, 0, none⟩, 1)])[j]? = some u → ((((wr.alloc o1).alloc o2).alloc o3).alloc (.cells #[.string (M.bs (tn i)), .slice (some ⟨wr.heap.size, 0, none⟩) 1 1, .string (M.bs ([] : List UInt8))] 41)).drew.cell? ⟨wr.heap.size + 1 + 1 + 1, 0 + j, none⟩ = some u) := fun o1 o2 o3 j u hu => by
              show ((((wr.alloc o1).alloc o2).alloc o3).alloc _).cell? _ = _
              rw [show wr.heap.size + 1 + 1 + 1 = (((wr.alloc o1).alloc o2).alloc o3).heap.size by simp, Lib.cell_of_heap (heap_alloc_new _ _), Nat.zero_add]
              rcases j with _ | _ | _ | j
              · cases hu; rfl
              · cases hu; rfl
              · cases hu; rfl
              · simp [flatA, acL] at hu
            have FI : Hid (∀ o1 o3 o4, ∀ (q : Nat) (t : RC.Ac) (x : Option Addr) (c' : Nat), [((tn i, [tn r], ([] : List UInt8)) : RC.Ac)][q]? = some t → [((some ⟨wr.heap.size, 0, none⟩, 1) : Option Addr × Nat)][q]? = some (x, c') → IO w1.heap.size ((((wr.alloc (.cells #[.string (M.bs (tn r))] 9)).alloc o1).alloc o3).alloc o4).drew x c' t.2.1) := fun o1 o3 o4 q t x c' h1 h2 => by
              rcases q with _ | q
              · cases h1; cases h2
                exact Or.inr (ownsRow_belowT (ownsRow_base (TA.own_new wr [tn r] (by unfold maxLen; simp)) (Nat.le_of_lt hws)) ((((Bl.refl (wr.alloc (.cells #[.string (M.bs (tn r))] 9))).alloc o1).alloc o3).alloc o4 |>.drewN 1))
              · simp at h1
            have FW : Hid (∀ o1 o2 o3 o4, Bl w1 ((((wr.alloc o1).alloc o2).alloc o3).alloc o4).drew) := fun o1 o2 o3 o4 => ((((HBR.out.alloc _).alloc _).alloc _).alloc _).drewN 1
            have FB : Hid (∀ o1 o2 o3 o4 (a8 : Option Addr) (c8 : Nat) (w8 : World), AO w1.heap.size w1.heap.size w8 (.slice a8 ((rg m ([] : List UInt8) i).2 ++ [(tn i, [tn r], ([] : List UInt8))]).length c8) ((rg m ([] : List UInt8) i).2 ++ [(tn i, [tn r], ([] : List UInt8))]) (ys ++ [(some ⟨wr.heap.size, 0, none⟩, 1)]) → ((((wr.alloc o1).alloc o2).alloc o3).alloc o4).drew.grownBy w8 v.ownBlock → w8.cell? ⟨w1.heap.size, 1, none⟩ = some v ∧ w8.frozen? ⟨w1.heap.size, 1, none⟩ = false ∧ w1.heap.size < w8.heap.size ∧ Bl w1 (w8.setCell ⟨w1.heap.size, 1, none⟩ (.slice a8 (i + 1) c8)) ∧ (w8.setCell ⟨w1.heap.size, 1, none⟩ (.slice a8 (i + 1) c8)).heap[w1.heap.size]? = some (.cells #[.slice none 0 0, .slice a8 (i + 1) c8] 25 (0, 0)) ∧ AO w1.heap.size w1.heap.size (w8.setCell ⟨w1.heap.size, 1, none⟩ (.slice a8 (i + 1) c8)) (.slice a8 (i + 1) c8) (rg m ([] : List UInt8) (i + 1)).2 (ys ++ [(some ⟨wr.heap.size, 0, none⟩, 1)])) := fun o1 o2 o3 o4 a8 c8 w8 hA hg => by
              have hA0 := FA.out o1 o2 o3 o4
              have hbk1 : ((((wr.alloc o1).alloc o2).alloc o3).alloc o4).drew.heap[w1.heap.size]? = some (.cells #[.slice none 0 0, v] 25 (0, 0)) := by
                show ((((wr.alloc o1).alloc o2).alloc o3).alloc o4).heap[w1.heap.size]? = _
                rw [Below.block (((((Bl.refl wr).alloc o1).alloc o2).alloc o3).alloc o4) _ hws]; exact HBK.out
              have hne : some w1.heap.size ≠ v.ownBlock := fun e => by
                obtain ⟨_, ⟨e2, _⟩ | ⟨g', cap, cur, e2, _, h3, _⟩⟩ := hA0.own
                · rw [e2] at e; cases e
                · rw [e2] at e
                  simp only [Value.ownBlock, Option.some.injEq] at e
                  subst e
                  rw [h3] at hbk1
                  simp only [Option.some.injEq, Obj.cells.injEq] at hbk1
                  exact absurd hbk1.2.1 (by decide)
              have hbk8 : w8.heap[w1.heap.size]? = some (.cells #[.slice none 0 0, v] 25 (0, 0)) := by
                rw [hg.block _ (TA.lt_heap hbk1) hne]; exact hbk1
              have hB8 : Bl w1 w8 := hA0.below (FW.out o1 o2 o3 o4) (Nat.le_refl _) hg
              have e1 : ((rg m ([] : List UInt8) i).2 ++ [((tn i, [tn r], ([] : List UInt8)) : RC.Ac)]).length = i + 1 := by simp [rg]
              have e2 : (rg m ([] : List UInt8) (i + 1)).2 = (rg m ([] : List UInt8) i).2 ++ [(tn i, [tn r], ([] : List UInt8))] := by
                unfold rg rgA
                simp only []
                rw [List.range_succ, List.map_append, HR.out]; rfl
              rw [e1] at hA
              rw [e2]
              exact ⟨by rw [Lib.cell_of_heap hbk8]; rfl, by simp [World.frozen?, hbk8], TA.lt_heap hbk8, Below.setCell hB8 (Nat.le_refl _) _, by rw [heap_setCell_rowR hbk8]; rfl, hA.setK hbk8 (Nat.le_refl _)⟩
            have hln : (rg m ([] : List UInt8) i).2.length = i := by simp [rg]
            clear HAO HBK
            go_wp2_with (refine wl_appX rfl _ _ rfl w1.heap.size w1.heap.size (rg m ([] : List UInt8) i).2 ys v rfl (FA.out _ _ _ _) [(tn i, [tn r], ([] : List UInt8))] [(some ⟨wr.heap.size, 0, none⟩, 1)] (wr.heap.size + 1 + 1 + 1) 0 1 1 rfl rfl (FN.out _ _ _) rfl (FI.out _ _ _) (by simp) (by rw [hln]; simp; omega) (fun a8 c8 w8 HA8 hg8 => ?_); obtain ⟨k1, k2, k3, K4, K5, K6⟩ := FB.out _ _ _ _ _ _ _ HA8 hg8; have HK4 : Hid _ := K4; have HK5 : Hid _ := K5; have HK6 : Hid _ := K6; clear K4 K5 K6 FA FN FI FB FW HA8 hg8 CELL)
            go_roundw
            case rel => exact ⟨i + 1, by omega, by rw [HI1.out], HK4.out, _, _, HK5.out, HK6.out⟩
            case measure => (have := HI1.out; simp [intOf]; omega)
          exact AllReadyH.nil
        refine AllReadyH.cons (o := _) rfl (fun K hK => ?_) ?_
        · go_simp
          refine hK.out _ _ trivial (fun hHeld => ?_)
          clear hK K
          (try simp only [Act.put, List.getElem_toArray, List.getElem_cons_succ, List.getElem_cons_zero, List.setIfInBounds_toArray, List.set_cons_zero, List.set_cons_succ])
          refine wpAnyH_ready (rs := [16]) (by kernel_rfl) (by simp) ?_
          refine AllReadyH.cons (o := _) rfl (fun K hK => ?_) AllReadyH.nil
          go_simp
          refine hK.out _ _ trivial (fun hHeld => ?_)
          clear hK K
          (try simp only [Act.put, List.getElem_toArray, List.getElem_cons_succ, List.getElem_cons_zero, List.setIfInBounds_toArray, List.set_cons_zero, List.set_cons_succ])
          refine wpAnyH_ready (rs := [17]) (by kernel_rfl) (by simp) ?_
          refine AllReadyH.cons (o := _) rfl (fun K hK => ?_) AllReadyH.nil
          go_simp
          go_at_call 22; refine (action_x _ _ _ _ _).mono ?_; rintro e w' ⟨rfl, hw'⟩; rw [hw']; clear hw' w'
          refine hK.out _ _ (trivial) (fun hHeld => ?_)
          clear hK K
          (try simp only [Act.put, List.getElem_toArray, List.getElem_cons_succ, List.getElem_cons_zero, List.setIfInBounds_toArray, List.set_cons_zero, List.set_cons_succ])
          refine wpAnyH_ready (rs := [19]) (by kernel_rfl) (by simp) ?_
          refine AllReadyH.cons (o := _) rfl (fun K hK => ?_) AllReadyH.nil
          go_simp
          refine hK.out _ _ trivial (fun hHeld => ?_)
          clear hK K
          (try simp only [Act.put, List.getElem_toArray, List.getElem_cons_succ, List.getElem_cons_zero, List.setIfInBounds_toArray, List.set_cons_zero, List.set_cons_succ])
          refine wpAnyH_done (by kernel_rfl) ?_ _
          refine NoPanic.normal ?_
          have hws : w1.heap.size < wr.heap.size := TA.lt_heap HBK.out
          have CELL : ∀ o1 o2 o3, (((wr.alloc o1).alloc o2).alloc o3).cell? ⟨w1.heap.size, 1, none⟩ = some v := fun o1 o2 o3 => by
            rw [Bl.cell ((((Bl.refl wr).alloc o1).alloc o2).alloc o3) hws, Lib.cell_of_heap HBK.out]; rfl
          have FA : Hid (∀ o1 o2 o3 o4, AO w1.heap.size w1.heap.size ((((wr.alloc o1).alloc o2).alloc o3).alloc o4).drew v (rg m ([] : List UInt8) i).2 ys) := fun o1 o2 o3 o4 => HAO.out.bl (((((((Bl.refl wr).alloc _).alloc _).alloc _).alloc _)).drewN 1)
          have FN : Hid (∀ o1 o2 o3, ∀ (j : Nat) (u : Value), (flatA [((tn i, [tn r], ([] : List UInt8)) : RC.Ac)] [(some ⟨wr.heap.size + 1, 0, none⟩, 1)])[j]? = some u → ((((wr.alloc o1).alloc o2).alloc o3).alloc (.cells #[.string (M.bs (tn i)), .slice (some ⟨wr.heap.size + 1, 0, none⟩) 1 1, .string (M.bs ([] : List UInt8))] 41)).drew.cell? ⟨wr.heap.size + 1 + 1 + 1, 0 + j, none⟩ = some u) := fun o1 o2 o3 j u hu => by
            show ((((wr.alloc o1).alloc o2).alloc o3).alloc _).cell? _ = _
            rw [show wr.heap.size + 1 + 1 + 1 = (((wr.alloc o1).alloc o2).alloc o3).heap.size by simp, Lib.cell_of_heap (heap_alloc_new _ _), Nat.zero_add]
            rcases j with _ | _ | _ | j
            · cases hu; rfl
            · cases hu; rfl
            · cases hu; rfl
            · simp [flatA, acL] at hu
          have FI : Hid (∀ o1 o3 o4, ∀ (q : Nat) (t : RC.Ac) (x : Option Addr) (c' : Nat), [((tn i, [tn r], ([] : List UInt8)) : RC.Ac)][q]? = some t → [((some ⟨wr.heap.size + 1, 0, none⟩, 1) : Option Addr × Nat)][q]? = some (x, c') → IO w1.heap.size ((((wr.alloc o1).alloc (.cells #[.string (M.bs (tn r))] 9)).alloc o3).alloc o4).drew x c' t.2.1) := fun o1 o3 o4 q t x c' h1 h2 => by
            rcases q with _ | q
            · cases h1; cases h2
              exact Or.inr ((by have h := ownsRow_belowT (ownsRow_base (TA.own_new (wr.alloc o1) [tn r] (by unfold maxLen; simp)) (Nat.le_of_lt (Nat.lt_of_lt_of_le hws (by simp)))) ((((Bl.refl ((wr.alloc o1).alloc (.cells #[.string (M.bs (tn r))] 9))).alloc o3).alloc o4).drewN 1); rw [show (wr.alloc o1).heap.size = wr.heap.size + 1 by simp] at h; exact h))
            · simp at h1
          have FW : Hid (∀ o1 o2 o3 o4, Bl w1 ((((wr.alloc o1).alloc o2).alloc o3).alloc o4).drew) := fun o1 o2 o3 o4 => ((((HBR.out.alloc _).alloc _).alloc _).alloc _).drewN 1
          have FB : Hid (∀ o1 o2 o3 o4 (a8 : Option Addr) (c8 : Nat) (w8 : World), AO w1.heap.size w1.heap.size w8 (.slice a8 ((rg m ([] : List UInt8) i).2 ++ [(tn i, [tn r], ([] : List UInt8))]).length c8) ((rg m ([] : List UInt8) i).2 ++ [(tn i, [tn r], ([] : List UInt8))]) (ys ++ [(some ⟨wr.heap.size + 1, 0, none⟩, 1)]) → ((((wr.alloc o1).alloc o2).alloc o3).alloc o4).drew.grownBy w8 v.ownBlock → w8.cell? ⟨w1.heap.size, 1, none⟩ = some v ∧ w8.frozen? ⟨w1.heap.size, 1, none⟩ = false ∧ w1.heap.size < w8.heap.size ∧ Bl w1 (w8.setCell ⟨w1.heap.size, 1, none⟩ (.slice a8 (i + 1) c8)) ∧ (w8.setCell ⟨w1.heap.size, 1, none⟩ (.slice a8 (i + 1) c8)).heap[w1.heap.size]? = some (.cells #[.slice none 0 0, .slice a8 (i + 1) c8] 25 (0, 0)) ∧ AO w1.heap.size w1.heap.size (w8.setCell ⟨w1.heap.size, 1, none⟩ (.slice a8 (i + 1) c8)) (.slice a8 (i + 1) c8) (rg m ([] : List UInt8) (i + 1)).2 (ys ++ [(some ⟨wr.heap.size + 1, 0, none⟩, 1)])) := fun o1 o2 o3 o4 a8 c8 w8 hA hg => by
            have hA0 := FA.out o1 o2 o3 o4
            have hbk1 : ((((wr.alloc o1).alloc o2).alloc o3).alloc o4).drew.heap[w1.heap.size]? = some (.cells #[.slice none 0 0, v] 25 (0, 0)) := by
              show ((((wr.alloc o1).alloc o2).alloc o3).alloc o4).heap[w1.heap.size]? = _
              rw [Below.block (((((Bl.refl wr).alloc o1).alloc o2).alloc o3).alloc o4) _ hws]; exact HBK.out
            have hne : some w1.heap.size ≠ v.ownBlock := fun e => by
              obtain ⟨_, ⟨e2, _⟩ | ⟨g', cap, cur, e2, _, h3, _⟩⟩ := hA0.own
              · rw [e2] at e; cases e
              · rw [e2] at e
                simp only [Value.ownBlock, Option.some.injEq] at e
                subst e
                rw [h3] at hbk1
                simp only [Option.some.injEq, Obj.cells.injEq] at hbk1
                exact absurd hbk1.2.1 (by decide)
            have hbk8 : w8.heap[w1.heap.size]? = some (.cells #[.slice none 0 0, v] 25 (0, 0)) := by
              rw [hg.block _ (TA.lt_heap hbk1) hne]; exact hbk1
            have hB8 : Bl w1 w8 := hA0.below (FW.out o1 o2 o3 o4) (Nat.le_refl _) hg
            have e1 : ((rg m ([] : List UInt8) i).2 ++ [((tn i, [tn r], ([] : List UInt8)) : RC.Ac)]).length = i + 1 := by simp [rg]
            have e2 : (rg m ([] : List UInt8) (i + 1)).2 = (rg m ([] : List UInt8) i).2 ++ [(tn i, [tn r], ([] : List UInt8))] := by
              unfold rg rgA
              simp only []
              rw [List.range_succ, List.map_append, HR.out]; rfl
            rw [e1] at hA
            rw [e2]
            exact ⟨by rw [Lib.cell_of_heap hbk8]; rfl, by simp [World.frozen?, hbk8], TA.lt_heap hbk8, Below.setCell hB8 (Nat.le_refl _) _, by rw [heap_setCell_rowR hbk8]; rfl, hA.setK hbk8 (Nat.le_refl _)⟩
          have hln : (rg m ([] : List UInt8) i).2.length = i := by simp [rg]
          clear HAO HBK
          go_wp2_with (refine wl_appX rfl _ _ rfl w1.heap.size w1.heap.size (rg m ([] : List UInt8) i).2 ys v rfl (FA.out _ _ _ _) [(tn i, [tn r], ([] : List UInt8))] [(some ⟨wr.heap.size + 1, 0, none⟩, 1)] (wr.heap.size + 1 + 1 + 1) 0 1 1 rfl rfl (FN.out _ _ _) rfl (FI.out _ _ _) (by simp) (by rw [hln]; simp; omega) (fun a8 c8 w8 HA8 hg8 => ?_); obtain ⟨k1, k2, k3, K4, K5, K6⟩ := FB.out _ _ _ _ _ _ _ HA8 hg8; have HK4 : Hid _ := K4; have HK5 : Hid _ := K5; have HK6 : Hid _ := K6; clear K4 K5 K6 FA FN FI FB FW HA8 hg8 CELL)
          go_roundw
          case rel => exact ⟨i + 1, by omega, by rw [HI1.out], HK4.out, _, _, HK5.out, HK6.out⟩
          case measure => (have := HI1.out; simp [intOf]; omega)
        exact AllReadyH.nil
      · obtain rfl : i = m := by omega
        obtain ⟨va, vc, rfl⟩ := own_shape HAO.out.own
        have hrl : (rg i ([] : List UInt8) i).2.length = i := by simp [rg]
        have hrgl : (rg i ([] : List UInt8) i).2 = (rg i ([] : List UInt8) (i - 1)).2 ++ [(tn (i - 1), [tn ((i - 1 + 1) % i)], ([] : List UInt8))] := by
          unfold rg rgA
          simp only []
          have e := range_last hm0
          rw [e]
          rw [List.map_append]
          rfl
        have hchn : (chn i ([] : List UInt8)) = ([], (rg i ([] : List UInt8) (i - 1)).2 ++ [(tn (i - 1), [], ([] : List UInt8))]) := by unfold chn rg; rfl
        have hrl1 : (rg i ([] : List UInt8) (i - 1)).2.length = i - 1 := by simp [rg]
        rw [hrl] at HBK HAO
        have hnil : ∀ (V : World), Strs V.heap.size V (.slice none ([] : List (List UInt8)).length 0) [] := fun V => Or.inl ⟨rfl, none, 0, rfl⟩
        have HG : Hid (∀ U, Bl wr U → GA U.heap.size U (rg i ([] : List UInt8) i) none 0 va vc) := fun U hU => by
          obtain ⟨a', c', e, h⟩ := (HAO.out.bl hU).ga (w0 := w1) (S := []) (sa := none) (sc := 0) (HBR.out.step hU) (hnil w1)
          rw [hrl] at e
          simp only [Value.slice.injEq] at e
          obtain ⟨e1, _, e3⟩ := e
          subst e1
          subst e3
          exact h
        have HOK : Hid (grOk (rg i ([] : List UInt8) i)) := by
          refine ⟨by simp [rg, maxLen], by simp [rg], by rw [hrl]; unfold maxLen; omega, fun a ha => ?_⟩
          obtain ⟨q, _, rfl⟩ := List.mem_map.1 ha
          exact ⟨by unfold maxLen; simp [rgA, tn], by unfold maxLen; simp [rgA], by unfold maxLen; simp [rgA, tn], by unfold maxLen; simp [rgA] <;> omega⟩
        have hgv : gv (rg i ([] : List UInt8) i) none 0 va vc = #[.slice none 0 0, .slice va i vc] := by unfold gv; rw [hrl]; rfl
        have CC : Hid (Calls Try.prog 11 #[.agg #[.slice none 0 0, .slice va i vc]] wr fun e w' => e = .returned (.int .i64 23) ∧ Bl wr w') := by
          have h := Check_x (rg i ([] : List UInt8) i) none 0 va vc (Bl.refl wr) (HG.out wr (Bl.refl wr)) HOK.out
          rw [rg_chk hm0 hm12 hc, hgv] at h; exact h
        have CO : Hid (∀ U, Bl wr U → Calls Try.prog 14 #[.agg #[.slice none 0 0, .slice va i vc]] U fun e w' => ∃ a c', e = .returned (.slice a 0 c') ∧ Bl wr w') := fun U hU => by
          have h := Order_x (rg i ([] : List UInt8) i) none 0 va vc hU (HG.out U hU) HOK.out
          rw [rg_ord hm0 hm12 hc, hgv] at h
          refine Calls.mono h ?_
          rintro e w' ⟨a, c', rfl, _, hb⟩
          exact ⟨a, c', rfl, hb⟩
        have CN : Hid (∀ U, Bl wr U → Calls Try.prog 17 #[.agg #[.slice none 0 0, .slice va i vc], .string ⟨#[116, 97]⟩] U fun e w' => ∃ a c', e = .returned (.slice a 0 c') ∧ Bl wr w') := fun U hU => by
          have h := Needs_x (rg i ([] : List UInt8) i) none 0 va vc (tn 0) hU (HG.out U hU) HOK.out
          rw [rg_nd hm0 hm12 hc, hgv] at h
          refine Calls.mono h ?_
          rintro e w' ⟨v, rfl, ho, hb⟩
          obtain ⟨a, c', rfl⟩ := own_shape ho
          exact ⟨a, c', rfl, hb⟩
        have CD : Hid (∀ U, Bl wr U → Calls Try.prog 19 #[.agg #[.slice none 0 0, .slice va i vc], .slice (some ⟨U.heap.size, 0, none⟩) 1 1] (U.alloc (.cells #[.string ⟨#[116, 97]⟩] 9)) fun e w' => ∃ a c', e = .returned (.slice a 0 c') ∧ Bl wr w') := fun U hU => by
          have hs : Strs (U.alloc (.cells #[.string ⟨#[116, 97]⟩] 9)).heap.size (U.alloc (.cells #[.string ⟨#[116, 97]⟩] 9)) (.slice (some ⟨U.heap.size, 0, none⟩) 1 1) [tn 0] := strs_of_owns (TA.own_new U [tn 0] (by unfold maxLen; simp))
          have h := Dirty_x (rg i ([] : List UInt8) i) none 0 va vc [tn 0] _ 1 (hU.alloc _) (HG.out _ (hU.alloc _)) HOK.out hs (by unfold maxLen; simp)
          rw [rg_dr hm0 hm12 hc, hgv] at h
          refine Calls.mono h ?_
          rintro e w' ⟨a, c', rfl, _, hb⟩
          exact ⟨a, c', rfl, hb⟩
        have hws : w1.heap.size < wr.heap.size := TA.lt_heap HBK.out
        have HCL : Hid (∀ U, Bl wr U → U.cell? ⟨w1.heap.size, 0, none⟩ = some (.slice none 0 0) ∧ U.cell? ⟨w1.heap.size, 1, none⟩ = some (.slice va i vc) ∧ U.heap[w1.heap.size]? = some (.cells #[.slice none 0 0, .slice va i vc] 25 (0, 0))) := fun U hU =>
          ⟨by rw [Bl.cell hU hws, Lib.cell_of_heap HBK.out]; rfl, by rw [Bl.cell hU hws, Lib.cell_of_heap HBK.out]; rfl, by rw [Below.block hU _ hws]; exact HBK.out⟩
        obtain ⟨d0, d1, _⟩ := HCL.out wr (Bl.refl wr)
        have HGB : Hid (∀ (U : World) (ab q cap : Nat) (zs : List (Option Addr × Nat)), AO w1.heap.size w1.heap.size (U.setCell ⟨ab, q, none⟩ (.slice none 0 0)) (.slice (some ⟨ab, 0, none⟩) i cap) ((rg i ([] : List UInt8) (i - 1)).2 ++ [(tn (i - 1), [], ([] : List UInt8))]) zs → U.heap[w1.heap.size]? = some (.cells #[.slice none 0 0, .slice (some ⟨ab, 0, none⟩) i cap] 25 (0, 0)) → w1.heap.size ≤ ab → (U.setCell ⟨ab, q, none⟩ (.slice none 0 0)).heap[w1.heap.size]? = some (.cells #[.slice none 0 0, .slice (some ⟨ab, 0, none⟩) i cap] 25 (0, 0))) := fun U ab q cap zs hA hb hle => by
          have hne : w1.heap.size ≠ ab := fun e => by
            subst e
            obtain ⟨_, ⟨e2, _⟩ | ⟨g', cap', cur, e2, _, h3, _⟩⟩ := hA.own
            · cases e2
            · have e3 := congrArg Value.ownBlock e2
              simp only [Value.ownBlock, Option.some.injEq] at e3
              rw [← e3, heap_setCell_rowR hb] at h3
              simp only [Option.some.injEq, Obj.cells.injEq] at h3
              exact absurd h3.2.1 (by decide)
          rw [heap_setCell_otherR hne]; exact hb
        have hcl : (chn i ([] : List UInt8)).2.length = i := by rw [hchn]; simp [hrl1]; omega
        have HX2 : Hid (∀ (V : World) (ab : Nat) (zs : List (Option Addr × Nat)), AO w1.heap.size w1.heap.size V (.slice (some ⟨ab, 0, none⟩) i vc) ((rg i ([] : List UInt8) (i - 1)).2 ++ [(tn (i - 1), [], ([] : List UInt8))]) zs → Bl w1 V → ∀ U, Bl V U → GA U.heap.size U (chn i ([] : List UInt8)) none 0 (some ⟨ab, 0, none⟩) vc) := fun V ab zs hA hB U hU => by
          obtain ⟨a', c', e, h⟩ := (hA.bl hU).ga (w0 := w1) (S := []) (sa := none) (sc := 0) (hB.step hU) (hnil w1)
          rw [show ((rg i ([] : List UInt8) (i - 1)).2 ++ [((tn (i - 1), [], ([] : List UInt8)) : RC.Ac)]).length = i by simp [hrl1]; omega] at e
          simp only [Value.slice.injEq] at e
          obtain ⟨e1, _, e3⟩ := e
          subst e1
          subst e3
          rw [hchn]
          exact h
        have HOK2 : Hid (grOk (chn i ([] : List UInt8))) := by
          refine ⟨by simp [chn, maxLen], by simp [chn], by rw [hcl]; unfold maxLen; omega, fun a ha => ?_⟩
          rcases List.mem_append.1 ha with h1 | h1
          · obtain ⟨q, _, rfl⟩ := List.mem_map.1 h1
            exact ⟨by unfold maxLen; simp [rgA, tn], by unfold maxLen; simp [rgA], by unfold maxLen; simp [rgA, tn], by unfold maxLen; simp [rgA] <;> omega⟩
          · simp at h1
            rw [h1]
            exact ⟨by unfold maxLen; simp [tn], by unfold maxLen; simp, by simp, by unfold maxLen; simp <;> omega⟩
        obtain ⟨c1, c2, c3⟩ := chn_all hm0 hm12 hc
        have hgv2 : ∀ ab, gv (chn i ([] : List UInt8)) none 0 (some ⟨ab, 0, none⟩) vc = #[.slice none 0 0, .slice (some ⟨ab, 0, none⟩) i vc] := fun ab => by unfold gv; rw [hcl]; rfl
        have CC2 : Hid (∀ U ab, GA U.heap.size U (chn i ([] : List UInt8)) none 0 (some ⟨ab, 0, none⟩) vc → Calls Try.prog 11 #[.agg #[.slice none 0 0, .slice (some ⟨ab, 0, none⟩) i vc]] U fun e w' => e = .returned (.int .i64 0) ∧ Bl U w') := fun U ab hG => by
          have h := Check_x (chn i ([] : List UInt8)) none 0 _ vc (Bl.refl U) hG HOK2.out
          rw [c1, hgv2] at h; exact h
        have CO2 : Hid (∀ U ab, GA U.heap.size U (chn i ([] : List UInt8)) none 0 (some ⟨ab, 0, none⟩) vc → Calls Try.prog 14 #[.agg #[.slice none 0 0, .slice (some ⟨ab, 0, none⟩) i vc]] U fun e w' => ∃ a c', e = .returned (.slice a i c') ∧ IA w' a ((List.range i).map (fun q => i - 1 - q)) ∧ Bl U w') := fun U ab hG => by
          have h := Order_x (chn i ([] : List UInt8)) none 0 _ vc (Bl.refl U) hG HOK2.out
          rw [c2, hgv2, List.length_map, List.length_range] at h; exact h
        have CN2 : Hid (∀ U ab, GA U.heap.size U (chn i ([] : List UInt8)) none 0 (some ⟨ab, 0, none⟩) vc → Calls Try.prog 17 #[.agg #[.slice none 0 0, .slice (some ⟨ab, 0, none⟩) i vc], .string ⟨#[116, 97]⟩] U fun e w' => ∃ a c', e = .returned (.slice a (i - 1) c') ∧ Bl U w') := fun U ab hG => by
          have h := Needs_x (chn i ([] : List UInt8)) none 0 _ vc (tn 0) (Bl.refl U) hG HOK2.out
          rw [hgv2] at h
          refine Calls.mono h ?_
          rintro e w' ⟨v, rfl, ho, hb⟩
          obtain ⟨a, c', e'⟩ := own_shape ho
          exact ⟨a, c', by rw [e', c3], hb⟩
        have HRGL : Hid ((rg i ([] : List UInt8) i).2 = (rg i ([] : List UInt8) (i - 1)).2 ++ [(tn (i - 1), [tn ((i - 1 + 1) % i)], ([] : List UInt8))]) := hrgl
        clear hrgl hgv HG HBK
        go_wp2_with (first
          | (go_at_call 11; refine CC.out.mono ?_; clear CC d0 d1; rintro e w2 ⟨rfl, HB2⟩; obtain ⟨d0, d1, _⟩ := HCL.out _ HB2)
          | (go_at_call 14; refine (CO.out _ HB2).mono ?_; clear CO d0 d1 HB2; rintro e w3 ⟨a3, c3, rfl, HB3⟩; obtain ⟨d0, d1, _⟩ := HCL.out _ HB3)
          | (go_at_call 17; refine (CN.out _ HB3).mono ?_; clear CN d0 d1 HB3; rintro e w4 ⟨a4, c4, rfl, HB4⟩; obtain ⟨d0, d1, _⟩ := HCL.out _ HB4)
          | (go_at_call 19; refine (CD.out _ HB4).mono ?_; clear CD d0 d1 HB4; rintro e w5 ⟨a5, c5, rfl, HB5⟩; obtain ⟨d0, d1, d2⟩ := HCL.out _ HB5; have HD2 : Hid _ := d2; have HA5 := HAO.out.bl HB5; rw [HRGL.out] at HA5; obtain ⟨ab, cap, xx, cx, zs, ev, hab, habl, hac, haf, HA6⟩ := HA5.last; have HB5H : Hid (Bl wr w5) := HB5; have HA6H : Hid _ := HA6; rw [hrl1] at ev hac haf HA6H; simp only [Value.slice.injEq] at ev; obtain ⟨rfl, ev2, rfl⟩ := ev; have hgb : (w5.setCell ⟨ab, (i - 1) * 3 + 1, none⟩ (.slice none 0 0)).heap[w1.heap.size]? = some (.cells #[.slice none 0 0, .slice (some ⟨ab, 0, none⟩) i vc] 25 (0, 0)) := HGB.out _ _ _ _ _ HA6H.out HD2.out hab; have HGBH : Hid _ := hgb; have f0 : (w5.setCell ⟨ab, (i - 1) * 3 + 1, none⟩ (.slice none 0 0)).cell? ⟨w1.heap.size, 0, none⟩ = some (.slice none 0 0) := (by rw [Lib.cell_of_heap hgb]; rfl); have f1 : (w5.setCell ⟨ab, (i - 1) * 3 + 1, none⟩ (.slice none 0 0)).cell? ⟨w1.heap.size, 1, none⟩ = some (.slice (some ⟨ab, 0, none⟩) i vc) := (by rw [Lib.cell_of_heap hgb]; rfl); have f2 := TA.lt_heap hgb; have hii : IntKind.i64.wrap ((i : Int) - 1) = ((i - 1 : Nat) : Int) := (by rw [IntKind.wrap_i64]; omega); have HWV : Bl w1 (w5.setCell ⟨ab, (i - 1) * 3 + 1, none⟩ (.slice none 0 0)) := Below.setCell (HBR.out.step HB5) hab _; have HGC : Hid (∀ U, Bl (w5.setCell ⟨ab, (i - 1) * 3 + 1, none⟩ (.slice none 0 0)) U → GA U.heap.size U (chn i ([] : List UInt8)) none 0 (some ⟨ab, 0, none⟩) vc) := HX2.out _ _ _ HA6H.out HWV; have HWVH : Hid (Bl w1 (w5.setCell ⟨ab, (i - 1) * 3 + 1, none⟩ (.slice none 0 0))) := HWV; clear HA5 HA6 d2 HB5 ev2 hgb HWV HX2)
          | (go_at_call 14; refine (CO2.out _ _ (HGC.out _ (Bl.refl _))).mono ?_; clear CO2 d0 d1; rintro e w7 ⟨la, lc, rfl, hia, hb7⟩; have HIA : Hid (IA w7 la ((List.range i).map (fun q => i - 1 - q))) := hia; have HB7 : Hid (Bl (w5.setCell ⟨ab, (i - 1) * 3 + 1, none⟩ (.slice none 0 0)) w7) := hb7; have d0 : w7.cell? ⟨w1.heap.size, 0, none⟩ = some (.slice none 0 0) := (by rw [Bl.cell hb7 f2]; exact f0); have d1 : w7.cell? ⟨w1.heap.size, 1, none⟩ = some (.slice (some ⟨ab, 0, none⟩) i vc) := (by rw [Bl.cell hb7 f2]; exact f1); have d3 : w1.heap.size < w7.heap.size := Nat.lt_of_lt_of_le f2 (Below.size hb7); clear hia hb7 f0 f1))
        have hi1 : ((i - 1 : Nat) : Int) = (i : Int) - 1 := by omega
        go_loop [9] (fun u9 => ∃ q : Nat, q ≤ i ∧ u9 = .int .i64 q) (fun u9 => i - (intOf u9).toNat)
        case atStart => exact ⟨0, Nat.zero_le _, rfl⟩
        case round =>
          obtain ⟨q, hq0, rfl⟩ := hrel
          by_cases hlq : q < i
          · obtain ⟨lb, loff, rfl, _, hlc⟩ := HIA.out q (i - 1 - q) (by rw [List.getElem?_map, List.getElem?_range hlq]; rfl)
            go_wp2_with fail
            go_round
            case rel => exact ⟨q + 1, by omega, by go_num⟩
            case measure => simp [intOf]; omega
          · obtain rfl : q = i := by omega
            have hnn : ((q : Int) == (q : Int)) = true := by simp
            have hn1 : (((q - 1 : Nat) : Int) == (q : Int) - 1) = true := by rw [beq_iff_eq]; omega
            go_wp2_with (first
              | (go_at_call 11; refine (CC2.out _ _ (HGC.out _ HB7.out)).mono ?_; clear CC2; rintro e w8 ⟨rfl, hb8⟩; have HB8 : Hid (Bl w7 w8) := hb8; have e0 : w8.cell? ⟨w1.heap.size, 0, none⟩ = some (.slice none 0 0) := (by rw [Bl.cell hb8 d3]; exact d0); have e1 : w8.cell? ⟨w1.heap.size, 1, none⟩ = some (.slice (some ⟨ab, 0, none⟩) q vc) := (by rw [Bl.cell hb8 d3]; exact d1); clear d0 d1 hb8)
              | (go_at_call 17; refine (CN2.out _ _ (HGC.out _ (HB7.out.step HB8.out))).mono ?_; clear CN2; rintro e w9 ⟨a9, c9, rfl, hb9⟩; have HB9 : Hid (Bl w8 w9) := hb9; clear hb9))
            go_ret
            exact ⟨rfl, HB1H.out.step (HWVH.out.step (HB7.out.step (HB8.out.step HB9.out)))⟩
theorem trellisRings_walk (W : World) (code : List UInt8) (hcode : code.length ≤ maxLen) (x : Int) :
    Calls Try.prog 6 #[.int .i64 x, .string (M.bs code)] W fun e w' => e = .returned (.bool true) ∧ Bl W w' := by
  by_cases h : code.length ≤ 64
  · exact rings_x W x code code hcode h (Or.inl ⟨h, rfl⟩)
  · exact rings_x W x code [] hcode (by simp) (Or.inr ⟨by omega, rfl⟩)
end Go.Proofs.Ythpdmeoljdmncaa
