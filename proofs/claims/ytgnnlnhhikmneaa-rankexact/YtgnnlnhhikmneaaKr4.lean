/- The reference's All and Present. -/
import Derived.Test.YtgnnlnhhikmneaaKr3
namespace Go.Proofs.Ytgnnlnhhikmneaa
open Go.RowKit Go.Maps
set_option linter.unusedVariables false
set_option linter.unusedSimpArgs false

set_option maxRecDepth 8000 in
set_option maxHeartbeats 8000000 in
theorem rAll_x {W : World} {r : Nat} {f : K.Vw} (x : RV W r f) :
    Calls Try.prog 14 #[.pointer (some ⟨r, 0, none⟩)] W fun e w' => ∃ a c, e = .returned (.slice a (K.all f).length c) ∧ RS lyM w' a (K.all f) ∧ Bl W w' := by
  have HX : Hid (RV W r f) := x
  obtain ⟨fs, hum⟩ := undMe
  clear x
  go_enter Try.func14, Try.ntmps14
  go_wp2_with fail
  go_loopw [3, 4] (fun u3 u4 wr => ∃ k : Nat, k ≤ 6 ∧ u4 = .int .i64 ((k : Int) + 1) ∧ Bl W wr ∧ wr.ownsRow W.heap.size 28 3 u3 (K.allN f k).length (flG lyM (K.allN f k))) (fun _ u4 _ => 7 - (intOf u4).toNat)
  case atStart => exact ⟨0, by omega, rfl, (Bl.refl _).alloc _, own_empty W _ _⟩
  case round =>
    obtain ⟨k, hk, rfl, HB, ho⟩ := hrel
    by_cases hlt : k < 6
    · have HS : Hid (K.allN f (k + 1) = K.allN f k ++ (f ((k : Int) + 1)).toList) := K.allN_succ f k
      have hal := K.allN_len f k
      have hrv := HX.out.grow HB
      obtain ⟨j, hj⟩ : ∃ j : Nat, j = k + 1 := ⟨_, rfl⟩
      have hjk : (k : Int) + 1 = (j : Int) := by omega
      have z3 := hrv.known j (by omega)
      have zr := hrv.range j (by omega)
      have HO : Hid (wr.ownsRow W.heap.size 28 3 u3 (K.allN f k).length (flG lyM (K.allN f k))) := ho
      have HBB : Hid (Bl W wr) := HB
      obtain ⟨L, hL⟩ : ∃ L, K.allN f k = L := ⟨_, rfl⟩
      have hj7 : (j : Int) < 7 := by omega
      have hjn : j < 7 := by omega
      rw [hL] at HS HO hal
      rw [hjk] at HS ⊢
      have hw : wrap64 ((j : Int) + 1) = (j : Int) + 1 := by unfold wrap64; omega
      clear ho hL hrv HX HB
      have HK1 : Hid (k + 1 = j ∧ k + 1 ≤ 6) := ⟨hj.symm, by omega⟩
      have hal6 : L.length ≤ 6 := by omega
      clear hj hjk hk hlt
      cases hfk : f (j : Int) with
      | none =>
        rw [hfk] at z3 HS
        clear hfk zr
        simp only [Option.isSome_none] at z3
        go_wp2_with fail
        go_roundw
        case rel => exact ⟨k + 1, HK1.out.2, by have := HK1.out.1; go_num, HBB.out, by rw [HS.out]; simpa using HO.out⟩
        case measure => simp [intOf]; omega
      | some m =>
        have e0 : gv f (j : Int) = m := by unfold gv; rw [hfk]; rfl
        rw [hfk] at z3 HS
        rw [e0] at zr
        clear hfk e0
        obtain ⟨n, i, s⟩ := m
        simp only [Option.isSome_some] at z3
        have ZR : Hid (wr.rangeAt r (j * 3) [.int .i64 n, .int .i64 i, .int .i64 s]) := zr
        clear zr
        go_wp2_with (first
          | (refine wpList_load_mid rfl 28 _ rfl r (j * 3) rfl [.int .i64 n, .int .i64 i, .int .i64 s] _ ZR.out hum rfl infoMe ?_; clear ZR)
          | (refine wl_app1G lyM 28 33 (.agg #[.int .i64 0, .int .i64 0, .int .i64 0]) 24 undMs infoMe3 rfl (by decide) rfl _ _ rfl L.length L rfl (n, i, s) u3 rfl HBB.out HO.out rfl (by omega) ?_ _ rfl rfl; intro a' c' w2 g1 g2 g3))
        have z1 : w2.ownsRow W.heap.size 28 3 (.slice a' (L.length + 1) c') (K.allN f (k + 1)).length (flG lyM (K.allN f (k + 1))) := by
          have e : K.allN f (k + 1) = L ++ [(n, i, s)] := HS.out
          rw [e, List.length_append]; exact g1
        go_roundw
        case rel => exact ⟨k + 1, HK1.out.2, by have := HK1.out.1; go_num, g2, z1⟩
        case measure => simp [intOf]; omega
    · obtain rfl : k = 6 := by omega
      obtain ⟨a', c', rfl, h4⟩ := owns_rs lyM ho
      have HQ : Hid (RS lyM wr a' (K.all f) ∧ Bl W wr) := ⟨h4, HB⟩
      clear ho h4 HB
      go_wp2_with fail
      go_ret
      exact ⟨a', c', rfl, HQ.out⟩
/-- who is there, of the first nodes -/
def preN (f : K.Vw) (k : Nat) : List Int := ((K.allN f k).filter K.here).map (·.1)
theorem preN_succ (f : K.Vw) (k : Nat) : preN f (k + 1) = preN f k ++ match f ((k : Int) + 1) with | none => [] | some m => if K.here m = true then [m.1] else [] := by
  unfold preN
  rw [K.allN_succ, List.filter_append, List.map_append]
  congr 1
  cases f ((k : Int) + 1) with
  | none => rfl
  | some m => by_cases e : K.here m = true <;> simp [e]
theorem preN_len (f : K.Vw) (k : Nat) : (preN f k).length ≤ k := by
  unfold preN
  rw [List.length_map]
  exact Nat.le_trans (List.length_filter_le _ _) (K.allN_len f k)
set_option maxRecDepth 8000 in
set_option maxHeartbeats 8000000 in
theorem rPresent_x {W : World} {r : Nat} {f : K.Vw} (x : RV W r f) (hf : K.Ok f) :
    Calls Try.prog 17 #[.pointer (some ⟨r, 0, none⟩)] W fun e w' => ∃ a c, e = .returned (.slice a (K.pres f).length c) ∧ RS lyI w' a (K.pres f) ∧ Bl W w' := by
  have HX : Hid (RV W r f) := x
  have HFO : Hid (K.Ok f) := hf
  obtain ⟨fs, hum⟩ := undMe
  clear x hf
  go_enter Try.func17, Try.ntmps17
  go_wp2_with fail
  go_loopw [3, 4] (fun u3 u4 wr => ∃ k : Nat, k ≤ 6 ∧ u4 = .int .i64 ((k : Int) + 1) ∧ Bl W wr ∧ wr.ownsRow W.heap.size 3 1 u3 (preN f k).length (flG lyI (preN f k))) (fun _ u4 _ => 7 - (intOf u4).toNat)
  case atStart => exact ⟨0, by omega, rfl, (Bl.refl _).alloc _, own_empty W _ _⟩
  case round =>
    obtain ⟨k, hk, rfl, HB, ho⟩ := hrel
    by_cases hlt : k < 6
    · have HS : Hid (preN f (k + 1) = preN f k ++ match f ((k : Int) + 1) with | none => [] | some m => if K.here m = true then [m.1] else []) := preN_succ f k
      have hal := preN_len f k
      have hrv := HX.out.grow HB
      obtain ⟨j, hj⟩ : ∃ j : Nat, j = k + 1 := ⟨_, rfl⟩
      have hjk : (k : Int) + 1 = (j : Int) := by omega
      have z3 := hrv.known j (by omega)
      have zr := hrv.range j (by omega)
      have HO : Hid (wr.ownsRow W.heap.size 3 1 u3 (preN f k).length (flG lyI (preN f k))) := ho
      have HBB : Hid (Bl W wr) := HB
      obtain ⟨L, hL⟩ : ∃ L, preN f k = L := ⟨_, rfl⟩
      have hj7 : (j : Int) < 7 := by omega
      have hjn : j < 7 := by omega
      rw [hL] at HS HO hal
      rw [hjk] at HS ⊢
      have hw : wrap64 ((j : Int) + 1) = (j : Int) + 1 := by unfold wrap64; omega
      clear ho hL hrv HX HB
      have HK1 : Hid (k + 1 = j ∧ k + 1 ≤ 6) := ⟨hj.symm, by omega⟩
      have hal6 : L.length ≤ 6 := by omega
      clear hj hjk hk hlt
      cases hfk : f (j : Int) with
      | none =>
        rw [hfk] at z3 HS
        clear hfk zr
        simp only [Option.isSome_none] at z3
        go_wp2_with go_skip
        go_roundw
        case rel => exact ⟨k + 1, HK1.out.2, by have := HK1.out.1; go_num, HBB.out, by rw [HS.out]; simpa using HO.out⟩
        case measure => simp [intOf]; omega
      | some m =>
        have e0 : gv f (j : Int) = m := by unfold gv; rw [hfk]; rfl
        obtain ⟨gm, em⟩ := HFO.out _ _ hfk
        have gs := gm.2.2.2.2.1
        rw [hfk] at z3 HS
        rw [e0] at zr
        clear hfk e0 gm
        obtain ⟨n, i, s⟩ := m
        simp only [Option.isSome_some] at z3
        simp only at em gs HS
        subst em
        have zs : wr.cell? ⟨r, j * 3 + 2, none⟩ = some (.int .i64 s) := zr 2 _ rfl
        clear zr
        by_cases hs : s ≤ 1
        · have hh : K.here ((j : Int), i, s) = true := by
            have : s = 0 ∨ s = 1 := by omega
            simp [K.here, this]
          have HE : Hid (preN f (k + 1) = L ++ [(j : Int)]) := by show _ = _; rw [HS.out, if_pos hh]
          clear HS hh
          go_wp2_with (first
            | go_skip
            | (refine wl_app1G lyI 3 39 (.int .i64 0) 8 undIs infoIn3 rfl (by decide) rfl _ _ rfl L.length L rfl (j : Int) u3 rfl HBB.out HO.out rfl (by omega) ?_ _ rfl rfl; intro a' c' w2 g1 g2 g3))
          have z1 : w2.ownsRow W.heap.size 3 1 (.slice a' (L.length + 1) c') (preN f (k + 1)).length (flG lyI (preN f (k + 1))) := by
            rw [HE.out, List.length_append]; exact g1
          go_roundw
          case rel => exact ⟨k + 1, HK1.out.2, by have := HK1.out.1; go_num, g2, z1⟩
          case measure => simp [intOf]; omega
        · have hh : K.here ((j : Int), i, s) = false := by simp [K.here]; omega
          have HE : Hid (preN f (k + 1) = L) := by show _ = _; rw [HS.out, if_neg (by rw [hh]; decide), List.append_nil]
          clear HS hh
          go_wp2_with go_skip
          go_roundw
          case rel => exact ⟨k + 1, HK1.out.2, by have := HK1.out.1; go_num, HBB.out, by rw [HE.out]; exact HO.out⟩
          case measure => simp [intOf]; omega
    · obtain rfl : k = 6 := by omega
      obtain ⟨a', c', rfl, h4⟩ := owns_rs lyI ho
      have HQ : Hid (RS lyI wr a' (K.pres f) ∧ Bl W wr) := ⟨h4, HB⟩
      clear ho h4 HB
      go_wp2_with fail
      go_ret
      exact ⟨a', c', rfl, HQ.out⟩
end Go.Proofs.Ytgnnlnhhikmneaa
