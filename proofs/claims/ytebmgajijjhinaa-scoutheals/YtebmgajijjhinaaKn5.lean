/- What Present answers. -/
import Derived.Test.YtebmgajijjhinaaKn4
namespace Go.Proofs.Ytebmgajijjhinaa
open Go.RowKit Go.Maps
set_option linter.unusedVariables false
set_option linter.unusedSimpArgs false

theorem infoIn3 : (Try.prog.info? 3).map (fun i => (i.zero, i.size, i.bytes)) = some (some (.int .i64 0), 1, 8) := by kernel_rfl
theorem undIs : Try.prog.underlying 23 = some (.slice 3) := Try.underlying23
set_option maxRecDepth 8000 in
set_option maxHeartbeats 4000000 in
theorem Present_g {W : World} {v : Value} {f : K.Vw} (C : GetC W v f) :
    Calls Try.prog 28 #[v] W fun e w' => ∃ a c, e = .returned (.slice a (K.pres f).length c) ∧ RS lyI w' a (K.pres f) ∧ Bl W w' := by
  have C1 : Hid (Calls Try.prog 27 #[v] W fun e w' => ∃ a c, e = .returned (.slice a (K.all f).length c) ∧ RS lyM w' a (K.all f) ∧ Bl W w') := All_g C
  have HP : Hid (K.pres f = K.preL (K.all f) (K.all f).length) := (K.preL_all f).symm
  have hl : (K.all f).length ≤ 6 := K.allN_len f 6
  generalize K.pres f = P at *
  generalize K.all f = l at *
  obtain ⟨fs, hum⟩ := undMe
  clear C
  go_enter Try.func28, Try.ntmps28
  go_wp2_with (first
    | (go_at_call 27; refine (C1.out).mono ?_; clear C1; rintro e W2 ⟨a, c, rfl, hv, HB⟩))
  have HV : Hid (RS lyM W2 a l) := hv
  have HB0 : Hid (Bl W W2) := HB
  clear hv HB
  go_loopw [3, 9] (fun u3 u9 wr => ∃ k : Nat, k ≤ l.length ∧ u9 = .int .i64 (k : Int) ∧ Bl W2 wr ∧ wr.ownsRow W2.heap.size 3 1 u3 (K.preL l k).length (flG lyI (K.preL l k))) (fun _ u9 _ => l.length - (intOf u9).toNat)
  case atStart => exact ⟨0, by omega, rfl, Bl.refl _, ⟨rfl, Or.inl ⟨rfl, rfl⟩⟩⟩
  case round =>
    obtain ⟨k, hk, rfl, HB, ho⟩ := hrel
    by_cases hlt : k < l.length
    · obtain ⟨m, hm⟩ : ∃ m, l[k]? = some m := ⟨l[k], List.getElem?_eq_getElem hlt⟩
      obtain ⟨b2, off, rfl, hb2, hrg⟩ := (HV.out.bl HB) k m hm
      have HS : Hid (K.preL l (k + 1) = K.preL l k ++ if K.here m = true then [m.1] else []) := K.preL_succ hm
      have hal := K.preL_len l k
      have HO : Hid (wr.ownsRow W2.heap.size 3 1 u3 (K.preL l k).length (flG lyI (K.preL l k))) := ho
      obtain ⟨L, hL⟩ : ∃ L, K.preL l k = L := ⟨_, rfl⟩
      rw [hL] at HS HO hal
      clear ho hL hm
      obtain ⟨n, i, s⟩ := m
      have HR : Hid (wr.rangeAt b2 (off + k * 3) [.int .i64 n, .int .i64 i, .int .i64 s]) := hrg
      clear hrg
      have HB2 : Hid (Bl W2 (wr.alloc (.cells #[.int .i64 n, .int .i64 i, .int .i64 s] 54))) := HB.alloc _
      have HO2 : Hid ((wr.alloc (.cells #[.int .i64 n, .int .i64 i, .int .i64 s] 54)).ownsRow W2.heap.size 3 1 u3 L.length (flG lyI L)) := ownsRow_bl HO.out ((Bl.refl _).alloc _)
      by_cases hh : K.here (n, i, s) = true
      · have HE : Hid (K.preL l (k + 1) = L ++ [n]) := by show _ = _; rw [HS.out, if_pos hh]
        have hs01 : s = 0 ∨ s = 1 := by simpa [K.here] using hh
        clear HS hh
        rcases hs01 with rfl | rfl
        all_goals
          go_wp2_with (first
            | (refine wpList_load_mid rfl 54 _ rfl b2 (off + k * 3) rfl [.int .i64 n, .int .i64 i, .int .i64 _] _ HR.out hum rfl infoMe ?_; clear HR)
            | (refine wl_app1M lyI 3 23 (.int .i64 0) 8 undIs infoIn3 rfl (by decide) rfl _ _ rfl L.length L rfl n u3 rfl HB2.out HO2.out (wr.heap.size + 1) (by simp) rfl (by omega) ?_ _ rfl rfl; intro a' c' w2 g1 g2 g3))
          have z1 : w2.ownsRow W2.heap.size 3 1 (.slice a' (L.length + 1) c') (K.preL l (k + 1)).length (flG lyI (K.preL l (k + 1))) := by
            rw [HE.out, List.length_append]; exact g1
          go_roundw
          case rel => exact ⟨k + 1, by omega, by go_num, g2, z1⟩
          case measure => simp [intOf]; omega
      · have HE : Hid (K.preL l (k + 1) = L) := by show _ = _; rw [HS.out, if_neg hh, List.append_nil]
        have hs01 : ¬ (s = 0 ∨ s = 1) := by simpa [K.here] using hh
        have hs0 : (s == 0) = false := by simp; omega
        have hs1 : (s == 1) = false := by simp; omega
        clear HS hh
        go_wp2_with (first
          | (refine wpList_load_mid rfl 54 _ rfl b2 (off + k * 3) rfl [.int .i64 n, .int .i64 i, .int .i64 s] _ HR.out hum rfl infoMe ?_; clear HR))
        go_roundw
        case rel => exact ⟨k + 1, by omega, by go_num, HB2.out, by rw [HE.out]; exact HO2.out⟩
        case measure => simp [intOf]; omega
    · obtain rfl : k = l.length := by omega
      obtain ⟨a', c', rfl, h4⟩ := owns_rs lyI ho
      have HQ : Hid (RS lyI wr a' P ∧ Bl W wr) := ⟨by rw [HP.out]; exact h4, HB0.out.step HB⟩
      clear ho h4 HB
      go_wp2_with fail
      go_ret
      exact ⟨a', c', by rw [HP.out]; rfl, HQ.out⟩
end Go.Proofs.Ytebmgajijjhinaa
