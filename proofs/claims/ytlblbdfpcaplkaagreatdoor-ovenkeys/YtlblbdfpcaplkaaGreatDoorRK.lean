/- The reference's Key. -/
import Derived.Test.YtlblbdfpcaplkaaGreatDoorExa
import Derived.Test.YtlblbdfpcaplkaaGreatDoorV2
import Derived.Test.YtlblbdfpcaplkaaGreatDoorOA
namespace Go.Proofs.YtlblbdfpcaplkaaGreatDoor
open Go.RowKit
set_option linter.unusedVariables false
set_option linter.unusedSimpArgs false
attribute [local go_sem ↓] zero27

theorem keyR_small (code : List UInt8) (l : List O.Re) (hc : code.length ≤ 1000) (hl : l.length ≤ 30) : (M.rowB (O.keyR code l)).length ≤ 1048576 := by
  have := rowB_le (O.keyR code l) 1000 (fun t ht => by
    unfold O.keyR at ht
    rcases List.mem_append.1 ht with ht | ht
    · simp at ht
      rcases ht with rfl | rfl
      · simp [O.kAct]
      · exact hc
    · obtain ⟨r, _, rfl⟩ := List.mem_map.1 ht
      have := told_len r; omega)
  have h2 : (O.keyR code l).length = l.length + 2 := by simp [O.keyR]
  rw [h2] at this
  have h3 : (l.length + 2) * (1000 + 9) ≤ 32 * 1009 := Nat.mul_le_mul (by omega) (by omega)
  omega
set_option maxRecDepth 8000 in
set_option maxHeartbeats 4000000 in
theorem rKey_x (code : List UInt8) (l : List O.Re) (a : Option Addr) (c : Nat) {W : World} (hv : RS lyR W a l) (hl : l.length ≤ 30) (hok : ∀ r ∈ l, ReOk r) (hc : code.length ≤ 1000) :
    Calls Tryz.prog 20 #[.string (M.bs code), .slice a l.length c] W fun e w' => e = .returned (.agg (dg (O.key code l))) ∧ Bl W w' := by
  have HV : Hid (RS lyR W a l) := hv
  have HO : Hid (∀ r ∈ l, ReOk r) := hok
  clear hv hok
  go_enter Tryz.func20, Tryz.ntmps20
  go_wp2_with fail
  have HS0 : Hid (Bl (W.alloc (.cells zero32 42)) ((W.alloc (.cells zero32 42)).alloc (.cells #[.string (M.bs O.kAct), .string (M.bs code)] 9))) := (Bl.refl _).alloc _
  have HSO : Hid (((W.alloc (.cells zero32 42)).alloc (.cells #[.string (M.bs O.kAct), .string (M.bs code)] 9)).ownsRow (W.alloc (.cells zero32 42)).heap.size 9 1 (.slice (some ⟨W.heap.size + 1, 0, none⟩) 2 2) 2 (flG lyT (O.keyR code (l.take 0)))) := by
    have := TA.own_new (W.alloc (.cells zero32 42)) [O.kAct, code] (by unfold maxLen; simp)
    rw [show (W.alloc (.cells zero32 42)).heap.size = W.heap.size + 1 by simp] at this ⊢
    rw [flT]; exact this
  have HWZ : Hid (Bl W (W.alloc (.cells zero32 42))) := (Bl.refl W).alloc _
  have HZ0 : Hid ((W.alloc (.cells zero32 42)).heap[W.heap.size]? = some (.cells zero32 42 (0, 0))) := heap_alloc_new _ _
  have HZs : Hid ((W.alloc (.cells zero32 42)).heap.size = W.heap.size + 1) := by show _ = _; simp
  generalize hZ : (W.alloc (.cells zero32 42)) = Z at *
  go_loopw [5, 6] (fun u5 u6 wr => ∃ k : Nat, k ≤ l.length ∧ u6 = .int .i64 k ∧ (∃ a5 c5, u5 = .slice a5 (k + 2) c5) ∧ wr.ownsRow Z.heap.size 9 1 u5 (k + 2) (flG lyT (O.keyR code (l.take k))) ∧ Bl Z wr) (fun _ u6 _ => l.length - (intOf u6).toNat)
  case atStart => exact ⟨0, Nat.zero_le _, rfl, ⟨_, _, rfl⟩, HSO.out, HS0.out⟩
  case round =>
    obtain ⟨k, hk, rfl, ⟨a5, c5, rfl⟩, hown, hbl⟩ := hrel
    have HOW : Hid (wr.ownsRow Z.heap.size 9 1 (.slice a5 (k + 2) c5) (k + 2) (flG lyT (O.keyR code (l.take k)))) := hown
    have HBR : Hid (Bl Z wr) := hbl
    clear hown hbl HS0 HSO
    by_cases hlt : k < l.length
    · obtain ⟨r, hr⟩ : ∃ r, l[k]? = some r := ⟨l[k], List.getElem?_eq_getElem hlt⟩
      obtain ⟨b, off, rfl, hb, hrg⟩ := (HV.out.bl HWZ.out).bl HBR.out k r hr
      have HKL : Hid (k + 2 = (O.keyR code (l.take k)).length) := by show _ = _; simp [O.keyR]; omega
      have HN : Hid (O.keyR code (l.take (k + 1)) = O.keyR code (l.take k) ++ [O.told r]) := keyR_take hr
      have hro := HO.out r (List.mem_of_getElem? hr)
      have hc1 := hro.c1
      have hc2 := hro.c2
      have hrl := hro.l
      obtain ⟨rc, rb⟩ := r
      simp only at *
      have q0 : wr.cell? ⟨b, off + k * 2, none⟩ = some (.int .i64 rc) := hrg 0 _ rfl
      have q1 : wr.cell? ⟨b, off + k * 2 + 1, none⟩ = some (.string (M.bs rb)) := hrg 1 _ rfl
      by_cases h0 : rc = 0
      · subst h0
        have ht : O.told (0, rb) = 100 :: S.sha rb := rfl
        rw [ht] at HN
        have C1 : Hid (Calls Tryz.prog 42 #[.string (M.bs rb)] wr fun e w' => e = .returned (.agg (dg (S.sha rb))) ∧ Bl wr w') := rOf rb (by omega) wr
        have hsl : (S.sha rb).length = 32 := S.sha_length rb
        have C2 : Hid (∀ U, Calls Tryz.prog 41 #[.agg (dg (S.sha rb))] U fun e w' => e = .returned (.string (M.bs (S.sha rb))) ∧ Bl U w') := fun U => rBytes_m (S.sha rb) hsl U
        have happ : (⟨#[100]⟩ : ByteArray) ++ M.bs (S.sha rb) = M.bs (100 :: S.sha rb) := bs_append [100] _
        have hs1 := M.bs_size (S.sha rb)
        have hs2 : (⟨#[100]⟩ : ByteArray).size = 1 := rfl
        generalize (100 :: S.sha rb) = T3 at *
        generalize S.sha rb = d at *
        generalize O.keyR code (l.take k) = KS at *
        clear hr hrg HV HO ht hro
        go_wp2_with (first
          | (go_at_call 42; refine C1.out.mono ?_; clear C1; rintro e w1 ⟨rfl, H1⟩; replace H1 : Hid (Bl wr w1) := H1)
          | (go_at_call 41; refine (C2.out w1).mono ?_; clear C2; rintro e w2 ⟨rfl, H2'⟩; have H2 : Hid (Bl wr w2) := H1.out.step H2'; clear H2')
          | (refine wl_app1G lyT (w := Z) (W := w2) 9 22 (.string ⟨#[]⟩) 16 undS infoS rfl (by omega) rfl _ _ rfl (k + 2) KS HKL.out T3 _ rfl (HBR.out.step H2.out) (ownsRow_bl HOW.out H2.out) rfl (by omega) ?_ _ rfl rfl; intro a' c' w3 h3 hb3 _))
        go_roundw
        case rel => exact ⟨k + 1, by omega, by go_num, ⟨_, _, rfl⟩, by rw [HN.out]; exact h3, hb3⟩
        case measure => simp [intOf]; omega
      · have ht : O.told (rc, rb) = 101 :: M.numB rc := by unfold O.told; rw [if_neg h0]
        rw [ht] at HN
        have h0i : (rc != 0) = true := by simpa using h0
        have C1 : Hid (Calls Tryz.prog 40 #[.int .i64 rc] wr fun e w' => e = .returned (.string (M.bs (M.numB rc))) ∧ Bl wr w') := refNum_any rc wr (by omega) (by omega)
        have happ : (⟨#[101]⟩ : ByteArray) ++ M.bs (M.numB rc) = M.bs (101 :: M.numB rc) := bs_append [101] _
        have hs1 := M.bs_size (M.numB rc)
        have hs2 : (⟨#[101]⟩ : ByteArray).size = 1 := rfl
        have hn9 := M.numB_len rc
        generalize (101 :: M.numB rc) = T3 at *
        generalize M.numB rc = d at *
        generalize O.keyR code (l.take k) = KS at *
        clear hr hrg HV HO ht hro h0
        go_wp2_with (first
          | (go_at_call 40; refine C1.out.mono ?_; clear C1; rintro e w2 ⟨rfl, H2'⟩; have H2 : Hid (Bl wr w2) := H2'; clear H2')
          | (refine wl_app1G lyT (w := Z) (W := w2) 9 22 (.string ⟨#[]⟩) 16 undS infoS rfl (by omega) rfl _ _ rfl (k + 2) KS HKL.out T3 _ rfl (HBR.out.step H2.out) (ownsRow_bl HOW.out H2.out) rfl (by omega) ?_ _ rfl rfl; intro a' c' w3 h3 hb3 _))
        go_roundw
        case rel => exact ⟨k + 1, by omega, by go_num, ⟨_, _, rfl⟩, by rw [HN.out]; exact h3, hb3⟩
        case measure => simp [intOf]; omega
    · obtain rfl : k = l.length := by omega
      have hS : RS lyT wr a5 (O.keyR code l) := by
        have h := HOW.out
        rw [List.take_length] at h
        have h' : wr.ownsRow Z.heap.size 9 lyT.k (.slice a5 (l.length + 2) c5) (O.keyR code l).length (flG lyT (O.keyR code l)) := by rw [show (O.keyR code l).length = l.length + 2 by simp [O.keyR]]; exact h
        obtain ⟨x, y, e, hrs⟩ := owns_rs lyT h'
        simp only [Value.slice.injEq] at e
        rw [e.1]; exact hrs
      have CR : Hid (Calls Tryz.prog 43 #[.slice a5 (l.length + 2) c5] wr fun e w' => e = .returned (.agg (dg (O.key code l))) ∧ Bl wr w') := by
        have h := rRow_at (O.keyR code l) a5 c5 wr (tx_of hS) (keyR_small code l hc hl) (by simp [O.keyR]; omega)
        rw [show (O.keyR code l).length = l.length + 2 by simp [O.keyR]] at h
        exact h
      have hkl : (O.key code l).length = 32 := S.sha_length _
      have HF : Hid (∀ w1, Bl wr w1 → w1.heap[W.heap.size]? = some (.cells zero32 42 (0, 0))) := fun w1 h1 => by
        have := Below.size HBR.out
        have := HZs.out
        rw [Below.block h1 _ (by omega), Below.block HBR.out _ (by omega)]; exact HZ0.out
      clear hS
      go_wp2_with (first
        | (go_at_call 43; refine CR.out.mono ?_; clear CR; rintro e w1 ⟨rfl, H1⟩; have hf := HF.out w1 H1)
        | refine wpList_store_row rfl 42 _ _ rfl W.heap.size _ rfl rfl 42 zero32 hf (by rw [dg_size, hkl]; exact info27) (by rw [dg_size, hkl]; exact zero32_size) (dg_one _) ?_)
      (try simp only [Exit.inBlock, Exit.then])
      refine bodyPost_ret (results_cell_row rfl _ _ _ 42 _ (0, 0) _ rfl (setRow_heap _ _ _ _ _ _ hf) und27 rfl (by rw [dg_size, hkl]; exact info27)) rfl ?_
      exact ⟨rfl, below_setRow (HWZ.out.step (HBR.out.step H1)) (Nat.le_refl _) _⟩
end Go.Proofs.YtlblbdfpcaplkaaGreatDoor
