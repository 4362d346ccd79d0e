/- The walk of the law StampBlocks. -/
import Derived.Test.YtohpjindnfabaaaDoorS15
namespace Go.Proofs.YtohpjindnfabaaaDoor
open Go.RowKit
set_option linter.unusedVariables false
attribute [local go_sem ↓] zero27

theorem Add1_g (b : Nat) (m t : List UInt8) {w W : World} (T : TypeId) (h : GB w W) (hP : PrN b m m.length W) (hb : w.heap.size ≤ b) (hl : m.length + t.length ≤ 576460752303423488) (h2 : 2 ≤ b) :
    Calls Tryd.prog 22 #[.pointer (some ⟨b, 0, none⟩), .slice (some ⟨W.heap.size, 0, none⟩) 1 1] (W.alloc (.cells #[.string (M.bs t)] T)) fun e w' =>
      e = .returned (.pointer (some ⟨b, 0, none⟩)) ∧ PrN b (m ++ t) (m ++ t).length w' ∧ GB w w' := by
  have hlt := hP.lt
  have hg := h.alloc (.cells #[.string (M.bs t)] T)
  refine (Add_at b m [t] (some ⟨W.heap.size, 0, none⟩) 1 _ (hP.below ((Below.refl W.heap.size _).alloc (Nat.le_refl _) _) hlt) hg.g.k h2 (fun i v hv => ?_) (by simp; omega) (by simp)).mono ?_
  · refine ⟨W.heap.size, 0, rfl, by simp, by omega, ?_⟩
    rcases i with _ | i
    · simp at hv; subst hv; exact cell_new1 _ _ _
    · simp at hv
  · rintro e w' ⟨rfl, p1, p2⟩
    refine ⟨rfl, by simpa using p1, hg.g.off p2 h2, ?_⟩
    exact hg.b.trans (p2.below hb (hg.b.size))
theorem Len_g (b : Nat) (m : List UInt8) {w W : World} (h : GB w W) (hP : PrN b m m.length W) :
    Calls Tryd.prog 21 #[.pointer (some ⟨b, 0, none⟩)] W fun e w' => e = .returned (.int .i64 (m.length : Int)) ∧ w' = W := Len_at b m W hP
theorem New_g {w W : World} (h : GB w W) : Calls Tryd.prog 19 #[] W fun e w' => e = .returned (.pointer (some ⟨W.heap.size, 0, none⟩)) ∧ PrN W.heap.size [] 0 w' ∧ GB w w' := by
  refine (New_at W h.g).mono ?_
  rintro e w' ⟨rfl, rfl⟩
  exact ⟨rfl, newC_pr W, h.alloc _⟩
/-- Sum leaves the press as it was -/
theorem Sum_p (b : Nat) (m : List UInt8) {w W : World} (h : GB w W) (hP : PrN b m m.length W) (hl : m.length ≤ 576460752303423488) :
    Calls Tryd.prog 20 #[.pointer (some ⟨b, 0, none⟩)] W fun e w' => e = .returned (.agg (dg (S.sha m))) ∧ PrN b m m.length w' ∧ GB w w' := by
  refine (Sum_at b m W hP h.g hl).mono ?_
  rintro e w' ⟨rfl, hb⟩
  exact ⟨rfl, hP.below hb hP.lt, h.step hb⟩
/-- Of leaves a press as it was -/
theorem Of_p (t : List UInt8) (b : Nat) (m : List UInt8) {w W : World} (T : TypeId) (h : GB w W) (hP : PrN b m m.length W) (hl : t.length ≤ 576460752303423488) :
    Calls Tryd.prog 11 #[.slice (some ⟨W.heap.size, 0, none⟩) 1 1] (W.alloc (.cells #[.string (M.bs t)] T)) fun e w' => e = .returned (.agg (dg (S.sha t))) ∧ PrN b m m.length w' ∧ GB w w' := by
  have hlt := hP.lt
  refine (Of_one t W.heap.size 1 _ (h.alloc _).g (by simp) (cell_new1 _ _ _) hl).mono ?_
  rintro e w' ⟨rfl, hb⟩
  exact ⟨rfl, (hP.below ((Below.refl W.heap.size _).alloc (Nat.le_refl _) _) hlt).below hb (by simp; omega), (h.alloc _).step hb⟩
theorem conv1 (W : World) (c : UInt8) (x : Int) (T : TypeId) (hx : x = (c.toNat : Int)) : (convert 40 9 (.slice (some ⟨W.heap.size, 0, none⟩) 1 1)).run Tryd.prog (W.alloc (.cells #[.int .u8 x] T)) = .ok (.string (M.bs [c])) (W.alloc (.cells #[.int .u8 x] T)) := by
  subst hx
  have := run_convert_bytes_back (P := Tryd.prog) (W.alloc (.cells #[.int .u8 (c.toNat : Int)] T)) 40 9 5 ⟨W.heap.size, 0, none⟩ 1 [c] Tryd.underlying40 Tryd.underlying5 Tryd.underlying9 (fun j hj => by
    obtain rfl : j = 0 := by simpa using hj
    rw [Addr.add_mid]; exact cell_new1 _ _ _)
  exact this
theorem bs_app (a b : List UInt8) : M.bs a ++ M.bs b = M.bs (a ++ b) := by
  apply ByteArray.ext
  simp [M.bs]

set_option maxHeartbeats 4000000 in
theorem stampBlocks_walk (n : Int) (bb : UInt8) (w : World) (hn1 : -9223372036854775808 ≤ n) (hn2 : n ≤ 9223372036854775807) (hG : GW w) :
    Calls Tryd.prog 6 #[.int .i64 n, vb bb] w fun e w' => e = .returned (.bool true) ∧ Below w.heap.size w w' := by
  have hz := hG.z
  have HG : Hid (GB w w) := GB.refl hG
  clear hG
  obtain ⟨q, hq, hq3⟩ : ∃ q : Nat, (IntKind.u64.wrap n).tmod 300 = (q : Int) ∧ q ≤ 299 := by
    have h0 : 0 ≤ IntKind.u64.wrap n := by rw [IntKind.wrap_u64]; omega
    rw [Int.tmod_eq_emod_of_nonneg h0]
    exact ⟨(IntKind.u64.wrap n % 300).toNat, by omega, by omega⟩
  go_enter Tryd.func6, Tryd.ntmps6
  go_wp2_with (first
    | (go_at_call 9; refine (awake_g HG).mono ?_; clear HG; rintro e w1 ⟨rfl, HG⟩)
    | (go_at_call 19; refine (New_g HG).mono ?_; have HS := HG.b.size; clear HG; rintro e w2 ⟨rfl, HP, HG⟩))
  obtain ⟨b, hb⟩ : ∃ b, b = w1.heap.size := ⟨_, rfl⟩
  rw [← hb] at HP HS ⊢
  clear hb hq hn1 hn2
  have hb2 : 2 ≤ b := by omega
  go_loopw [6, 7, 8] (fun u6 u7 u8 wr => ∃ (k : Nat) (m : List UInt8), k ≤ q ∧ m.length = k ∧ u7 = .int .i64 k ∧ u6 = .string (M.bs m) ∧ PrN b m m.length wr ∧ GB w wr) (fun _ u7 _ _ => q - (intOf u7).toNat)
  case atStart => exact ⟨0, [], by omega, rfl, rfl, rfl, HP, HG⟩
  case round =>
    obtain ⟨k, m, hk, hm, rfl, rfl, hP, hG⟩ := hrel
    clear HP HG
    have HP : Hid (PrN b m m.length wr) := hP
    have HG : Hid (GB w wr) := hG
    clear hP hG
    by_cases hlt : k < q
    · obtain ⟨c, hc⟩ : ∃ c : UInt8, ((bb.toNat : Int) + (k : Int) % 256) % 256 = (c.toNat : Int) := ⟨UInt8.ofNat (bb.toNat + k), by rw [UInt8.toNat_ofNat']; omega⟩
      have hcv : ∀ T, (convert 40 9 (.slice (some ⟨wr.heap.size, 0, none⟩) 1 1)).run Tryd.prog (wr.alloc (.cells #[.int .u8 (c.toNat : Int)] T)) = .ok (.string (M.bs [c])) (wr.alloc (.cells #[.int .u8 (c.toNat : Int)] T)) := fun T => conv1 wr c _ T rfl
      have hap := bs_app m [c]
      have hsz1 := M.bs_size m
      have hsz2 := M.bs_size [c]
      rw [List.length_singleton] at hsz2
      have CA : Hid (∀ T T', Calls Tryd.prog 22 #[.pointer (some ⟨b, 0, none⟩), .slice (some ⟨wr.heap.size + 1, 0, none⟩) 1 1] ((wr.alloc (.cells #[.int .u8 (c.toNat : Int)] T')).alloc (.cells #[.string (M.bs [c])] T)) fun e w' =>
          e = .returned (.pointer (some ⟨b, 0, none⟩)) ∧ PrN b (m ++ [c]) (m ++ [c]).length w' ∧ GB w w') := fun T T' => by
        have := Add1_g b m [c] T (HG.out.alloc (.cells #[.int .u8 (c.toNat : Int)] T')) (HP.out.below ((Below.refl wr.heap.size _).alloc (Nat.le_refl _) _) HP.out.lt) HS (by simp; omega) hb2
        simpa using this
      go_wp2_with (go_at_call 22; refine (CA.out _ _).mono ?_; rintro e w' ⟨rfl, p1, HG'⟩)
      go_roundw
      case rel => exact ⟨k + 1, m ++ [c], by omega, by simp [hm], by go_num, rfl, p1, HG'⟩
      case measure => simp [intOf]; omega
    · have hkq : Hid (k = q) := by show _ = _; omega
      have hdf : decide ((k : Int) < (q : Int)) = false := by simp; omega
      have hmq : ((m.length : Int) == (q : Int)) = true := by simp; omega
      have hap : M.bs m ++ ⟨#[120]⟩ = M.bs (m ++ [120]) := bs_app m [120]
      have hsz1 := M.bs_size m
      have hml : m.length ≤ 299 := by omega
      have e1 := eqDg (S.sha m) (S.sha m) (S.sha_length _) (S.sha_length _)
      have e2 := eqDg (S.sha (m ++ [120])) (S.sha (m ++ [120])) (S.sha_length _) (S.sha_length _)
      have hl2 : (m ++ [(120 : UInt8)]).length ≤ 576460752303423488 := by simp; omega
      have CA : Hid (∀ W T, GB w W → PrN b m m.length W → Calls Tryd.prog 22 #[.pointer (some ⟨b, 0, none⟩), .slice (some ⟨W.heap.size, 0, none⟩) 1 1] (W.alloc (.cells #[.string ⟨#[120]⟩] T)) fun e w' =>
          e = .returned (.pointer (some ⟨b, 0, none⟩)) ∧ PrN b (m ++ [120]) (m ++ [120]).length w' ∧ GB w w') := fun W T hg hp => Add1_g b m [120] T hg hp HS (by simp; omega) hb2
      clear hm
      go_wp2_with (first
        | (go_at_call 20; refine (Sum_p b m HG HP (by omega)).mono ?_; clear HG HP; rintro e w' ⟨rfl, HP, HG⟩)
        | (go_at_call 20; refine (Sum_p b (m ++ [120]) HG HP hl2).mono ?_; clear HG HP; rintro e w' ⟨rfl, HP, HG⟩)
        | (go_at_call 11; refine (Of_p m b m _ HG HP (by omega)).mono ?_; clear HG HP; rintro e w' ⟨rfl, HP, HG⟩)
        | (go_at_call 11; refine (Of_p (m ++ [120]) b m _ HG HP hl2).mono ?_; clear HG HP; rintro e w' ⟨rfl, HP, HG⟩)
        | (go_at_call 21; refine (Len_g b m HG HP).mono ?_; rintro e w' ⟨rfl, rfl⟩)
        | (go_at_call 22; refine (CA.out _ _ HG HP).mono ?_; clear HG HP; rintro e w' ⟨rfl, HP, HG⟩))
      go_ret
      exact ⟨rfl, HG.b⟩
end Go.Proofs.YtohpjindnfabaaaDoor
