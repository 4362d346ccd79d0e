/- MillWords' walk. -/
import Derived.Test.YtodcafmhaleemaaDoorMsd
import Derived.Test.YtodcafmhaleemaaDoorQM4
namespace Go.Proofs.YtodcafmhaleemaaDoor
open Go.RowKit
set_option linter.unusedVariables false
attribute [local go_sem ↓] zero27

/-- the eight codes -/
def cdW (n : UInt8) (i : Nat) : List UInt8 := match i with
  | 0 => [105, 0, 105, 1, 99]
  | 1 => [105, 0, 114]
  | 2 => [105, 0, 116, n]
  | 3 => [105, 0, 107, n]
  | 4 => [105, 0, 105, 1, 61]
  | 5 => [105, 0, 104]
  | 6 => [105, 0, 105, 1, 115, 120]
  | _ => [105, 0, 100, 99]
/-- what they come to -/
def wnW (a b : List UInt8) (n : UInt8) (i : Nat) : List UInt8 := match i with
  | 0 => a ++ b
  | 1 => a.reverse
  | 2 => a.take n.toNat
  | 3 => a.drop n.toNat
  | 4 => Q.cmp a b
  | 5 => S.sha a
  | 6 => b
  | _ => a ++ a
theorem run_word (a b : List UInt8) (n : UInt8) (ha : a.length ≤ 200) (hb : b.length ≤ 200) (i : Nat) (hi : i < 8) : ∃ k, k ≤ 300 ∧ Q.run (cdW n i) [a, b] = ⟨0, wnW a b n i, k⟩ := by
  rcases (by omega : i = 0 ∨ i = 1 ∨ i = 2 ∨ i = 3 ∨ i = 4 ∨ i = 5 ∨ i = 6 ∨ i = 7) with rfl | rfl | rfl | rfl | rfl | rfl | rfl | rfl
  · exact ⟨3, by omega, Q.word0 a b ha hb⟩
  · exact ⟨2, by omega, Q.word1 a b ha hb⟩
  · exact ⟨2, by omega, Q.word2 a b ha hb n⟩
  · exact ⟨2, by omega, Q.word3 a b ha hb n⟩
  · exact ⟨3, by omega, Q.word4 a b ha hb⟩
  · exact ⟨2, by omega, Q.word5 a b ha hb⟩
  · exact ⟨4, by omega, Q.word6 a b ha hb⟩
  · exact ⟨3, by omega, Q.word7 a b ha hb⟩
theorem cdW_len (n : UInt8) (i : Nat) : (cdW n i).length ≤ 6 := by unfold cdW; split <;> simp
structure WD (W : World) (c v : Nat) (a b : List UInt8) (n : UInt8) (wr : World) : Prop where
  c : ∀ i, i < 8 → wr.cell? ⟨c, i, none⟩ = some (.string (M.bs (cdW n i)))
  v : ∀ i, i < 8 → wr.cell? ⟨v, i, none⟩ = some (.string (M.bs (wnW a b n i)))
  g : GB W wr
theorem WD.below {W : World} {c v : Nat} {a b : List UInt8} {n : UInt8} {w w' : World} (h : WD W c v a b n w) (hb : Below w.heap.size w w') : WD W c v a b n w' := by
  have h1 : c < w.heap.size := block_lt (h.c 0 (by omega))
  have h2 : v < w.heap.size := block_lt (h.v 0 (by omega))
  exact ⟨fun i hi => by rw [hb.cell (p := ⟨c, i, none⟩) h1]; exact h.c i hi, fun i hi => by rw [hb.cell (p := ⟨v, i, none⟩) h2]; exact h.v i hi, h.g.step hb⟩
theorem two_rows (W : World) (C1 C2 : Array Value) (T : TypeId) (i : Nat) : ((W.alloc (.cells C1 T)).alloc (.cells C2 T)).cell? ⟨W.heap.size, i, none⟩ = C1[i]? ∧ ((W.alloc (.cells C1 T)).alloc (.cells C2 T)).cell? ⟨W.heap.size + 1, i, none⟩ = C2[i]? := by
  constructor
  · rw [World.cell?_of_block (w := W.alloc (.cells C1 T)) (Below.heap_alloc _ _ _ (by simp)), cell_of_row _ _ _ _ _ _ (heap_alloc_new _ _)]
  · have := heap_alloc_new (W.alloc (.cells C1 T)) (.cells C2 T)
    rw [show (W.alloc (.cells C1 T)).heap.size = W.heap.size + 1 by simp] at this
    rw [cell_of_row _ _ _ _ _ _ this]
theorem eight {p : Nat → Prop} (h0 : p 0) (h1 : p 1) (h2 : p 2) (h3 : p 3) (h4 : p 4) (h5 : p 5) (h6 : p 6) (h7 : p 7) : ∀ i, i < 8 → p i := fun i hi => by
  rcases (by omega : i = 0 ∨ i = 1 ∨ i = 2 ∨ i = 3 ∨ i = 4 ∨ i = 5 ∨ i = 6 ∨ i = 7) with rfl | rfl | rfl | rfl | rfl | rfl | rfl | rfl <;> assumption
theorem WD.new {W w : World} (h : GB W w) (a b : List UInt8) (n : UInt8) (hd tl sm ba sh : ByteArray) (h2 : hd = M.bs (a.take n.toNat)) (h3 : tl = M.bs (a.drop n.toNat)) (h4 : sm = M.bs (Q.cmp a b)) (h1 : ba = M.bs a.reverse) (h5 : sh = M.bs (S.sha a)) (T : TypeId) :
    WD W w.heap.size (w.heap.size + 1) a b n ((w.alloc (.cells #[.string ⟨#[105, 0, 105, 1, 99]⟩, .string ⟨#[105, 0, 114]⟩, .string (M.bs [105, 0, 116, n]), .string (M.bs [105, 0, 107, n]), .string ⟨#[105, 0, 105, 1, 61]⟩, .string ⟨#[105, 0, 104]⟩, .string ⟨#[105, 0, 105, 1, 115, 120]⟩, .string ⟨#[105, 0, 100, 99]⟩] T)).alloc (.cells #[.string (M.bs (a ++ b)), .string ba, .string hd, .string tl, .string sm, .string sh, .string (M.bs b), .string (M.bs (a ++ a))] T)) := by
  subst h1 h2 h3 h4 h5
  refine ⟨?_, ?_, (h.alloc _).alloc _⟩
  · refine eight ?_ ?_ ?_ ?_ ?_ ?_ ?_ ?_ <;> (rw [(two_rows _ _ _ _ _).1]; rfl)
  · refine eight ?_ ?_ ?_ ?_ ?_ ?_ ?_ ?_ <;> (rw [(two_rows _ _ _ _ _).2]; rfl)
theorem rev_succ (a : List UInt8) (k : Nat) (x : UInt8) (h : a[k]? = some x) : (a.take (k + 1)).reverse = [x] ++ (a.take k).reverse := by
  rw [List.take_add_one, h]; simp
theorem cut_one (a : List UInt8) (k : Nat) (x : UInt8) (h : a[k]? = some x) : (M.bs a).extract k (k + 1) = M.bs [x] := by
  rw [cut_bs, show k + 1 - k = 1 by omega]
  congr 1
  have hk : k < a.length := (List.getElem?_eq_some_iff.1 h).1
  rw [List.drop_eq_getElem_cons hk]
  rw [List.getElem?_eq_getElem hk] at h
  simp [Option.some.inj h]
set_option maxRecDepth 8000 in
set_option maxHeartbeats 2000000 in
theorem millWords_wide (a b : List UInt8) (n : UInt8) (W : World) (hG : GW W) (hT : Tab W) (h : 200 < a.length ∨ 200 < b.length) (hal : a.length ≤ 9223372036854775807) (hbl : b.length ≤ 9223372036854775807) :
    Calls Tryd.prog 6 #[.string (M.bs a), .string (M.bs b), .int .u8 (n.toNat : Int)] W fun e w' => e = .returned (.bool true) ∧ Below W.heap.size W w' := by
  have CA : Hid (Calls Tryd.prog 9 #[] W fun e w' => e = .returned (.bool true) ∧ GB W w') := awake_m (GB.refl hG) hT
  have hsa := M.bs_size a
  have hsb := M.bs_size b
  clear hG hT
  by_cases h1 : 200 < a.length
  · clear h
    go_enter Tryd.func6, Tryd.ntmps6
    go_wp2_with (go_at_call 9; refine CA.out.mono ?_; clear CA; rintro e w1 ⟨rfl, HG⟩)
    go_ret
    exact ⟨rfl, HG.b⟩
  · have h2 : 200 < b.length := by omega
    clear h
    go_enter Tryd.func6, Tryd.ntmps6
    go_wp2_with (go_at_call 9; refine CA.out.mono ?_; clear CA; rintro e w1 ⟨rfl, HG⟩)
    go_ret
    exact ⟨rfl, HG.b⟩
set_option maxRecDepth 8000 in
set_option maxHeartbeats 8000000 in
theorem millWords_lteq (a b : List UInt8) (n : UInt8) (W : World) (hG : GW W) (hT : Tab W) (ha : a.length ≤ 200) (hb : b.length ≤ 200) (hk : n.toNat < a.length) (hab : a = b) :
    Calls Tryd.prog 6 #[.string (M.bs a), .string (M.bs b), .int .u8 (n.toNat : Int)] W fun e w' => e = .returned (.bool true) ∧ Below W.heap.size W w' := by
  have CA : Hid (Calls Tryd.prog 9 #[] W fun e w' => e = .returned (.bool true) ∧ GB W w') := awake_m (GB.refl hG) hT
  have hsa := M.bs_size a
  have hsb := M.bs_size b
  have hn8 := n.toNat_lt
  have CO : Hid (∀ W', GB W W' → Calls Tryd.prog 15 #[.slice (some ⟨W'.heap.size, 0, none⟩) 1 1] (W'.alloc (.cells #[.string (M.bs a)] 9)) fun e w' => e = .returned (.agg (dg (S.sha a))) ∧ GB W w') := fun W' h => Of_g a 9 h (by omega)
  have CR : Hid (∀ k, k < 8 → ∀ W', GB W W' → Calls Tryd.prog 10 #[.string (M.bs (cdW n k)), .slice (some ⟨W'.heap.size, 0, none⟩) 2 2] (W'.alloc (.cells #[.string (M.bs a), .string (M.bs b)] 9)) fun e w' => ∃ z : Nat, z ≤ 300 ∧ e = .returned (.tuple #[.agg #[.int .i64 0, .string (M.bs (wnW a b n k))], .int .i64 (z : Int)]) ∧ Below W'.heap.size W' w') := fun k hk W' h => by
    obtain ⟨z, hz, e⟩ := run_word a b n ha hb k hk
    have := Run_b (cdW n k) [a, b] (some ⟨W'.heap.size, 0, none⟩) 2 (h.alloc (.cells #[.string (M.bs a), .string (M.bs b)] 9)) hT (tx_two _ _ _ _) (by have := cdW_len n k; omega) (by simp) (by simp; omega)
    rw [e] at this
    refine this.mono ?_
    rintro e w' ⟨rfl, h1, h2⟩
    exact ⟨z, hz, rfl, ((Below.refl _ W').alloc (Nat.le_refl _) _).trans (h2.mono (by simp))⟩
  have hl : (S.sha a).length = 32 := S.sha_length a
  have hD : Hid (∀ j (hj : j < (S.sha a).length), (dg (S.sha a))[j]? = some (.int .u8 ((S.sha a)[j].toNat : Int))) := fun j hj => by
    unfold dg
    rw [List.getElem?_toArray, List.getElem?_map, List.getElem?_eq_getElem hj]; rfl
  have hsD : (dg (S.sha a)).size = 32 := by rw [dg_size, hl]
  have h1 : Hid ((dg (S.sha a)).all (·.oneCell') = true) := by
    show _ = true
    rw [Array.all_eq_true_iff_forall_mem]
    intro v hv
    unfold dg at hv
    simp only [List.mem_toArray, List.mem_map] at hv
    obtain ⟨x, _, rfl⟩ := hv
    rfl
  have HNEW : Hid (∀ (w : World) (ba : ByteArray), GB W w → ba = M.bs a.reverse → WD W w.heap.size (w.heap.size + 1) a b n ((w.alloc (.cells #[.string ⟨#[105, 0, 105, 1, 99]⟩, .string ⟨#[105, 0, 114]⟩, .string (M.bs [105, 0, 116, n]), .string (M.bs [105, 0, 107, n]), .string ⟨#[105, 0, 105, 1, 61]⟩, .string ⟨#[105, 0, 104]⟩, .string ⟨#[105, 0, 105, 1, 115, 120]⟩, .string ⟨#[105, 0, 100, 99]⟩] 39)).alloc (.cells #[.string (M.bs (a ++ b)), .string ba, .string (M.bs (a.take n.toNat)), .string (M.bs (a.drop n.toNat)), .string ⟨#[49]⟩, .string (M.bs (S.sha a)), .string (M.bs b), .string (M.bs (a ++ a))] 39))) := fun w ba h hba =>
    WD.new h a b n _ _ _ _ _ rfl rfl (by unfold Q.cmp; rw [if_pos hab]; rfl) hba rfl _
  have hcn : Hid (∀ (W : World) (T : TypeId), (convert 35 9 (.slice (some ⟨W.heap.size, 0, none⟩) 1 1)).run Tryd.prog (W.alloc (.cells #[.int .u8 (n.toNat : Int)] T)) = .ok (.string (M.bs [n])) (W.alloc (.cells #[.int .u8 (n.toNat : Int)] T))) := fun W T => conv1M W n _ T rfl
  have hqab := bs_eqM a b
  rw [decide_eq_true hab] at hqab
  have htk : (M.bs a).extract 0 n.toNat = M.bs (a.take n.toNat) := by rw [cut_bs]; simp
  have hdk : (M.bs a).extract n.toNat a.length = M.bs (a.drop n.toNat) := by have := drop_bs a n.toNat; rwa [hsa] at this
  have apab : M.bs a ++ M.bs b = M.bs (a ++ b) := bs_append a b
  have apaa : M.bs a ++ M.bs a = M.bs (a ++ a) := bs_append a a
  have ap1 : ⟨#[105, 0, 116]⟩ ++ M.bs [n] = M.bs [105, 0, 116, n] := bs_append [105, 0, 116] [n]
  have ap2 : ⟨#[105, 0, 107]⟩ ++ M.bs [n] = M.bs [105, 0, 107, n] := bs_append [105, 0, 107] [n]
  have szn : (M.bs [n]).size = 1 := M.bs_size _
  have HB0 : Hid (M.bs (a.take 0).reverse = ⟨#[]⟩) := by show _ = _; simp; rfl
  have HBA : Hid (M.bs (a.take a.length).reverse = M.bs a.reverse) := by show _ = _; rw [List.take_of_length_le (Nat.le_refl _)]
  generalize S.sha a = d at *
  generalize dg d = D at *
  have HST : Hid (∀ w' : World, (w'.alloc (.cells zero32 37)).heap[w'.heap.size]? = some (.cells zero32 37 (0, 0))) := fun w' => heap_alloc_new _ _
  have HCV : Hid (∀ (w' : World) (o : Obj), (convert 35 9 (.slice (some ⟨w'.heap.size, 0, none⟩) 32 32)).run Tryd.prog ((w'.alloc (.cells D 37)).alloc o) = .ok (.string (M.bs d)) ((w'.alloc (.cells D 37)).alloc o)) := fun w' o => by
    have := run_convert_bytes_back (P := Tryd.prog) ((w'.alloc (.cells D 37)).alloc o) 35 9 5 ⟨w'.heap.size, 0, none⟩ 32 d Tryd.underlying35 Tryd.underlying5 Tryd.underlying9 (fun j hj => by
      rw [Addr.add_mid, Nat.zero_add, World.cell?_of_block (w := w'.alloc (.cells D 37)) (Below.heap_alloc _ _ _ (by simp)), cell_of_row _ _ j D _ _ (heap_alloc_new _ _)]; exact hD.out j hj)
    rw [hl] at this
    exact this
  have hz := zero32_size
  clear hG hT hab
  go_enter Tryd.func6, Tryd.ntmps6
  go_wp2_with (go_at_call 9; refine CA.out.mono ?_; clear CA; rintro e w1 ⟨rfl, HG⟩; have hcv1 := hcn.out w1 5; have HG : Hid (GB W w1) := HG)
  go_loopw [11, 12] (fun u11 u12 wr => ∃ k : Nat, k ≤ a.length ∧ u11 = .string (M.bs (a.take k).reverse) ∧ u12 = .int .i64 (k : Int) ∧ GB W wr) (fun _ u12 _ => a.length - (intOf u12).toNat)
  case atStart => exact ⟨0, Nat.zero_le _, by rw [HB0.out], rfl, HG.out.alloc _⟩
  case round =>
    obtain ⟨k, hkl, rfl, rfl, hg⟩ := hrel
    clear HG hcv1
    have HG : Hid (GB W wr) := hg
    clear hg
    by_cases hlt : k < a.length
    · obtain ⟨x, hx⟩ : ∃ x, a[k]? = some x := ⟨a[k], List.getElem?_eq_getElem hlt⟩
      have hcut := cut_one a k x hx
      have hrs : M.bs [x] ++ M.bs (a.take k).reverse = M.bs (a.take (k + 1)).reverse := by rw [rev_succ a k x hx]; exact bs_append _ _
      have s1 : (M.bs [x]).size = 1 := M.bs_size _
      have s2 : (M.bs (a.take k).reverse).size = k := by rw [M.bs_size]; simp; omega
      have i1 : (k : Int) < (a.length : Int) := by omega
      clear hx CO CR HNEW apab apaa ap1 ap2 HBA HB0
      generalize M.bs (a.take k).reverse = P at *
      go_wp2_with fail
      go_roundw
      case rel => exact ⟨k + 1, by omega, by rfl, by go_num, HG.out⟩
      case measure => simp [intOf]; omega
    · obtain rfl : k = a.length := by omega
      have hba := HBA.out
      generalize M.bs (a.take a.length).reverse = ba at *
      have HB2 : Hid (ba = M.bs a.reverse) := hba
      clear hba HBA HB0 hkl
      go_wp2_with (first
        | (go_at_call 15; refine (CO.out _ HG.out).mono ?_; clear CO HG; rintro e w2 ⟨rfl, HG⟩; have HG : Hid (GB W w2) := HG; have hcv := HCV.out w2)
        | (refine wpList_store_row rfl 37 _ _ rfl w2.heap.size D rfl rfl 37 zero32 (HST.out w2) (by rw [hsD]; exact info27) (by rw [hz, hsD]) h1.out ?_; clear HST; rw [World.setRow_alloc_new]; have HW0 : Hid _ := HNEW.out (w2.alloc (.cells D 37)) ba (HG.out.alloc _) HB2.out))
      have HW : Hid (∀ wq, wq = _ → WD W (w2.heap.size + 1) (w2.heap.size + 1 + 1) a b n wq) := fun wq e => by
        have := HW0.out
        rw [show (w2.alloc (.cells D 37)).heap.size = w2.heap.size + 1 by simp] at this
        rw [e]; exact this
      clear HW0 HNEW HG hcv HCV HB2 hD apab apaa ap1 ap2 h1 hcn
      go_loopw [17, 18, 19] (fun u17 u18 u19 wr => ∃ k : Nat, k ≤ 8 ∧ u17 = .int .i64 (k : Int) ∧ WD W (w2.heap.size + 1) (w2.heap.size + 1 + 1) a b n wr) (fun u17 _ _ _ => 8 - (intOf u17).toNat)
      case atStart => exact ⟨0, by omega, rfl, HW.out _ rfl⟩
      case round =>
        obtain ⟨k, hk8, rfl, hw⟩ := hrel
        clear HW
        by_cases hlt8 : k < 8
        · have kc := hw.c k hlt8
          have i0 : (0 : Int) ≤ (k : Int) := by omega
          have i1 : (k : Int) < 8 := by omega
          have hwr : IntKind.i64.wrap (k : Int) = (k : Int) := by simp only [IntKind.wrap, IntKind.bits, IntKind.signed]; simp; omega
          have CR1 : Hid (Calls Tryd.prog 10 #[.string (M.bs (cdW n k)), .slice (some ⟨wr.heap.size, 0, none⟩) 2 2] (wr.alloc (.cells #[.string (M.bs a), .string (M.bs b)] 9)) fun e w' => ∃ z : Nat, z ≤ 300 ∧ e = .returned (.tuple #[.agg #[.int .i64 0, .string (M.bs (wnW a b n k))], .int .i64 (z : Int)]) ∧ WD W (w2.heap.size + 1) (w2.heap.size + 1 + 1) a b n w') := by
            refine (CR.out k hlt8 wr hw.g).mono ?_
            rintro e w' ⟨z, hz, rfl, hb⟩
            exact ⟨z, hz, rfl, hw.below hb⟩
          have hbq : ((M.bs (wnW a b n k)).toList == (M.bs (wnW a b n k)).toList) = true := by simp
          have HLT : Hid (k < 8) := hlt8
          clear hw CR
          generalize M.bs (cdW n k) = bc at *
          obtain ⟨bw, hbw⟩ : ∃ bw, bw = M.bs (wnW a b n k) := ⟨_, rfl⟩
          have HV : Hid (∀ wq, WD W (w2.heap.size + 1) (w2.heap.size + 1 + 1) a b n wq → wq.cell? ⟨w2.heap.size + 1 + 1, k, none⟩ = some (.string bw)) := fun wq h => by rw [hbw]; exact h.v k HLT.out
          rw [← hbw] at CR1 hbq
          clear hbw
          go_wp2_with (go_at_call 10; refine CR1.out.mono ?_; clear CR1; rintro e w3 ⟨z, hz, rfl, hw3⟩; have HW3 : Hid (∀ o, WD W (w2.heap.size + 1) (w2.heap.size + 1 + 1) a b n (w3.alloc o)) := fun o => hw3.below ((Below.refl _ w3).alloc (Nat.le_refl _) o); have kv := fun o => HV.out _ (HW3.out o); clear hw3)
          go_quiet (fail)
          go_wp2_with fail
          go_roundw
          case rel => exact ⟨k + 1, by have := HLT.out; omega, by go_num, (HW3.out _).below (below_drewN (Below.refl _ _) _)⟩
          case measure => have := HLT.out; simp [intOf]; omega
        · obtain rfl : k = 8 := by omega
          have HG : Hid (GB W wr) := hw.g
          clear hw CR
          go_wp2_with fail
          go_ret
          exact ⟨rfl, HG.out.b⟩
set_option maxRecDepth 8000 in
set_option maxHeartbeats 8000000 in
theorem millWords_ltne (a b : List UInt8) (n : UInt8) (W : World) (hG : GW W) (hT : Tab W) (ha : a.length ≤ 200) (hb : b.length ≤ 200) (hk : n.toNat < a.length) (hab : ¬ a = b) :
    Calls Tryd.prog 6 #[.string (M.bs a), .string (M.bs b), .int .u8 (n.toNat : Int)] W fun e w' => e = .returned (.bool true) ∧ Below W.heap.size W w' := by
  have CA : Hid (Calls Tryd.prog 9 #[] W fun e w' => e = .returned (.bool true) ∧ GB W w') := awake_m (GB.refl hG) hT
  have hsa := M.bs_size a
  have hsb := M.bs_size b
  have hn8 := n.toNat_lt
  have CO : Hid (∀ W', GB W W' → Calls Tryd.prog 15 #[.slice (some ⟨W'.heap.size, 0, none⟩) 1 1] (W'.alloc (.cells #[.string (M.bs a)] 9)) fun e w' => e = .returned (.agg (dg (S.sha a))) ∧ GB W w') := fun W' h => Of_g a 9 h (by omega)
  have CR : Hid (∀ k, k < 8 → ∀ W', GB W W' → Calls Tryd.prog 10 #[.string (M.bs (cdW n k)), .slice (some ⟨W'.heap.size, 0, none⟩) 2 2] (W'.alloc (.cells #[.string (M.bs a), .string (M.bs b)] 9)) fun e w' => ∃ z : Nat, z ≤ 300 ∧ e = .returned (.tuple #[.agg #[.int .i64 0, .string (M.bs (wnW a b n k))], .int .i64 (z : Int)]) ∧ Below W'.heap.size W' w') := fun k hk W' h => by
    obtain ⟨z, hz, e⟩ := run_word a b n ha hb k hk
    have := Run_b (cdW n k) [a, b] (some ⟨W'.heap.size, 0, none⟩) 2 (h.alloc (.cells #[.string (M.bs a), .string (M.bs b)] 9)) hT (tx_two _ _ _ _) (by have := cdW_len n k; omega) (by simp) (by simp; omega)
    rw [e] at this
    refine this.mono ?_
    rintro e w' ⟨rfl, h1, h2⟩
    exact ⟨z, hz, rfl, ((Below.refl _ W').alloc (Nat.le_refl _) _).trans (h2.mono (by simp))⟩
  have hl : (S.sha a).length = 32 := S.sha_length a
  have hD : Hid (∀ j (hj : j < (S.sha a).length), (dg (S.sha a))[j]? = some (.int .u8 ((S.sha a)[j].toNat : Int))) := fun j hj => by
    unfold dg
    rw [List.getElem?_toArray, List.getElem?_map, List.getElem?_eq_getElem hj]; rfl
  have hsD : (dg (S.sha a)).size = 32 := by rw [dg_size, hl]
  have h1 : Hid ((dg (S.sha a)).all (·.oneCell') = true) := by
    show _ = true
    rw [Array.all_eq_true_iff_forall_mem]
    intro v hv
    unfold dg at hv
    simp only [List.mem_toArray, List.mem_map] at hv
    obtain ⟨x, _, rfl⟩ := hv
    rfl
  have HNEW : Hid (∀ (w : World) (ba : ByteArray), GB W w → ba = M.bs a.reverse → WD W w.heap.size (w.heap.size + 1) a b n ((w.alloc (.cells #[.string ⟨#[105, 0, 105, 1, 99]⟩, .string ⟨#[105, 0, 114]⟩, .string (M.bs [105, 0, 116, n]), .string (M.bs [105, 0, 107, n]), .string ⟨#[105, 0, 105, 1, 61]⟩, .string ⟨#[105, 0, 104]⟩, .string ⟨#[105, 0, 105, 1, 115, 120]⟩, .string ⟨#[105, 0, 100, 99]⟩] 39)).alloc (.cells #[.string (M.bs (a ++ b)), .string ba, .string (M.bs (a.take n.toNat)), .string (M.bs (a.drop n.toNat)), .string ⟨#[]⟩, .string (M.bs (S.sha a)), .string (M.bs b), .string (M.bs (a ++ a))] 39))) := fun w ba h hba =>
    WD.new h a b n _ _ _ _ _ rfl rfl (by unfold Q.cmp; rw [if_neg hab]; rfl) hba rfl _
  have hcn : Hid (∀ (W : World) (T : TypeId), (convert 35 9 (.slice (some ⟨W.heap.size, 0, none⟩) 1 1)).run Tryd.prog (W.alloc (.cells #[.int .u8 (n.toNat : Int)] T)) = .ok (.string (M.bs [n])) (W.alloc (.cells #[.int .u8 (n.toNat : Int)] T))) := fun W T => conv1M W n _ T rfl
  have hqab := bs_eqM a b
  rw [decide_eq_false hab] at hqab
  have htk : (M.bs a).extract 0 n.toNat = M.bs (a.take n.toNat) := by rw [cut_bs]; simp
  have hdk : (M.bs a).extract n.toNat a.length = M.bs (a.drop n.toNat) := by have := drop_bs a n.toNat; rwa [hsa] at this
  have apab : M.bs a ++ M.bs b = M.bs (a ++ b) := bs_append a b
  have apaa : M.bs a ++ M.bs a = M.bs (a ++ a) := bs_append a a
  have ap1 : ⟨#[105, 0, 116]⟩ ++ M.bs [n] = M.bs [105, 0, 116, n] := bs_append [105, 0, 116] [n]
  have ap2 : ⟨#[105, 0, 107]⟩ ++ M.bs [n] = M.bs [105, 0, 107, n] := bs_append [105, 0, 107] [n]
  have szn : (M.bs [n]).size = 1 := M.bs_size _
  have HB0 : Hid (M.bs (a.take 0).reverse = ⟨#[]⟩) := by show _ = _; simp; rfl
  have HBA : Hid (M.bs (a.take a.length).reverse = M.bs a.reverse) := by show _ = _; rw [List.take_of_length_le (Nat.le_refl _)]
  generalize S.sha a = d at *
  generalize dg d = D at *
  have HST : Hid (∀ w' : World, (w'.alloc (.cells zero32 37)).heap[w'.heap.size]? = some (.cells zero32 37 (0, 0))) := fun w' => heap_alloc_new _ _
  have HCV : Hid (∀ (w' : World) (o : Obj), (convert 35 9 (.slice (some ⟨w'.heap.size, 0, none⟩) 32 32)).run Tryd.prog ((w'.alloc (.cells D 37)).alloc o) = .ok (.string (M.bs d)) ((w'.alloc (.cells D 37)).alloc o)) := fun w' o => by
    have := run_convert_bytes_back (P := Tryd.prog) ((w'.alloc (.cells D 37)).alloc o) 35 9 5 ⟨w'.heap.size, 0, none⟩ 32 d Tryd.underlying35 Tryd.underlying5 Tryd.underlying9 (fun j hj => by
      rw [Addr.add_mid, Nat.zero_add, World.cell?_of_block (w := w'.alloc (.cells D 37)) (Below.heap_alloc _ _ _ (by simp)), cell_of_row _ _ j D _ _ (heap_alloc_new _ _)]; exact hD.out j hj)
    rw [hl] at this
    exact this
  have hz := zero32_size
  clear hG hT hab
  go_enter Tryd.func6, Tryd.ntmps6
  go_wp2_with (go_at_call 9; refine CA.out.mono ?_; clear CA; rintro e w1 ⟨rfl, HG⟩; have hcv1 := hcn.out w1 5; have HG : Hid (GB W w1) := HG)
  go_loopw [11, 12] (fun u11 u12 wr => ∃ k : Nat, k ≤ a.length ∧ u11 = .string (M.bs (a.take k).reverse) ∧ u12 = .int .i64 (k : Int) ∧ GB W wr) (fun _ u12 _ => a.length - (intOf u12).toNat)
  case atStart => exact ⟨0, Nat.zero_le _, by rw [HB0.out], rfl, HG.out.alloc _⟩
  case round =>
    obtain ⟨k, hkl, rfl, rfl, hg⟩ := hrel
    clear HG hcv1
    have HG : Hid (GB W wr) := hg
    clear hg
    by_cases hlt : k < a.length
    · obtain ⟨x, hx⟩ : ∃ x, a[k]? = some x := ⟨a[k], List.getElem?_eq_getElem hlt⟩
      have hcut := cut_one a k x hx
      have hrs : M.bs [x] ++ M.bs (a.take k).reverse = M.bs (a.take (k + 1)).reverse := by rw [rev_succ a k x hx]; exact bs_append _ _
      have s1 : (M.bs [x]).size = 1 := M.bs_size _
      have s2 : (M.bs (a.take k).reverse).size = k := by rw [M.bs_size]; simp; omega
      have i1 : (k : Int) < (a.length : Int) := by omega
      clear hx CO CR HNEW apab apaa ap1 ap2 HBA HB0
      generalize M.bs (a.take k).reverse = P at *
      go_wp2_with fail
      go_roundw
      case rel => exact ⟨k + 1, by omega, by rfl, by go_num, HG.out⟩
      case measure => simp [intOf]; omega
    · obtain rfl : k = a.length := by omega
      have hba := HBA.out
      generalize M.bs (a.take a.length).reverse = ba at *
      have HB2 : Hid (ba = M.bs a.reverse) := hba
      clear hba HBA HB0 hkl
      go_wp2_with (first
        | (go_at_call 15; refine (CO.out _ HG.out).mono ?_; clear CO HG; rintro e w2 ⟨rfl, HG⟩; have HG : Hid (GB W w2) := HG; have hcv := HCV.out w2)
        | (refine wpList_store_row rfl 37 _ _ rfl w2.heap.size D rfl rfl 37 zero32 (HST.out w2) (by rw [hsD]; exact info27) (by rw [hz, hsD]) h1.out ?_; clear HST; rw [World.setRow_alloc_new]; have HW0 : Hid _ := HNEW.out (w2.alloc (.cells D 37)) ba (HG.out.alloc _) HB2.out))
      have HW : Hid (∀ wq, wq = _ → WD W (w2.heap.size + 1) (w2.heap.size + 1 + 1) a b n wq) := fun wq e => by
        have := HW0.out
        rw [show (w2.alloc (.cells D 37)).heap.size = w2.heap.size + 1 by simp] at this
        rw [e]; exact this
      clear HW0 HNEW HG hcv HCV HB2 hD apab apaa ap1 ap2 h1 hcn
      go_loopw [17, 18, 19] (fun u17 u18 u19 wr => ∃ k : Nat, k ≤ 8 ∧ u17 = .int .i64 (k : Int) ∧ WD W (w2.heap.size + 1) (w2.heap.size + 1 + 1) a b n wr) (fun u17 _ _ _ => 8 - (intOf u17).toNat)
      case atStart => exact ⟨0, by omega, rfl, HW.out _ rfl⟩
      case round =>
        obtain ⟨k, hk8, rfl, hw⟩ := hrel
        clear HW
        by_cases hlt8 : k < 8
        · have kc := hw.c k hlt8
          have i0 : (0 : Int) ≤ (k : Int) := by omega
          have i1 : (k : Int) < 8 := by omega
          have hwr : IntKind.i64.wrap (k : Int) = (k : Int) := by simp only [IntKind.wrap, IntKind.bits, IntKind.signed]; simp; omega
          have CR1 : Hid (Calls Tryd.prog 10 #[.string (M.bs (cdW n k)), .slice (some ⟨wr.heap.size, 0, none⟩) 2 2] (wr.alloc (.cells #[.string (M.bs a), .string (M.bs b)] 9)) fun e w' => ∃ z : Nat, z ≤ 300 ∧ e = .returned (.tuple #[.agg #[.int .i64 0, .string (M.bs (wnW a b n k))], .int .i64 (z : Int)]) ∧ WD W (w2.heap.size + 1) (w2.heap.size + 1 + 1) a b n w') := by
            refine (CR.out k hlt8 wr hw.g).mono ?_
            rintro e w' ⟨z, hz, rfl, hb⟩
            exact ⟨z, hz, rfl, hw.below hb⟩
          have hbq : ((M.bs (wnW a b n k)).toList == (M.bs (wnW a b n k)).toList) = true := by simp
          have HLT : Hid (k < 8) := hlt8
          clear hw CR
          generalize M.bs (cdW n k) = bc at *
          obtain ⟨bw, hbw⟩ : ∃ bw, bw = M.bs (wnW a b n k) := ⟨_, rfl⟩
          have HV : Hid (∀ wq, WD W (w2.heap.size + 1) (w2.heap.size + 1 + 1) a b n wq → wq.cell? ⟨w2.heap.size + 1 + 1, k, none⟩ = some (.string bw)) := fun wq h => by rw [hbw]; exact h.v k HLT.out
          rw [← hbw] at CR1 hbq
          clear hbw
          go_wp2_with (go_at_call 10; refine CR1.out.mono ?_; clear CR1; rintro e w3 ⟨z, hz, rfl, hw3⟩; have HW3 : Hid (∀ o, WD W (w2.heap.size + 1) (w2.heap.size + 1 + 1) a b n (w3.alloc o)) := fun o => hw3.below ((Below.refl _ w3).alloc (Nat.le_refl _) o); have kv := fun o => HV.out _ (HW3.out o); clear hw3)
          go_quiet (fail)
          go_wp2_with fail
          go_roundw
          case rel => exact ⟨k + 1, by have := HLT.out; omega, by go_num, (HW3.out _).below (below_drewN (Below.refl _ _) _)⟩
          case measure => have := HLT.out; simp [intOf]; omega
        · obtain rfl : k = 8 := by omega
          have HG : Hid (GB W wr) := hw.g
          clear hw CR
          go_wp2_with fail
          go_ret
          exact ⟨rfl, HG.out.b⟩
set_option maxRecDepth 8000 in
set_option maxHeartbeats 8000000 in
theorem millWords_geeq (a b : List UInt8) (n : UInt8) (W : World) (hG : GW W) (hT : Tab W) (ha : a.length ≤ 200) (hb : b.length ≤ 200) (hk : ¬ n.toNat < a.length) (hab : a = b) :
    Calls Tryd.prog 6 #[.string (M.bs a), .string (M.bs b), .int .u8 (n.toNat : Int)] W fun e w' => e = .returned (.bool true) ∧ Below W.heap.size W w' := by
  have CA : Hid (Calls Tryd.prog 9 #[] W fun e w' => e = .returned (.bool true) ∧ GB W w') := awake_m (GB.refl hG) hT
  have hsa := M.bs_size a
  have hsb := M.bs_size b
  have hn8 := n.toNat_lt
  have CO : Hid (∀ W', GB W W' → Calls Tryd.prog 15 #[.slice (some ⟨W'.heap.size, 0, none⟩) 1 1] (W'.alloc (.cells #[.string (M.bs a)] 9)) fun e w' => e = .returned (.agg (dg (S.sha a))) ∧ GB W w') := fun W' h => Of_g a 9 h (by omega)
  have CR : Hid (∀ k, k < 8 → ∀ W', GB W W' → Calls Tryd.prog 10 #[.string (M.bs (cdW n k)), .slice (some ⟨W'.heap.size, 0, none⟩) 2 2] (W'.alloc (.cells #[.string (M.bs a), .string (M.bs b)] 9)) fun e w' => ∃ z : Nat, z ≤ 300 ∧ e = .returned (.tuple #[.agg #[.int .i64 0, .string (M.bs (wnW a b n k))], .int .i64 (z : Int)]) ∧ Below W'.heap.size W' w') := fun k hk W' h => by
    obtain ⟨z, hz, e⟩ := run_word a b n ha hb k hk
    have := Run_b (cdW n k) [a, b] (some ⟨W'.heap.size, 0, none⟩) 2 (h.alloc (.cells #[.string (M.bs a), .string (M.bs b)] 9)) hT (tx_two _ _ _ _) (by have := cdW_len n k; omega) (by simp) (by simp; omega)
    rw [e] at this
    refine this.mono ?_
    rintro e w' ⟨rfl, h1, h2⟩
    exact ⟨z, hz, rfl, ((Below.refl _ W').alloc (Nat.le_refl _) _).trans (h2.mono (by simp))⟩
  have hl : (S.sha a).length = 32 := S.sha_length a
  have hD : Hid (∀ j (hj : j < (S.sha a).length), (dg (S.sha a))[j]? = some (.int .u8 ((S.sha a)[j].toNat : Int))) := fun j hj => by
    unfold dg
    rw [List.getElem?_toArray, List.getElem?_map, List.getElem?_eq_getElem hj]; rfl
  have hsD : (dg (S.sha a)).size = 32 := by rw [dg_size, hl]
  have h1 : Hid ((dg (S.sha a)).all (·.oneCell') = true) := by
    show _ = true
    rw [Array.all_eq_true_iff_forall_mem]
    intro v hv
    unfold dg at hv
    simp only [List.mem_toArray, List.mem_map] at hv
    obtain ⟨x, _, rfl⟩ := hv
    rfl
  have HNEW : Hid (∀ (w : World) (ba : ByteArray), GB W w → ba = M.bs a.reverse → WD W w.heap.size (w.heap.size + 1) a b n ((w.alloc (.cells #[.string ⟨#[105, 0, 105, 1, 99]⟩, .string ⟨#[105, 0, 114]⟩, .string (M.bs [105, 0, 116, n]), .string (M.bs [105, 0, 107, n]), .string ⟨#[105, 0, 105, 1, 61]⟩, .string ⟨#[105, 0, 104]⟩, .string ⟨#[105, 0, 105, 1, 115, 120]⟩, .string ⟨#[105, 0, 100, 99]⟩] 39)).alloc (.cells #[.string (M.bs (a ++ b)), .string ba, .string (M.bs a), .string ⟨#[]⟩, .string ⟨#[49]⟩, .string (M.bs (S.sha a)), .string (M.bs b), .string (M.bs (a ++ a))] 39))) := fun w ba h hba =>
    WD.new h a b n _ _ _ _ _ (by rw [List.take_of_length_le (by omega)]) (by rw [List.drop_of_length_le (by omega)]; rfl) (by unfold Q.cmp; rw [if_pos hab]; rfl) hba rfl _
  have hcn : Hid (∀ (W : World) (T : TypeId), (convert 35 9 (.slice (some ⟨W.heap.size, 0, none⟩) 1 1)).run Tryd.prog (W.alloc (.cells #[.int .u8 (n.toNat : Int)] T)) = .ok (.string (M.bs [n])) (W.alloc (.cells #[.int .u8 (n.toNat : Int)] T))) := fun W T => conv1M W n _ T rfl
  have hqab := bs_eqM a b
  rw [decide_eq_true hab] at hqab

  have apab : M.bs a ++ M.bs b = M.bs (a ++ b) := bs_append a b
  have apaa : M.bs a ++ M.bs a = M.bs (a ++ a) := bs_append a a
  have ap1 : ⟨#[105, 0, 116]⟩ ++ M.bs [n] = M.bs [105, 0, 116, n] := bs_append [105, 0, 116] [n]
  have ap2 : ⟨#[105, 0, 107]⟩ ++ M.bs [n] = M.bs [105, 0, 107, n] := bs_append [105, 0, 107] [n]
  have szn : (M.bs [n]).size = 1 := M.bs_size _
  have HB0 : Hid (M.bs (a.take 0).reverse = ⟨#[]⟩) := by show _ = _; simp; rfl
  have HBA : Hid (M.bs (a.take a.length).reverse = M.bs a.reverse) := by show _ = _; rw [List.take_of_length_le (Nat.le_refl _)]
  generalize S.sha a = d at *
  generalize dg d = D at *
  have HST : Hid (∀ w' : World, (w'.alloc (.cells zero32 37)).heap[w'.heap.size]? = some (.cells zero32 37 (0, 0))) := fun w' => heap_alloc_new _ _
  have HCV : Hid (∀ (w' : World) (o : Obj), (convert 35 9 (.slice (some ⟨w'.heap.size, 0, none⟩) 32 32)).run Tryd.prog ((w'.alloc (.cells D 37)).alloc o) = .ok (.string (M.bs d)) ((w'.alloc (.cells D 37)).alloc o)) := fun w' o => by
    have := run_convert_bytes_back (P := Tryd.prog) ((w'.alloc (.cells D 37)).alloc o) 35 9 5 ⟨w'.heap.size, 0, none⟩ 32 d Tryd.underlying35 Tryd.underlying5 Tryd.underlying9 (fun j hj => by
      rw [Addr.add_mid, Nat.zero_add, World.cell?_of_block (w := w'.alloc (.cells D 37)) (Below.heap_alloc _ _ _ (by simp)), cell_of_row _ _ j D _ _ (heap_alloc_new _ _)]; exact hD.out j hj)
    rw [hl] at this
    exact this
  have hz := zero32_size
  clear hG hT hab
  go_enter Tryd.func6, Tryd.ntmps6
  go_wp2_with (go_at_call 9; refine CA.out.mono ?_; clear CA; rintro e w1 ⟨rfl, HG⟩; have hcv1 := hcn.out w1 5; have HG : Hid (GB W w1) := HG)
  go_loopw [11, 12] (fun u11 u12 wr => ∃ k : Nat, k ≤ a.length ∧ u11 = .string (M.bs (a.take k).reverse) ∧ u12 = .int .i64 (k : Int) ∧ GB W wr) (fun _ u12 _ => a.length - (intOf u12).toNat)
  case atStart => exact ⟨0, Nat.zero_le _, by rw [HB0.out], rfl, HG.out.alloc _⟩
  case round =>
    obtain ⟨k, hkl, rfl, rfl, hg⟩ := hrel
    clear HG hcv1
    have HG : Hid (GB W wr) := hg
    clear hg
    by_cases hlt : k < a.length
    · obtain ⟨x, hx⟩ : ∃ x, a[k]? = some x := ⟨a[k], List.getElem?_eq_getElem hlt⟩
      have hcut := cut_one a k x hx
      have hrs : M.bs [x] ++ M.bs (a.take k).reverse = M.bs (a.take (k + 1)).reverse := by rw [rev_succ a k x hx]; exact bs_append _ _
      have s1 : (M.bs [x]).size = 1 := M.bs_size _
      have s2 : (M.bs (a.take k).reverse).size = k := by rw [M.bs_size]; simp; omega
      have i1 : (k : Int) < (a.length : Int) := by omega
      clear hx CO CR HNEW apab apaa ap1 ap2 HBA HB0
      generalize M.bs (a.take k).reverse = P at *
      go_wp2_with fail
      go_roundw
      case rel => exact ⟨k + 1, by omega, by rfl, by go_num, HG.out⟩
      case measure => simp [intOf]; omega
    · obtain rfl : k = a.length := by omega
      have hba := HBA.out
      generalize M.bs (a.take a.length).reverse = ba at *
      have HB2 : Hid (ba = M.bs a.reverse) := hba
      clear hba HBA HB0 hkl
      go_wp2_with (first
        | (go_at_call 15; refine (CO.out _ HG.out).mono ?_; clear CO HG; rintro e w2 ⟨rfl, HG⟩; have HG : Hid (GB W w2) := HG; have hcv := HCV.out w2)
        | (refine wpList_store_row rfl 37 _ _ rfl w2.heap.size D rfl rfl 37 zero32 (HST.out w2) (by rw [hsD]; exact info27) (by rw [hz, hsD]) h1.out ?_; clear HST; rw [World.setRow_alloc_new]; have HW0 : Hid _ := HNEW.out (w2.alloc (.cells D 37)) ba (HG.out.alloc _) HB2.out))
      have HW : Hid (∀ wq, wq = _ → WD W (w2.heap.size + 1) (w2.heap.size + 1 + 1) a b n wq) := fun wq e => by
        have := HW0.out
        rw [show (w2.alloc (.cells D 37)).heap.size = w2.heap.size + 1 by simp] at this
        rw [e]; exact this
      clear HW0 HNEW HG hcv HCV HB2 hD apab apaa ap1 ap2 h1 hcn
      go_loopw [17, 18, 19] (fun u17 u18 u19 wr => ∃ k : Nat, k ≤ 8 ∧ u17 = .int .i64 (k : Int) ∧ WD W (w2.heap.size + 1) (w2.heap.size + 1 + 1) a b n wr) (fun u17 _ _ _ => 8 - (intOf u17).toNat)
      case atStart => exact ⟨0, by omega, rfl, HW.out _ rfl⟩
      case round =>
        obtain ⟨k, hk8, rfl, hw⟩ := hrel
        clear HW
        by_cases hlt8 : k < 8
        · have kc := hw.c k hlt8
          have i0 : (0 : Int) ≤ (k : Int) := by omega
          have i1 : (k : Int) < 8 := by omega
          have hwr : IntKind.i64.wrap (k : Int) = (k : Int) := by simp only [IntKind.wrap, IntKind.bits, IntKind.signed]; simp; omega
          have CR1 : Hid (Calls Tryd.prog 10 #[.string (M.bs (cdW n k)), .slice (some ⟨wr.heap.size, 0, none⟩) 2 2] (wr.alloc (.cells #[.string (M.bs a), .string (M.bs b)] 9)) fun e w' => ∃ z : Nat, z ≤ 300 ∧ e = .returned (.tuple #[.agg #[.int .i64 0, .string (M.bs (wnW a b n k))], .int .i64 (z : Int)]) ∧ WD W (w2.heap.size + 1) (w2.heap.size + 1 + 1) a b n w') := by
            refine (CR.out k hlt8 wr hw.g).mono ?_
            rintro e w' ⟨z, hz, rfl, hb⟩
            exact ⟨z, hz, rfl, hw.below hb⟩
          have hbq : ((M.bs (wnW a b n k)).toList == (M.bs (wnW a b n k)).toList) = true := by simp
          have HLT : Hid (k < 8) := hlt8
          clear hw CR
          generalize M.bs (cdW n k) = bc at *
          obtain ⟨bw, hbw⟩ : ∃ bw, bw = M.bs (wnW a b n k) := ⟨_, rfl⟩
          have HV : Hid (∀ wq, WD W (w2.heap.size + 1) (w2.heap.size + 1 + 1) a b n wq → wq.cell? ⟨w2.heap.size + 1 + 1, k, none⟩ = some (.string bw)) := fun wq h => by rw [hbw]; exact h.v k HLT.out
          rw [← hbw] at CR1 hbq
          clear hbw
          go_wp2_with (go_at_call 10; refine CR1.out.mono ?_; clear CR1; rintro e w3 ⟨z, hz, rfl, hw3⟩; have HW3 : Hid (∀ o, WD W (w2.heap.size + 1) (w2.heap.size + 1 + 1) a b n (w3.alloc o)) := fun o => hw3.below ((Below.refl _ w3).alloc (Nat.le_refl _) o); have kv := fun o => HV.out _ (HW3.out o); clear hw3)
          go_quiet (fail)
          go_wp2_with fail
          go_roundw
          case rel => exact ⟨k + 1, by have := HLT.out; omega, by go_num, (HW3.out _).below (below_drewN (Below.refl _ _) _)⟩
          case measure => have := HLT.out; simp [intOf]; omega
        · obtain rfl : k = 8 := by omega
          have HG : Hid (GB W wr) := hw.g
          clear hw CR
          go_wp2_with fail
          go_ret
          exact ⟨rfl, HG.out.b⟩
set_option maxRecDepth 8000 in
set_option maxHeartbeats 8000000 in
theorem millWords_gene (a b : List UInt8) (n : UInt8) (W : World) (hG : GW W) (hT : Tab W) (ha : a.length ≤ 200) (hb : b.length ≤ 200) (hk : ¬ n.toNat < a.length) (hab : ¬ a = b) :
    Calls Tryd.prog 6 #[.string (M.bs a), .string (M.bs b), .int .u8 (n.toNat : Int)] W fun e w' => e = .returned (.bool true) ∧ Below W.heap.size W w' := by
  have CA : Hid (Calls Tryd.prog 9 #[] W fun e w' => e = .returned (.bool true) ∧ GB W w') := awake_m (GB.refl hG) hT
  have hsa := M.bs_size a
  have hsb := M.bs_size b
  have hn8 := n.toNat_lt
  have CO : Hid (∀ W', GB W W' → Calls Tryd.prog 15 #[.slice (some ⟨W'.heap.size, 0, none⟩) 1 1] (W'.alloc (.cells #[.string (M.bs a)] 9)) fun e w' => e = .returned (.agg (dg (S.sha a))) ∧ GB W w') := fun W' h => Of_g a 9 h (by omega)
  have CR : Hid (∀ k, k < 8 → ∀ W', GB W W' → Calls Tryd.prog 10 #[.string (M.bs (cdW n k)), .slice (some ⟨W'.heap.size, 0, none⟩) 2 2] (W'.alloc (.cells #[.string (M.bs a), .string (M.bs b)] 9)) fun e w' => ∃ z : Nat, z ≤ 300 ∧ e = .returned (.tuple #[.agg #[.int .i64 0, .string (M.bs (wnW a b n k))], .int .i64 (z : Int)]) ∧ Below W'.heap.size W' w') := fun k hk W' h => by
    obtain ⟨z, hz, e⟩ := run_word a b n ha hb k hk
    have := Run_b (cdW n k) [a, b] (some ⟨W'.heap.size, 0, none⟩) 2 (h.alloc (.cells #[.string (M.bs a), .string (M.bs b)] 9)) hT (tx_two _ _ _ _) (by have := cdW_len n k; omega) (by simp) (by simp; omega)
    rw [e] at this
    refine this.mono ?_
    rintro e w' ⟨rfl, h1, h2⟩
    exact ⟨z, hz, rfl, ((Below.refl _ W').alloc (Nat.le_refl _) _).trans (h2.mono (by simp))⟩
  have hl : (S.sha a).length = 32 := S.sha_length a
  have hD : Hid (∀ j (hj : j < (S.sha a).length), (dg (S.sha a))[j]? = some (.int .u8 ((S.sha a)[j].toNat : Int))) := fun j hj => by
    unfold dg
    rw [List.getElem?_toArray, List.getElem?_map, List.getElem?_eq_getElem hj]; rfl
  have hsD : (dg (S.sha a)).size = 32 := by rw [dg_size, hl]
  have h1 : Hid ((dg (S.sha a)).all (·.oneCell') = true) := by
    show _ = true
    rw [Array.all_eq_true_iff_forall_mem]
    intro v hv
    unfold dg at hv
    simp only [List.mem_toArray, List.mem_map] at hv
    obtain ⟨x, _, rfl⟩ := hv
    rfl
  have HNEW : Hid (∀ (w : World) (ba : ByteArray), GB W w → ba = M.bs a.reverse → WD W w.heap.size (w.heap.size + 1) a b n ((w.alloc (.cells #[.string ⟨#[105, 0, 105, 1, 99]⟩, .string ⟨#[105, 0, 114]⟩, .string (M.bs [105, 0, 116, n]), .string (M.bs [105, 0, 107, n]), .string ⟨#[105, 0, 105, 1, 61]⟩, .string ⟨#[105, 0, 104]⟩, .string ⟨#[105, 0, 105, 1, 115, 120]⟩, .string ⟨#[105, 0, 100, 99]⟩] 39)).alloc (.cells #[.string (M.bs (a ++ b)), .string ba, .string (M.bs a), .string ⟨#[]⟩, .string ⟨#[]⟩, .string (M.bs (S.sha a)), .string (M.bs b), .string (M.bs (a ++ a))] 39))) := fun w ba h hba =>
    WD.new h a b n _ _ _ _ _ (by rw [List.take_of_length_le (by omega)]) (by rw [List.drop_of_length_le (by omega)]; rfl) (by unfold Q.cmp; rw [if_neg hab]; rfl) hba rfl _
  have hcn : Hid (∀ (W : World) (T : TypeId), (convert 35 9 (.slice (some ⟨W.heap.size, 0, none⟩) 1 1)).run Tryd.prog (W.alloc (.cells #[.int .u8 (n.toNat : Int)] T)) = .ok (.string (M.bs [n])) (W.alloc (.cells #[.int .u8 (n.toNat : Int)] T))) := fun W T => conv1M W n _ T rfl
  have hqab := bs_eqM a b
  rw [decide_eq_false hab] at hqab

  have apab : M.bs a ++ M.bs b = M.bs (a ++ b) := bs_append a b
  have apaa : M.bs a ++ M.bs a = M.bs (a ++ a) := bs_append a a
  have ap1 : ⟨#[105, 0, 116]⟩ ++ M.bs [n] = M.bs [105, 0, 116, n] := bs_append [105, 0, 116] [n]
  have ap2 : ⟨#[105, 0, 107]⟩ ++ M.bs [n] = M.bs [105, 0, 107, n] := bs_append [105, 0, 107] [n]
  have szn : (M.bs [n]).size = 1 := M.bs_size _
  have HB0 : Hid (M.bs (a.take 0).reverse = ⟨#[]⟩) := by show _ = _; simp; rfl
  have HBA : Hid (M.bs (a.take a.length).reverse = M.bs a.reverse) := by show _ = _; rw [List.take_of_length_le (Nat.le_refl _)]
  generalize S.sha a = d at *
  generalize dg d = D at *
  have HST : Hid (∀ w' : World, (w'.alloc (.cells zero32 37)).heap[w'.heap.size]? = some (.cells zero32 37 (0, 0))) := fun w' => heap_alloc_new _ _
  have HCV : Hid (∀ (w' : World) (o : Obj), (convert 35 9 (.slice (some ⟨w'.heap.size, 0, none⟩) 32 32)).run Tryd.prog ((w'.alloc (.cells D 37)).alloc o) = .ok (.string (M.bs d)) ((w'.alloc (.cells D 37)).alloc o)) := fun w' o => by
    have := run_convert_bytes_back (P := Tryd.prog) ((w'.alloc (.cells D 37)).alloc o) 35 9 5 ⟨w'.heap.size, 0, none⟩ 32 d Tryd.underlying35 Tryd.underlying5 Tryd.underlying9 (fun j hj => by
      rw [Addr.add_mid, Nat.zero_add, World.cell?_of_block (w := w'.alloc (.cells D 37)) (Below.heap_alloc _ _ _ (by simp)), cell_of_row _ _ j D _ _ (heap_alloc_new _ _)]; exact hD.out j hj)
    rw [hl] at this
    exact this
  have hz := zero32_size
  clear hG hT hab
  go_enter Tryd.func6, Tryd.ntmps6
  go_wp2_with (go_at_call 9; refine CA.out.mono ?_; clear CA; rintro e w1 ⟨rfl, HG⟩; have hcv1 := hcn.out w1 5; have HG : Hid (GB W w1) := HG)
  go_loopw [11, 12] (fun u11 u12 wr => ∃ k : Nat, k ≤ a.length ∧ u11 = .string (M.bs (a.take k).reverse) ∧ u12 = .int .i64 (k : Int) ∧ GB W wr) (fun _ u12 _ => a.length - (intOf u12).toNat)
  case atStart => exact ⟨0, Nat.zero_le _, by rw [HB0.out], rfl, HG.out.alloc _⟩
  case round =>
    obtain ⟨k, hkl, rfl, rfl, hg⟩ := hrel
    clear HG hcv1
    have HG : Hid (GB W wr) := hg
    clear hg
    by_cases hlt : k < a.length
    · obtain ⟨x, hx⟩ : ∃ x, a[k]? = some x := ⟨a[k], List.getElem?_eq_getElem hlt⟩
      have hcut := cut_one a k x hx
      have hrs : M.bs [x] ++ M.bs (a.take k).reverse = M.bs (a.take (k + 1)).reverse := by rw [rev_succ a k x hx]; exact bs_append _ _
      have s1 : (M.bs [x]).size = 1 := M.bs_size _
      have s2 : (M.bs (a.take k).reverse).size = k := by rw [M.bs_size]; simp; omega
      have i1 : (k : Int) < (a.length : Int) := by omega
      clear hx CO CR HNEW apab apaa ap1 ap2 HBA HB0
      generalize M.bs (a.take k).reverse = P at *
      go_wp2_with fail
      go_roundw
      case rel => exact ⟨k + 1, by omega, by rfl, by go_num, HG.out⟩
      case measure => simp [intOf]; omega
    · obtain rfl : k = a.length := by omega
      have hba := HBA.out
      generalize M.bs (a.take a.length).reverse = ba at *
      have HB2 : Hid (ba = M.bs a.reverse) := hba
      clear hba HBA HB0 hkl
      go_wp2_with (first
        | (go_at_call 15; refine (CO.out _ HG.out).mono ?_; clear CO HG; rintro e w2 ⟨rfl, HG⟩; have HG : Hid (GB W w2) := HG; have hcv := HCV.out w2)
        | (refine wpList_store_row rfl 37 _ _ rfl w2.heap.size D rfl rfl 37 zero32 (HST.out w2) (by rw [hsD]; exact info27) (by rw [hz, hsD]) h1.out ?_; clear HST; rw [World.setRow_alloc_new]; have HW0 : Hid _ := HNEW.out (w2.alloc (.cells D 37)) ba (HG.out.alloc _) HB2.out))
      have HW : Hid (∀ wq, wq = _ → WD W (w2.heap.size + 1) (w2.heap.size + 1 + 1) a b n wq) := fun wq e => by
        have := HW0.out
        rw [show (w2.alloc (.cells D 37)).heap.size = w2.heap.size + 1 by simp] at this
        rw [e]; exact this
      clear HW0 HNEW HG hcv HCV HB2 hD apab apaa ap1 ap2 h1 hcn
      go_loopw [17, 18, 19] (fun u17 u18 u19 wr => ∃ k : Nat, k ≤ 8 ∧ u17 = .int .i64 (k : Int) ∧ WD W (w2.heap.size + 1) (w2.heap.size + 1 + 1) a b n wr) (fun u17 _ _ _ => 8 - (intOf u17).toNat)
      case atStart => exact ⟨0, by omega, rfl, HW.out _ rfl⟩
      case round =>
        obtain ⟨k, hk8, rfl, hw⟩ := hrel
        clear HW
        by_cases hlt8 : k < 8
        · have kc := hw.c k hlt8
          have i0 : (0 : Int) ≤ (k : Int) := by omega
          have i1 : (k : Int) < 8 := by omega
          have hwr : IntKind.i64.wrap (k : Int) = (k : Int) := by simp only [IntKind.wrap, IntKind.bits, IntKind.signed]; simp; omega
          have CR1 : Hid (Calls Tryd.prog 10 #[.string (M.bs (cdW n k)), .slice (some ⟨wr.heap.size, 0, none⟩) 2 2] (wr.alloc (.cells #[.string (M.bs a), .string (M.bs b)] 9)) fun e w' => ∃ z : Nat, z ≤ 300 ∧ e = .returned (.tuple #[.agg #[.int .i64 0, .string (M.bs (wnW a b n k))], .int .i64 (z : Int)]) ∧ WD W (w2.heap.size + 1) (w2.heap.size + 1 + 1) a b n w') := by
            refine (CR.out k hlt8 wr hw.g).mono ?_
            rintro e w' ⟨z, hz, rfl, hb⟩
            exact ⟨z, hz, rfl, hw.below hb⟩
          have hbq : ((M.bs (wnW a b n k)).toList == (M.bs (wnW a b n k)).toList) = true := by simp
          have HLT : Hid (k < 8) := hlt8
          clear hw CR
          generalize M.bs (cdW n k) = bc at *
          obtain ⟨bw, hbw⟩ : ∃ bw, bw = M.bs (wnW a b n k) := ⟨_, rfl⟩
          have HV : Hid (∀ wq, WD W (w2.heap.size + 1) (w2.heap.size + 1 + 1) a b n wq → wq.cell? ⟨w2.heap.size + 1 + 1, k, none⟩ = some (.string bw)) := fun wq h => by rw [hbw]; exact h.v k HLT.out
          rw [← hbw] at CR1 hbq
          clear hbw
          go_wp2_with (go_at_call 10; refine CR1.out.mono ?_; clear CR1; rintro e w3 ⟨z, hz, rfl, hw3⟩; have HW3 : Hid (∀ o, WD W (w2.heap.size + 1) (w2.heap.size + 1 + 1) a b n (w3.alloc o)) := fun o => hw3.below ((Below.refl _ w3).alloc (Nat.le_refl _) o); have kv := fun o => HV.out _ (HW3.out o); clear hw3)
          go_quiet (fail)
          go_wp2_with fail
          go_roundw
          case rel => exact ⟨k + 1, by have := HLT.out; omega, by go_num, (HW3.out _).below (below_drewN (Below.refl _ _) _)⟩
          case measure => have := HLT.out; simp [intOf]; omega
        · obtain rfl : k = 8 := by omega
          have HG : Hid (GB W wr) := hw.g
          clear hw CR
          go_wp2_with fail
          go_ret
          exact ⟨rfl, HG.out.b⟩
theorem millWords_walk (a b : List UInt8) (n : UInt8) (W : World) (hG : GW W) (hT : Tab W) (hal : a.length ≤ 9223372036854775807) (hbl : b.length ≤ 9223372036854775807) :
    Calls Tryd.prog 6 #[.string (M.bs a), .string (M.bs b), .int .u8 (n.toNat : Int)] W fun e w' => e = .returned (.bool true) ∧ Below W.heap.size W w' := by
  by_cases h : 200 < a.length ∨ 200 < b.length
  · exact millWords_wide a b n W hG hT h hal hbl
  · have ha : a.length ≤ 200 := by omega
    have hb : b.length ≤ 200 := by omega
    by_cases hk : n.toNat < a.length
    · by_cases hab : a = b
      · exact millWords_lteq a b n W hG hT ha hb hk hab
      · exact millWords_ltne a b n W hG hT ha hb hk hab
    · by_cases hab : a = b
      · exact millWords_geeq a b n W hG hT ha hb hk hab
      · exact millWords_gene a b n W hG hT ha hb hk hab
end Go.Proofs.YtodcafmhaleemaaDoor
