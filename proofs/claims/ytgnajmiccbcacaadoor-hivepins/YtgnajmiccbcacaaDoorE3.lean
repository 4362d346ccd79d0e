/- What hive.unseal answers. -/
import Derived.Test.YtgnajmiccbcacaaDoorE2
import Derived.Deep.RegionHeld3
namespace Go.Proofs.YtgnajmiccbcacaaDoor
open Go.RowKit
set_option linter.unusedVariables false
set_option linter.unusedSimpArgs false
attribute [local go_sem ↓] zero27

theorem take_bsV (s : List UInt8) (n : Nat) : (M.bs s).extract 0 n = M.bs (s.take n) := by
  rw [extract_bs]; simp
theorem hst32 (W : World) : (W.alloc (.cells zero32 33)).heap[W.heap.size]? = some (.cells zero32 33 (0, 0)) := heap_alloc_new _ _

set_option maxRecDepth 8000 in
set_option maxHeartbeats 1000000 in
theorem unseal_short (t : List UInt8) (w : World) (h : t.length < 32) :
    Calls Tryd.prog 71 #[.string (M.bs t)] w fun e w' => e = .returned (.tuple #[.agg zero32, .slice none 0 0, .bool false]) ∧ Below w.heap.size w w' := by
  have hz := M.bs_size t
  have h' : (t.length : Int) < 32 := by omega
  have hzs := zero32_size
  have HN : Hid ((w.alloc (.cells zero32 33)).heap[w.heap.size]? = some (.cells zero32 33 (0, 0))) := hst32 w
  have HB : Hid (Below w.heap.size w (w.alloc (.cells zero32 33))) := (Below.refl _ w).alloc (Nat.le_refl _) _
  have h1 : zero32.all (·.oneCell') = true := by rw [← zd_dg]; exact dg_one _
  clear h
  go_enter Tryd.func71, Tryd.ntmps71
  go_wp2_with (refine wpList_store_row rfl 33 _ _ rfl w.heap.size zero32 rfl rfl 33 zero32 HN.out (by rw [hzs]; exact info27) rfl h1 ?_)
  (try simp only [Exit.inBlock, Exit.then])
  refine bodyPost_ret (results3_rowV rfl _ _ _ 33 zero32 (0, 0) _ rfl (setRow_heap _ _ _ _ _ _ HN.out) und27 rfl (by rw [hzs]; exact info27)) rfl ?_
  exact ⟨rfl, below_setRow HB.out (Nat.le_refl _) _⟩

/-- what unseal answers: ck: the check's cells -/
def UN (o : Option (List (List UInt8))) (ck : Array Value) (e : Ending) (w' : World) : Prop :=
  match o with
  | none => e = .returned (.tuple #[.agg zero32, .slice none 0 0, .bool false])
  | some l => ∃ a c, e = .returned (.tuple #[.agg ck, .slice a l.length c, .bool true]) ∧ Strs w'.heap.size w' (.slice a l.length c) l
theorem strs_setRow {W : World} {g : Nat} {cs cs0 : Array Value} {T : TypeId} (hg : W.heap[g]? = some (.cells cs0 T (0, 0))) (h0 : ∀ s : ByteArray, Value.string s ∉ cs0.toList) {v : Value} {l : List (List UInt8)} (h : Strs W.heap.size W v l) : Strs (W.setRow g cs).heap.size (W.setRow g cs) v l := by
  have hz : (W.setRow g cs).heap.size = W.heap.size := by simp [World.setRow]
  rw [hz]
  rcases h with h | ⟨b, off, cap, rfl, hb, hc⟩
  · exact Or.inl h
  · by_cases hl : l = []
    · left; subst hl; exact ⟨rfl, _, _, rfl⟩
    · refine Or.inr ⟨b, off, cap, rfl, hb, fun i t ht => ?_⟩
      have hne : b ≠ g := fun e => by
        subst e
        have := hc i t ht
        rw [cell_of_row _ _ _ _ _ _ hg] at this
        exact h0 _ (by rw [Array.getElem?_eq_some_iff] at this; obtain ⟨hi, e⟩ := this; rw [← e]; simp)
      rw [← hc i t ht]
      refine World.cell?_of_block (w := W) ?_
      show (W.heap.modify g _)[b]? = _
      rw [Array.getElem?_modify, if_neg (fun e => hne e.symm)]
theorem zero32_nostr : ∀ s : ByteArray, Value.string s ∉ zero32.toList := fun s h => by simp [zero32] at h
set_option maxRecDepth 8000 in
set_option maxHeartbeats 2000000 in
theorem unseal_long (t : List UInt8) (w : World) (hG : GW w) (h : 32 ≤ t.length) (hl : t.length ≤ 640) :
    Calls Tryd.prog 71 #[.string (M.bs t)] w fun e w' => Below w.heap.size w w' ∧ UN (V.unsl t) (dg (t.take 32)) e w' := by
  have hz := M.bs_size t
  have h' : decide ((t.length : Int) < 32) = false := by simp; omega
  have hle : (t.length : Int) ≤ 640 := by omega
  have hle2 : (32 : Int) ≤ (t.length : Int) := by omega
  have hzs := zero32_size
  have hx1 := take_bsV t 32
  have hx2 : (M.bs t).extract 32 t.length = M.bs (t.drop 32) := by rw [← hz]; exact drop_bs t 32
  have hlt : (t.take 32).length = 32 := by simp; omega
  have hld : (t.drop 32).length ≤ 640 := by simp; omega
  have hu1 : V.unsl t = (if S.sha (t.drop 32) ≠ t.take 32 then none else match M.readRow (t.drop 32) 4 with | some (l, []) => some l | _ => none) := by
    unfold V.unsl; rw [if_neg (by omega)]; rfl
  obtain ⟨o, ho⟩ : ∃ o, V.unsl t = o := ⟨_, rfl⟩
  rw [ho]
  have hu2 := ho.symm.trans hu1
  clear ho
  generalize t.take 32 = T32 at *
  generalize t.drop 32 = D32 at *
  have HW : Hid (GB (w.alloc (.cells zero32 33)) (w.alloc (.cells zero32 33))) := GB.refl (hG.below ((Below.refl _ w).alloc (Nat.le_refl _) _) hG.z)
  have HE : Hid (∀ W, GB (w.alloc (.cells zero32 33)) W → Below w.heap.size w W ∧ W.heap[w.heap.size]? = some (.cells zero32 33 (0, 0))) := fun W hW =>
    ⟨((Below.refl _ w).alloc (Nat.le_refl _) _).trans (hW.b.mono (by simp)), by rw [hW.b.block _ (by simp)]; exact hst32 w⟩
  have h1 : zero32.all (·.oneCell') = true := by rw [← zd_dg]; exact dg_one _
  have CD : Hid (∀ W, GB (w.alloc (.cells zero32 33)) W → Calls Tryd.prog 87 #[.string (M.bs T32)] W fun e w' => e = .returned (.agg (dg T32)) ∧ GB (w.alloc (.cells zero32 33)) w') := fun W hW => by
    refine (digestOf_at T32 hlt W).mono ?_
    rintro e w' ⟨rfl, hb⟩; exact ⟨rfl, hW.step hb⟩
  have hDs : (dg T32).size = 32 := by rw [dg_size, hlt]
  have hD1 := dg_one T32
  have HST : Hid (∀ W : World, (W.alloc (.cells zero32 33)).heap[W.heap.size]? = some (.cells zero32 33 (0, 0))) := hst32
  have hui := und27
  have hi : (Tryd.prog.info? 33).map (·.size) = some (T32.map vb).length := by rw [info27, List.length_map, hlt]
  obtain ⟨q, hq⟩ : ∃ q, decide (S.sha D32 = T32) = q := ⟨_, rfl⟩
  have hEQ : ∀ W, (Op.equalIn 10000 33 (.agg (dg (S.sha D32))) (.agg (T32.map vb).toArray)).run Tryd.prog W = .ok q W := fun W => by rw [← hq]; exact eqDg (S.sha D32) T32 (S.sha_length _) hlt W
  have CRn : Hid (M.readRow D32 4 = none → ∀ W, GB (w.alloc (.cells zero32 33)) W → Calls Tryd.prog 88 #[.string (M.bs D32), .int .i64 4] W fun e w' => e = .returned (.tuple #[.slice none 0 0, .string ⟨#[]⟩, .bool false]) ∧ GB (w.alloc (.cells zero32 33)) w') := fun hR W hW => by
    refine (readRow_none D32 4 (by omega) (Or.inl (by omega)) hR (Bl.refl W)).mono ?_
    rintro e w' ⟨rfl, hb⟩; exact ⟨rfl, hW.step hb⟩
  have CRy : Hid (∀ l r, M.readRow D32 4 = some (l, r) → ∀ W, GB (w.alloc (.cells zero32 33)) W → Calls Tryd.prog 88 #[.string (M.bs D32), .int .i64 4] W fun e w' => ∃ a c, e = .returned (.tuple #[.slice a l.length c, .string (M.bs r), .bool true]) ∧ Strs w'.heap.size w' (.slice a l.length c) l ∧ GB (w.alloc (.cells zero32 33)) w' ∧ Below W.heap.size W w') := fun l r hR W hW => by
    refine (readRow_yes D32 4 (by omega) (Or.inl (by omega)) l r hR (Bl.refl W)).mono ?_
    rintro e w' ⟨a, c, rfl, hs, hb⟩; exact ⟨a, c, rfl, hs, hW.step hb, hb⟩
  have HIF : Hid (∀ W, GB (w.alloc (.cells zero32 33)) W → GB (w.alloc (.cells zero32 33)) (W.alloc (.cells (dg T32) 33))) := fun W hW => hW.alloc _
  have HRG : Hid (∀ (W W' : World), Below (W.heap.size + 1) (W.alloc (.cells (dg T32) 33)) W' → W'.rangeAt W.heap.size 0 (T32.map vb)) := fun W W' hW' => by
    refine range_part (C := dg T32) (T := 33) ?_ [] (T32.map vb) [] 0 (by simp [dg]) rfl
    rw [hW'.block _ (by omega)]; exact heap_alloc_new _ _
  have HKP : Hid (∀ (W1 W : World), (GB (w.alloc (.cells zero32 33)) W ∧ Below (W1.heap.size + 1) (W1.alloc (.cells (dg T32) 33)) W) → ((GB (w.alloc (.cells zero32 33)) W ∧ Below (W1.heap.size + 1) (W1.alloc (.cells (dg T32) 33)) W) ∧ W.rangeAt W1.heap.size 0 (T32.map vb))) := fun W1 W h => ⟨h, HRG.out _ _ h.2⟩
  have HS0 : Hid (∀ W1 : World, GB (w.alloc (.cells zero32 33)) W1 → (GB (w.alloc (.cells zero32 33)) (W1.alloc (.cells (dg T32) 33)).drew ∧ Below (W1.heap.size + 1) (W1.alloc (.cells (dg T32) 33)) (W1.alloc (.cells (dg T32) 33)).drew)) := fun W1 h => ⟨(h.alloc _).step ((Below.refl _ _).drew), (Below.refl _ _).drew⟩
  have HS2 : Hid (∀ W1 : World, GB (w.alloc (.cells zero32 33)) W1 → (GB (w.alloc (.cells zero32 33)) ((W1.alloc (.cells (dg T32) 33)).alloc (.cells #[.string (M.bs D32)] 9)).drew ∧ Below (W1.heap.size + 1) (W1.alloc (.cells (dg T32) 33)) ((W1.alloc (.cells (dg T32) 33)).alloc (.cells #[.string (M.bs D32)] 9)).drew)) := fun W1 h =>
    ⟨((h.alloc _).alloc _).step ((Below.refl _ _).drew), ((Below.refl _ _).alloc (by simp) _).drew⟩
  have CO : Hid (∀ W1 : World, GB (w.alloc (.cells zero32 33)) W1 → Calls Tryd.prog 16 #[.slice (some ⟨W1.heap.size + 1, 0, none⟩) 1 1] ((W1.alloc (.cells (dg T32) 33)).alloc (.cells #[.string (M.bs D32)] 9)).drew fun e w' => e = .returned (.agg (dg (S.sha D32))) ∧ (GB (w.alloc (.cells zero32 33)) w' ∧ Below (W1.heap.size + 1) (W1.alloc (.cells (dg T32) 33)) w')) := fun W1 hW => by
    have hsz : (W1.alloc (.cells (dg T32) 33)).drew.heap.size = W1.heap.size + 1 := by simp [World.drew]
    have hC := Of_g D32 9 (GB.refl ((hW.alloc (.cells (dg T32) 33)).step ((Below.refl _ _).drew)).g) (by omega)
    rw [hsz] at hC
    refine Calls.mono hC ?_
    rintro e w' ⟨rfl, hg⟩
    exact ⟨rfl, ((hW.alloc _).step ((Below.refl _ _).drew)).step hg.b, ((Below.refl _ _).drew).trans (hg.b.mono (by omega))⟩
  have HO : Hid (o = _) := hu2
  clear hu2
  generalize dg T32 = DA at *
  clear hG hl hu1 hlt hld
  go_enter Tryd.func71, Tryd.ntmps71
  go_wp2_with (first
    | (go_at_call 87; refine (CD.out _ HW.out).mono ?_; clear CD HW; rintro e w1 ⟨rfl, HB1⟩)
    | (refine wpList_store_row rfl 33 _ _ rfl w1.heap.size DA rfl rfl 33 zero32 (HST.out w1) (by rw [hDs]; exact info27) (by rw [hDs, hzs]) hD1 ?_; clear HST; rw [World.setRow_alloc_new]))
  have HS1 := HS0.out _ HB1
  have HS2 := HS2.out _ HB1
  have CO := CO.out _ HB1
  clear HS0
  go_region_held3 (fun W => (GB (w.alloc (.cells zero32 33)) W ∧ Below (w1.heap.size + 1) (w1.alloc (.cells DA 33)) W) ∧ W.rangeAt w1.heap.size 0 (T32.map vb))
    (first | exact HKP.out _ _ HS | exact HKP.out _ _ HS1 | exact HKP.out _ _ HS2)
    ((go_at_call 16; refine CO.mono ?_; rintro e w' ⟨rfl, HS⟩))
  have HN : Hid _ := (HE.out _ HS.1).2
  have HF : Hid _ := (HE.out _ HS.1).1
  have HRN : Hid (∀ W', GB (w.alloc (.cells zero32 33)) W' → Below w'.heap.size w' W' → W'.heap[w1.heap.size]? = some (.cells DA 33 (0, 0))) := fun W' _ hb => by
    have hsz : w1.heap.size + 1 ≤ w'.heap.size := by have := HS.2.size; simp at this; exact this
    rw [hb.block _ (by omega), HS.2.block _ (by omega)]; exact heap_alloc_new _ _
  have HS' : Hid _ := HS.1
  clear HS hEQ
  cases q
  · have hq' : S.sha D32 ≠ T32 := by simpa using hq
    clear CRn CRy hq
    go_wp2_with (refine wpList_store_row rfl 33 _ _ rfl w.heap.size zero32 rfl rfl 33 zero32 HN.out (by rw [hzs]; exact info27) rfl h1 ?_)
    (try simp only [Exit.inBlock, Exit.then])
    refine bodyPost_ret (results3_rowV rfl _ _ _ 33 zero32 (0, 0) _ rfl (setRow_heap _ _ _ _ _ _ HN.out) und27 rfl (by rw [hzs]; exact info27)) rfl ?_
    refine ⟨below_setRow HF.out (Nat.le_refl _) _, ?_⟩
    rw [HO.out, if_pos hq']
    rfl
  · have hq' : S.sha D32 = T32 := by simpa using hq
    have HQ : Hid (S.sha D32 = T32) := hq'
    clear hq hq'
    cases hR : M.readRow D32 4 with
    | none =>
      have CR := CRn.out hR
      have CR : Hid _ := CR
      have HR : Hid _ := hR
      clear CRn CRy hR HN HF
      go_wp2_with (first
        | (go_at_call 88; refine (CR.out _ HS'.out).mono ?_; clear CR; rintro e w2 ⟨rfl, HB2⟩; have HN : Hid _ := (HE.out _ HB2).2; have HF : Hid _ := (HE.out _ HB2).1)
        | (refine wpList_store_row rfl 33 _ _ rfl w.heap.size zero32 rfl rfl 33 zero32 HN.out (by rw [hzs]; exact info27) rfl h1 ?_))
      (try simp only [Exit.inBlock, Exit.then])
      refine bodyPost_ret (results3_rowV rfl _ _ _ 33 zero32 (0, 0) _ rfl (setRow_heap _ _ _ _ _ _ HN.out) und27 rfl (by rw [hzs]; exact info27)) rfl ?_
      refine ⟨below_setRow HF.out (Nat.le_refl _) _, ?_⟩
      rw [HO.out, if_neg (by simpa using HQ.out), HR.out]
      rfl
    | some x =>
      obtain ⟨l, r⟩ := x
      have CR := CRy.out l r hR
      have CR : Hid _ := CR
      have HR : Hid _ := hR
      clear CRn CRy hR HN HF
      by_cases hr : r = []
      · have hne := bs_nil
        rw [hr] at CR
        have HRr : Hid (r = []) := hr
        clear hr
        go_wp2_with (first
          | (go_at_call 88; refine (CR.out _ HS'.out).mono ?_; clear CR; rintro e w2 ⟨a, c, rfl, HST2, HB2, HBB⟩; have HN : Hid _ := (HE.out _ HB2).2; have HF : Hid _ := (HE.out _ HB2).1; have HD : Hid _ := HRN.out _ HB2 HBB; have HST2 : Hid _ := HST2)
          | (refine wpList_load_row rfl 33 _ rfl w1.heap.size rfl 33 DA (0, 0) _ HD.out und27 rfl (by rw [hDs]; exact info27) ?_)
          | (refine wpList_store_row rfl 33 _ _ rfl w.heap.size DA rfl rfl 33 zero32 HN.out (by rw [hDs]; exact info27) (by rw [hDs, hzs]) hD1 ?_))
        (try simp only [Exit.inBlock, Exit.then])
        refine bodyPost_ret (results3_rowV rfl _ _ _ 33 DA (0, 0) _ rfl (setRow_heap _ _ _ _ _ _ HN.out) und27 rfl (by rw [hDs]; exact info27)) rfl ?_
        refine ⟨below_setRow HF.out (Nat.le_refl _) _, ?_⟩
        rw [HO.out, if_neg (by simpa using HQ.out), HR.out, HRr.out]
        exact ⟨a, c, rfl, strs_setRow HN.out zero32_nostr HST2.out⟩
      · have hne := bs_ne r (by cases r with | nil => exact absurd rfl hr | cons => simp)
        have HRr : Hid (r ≠ []) := hr
        clear hr
        go_wp2_with (first
          | (go_at_call 88; refine (CR.out _ HS'.out).mono ?_; clear CR; rintro e w2 ⟨a, c, rfl, HST2, HB2, HBB⟩; have HN : Hid _ := (HE.out _ HB2).2; have HF : Hid _ := (HE.out _ HB2).1)
          | (refine wpList_store_row rfl 33 _ _ rfl w.heap.size zero32 rfl rfl 33 zero32 HN.out (by rw [hzs]; exact info27) rfl h1 ?_))
        (try simp only [Exit.inBlock, Exit.then])
        refine bodyPost_ret (results3_rowV rfl _ _ _ 33 zero32 (0, 0) _ rfl (setRow_heap _ _ _ _ _ _ HN.out) und27 rfl (by rw [hzs]; exact info27)) rfl ?_
        refine ⟨below_setRow HF.out (Nat.le_refl _) _, ?_⟩
        have e : o = none := by
          rw [HO.out, if_neg (by simpa using HQ.out), HR.out]
          cases r with
          | nil => exact absurd rfl HRr.out
          | cons => rfl
        rw [e]
        rfl
end Go.Proofs.YtgnajmiccbcacaaDoor
