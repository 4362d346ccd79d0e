/- Sync, On, New. -/
import Derived.Test.YtgnajmiccbcacaaDoorH3
namespace Go.Proofs.YtgnajmiccbcacaaDoor
open Go.RowKit
set_option linter.unusedVariables false

/-- the first k of l', the others of l -/
def mixK {α : Type} (l l' : List α) (k : Nat) : List α := l'.take k ++ l.drop k
theorem mixK_zero {α : Type} (l l' : List α) : mixK l l' 0 = l := by simp [mixK]
theorem mixK_all {α : Type} (l l' : List α) (k : Nat) (h : l'.length = l.length) (hk : k = l.length) : mixK l l' k = l' := by
  unfold mixK; rw [List.take_of_length_le (by omega), List.drop_of_length_le (by omega), List.append_nil]
theorem mixK_length {α : Type} (l l' : List α) (k : Nat) (h : l'.length = l.length) : (mixK l l' k).length = l.length := by
  unfold mixK; simp; omega
theorem mixK_at {α : Type} (l l' : List α) (k : Nat) (h : l'.length = l.length) (s : α) (hs : l[k]? = some s) : (mixK l l' k)[k]? = some s := by
  have hk : k < l.length := (List.getElem?_eq_some_iff.1 hs).1
  unfold mixK
  rw [List.getElem?_append_right (by simp; omega), List.getElem?_drop]
  rw [← hs]; congr 1; simp; omega
theorem mixK_set {α : Type} (l l' : List α) (k : Nat) (h : l'.length = l.length) (s' : α) (hs : l'[k]? = some s') : (mixK l l' k).set k s' = mixK l l' (k + 1) := by
  have hk : k < l'.length := (List.getElem?_eq_some_iff.1 hs).1
  unfold mixK
  rw [List.set_append_right _ _ (by simp; omega), List.take_add_one, hs]
  have e : k - (l'.take k).length = 0 := by simp; omega
  rw [e, List.drop_eq_getElem_cons (by omega : k < l.length), List.append_assoc]
  rfl

theorem act_sl (st : H.Sh) : (H.act st).sl = st.sl := by
  unfold H.act
  by_cases h : st.arm = 0
  · rw [if_pos h]
  · rw [if_neg h]
    by_cases h2 : st.arm = 1
    · rw [if_pos h2]
    · rw [if_neg h2]
theorem syncL_at (l : List H.Sl) (k : Nat) (s : H.Sl) (h : l[k]? = some s) : (l.map (fun s => H.settle s.text))[k]? = some (H.settle s.text) := by simp [h]

/-- Sync: refused -/
theorem Sync_down {w W : World} {b c : Nat} {st : H.Sh} (h : SW w b c st W) (ho : st.off = true) :
    Calls Tryd.prog 48 #[.pointer (some ⟨b, 0, none⟩)] W fun e w' => e = .returned (.int .i64 10) ∧ w' = W := by
  have C1 := reach_at h
  rw [show reachE st = 10 by simp [reachE, ho]] at C1
  have C : Hid (Calls Tryd.prog 60 #[.pointer (some ⟨b, 0, none⟩)] W fun e w' => e = .returned (.int .i64 10) ∧ w' = W) := C1
  clear h C1 ho
  go_enter Tryd.func48, Tryd.ntmps48
  go_wp2_with (go_at_call 60; refine C.out.mono ?_; rintro e w' ⟨rfl, rfl⟩)
  go_ret
  exact ⟨rfl, rfl⟩
/-- Sync: the power goes in it -/
theorem Sync_cut {w W : World} {b c : Nat} {st : H.Sh} (h : SW w b c st W) (ho : st.off = false) (hm : Sm st) (ha : st.arm = 1) :
    Calls Tryd.prog 48 #[.pointer (some ⟨b, 0, none⟩)] W fun e w' => e = .returned (.int .i64 10) ∧ SW w b c (H.act st) w' := by
  have C1 := reach_at h
  rw [show reachE st = 0 by simp [reachE, ho]] at C1
  have C : Hid (Calls Tryd.prog 60 #[.pointer (some ⟨b, 0, none⟩)] W fun e w' => e = .returned (.int .i64 0) ∧ w' = W) := C1
  have C2 := act_at h ho hm.l hm.a hm.m
  rw [show H.lasts st = false by simp [H.lasts, ha]] at C2
  have CA : Hid (Calls Tryd.prog 44 #[.pointer (some ⟨b, 0, none⟩)] W fun e w' => e = .returned (.bool false) ∧ SW w b c (H.act st) w') := C2
  clear h C1 C2 ho ha hm
  go_enter Tryd.func48, Tryd.ntmps48
  go_wp2_with (first
    | (go_at_call 60; refine C.out.mono ?_; rintro e w' ⟨rfl, rfl⟩)
    | (go_at_call 44; refine CA.out.mono ?_; rintro e w' ⟨rfl, HG⟩))
  go_ret
  exact ⟨rfl, HG⟩
set_option maxHeartbeats 1000000 in
/-- Sync: done -/
theorem Sync_at {w W : World} {b c : Nat} {st : H.Sh} (h : SW w b c st W) (ho : st.off = false) (hm : Sm st) (ha : st.arm ≠ 1) :
    Calls Tryd.prog 48 #[.pointer (some ⟨b, 0, none⟩)] W fun e w' => e = .returned (.int .i64 0) ∧ SW w b c (H.sync (H.act st)) w' := by
  have C1 := reach_at h
  rw [show reachE st = 0 by simp [reachE, ho]] at C1
  have C : Hid (Calls Tryd.prog 60 #[.pointer (some ⟨b, 0, none⟩)] W fun e w' => e = .returned (.int .i64 0) ∧ w' = W) := C1
  have C2 := act_at h ho hm.l hm.a hm.m
  rw [show H.lasts st = true by simp [H.lasts, ha]] at C2
  have hn : (H.act st).sl.length ≤ 128 := by
    have := hm.n
    have e : (H.act st).sl = st.sl := act_sl st
    rw [e]; exact this
  obtain ⟨u, hu⟩ : ∃ u, u = H.act st := ⟨_, rfl⟩
  rw [← hu] at C2 hn ⊢
  have CA : Hid (Calls Tryd.prog 44 #[.pointer (some ⟨b, 0, none⟩)] W fun e w' => e = .returned (.bool true) ∧ SW w b c u w') := C2
  clear h C1 C2 ho ha hm hu
  unfold H.sync
  obtain ⟨l', hl'⟩ : ∃ l', l' = u.sl.map (fun s => H.settle s.text) := ⟨_, rfl⟩
  have HL : Hid (l'.length = u.sl.length) := by show _ = _; rw [hl']; simp
  have HA : Hid (∀ (k : Nat) (s : H.Sl), u.sl[k]? = some s → l'[k]? = some (H.settle s.text)) := fun k s h => by rw [hl']; exact syncL_at _ _ _ h
  rw [← hl']
  clear hl'
  go_enter Tryd.func48, Tryd.ntmps48
  go_wp2_with (first
    | (go_at_call 60; refine C.out.mono ?_; rintro e w' ⟨rfl, rfl⟩)
    | (go_at_call 44; refine CA.out.mono ?_; rintro e w1 ⟨rfl, HG⟩; have k4 := HG.c4))
  have HG' : Hid (SW w b c u w1) := HG
  clear HG k4 C CA
  go_loopw [4, 20] (fun u4 u20 wr => ∃ k : Nat, k ≤ u.sl.length ∧ u20 = .int .i64 k ∧ SW w b c { u with sl := mixK u.sl l' k } wr) (fun _ u20 _ => u.sl.length - (intOf u20).toNat)
  case atStart => exact ⟨0, Nat.zero_le _, rfl, by rw [mixK_zero]; exact HG'.out⟩
  case round =>
    obtain ⟨k, hk, rfl, hS⟩ := hrel
    clear HG'
    have HS : Hid (SW w b c { u with sl := mixK u.sl l' k } wr) := hS
    by_cases hlt : k < u.sl.length
    · obtain ⟨s, hs⟩ : ∃ s, u.sl[k]? = some s := ⟨u.sl[k], List.getElem?_eq_getElem hlt⟩
      have hsk := mixK_at u.sl l' k HL.out s hs
      have k4 := hS.c4
      have k0 := hS.t0 hsk
      have el : (mixK u.sl l' k).length = u.sl.length := mixK_length _ _ _ HL.out
      simp only [el] at k4
      have CS : Hid (∀ W2, SW w b c { u with sl := mixK u.sl l' k } W2 → Calls Tryd.prog 41 #[.pointer (some ⟨c, k * 3, none⟩), .string (M.bs s.text)] W2 fun e w' => e = .returned (.tuple #[]) ∧ SW w b c { u with sl := mixK u.sl l' (k + 1) } w') := fun W2 h2 => by
        have := settle_at h2 hsk s.text
        rwa [show (mixK u.sl l' k).set k (H.settle s.text) = mixK u.sl l' (k + 1) from mixK_set _ _ _ HL.out _ (HA.out k s hs)] at this
      have i0 : (0 : Int) ≤ (k : Int) := by omega
      have i1 : (k : Int) < (u.sl.length : Int) := by omega
      clear hS hs hsk el
      go_wp2_with fail
      go_region_with (go_at_call 41; refine (CS.out _ (by first | exact HS.out | exact HS.out.drew | exact HS.out.drewN _)).mono ?_; rintro e w2 ⟨rfl, HG⟩)
      all_goals
        go_wp2_with fail
        go_roundw
        case rel => exact ⟨k + 1, by omega, by go_num, HG⟩
        case measure => simp [intOf]; omega
    · have hkk : k = u.sl.length := by omega
      have HQ : SW w b c { u with sl := l' } wr := by have := HS.out; rwa [mixK_all _ _ _ HL.out hkk] at this
      clear hS HS HL HA
      clear hkk
      have hdf : decide ((k : Int) < (u.sl.length : Int)) = false := by simp; omega
      go_wp2_with fail
      go_ret
      exact ⟨rfl, HQ⟩

theorem back_at (F : List Int) (l : List H.Sl) (k : Nat) (s : H.Sl) (h : l[k]? = some s) : (l.mapIdx (H.back F l))[k]? = some (H.back F l k s) := by simp [h]
theorem on_length (F : List Int) (l : List H.Sl) : (l.mapIdx (H.back F l)).length = l.length := by simp
theorem left_le (s : H.Sl) (f : Int) (h1 : s.text.length ≤ 640) (h2 : s.sure.length ≤ 640) : (H.left s f).length ≤ 640 := by
  unfold H.left
  split
  · exact h2
  · split
    · exact h1
    · simp; omega
/-- fates as a slice of numbers, read in the world w, outside of the blocks b and c -/
def FT (w : World) (b c : Nat) (a : Option Addr) (F : List Int) : Prop := ∀ i x, F[i]? = some x → ∃ sb off, a = some ⟨sb, off, none⟩ ∧ sb < w.heap.size ∧ sb ≠ b ∧ sb ≠ c ∧ w.cell? ⟨sb, off + i, none⟩ = some (.int .i64 x)
theorem tmod_nat (x n : Nat) : Int.tmod (x : Int) (n : Int) = ((x % n : Nat) : Int) := rfl
theorem On_on {w W : World} {b c : Nat} {st : H.Sh} (h : SW w b c st W) (ho : st.off = false) (v : Value) :
    Calls Tryd.prog 14 #[.pointer (some ⟨b, 0, none⟩), v] W fun e w' => e = .returned (.tuple #[]) ∧ ∃ n, w' = W.drewN n := by
  have k0 := h.c0
  rw [ho] at k0
  clear h ho
  go_enter Tryd.func14, Tryd.ntmps14
  go_wp2_with fail
  refine bodyPost_ret (results_none rfl _ _ _) rfl ?_
  exact ⟨rfl, 0, rfl⟩
set_option maxHeartbeats 2000000 in
theorem On_some {w W : World} {b c : Nat} {st : H.Sh} (h : SW w b c st W) (ho : st.off = true) (hm : Sm st) (F : List Int) (a : Option Addr) (cap : Nat) (HF : Hid (FT w b c a F)) (h0 : 0 < F.length) (hl : F.length ≤ 9223372036854775807) (hb : ∀ x ∈ F, -9223372036854775808 ≤ x ∧ x ≤ 9223372036854775807) :
    Calls Tryd.prog 14 #[.pointer (some ⟨b, 0, none⟩), .slice a F.length cap] W fun e w' => e = .returned (.tuple #[]) ∧ SW w b c { st with off := false, sl := st.sl.mapIdx (H.back F st.sl) } w' := by
  have k0 := h.c0
  have k4 := h.c4
  have f := h.fb
  rw [ho] at k0
  have HH : Hid (SW w b c st W) := h
  obtain ⟨l', hl'⟩ : ∃ l', l' = st.sl.mapIdx (H.back F st.sl) := ⟨_, rfl⟩
  have HL : Hid (l'.length = st.sl.length) := by show _ = _; rw [hl']; simp
  have HA : Hid (∀ (k : Nat) (s : H.Sl), st.sl[k]? = some s → l'[k]? = some (H.back F st.sl k s)) := fun k s h => by rw [hl']; exact back_at _ _ _ _ h
  rw [← hl']
  clear hl'
  have hz0 : ((F.length : Int) == 0) = false := beq_eq_false_iff_ne.2 (by omega)
  clear h ho
  go_enter Tryd.func14, Tryd.ntmps14
  go_wp2_with fail
  have HG : Hid (SW w b c { st with off := false } (W.setCell ⟨b, 0, none⟩ (.bool false))) := SW.pow HH.out _ _ _ rfl rfl
  generalize W.setCell ⟨b, 0, none⟩ (.bool false) = W1 at *
  clear k0 k4 f HH
  go_loopw [4, 5, 6, 30] (fun u4 u5 u6 u30 wr => ∃ k : Nat, k ≤ st.sl.length ∧ u30 = .int .i64 k ∧ u4 = .int .i64 (H.nx st.sl k : Int) ∧ SW w b c { st with off := false, sl := mixK st.sl l' k } wr) (fun _ _ _ u30 _ => st.sl.length - (intOf u30).toNat)
  case atStart => exact ⟨0, Nat.zero_le _, rfl, rfl, by rw [mixK_zero]; exact HG.out⟩
  case round =>
    obtain ⟨k, hk, rfl, rfl, hS⟩ := hrel
    clear HG
    have HS : Hid (SW w b c { st with off := false, sl := mixK st.sl l' k } wr) := hS
    by_cases hlt : k < st.sl.length
    · obtain ⟨s, hs⟩ : ∃ s, st.sl[k]? = some s := ⟨st.sl[k], List.getElem?_eq_getElem hlt⟩
      have hsk := mixK_at st.sl l' k HL.out s hs
      have k4 := hS.c4
      have k2 := hS.t2 hsk
      have el : (mixK st.sl l' k).length = st.sl.length := mixK_length _ _ _ HL.out
      simp only [el] at k4
      have hmn := hm.n
      have hx := H.nx_le st.sl k
      have hx2 := H.nx_succ st.sl k s hs
      have i0 : (0 : Int) ≤ (k : Int) := by omega
      have i1 : (k : Int) < (st.sl.length : Int) := by omega
      have hset := mixK_set st.sl l' k HL.out _ (HA.out k s hs)
      obtain ⟨j, hj⟩ : ∃ j, j = H.nx st.sl k % F.length := ⟨_, rfl⟩
      have hjl : j < F.length := by rw [hj]; exact Nat.mod_lt _ h0
      cases hun : s.un
      · rw [hun] at k2
        have eb : H.back F st.sl k s = s := by simp [H.back, hun]
        rw [eb] at hset
        have es : (mixK st.sl l' k).set k s = mixK st.sl l' k := by
          apply List.ext_getElem?
          intro q
          by_cases hq : k = q
          · subst hq; rw [List.getElem?_set_self (by omega), hsk]
          · rw [List.getElem?_set_ne hq]
        rw [es] at hset
        have HS2 : Hid (SW w b c { st with off := false, sl := mixK st.sl l' (k + 1) } wr) := by rw [← hset]; exact HS.out
        have HX : Hid (H.nx st.sl (k + 1) = H.nx st.sl k) := by show _ = _; rw [hx2, hun]; rfl
        clear hset es eb hS hs hsk el hx2 hj
        go_wp2_with fail
        go_roundw
        case rel => exact ⟨k + 1, by omega, by go_num, by rw [HX.out], HS2.out⟩
        case measure => simp [intOf]; omega
      · rw [hun] at k2
        have eb : H.back F st.sl k s = H.settle (H.left s (F.getD j 0)) := by simp [H.back, hun, hj]
        rw [eb] at hset
        obtain ⟨f, hf⟩ : ∃ f, F[j]? = some f := ⟨F[j], List.getElem?_eq_getElem hjl⟩
        have hfd : F.getD j 0 = f := by rw [List.getD_eq_getElem?_getD, hf]; rfl
        rw [hfd] at hset
        obtain ⟨sb, off, rfl, hsb, n1, n2, hcell⟩ := HF.out j f hf
        have hc : wr.cell? ⟨sb, off + j, none⟩ = some (.int .i64 f) := by rw [hS.o.cell (p := ⟨sb, off + j, none⟩) hsb n1 n2]; exact hcell
        obtain ⟨b1, b2⟩ := hb f (List.mem_of_getElem? hf)
        obtain ⟨t1, t2⟩ := hm.t k s hs
        have CL : Hid (Calls Tryd.prog 42 #[.pointer (some ⟨c, k * 3, none⟩), .int .i64 f] wr fun e w' => e = .returned (.string (M.bs (H.left s f))) ∧ ∃ n, w' = wr.drewN n) := left_at hS hsk t1 t2 f b1 b2
        have CS : Hid (∀ W2, SW w b c { st with off := false, sl := mixK st.sl l' k } W2 → Calls Tryd.prog 41 #[.pointer (some ⟨c, k * 3, none⟩), .string (M.bs (H.left s f))] W2 fun e w' => e = .returned (.tuple #[]) ∧ SW w b c { st with off := false, sl := mixK st.sl l' (k + 1) } w') := fun W2 h2 => by
          have := settle_at h2 hsk (H.left s f)
          rwa [show (mixK st.sl l' k).set k (H.settle (H.left s f)) = mixK st.sl l' (k + 1) from hset] at this
        have HX : Hid (H.nx st.sl (k + 1) = H.nx st.sl k + 1) := by show _ = _; rw [hx2, hun]; rfl
        have hr : Int.tmod (H.nx st.sl k : Int) (F.length : Int) = (j : Int) := by rw [tmod_nat, hj]
        have hz : ((F.length : Int) == 0) = false := beq_eq_false_iff_ne.2 (by omega)
        have j0 : (0 : Int) ≤ (j : Int) := by omega
        have j1 : (j : Int) < (F.length : Int) := by omega
        clear hset eb hS hs hsk el hx2 hj hf hfd hcell
        have hxi : (H.nx st.sl k : Int) ≤ 128 := by omega
        go_wp2_with (first
          | (go_at_call 42; refine CL.out.mono ?_; rintro e w2 ⟨rfl, n, rfl⟩)
          | (go_at_call 41; refine (CS.out _ (HS.out.drewN n)).mono ?_; rintro e w2 ⟨rfl, HG⟩))
        go_roundw
        case rel => exact ⟨k + 1, by omega, by go_num, by rw [HX.out]; go_num, HG⟩
        case measure => simp [intOf]; omega
    · have hkk : k = st.sl.length := by omega
      have HQ : SW w b c { st with off := false, sl := l' } wr := by have := HS.out; rwa [mixK_all _ _ _ HL.out hkk] at this
      clear hS HS HL HA
      clear hkk
      have hdf : decide ((k : Int) < (st.sl.length : Int)) = false := by simp; omega
      go_wp2_with fail
      refine bodyPost_end (results_none rfl _ _ _) rfl ?_
      exact ⟨rfl, HQ⟩

set_option maxHeartbeats 2000000 in
theorem On_none {w W : World} {b c : Nat} {st : H.Sh} (h : SW w b c st W) (ho : st.off = true) (hm : Sm st) (a : Option Addr) (cap : Nat) :
    Calls Tryd.prog 14 #[.pointer (some ⟨b, 0, none⟩), .slice a 0 cap] W fun e w' => e = .returned (.tuple #[]) ∧ SW w b c { st with off := false, sl := st.sl.mapIdx (H.back [0] st.sl) } w' := by
  have k0 := h.c0
  have k4 := h.c4
  have f := h.fb
  rw [ho] at k0
  have HW : Hid (SW w b c { st with off := false } ((W.setCell ⟨b, 0, none⟩ (.bool false)).alloc (.cells #[.int .i64 0] 3))) := by
    have h1 : SW w b c { st with off := false } (W.setCell ⟨b, 0, none⟩ (.bool false)) := SW.pow h _ _ _ rfl rfl
    exact h1.alloc _
  have hlb := h.ltb
  have hlc := h.ltc
  have HF : Hid (FT ((W.setCell ⟨b, 0, none⟩ (.bool false)).alloc (.cells #[.int .i64 0] 3)) b c (some ⟨W.heap.size, 0, none⟩) [0]) := fun i x hx => by
    refine ⟨W.heap.size, 0, rfl, by simp [World.setCell], by omega, by omega, ?_⟩
    have hc := heap_alloc_new (W.setCell ⟨b, 0, none⟩ (.bool false)) (.cells #[.int .i64 0] 3)
    have hs : (W.setCell ⟨b, 0, none⟩ (.bool false)).heap.size = W.heap.size := by simp [World.setCell]
    rw [hs] at hc
    rcases i with _ | i
    · simp at hx; subst hx
      show World.cell? _ ⟨W.heap.size, 0, none⟩ = _
      unfold World.cell?
      rw [hc]; rfl
    · simp at hx
  obtain ⟨l', hl'⟩ : ∃ l', l' = st.sl.mapIdx (H.back [0] st.sl) := ⟨_, rfl⟩
  have HL : Hid (l'.length = st.sl.length) := by show _ = _; rw [hl']; simp
  have HA : Hid (∀ (k : Nat) (s : H.Sl), st.sl[k]? = some s → l'[k]? = some (H.back [0] st.sl k s)) := fun k s h => by rw [hl']; exact back_at _ _ _ _ h
  rw [← hl']
  clear hl'
  have k4' := HW.out.c4
  clear h ho hlb hlc
  go_enter Tryd.func14, Tryd.ntmps14
  go_wp2_with fail
  have HG : Hid (SW ((W.setCell ⟨b, 0, none⟩ (.bool false)).alloc (.cells #[.int .i64 0] 3)) b c { st with off := false } ((W.setCell ⟨b, 0, none⟩ (.bool false)).alloc (.cells #[.int .i64 0] 3))) := HW.out.base
  generalize (W.setCell ⟨b, 0, none⟩ (.bool false)).alloc (.cells #[.int .i64 0] 3) = W1 at *
  generalize W.heap.size = Q at *
  clear k0 k4 f k4'
  go_loopw [4, 5, 6, 30] (fun u4 u5 u6 u30 wr => ∃ k : Nat, k ≤ st.sl.length ∧ u30 = .int .i64 k ∧ u4 = .int .i64 (H.nx st.sl k : Int) ∧ SW W1 b c { st with off := false, sl := mixK st.sl l' k } wr) (fun _ _ _ u30 _ => st.sl.length - (intOf u30).toNat)
  case atStart => exact ⟨0, Nat.zero_le _, rfl, rfl, by rw [mixK_zero]; exact HG.out⟩
  case round =>
    obtain ⟨k, hk, rfl, rfl, hS⟩ := hrel
    clear HG
    have HS : Hid (SW W1 b c { st with off := false, sl := mixK st.sl l' k } wr) := hS
    by_cases hlt : k < st.sl.length
    · obtain ⟨s, hs⟩ : ∃ s, st.sl[k]? = some s := ⟨st.sl[k], List.getElem?_eq_getElem hlt⟩
      have hsk := mixK_at st.sl l' k HL.out s hs
      have k4 := hS.c4
      have k2 := hS.t2 hsk
      have el : (mixK st.sl l' k).length = st.sl.length := mixK_length _ _ _ HL.out
      simp only [el] at k4
      have hmn := hm.n
      have hx := H.nx_le st.sl k
      have hx2 := H.nx_succ st.sl k s hs
      have i0 : (0 : Int) ≤ (k : Int) := by omega
      have i1 : (k : Int) < (st.sl.length : Int) := by omega
      have hset := mixK_set st.sl l' k HL.out _ (HA.out k s hs)
      cases hun : s.un
      · rw [hun] at k2
        have eb : H.back [0] st.sl k s = s := by simp [H.back, hun]
        rw [eb] at hset
        have es : (mixK st.sl l' k).set k s = mixK st.sl l' k := by
          apply List.ext_getElem?
          intro q
          by_cases hq : k = q
          · subst hq; rw [List.getElem?_set_self (by omega), hsk]
          · rw [List.getElem?_set_ne hq]
        rw [es] at hset
        have HS2 : Hid (SW W1 b c { st with off := false, sl := mixK st.sl l' (k + 1) } wr) := by rw [← hset]; exact HS.out
        have HX : Hid (H.nx st.sl (k + 1) = H.nx st.sl k) := by show _ = _; rw [hx2, hun]; rfl
        clear hset es eb hS hs hsk el hx2
        go_wp2_with fail
        go_roundw
        case rel => exact ⟨k + 1, by omega, by go_num, by rw [HX.out], HS2.out⟩
        case measure => simp [intOf]; omega
      · rw [hun] at k2
        have eb : H.back [0] st.sl k s = H.settle (H.left s 0) := by simp [H.back, hun, Nat.mod_one]
        rw [eb] at hset
        obtain ⟨sb, off, hsa, hsb, n1, n2, hcell⟩ := HF.out 0 0 rfl
        obtain ⟨rfl, rfl⟩ : Q = sb ∧ 0 = off := by simpa using hsa
        have hc : wr.cell? ⟨Q, 0, none⟩ = some (.int .i64 0) := by rw [hS.o.cell (p := ⟨Q, 0, none⟩) hsb n1 n2]; simpa using hcell
        obtain ⟨t1, t2⟩ := hm.t k s hs
        have CL : Hid (Calls Tryd.prog 42 #[.pointer (some ⟨c, k * 3, none⟩), .int .i64 0] wr fun e w' => e = .returned (.string (M.bs (H.left s 0))) ∧ ∃ n, w' = wr.drewN n) := left_at hS hsk t1 t2 0 (by omega) (by omega)
        have CS : Hid (∀ W2, SW W1 b c { st with off := false, sl := mixK st.sl l' k } W2 → Calls Tryd.prog 41 #[.pointer (some ⟨c, k * 3, none⟩), .string (M.bs (H.left s 0))] W2 fun e w' => e = .returned (.tuple #[]) ∧ SW W1 b c { st with off := false, sl := mixK st.sl l' (k + 1) } w') := fun W2 h2 => by
          have := settle_at h2 hsk (H.left s 0)
          rwa [show (mixK st.sl l' k).set k (H.settle (H.left s 0)) = mixK st.sl l' (k + 1) from hset] at this
        have HX : Hid (H.nx st.sl (k + 1) = H.nx st.sl k + 1) := by show _ = _; rw [hx2, hun]; rfl
        have hr : Int.tmod (H.nx st.sl k : Int) 1 = 0 := Int.tmod_one _
        clear hset eb hS hs hsk el hx2 hcell hsa
        have hxi : (H.nx st.sl k : Int) ≤ 128 := by omega
        go_wp2_with (first
          | (go_at_call 42; refine CL.out.mono ?_; rintro e w2 ⟨rfl, n, rfl⟩)
          | (go_at_call 41; refine (CS.out _ (HS.out.drewN n)).mono ?_; rintro e w2 ⟨rfl, HG⟩))
        go_roundw
        case rel => exact ⟨k + 1, by omega, by go_num, by rw [HX.out]; go_num, HG⟩
        case measure => simp [intOf]; omega
    · have hkk : k = st.sl.length := by omega
      have HQ : SW W1 b c { st with off := false, sl := l' } wr := by have := HS.out; rwa [mixK_all _ _ _ HL.out hkk] at this
      clear hS HS HL HA
      clear hkk
      have hdf : decide ((k : Int) < (st.sl.length : Int)) = false := by simp; omega
      go_wp2_with fail
      refine bodyPost_end (results_none rfl _ _ _) rfl ?_
      exact ⟨rfl, HW.out.trans HQ⟩
end Go.Proofs.YtgnajmiccbcacaaDoor
