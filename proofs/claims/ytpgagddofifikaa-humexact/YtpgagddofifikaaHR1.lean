/- The reference's hum in memory; its Good, New, Push, Left. -/
import Derived.Test.YtpgagddofifikaaHuG
namespace Go.Proofs.Ytpgagddofifikaa
open Go.RowKit Go.Maps
set_option linter.unusedVariables false
set_option linter.unusedSimpArgs false

theorem good_no {m : K.Me} (h : ¬ K.Good m) : K.good m = false := decide_eq_false h
set_option maxRecDepth 8000 in
set_option maxHeartbeats 4000000 in
theorem rGood_0 (m : K.Me) (W : World) : Calls Try.prog 21 #[.agg (meV m)] W fun e w' => e = .returned (.bool (K.good m)) ∧ Bl W w' := by
  obtain ⟨n, i, s⟩ := m
  unfold meV
  simp only
  by_cases h1 : n ≥ 1
  · by_cases h2 : n ≤ 6
    · by_cases h3 : i ≥ 0
      · by_cases h4 : i ≤ 1073741824
        · by_cases h5 : s ≥ 0
          · have HG : Hid (K.good (n, i, s) = decide (s ≤ 3)) := by
              show _ = _
              unfold K.good
              rw [decide_eq_decide]
              exact ⟨fun h => h.2.2.2.2.2, fun h => ⟨h1, h2, h3, h4, h5, h⟩⟩
            go_enter Try.func21, Try.ntmps21
            go_wp2_with fail
            go_ret
            exact ⟨by rw [HG.out]; simp, (Bl.refl W).alloc _⟩
          · have HG : Hid (K.good (n, i, s) = false) := good_no fun h => h5 h.2.2.2.2.1
            go_enter Try.func21, Try.ntmps21
            go_wp2_with fail
            go_ret
            exact ⟨by rw [HG.out]; simp, (Bl.refl W).alloc _⟩
        · have HG : Hid (K.good (n, i, s) = false) := good_no fun h => h4 h.2.2.2.1
          go_enter Try.func21, Try.ntmps21
          go_wp2_with fail
          go_ret
          exact ⟨by rw [HG.out]; simp, (Bl.refl W).alloc _⟩
      · have HG : Hid (K.good (n, i, s) = false) := good_no fun h => h3 h.2.2.1
        go_enter Try.func21, Try.ntmps21
        go_wp2_with fail
        go_ret
        exact ⟨by rw [HG.out]; simp, (Bl.refl W).alloc _⟩
    · have HG : Hid (K.good (n, i, s) = false) := good_no fun h => h2 h.2.1
      go_enter Try.func21, Try.ntmps21
      go_wp2_with fail
      go_ret
      exact ⟨by rw [HG.out]; simp, (Bl.refl W).alloc _⟩
  · have HG : Hid (K.good (n, i, s) = false) := good_no fun h => h1 h.1
    go_enter Try.func21, Try.ntmps21
    go_wp2_with fail
    go_ret
    exact ⟨by rw [HG.out]; simp, (Bl.refl W).alloc _⟩
theorem rGood_x (m : K.Me) (w W : World) (hb : Bl w W) : Calls Try.prog 21 #[.agg (meV m)] W fun e w' => e = .returned (.bool (K.good m)) ∧ Bl w w' := (rGood_0 m W).mono fun e w' ⟨h1, h2⟩ => ⟨h1, hb.step h2⟩
/-- the reference's hum as cells: how often, then seven rumours -/
structure RC (C : Array Value) (T : Int) (F : HU.St) : Prop where
  size : C.size = 29
  t : C[0]? = some (.int .i64 T)
  at' : ∀ j : Nat, j < 7 → C[1 + j * 4]? = some (.int .i64 (F j).1.1) ∧ C[1 + j * 4 + 1]? = some (.int .i64 (F j).1.2.1) ∧ C[1 + j * 4 + 2]? = some (.int .i64 (F j).1.2.2) ∧ C[1 + j * 4 + 3]? = some (.int .i64 (F j).2)
theorem RC.put {C : Array Value} {T : Int} {F : HU.St} (h : RC C T F) (n : Nat) (hn : n < 7) (i s : Int) :
    RC ((((C.setIfInBounds (1 + n * 4) (.int .i64 (n : Int))).setIfInBounds (1 + n * 4 + 1) (.int .i64 i)).setIfInBounds (1 + n * 4 + 2) (.int .i64 s)).setIfInBounds (1 + n * 4 + 3) (.int .i64 T)) T (HU.set1 F T ((n : Int), i, s)) := by
  have hs := h.size
  refine ⟨by simp [hs], ?_, fun p hp => ?_⟩
  · simp only [Array.getElem?_setIfInBounds]
    rw [if_neg (by omega), if_neg (by omega), if_neg (by omega), if_neg (by omega)]; exact h.t
  obtain ⟨h1, h2, h3, h4⟩ := h.at' p hp
  simp only [Array.getElem?_setIfInBounds]
  unfold HU.set1
  by_cases e : p = n
  · subst e
    have q1 : 1 + p * 4 < C.size := by omega
    have q2 : 1 + p * 4 + 1 < C.size := by omega
    have q3 : 1 + p * 4 + 2 < C.size := by omega
    have q4 : 1 + p * 4 + 3 < C.size := by omega
    refine ⟨?_, ?_, ?_, ?_⟩ <;> simp (disch := omega) [q1, q2, q3, q4, if_neg, if_pos]
  · have hne : ¬ ((p : Int) = (n : Int)) := by omega
    simp only [if_neg hne]
    refine ⟨?_, ?_, ?_, ?_⟩
    · rw [if_neg (by omega), if_neg (by omega), if_neg (by omega), if_neg (by omega)]; exact h1
    · rw [if_neg (by omega), if_neg (by omega), if_neg (by omega), if_neg (by omega)]; exact h2
    · rw [if_neg (by omega), if_neg (by omega), if_neg (by omega), if_neg (by omega)]; exact h3
    · rw [if_neg (by omega), if_neg (by omega), if_neg (by omega), if_neg (by omega)]; exact h4
theorem RC.more {C : Array Value} {T : Int} {F : HU.St} (h : RC C T F) (n : Nat) (hn : n < 7) (q : Int) : RC (C.setIfInBounds (1 + n * 4 + 3) (.int .i64 q)) T (fun k => if k = (n : Int) then ((F k).1, q) else F k) := by
  have hs := h.size
  refine ⟨by simp [hs], ?_, fun p hp => ?_⟩
  · rw [Array.getElem?_setIfInBounds, if_neg (by omega)]; exact h.t
  obtain ⟨h1, h2, h3, h4⟩ := h.at' p hp
  simp only [Array.getElem?_setIfInBounds]
  by_cases e : p = n
  · subst e
    have q4 : 1 + p * 4 + 3 < C.size := by omega
    refine ⟨?_, ?_, ?_, ?_⟩
    · rw [if_neg (by omega), if_pos rfl]; exact h1
    · rw [if_neg (by omega), if_pos rfl]; exact h2
    · rw [if_neg (by omega), if_pos rfl]; exact h3
    · rw [if_pos rfl, if_pos q4, if_pos rfl]
  · have hne : ¬ ((p : Int) = (n : Int)) := by omega
    simp only [if_neg hne]
    refine ⟨?_, ?_, ?_, ?_⟩
    · rw [if_neg (by omega)]; exact h1
    · rw [if_neg (by omega)]; exact h2
    · rw [if_neg (by omega)]; exact h3
    · rw [if_neg (by omega)]; exact h4
def RH (W : World) (r : Nat) (T : Int) (F : HU.St) : Prop := ∃ C, W.heap[r]? = some (.cells C 53 (0, 0)) ∧ RC C T F
theorem RH.block {W W' : World} {r : Nat} {T : Int} {F : HU.St} (h : RH W r T F) (hb : W'.heap[r]? = W.heap[r]?) : RH W' r T F := by
  obtain ⟨C, h1, h2⟩ := h
  exact ⟨C, by rw [hb]; exact h1, h2⟩
theorem RH.lt {W : World} {r : Nat} {T : Int} {F : HU.St} (h : RH W r T F) : r < W.heap.size := by
  obtain ⟨C, h1, h2⟩ := h
  exact lt_heap h1
theorem RH.grow {W W' : World} {r : Nat} {T : Int} {F : HU.St} (h : RH W r T F) (hb : Bl W W') : RH W' r T F := h.block (Below.block hb _ h.lt)
theorem RH.cn {W : World} {r : Nat} {T : Int} {F : HU.St} (h : RH W r T F) (j : Nat) (hj : j < 7) : W.cell? ⟨r, 0, none⟩ = some (.int .i64 T) ∧ W.cell? ⟨r, 1 + j * 4, none⟩ = some (.int .i64 (F j).1.1) ∧ W.cell? ⟨r, 1 + j * 4 + 1, none⟩ = some (.int .i64 (F j).1.2.1) ∧ W.cell? ⟨r, 1 + j * 4 + 2, none⟩ = some (.int .i64 (F j).1.2.2) ∧ W.cell? ⟨r, 1 + j * 4 + 3, none⟩ = some (.int .i64 (F j).2) ∧ ∀ o, W.frozen? ⟨r, o, none⟩ = false := by
  obtain ⟨C, h1, h2⟩ := h
  obtain ⟨a1, a2, a3, a4⟩ := h2.at' j hj
  refine ⟨by rw [Lib.cell_of_heap h1]; exact h2.t, ?_, ?_, ?_, ?_, fun o => by simp [World.frozen?, h1]⟩
  · rw [Lib.cell_of_heap h1]; exact a1
  · rw [Lib.cell_of_heap h1]; exact a2
  · rw [Lib.cell_of_heap h1]; exact a3
  · rw [Lib.cell_of_heap h1]; exact a4
theorem RH.put {W : World} {r : Nat} {T : Int} {F : HU.St} (h : RH W r T F) (n : Nat) (hn : n < 7) (i s : Int) :
    RH ((((W.setCell ⟨r, 1 + n * 4, none⟩ (.int .i64 (n : Int))).setCell ⟨r, 1 + n * 4 + 1, none⟩ (.int .i64 i)).setCell ⟨r, 1 + n * 4 + 2, none⟩ (.int .i64 s)).setCell ⟨r, 1 + n * 4 + 3, none⟩ (.int .i64 T)) r T (HU.set1 F T ((n : Int), i, s)) := by
  obtain ⟨C, h1, h2⟩ := h
  exact ⟨_, heap_setCell_own (heap_setCell_own (heap_setCell_own (heap_setCell_own h1))), h2.put n hn i s⟩
theorem RH.more {W : World} {r : Nat} {T : Int} {F : HU.St} (h : RH W r T F) (n : Nat) (hn : n < 7) (q : Int) : RH (W.setCell ⟨r, 1 + n * 4 + 3, none⟩ (.int .i64 q)) r T (fun k => if k = (n : Int) then ((F k).1, q) else F k) := by
  obtain ⟨C, h1, h2⟩ := h
  exact ⟨_, heap_setCell_own h1, h2.more n hn q⟩
theorem Of1.set {b : Nat} {a w : World} (h : Of1 b a w) (i : Nat) (v : Value) : Of1 b a (w.setCell ⟨b, i, none⟩ v) := h.trans (Of1.of_grown (grown_setCell w b i v))
def z28 (T : Int) : Array Value := #[.int .i64 T, .int .i64 0, .int .i64 0, .int .i64 0, .int .i64 0, .int .i64 0, .int .i64 0, .int .i64 0, .int .i64 0, .int .i64 0, .int .i64 0, .int .i64 0, .int .i64 0, .int .i64 0, .int .i64 0, .int .i64 0, .int .i64 0, .int .i64 0, .int .i64 0, .int .i64 0, .int .i64 0, .int .i64 0, .int .i64 0, .int .i64 0, .int .i64 0, .int .i64 0, .int .i64 0, .int .i64 0, .int .i64 0]
theorem RC.new (T : Int) : RC (z28 T) T HU.e0 := ⟨rfl, rfl, fun j hj => by
  rcases (by omega : j = 0 ∨ j = 1 ∨ j = 2 ∨ j = 3 ∨ j = 4 ∨ j = 5 ∨ j = 6) with rfl | rfl | rfl | rfl | rfl | rfl | rfl <;> exact ⟨rfl, rfl, rfl, rfl⟩⟩
theorem RH.new (W : World) (T : Int) : RH (W.alloc (.cells (z28 T) 53)) W.heap.size T HU.e0 := ⟨_, heap_alloc_new W _, RC.new T⟩
set_option maxRecDepth 8000 in
theorem rNew_x (t : Int) (W : World) : Calls Try.prog 8 #[.int .i64 t] W fun e w' => ∃ r, e = .returned (.pointer (some ⟨r, 0, none⟩)) ∧ r = W.heap.size ∧ RH w' r (tms t) HU.e0 ∧ Bl W w' := by
  have HN : Hid (∀ T, T = tms t → RH (W.alloc (.cells (z28 T) 53)) W.heap.size (tms t) HU.e0) := fun T e => by rw [e]; exact RH.new W _
  have HB : Hid (∀ o, Bl W (W.alloc o)) := fun o => (Bl.refl W).alloc o
  by_cases h1 : t < 1
  · have HT : Hid (1 = tms t) := by show _ = _; unfold tms; omega
    go_enter Try.func8, Try.ntmps8
    go_wp2_with fail
    go_ret
    exact ⟨_, rfl, rfl, HN.out 1 HT.out, HB.out _⟩
  · by_cases h2 : t > 100
    · have HT : Hid (100 = tms t) := by show _ = _; unfold tms; omega
      go_enter Try.func8, Try.ntmps8
      go_wp2_with fail
      go_ret
      exact ⟨_, rfl, rfl, HN.out 100 HT.out, HB.out _⟩
    · have HT : Hid (t = tms t) := by show _ = _; unfold tms; omega
      go_enter Try.func8, Try.ntmps8
      go_wp2_with fail
      go_ret
      exact ⟨_, rfl, rfl, HN.out t HT.out, HB.out _⟩
set_option maxRecDepth 8000 in
set_option maxHeartbeats 4000000 in
theorem rPush_x {W : World} {r : Nat} {T : Int} {F : HU.St} (x : RH W r T F) (ms : List K.Me) (a : Option Addr) (c : Nat) (hv : RS lyM W a ms) (hap : ms ≠ [] → ∀ off, a ≠ some ⟨r, off, none⟩) (hn : ms.length ≤ 1000) :
    Calls Try.prog 10 #[.pointer (some ⟨r, 0, none⟩), .slice a ms.length c] W fun e w' => e = .returned (.tuple #[]) ∧ RH w' r T (HU.push T F ms) ∧ Of1 r W w' := by
  have HV : Hid (RS lyM W a ms) := hv
  have HA : Hid (ms ≠ [] → ∀ off, a ≠ some ⟨r, off, none⟩) := hap
  have HX : Hid (RH W r T F) := x
  obtain ⟨fs, hum⟩ := undMe
  clear hv hap x
  go_enter Try.func10, Try.ntmps10
  go_wp2_with fail
  go_loopw [4] (fun u4 wr => ∃ k : Nat, k ≤ ms.length ∧ u4 = .int .i64 k ∧ RH wr r T (HU.push T F (ms.take k)) ∧ Of1 r W wr) (fun u4 _ => ms.length - (intOf u4).toNat)
  case atStart => exact ⟨0, Nat.zero_le _, rfl, HX.out, Of1.refl _ _⟩
  case round =>
    obtain ⟨k, hk, rfl, hx, hof⟩ := hrel
    by_cases hlt : k < ms.length
    · obtain ⟨m, hm⟩ : ∃ m, ms[k]? = some m := ⟨ms[k], List.getElem?_eq_getElem hlt⟩
      have hne : ms ≠ [] := fun e => by rw [e] at hlt; simp at hlt
      obtain ⟨mb, mo, ha, hmb, hrg⟩ := (HV.out.offs hof (fun off _ => HA.out hne off)) k m hm
      have hmr : mb ≠ r := fun e => HA.out hne mo (by rw [ha, e])
      have HPU : Hid (HU.push T F (ms.take (k + 1)) = HU.put T (HU.push T F (ms.take k)) m) := HU.push_take hm
      have hkl : (k : Int) < (ms.length : Int) := by omega
      have HXR := hidP hx
      have HOF := hidP hof
      have C1 : Hid (Calls Try.prog 21 #[.agg (meV m)] wr fun e w' => e = .returned (.bool (K.good m)) ∧ Bl wr w') := rGood_x m _ _ (Bl.refl _)
      generalize HU.push T F (ms.take k) = G at *
      subst ha
      have HRW : Hid (∀ w', Bl wr w' → w'.rangeAt mb (mo + k * 3) (lyM.f m)) := fun w' hb j v hv => by rw [Bl.cell hb hmb]; exact hrg j v hv
      clear hx hof hm hrg HX HV HA hne
      cases hg : K.good m with
      | false =>
        rw [hg] at C1
        have HPE : Hid (HU.put T G m = G) := by show _ = _; unfold HU.put; rw [hg]; rfl
        clear hg
        obtain ⟨n, i, s⟩ := m
        have R0 : Hid (wr.rangeAt mb (mo + k * 3) [.int .i64 n, .int .i64 i, .int .i64 s]) := HRW.out _ (Bl.refl _)
        unfold meV at C1
        simp only at C1
        go_wp2_with (first
          | (refine wpList_load_mid rfl 41 _ rfl mb (mo + k * 3) rfl [.int .i64 n, .int .i64 i, .int .i64 s] _ R0.out hum rfl infoMe ?_; clear R0)
          | (go_at_call 21; refine (C1.out).mono ?_; clear C1; rintro e w5 ⟨rfl, HB⟩))
        go_roundw
        case rel => exact ⟨k + 1, by omega, by go_num, by rw [HPU.out, HPE.out]; exact HXR.out.grow HB, HOF.out.trans (Of1.of_bl HB)⟩
        case measure => simp [intOf]; omega
      | true =>
        rw [hg] at C1
        have HPE : Hid (HU.put T G m = HU.set1 G T m) := by show _ = _; unfold HU.put; rw [if_pos hg]
        have hgm : K.Good m := (K.good_iff m).1 hg
        clear hg
        obtain ⟨n, i, s⟩ := m
        unfold K.Good at hgm
        simp only at hgm
        obtain ⟨p, rfl⟩ : ∃ p : Nat, n = (p : Int) := ⟨n.toNat, by omega⟩
        have hp7 : p < 7 := by omega
        have hp7i : (p : Int) < 7 := by omega
        have hp0 : (0 : Int) ≤ (p : Int) := by omega
        have R0 : Hid (wr.rangeAt mb (mo + k * 3) [.int .i64 (p : Int), .int .i64 i, .int .i64 s]) := HRW.out _ (Bl.refl _)
        unfold meV at C1
        simp only at C1
        clear hgm
        go_wp2_with (first
          | (refine wpList_load_mid rfl 41 _ rfl mb (mo + k * 3) rfl [.int .i64 (p : Int), .int .i64 i, .int .i64 s] _ R0.out hum rfl infoMe ?_; clear R0)
          | (go_at_call 21; refine (C1.out).mono ?_; clear C1; rintro e w5 ⟨rfl, HB⟩))
        have rr := HRW.out w5 HB
        have e0 : w5.cell? ⟨mb, mo + k * 3, none⟩ = some (.int .i64 (p : Int)) := rr 0 _ rfl
        have e1 : w5.cell? ⟨mb, mo + k * 3 + 1, none⟩ = some (.int .i64 i) := rr 1 _ rfl
        have e2 : w5.cell? ⟨mb, mo + k * 3 + 2, none⟩ = some (.int .i64 s) := rr 2 _ rfl
        have X5 := HXR.out.grow HB
        obtain ⟨q0, q1, q2, q3, q4, fz1⟩ := X5.cn p hp7
        have f1 := fz1 (1 + p * 4)
        have f2 := fz1 (1 + p * 4 + 1)
        have f3 := fz1 (1 + p * 4 + 2)
        have f4 := fz1 (1 + p * 4 + 3)
        have HX5 : Hid (RH w5.drew r T G) := X5.grow (Bl.refl _).drew
        have HO5 : Hid (Of1 r W w5.drew) := HOF.out.trans (Of1.of_bl HB.drew)
        clear rr X5 fz1
        go_region
        all_goals
          go_wp2_with fail
          go_roundw
          case rel => exact ⟨k + 1, by omega, by go_num, by rw [HPU.out, HPE.out]; exact HX5.out.put p hp7 i s, (((HO5.out.set _ _).set _ _).set _ _).set _ _⟩
          case measure => simp [intOf]; omega
    · obtain rfl : k = ms.length := by omega
      rw [List.take_length] at hx
      have HXR := hidP hx
      have HOF := hidP hof
      clear hx hof HX HV HA
      go_wp2_with fail
      refine bodyPost_end (results_none rfl _ _ _) rfl ?_
      exact ⟨rfl, HXR.out, HOF.out⟩
end Go.Proofs.Ytpgagddofifikaa
