/- A store is opened. -/
import Derived.Test.YtlkllcnnnndllaaGreatDoorN14
namespace Go.Proofs.YtlkllcnnnndllaaGreatDoor
open Go.RowKit Go.Maps
set_option linter.unusedVariables false
set_option linter.unusedSimpArgs false

theorem all0 (n : Nat) : All32 (List.replicate n V.en0) := fun i e he => by
  rw [List.eq_of_mem_replicate (List.mem_of_getElem? he)]; exact en0_32
theorem made66 (n : Nat) : madeCells (svL V.en0).toArray (n * 66) = (hvC (List.replicate n V.en0)).toArray := by
  have hl := hvC_length (all0 n)
  rw [List.length_replicate] at hl
  apply Array.ext_getElem?
  intro i
  by_cases hi : i < n * 66
  · have hq : (List.replicate n V.en0)[i / 66]? = some V.en0 := by rw [List.getElem?_replicate, if_pos (by omega)]
    obtain ⟨a, z, h1, h2, _⟩ := hvC_at (all0 n) _ _ hq
    have hs : (svL V.en0).length = 66 := svL_length zd_length zd_length
    have hr : i % 66 < 66 := Nat.mod_lt _ (by omega)
    have e1 : (hvC (List.replicate n V.en0)).toArray[i]? = (svL V.en0)[i % 66]? := by
      rw [List.getElem?_toArray, h1, List.getElem?_append_right (by omega), h2, List.getElem?_append_left (by rw [hs]; omega)]
      congr 1; omega
    rw [e1]
    rw [Array.getElem?_eq_getElem (by rw [size_madeCells]; exact hi), List.getElem?_eq_getElem (by rw [hs]; exact hr)]
    have hz : (madeCells (svL V.en0).toArray (n * 66))[i]'(by rw [size_madeCells]; exact hi) = (svL V.en0).toArray[i % (svL V.en0).toArray.size]! := by simp [madeCells]
    rw [hz]
    have h66 : (svL V.en0).toArray.size = 66 := by rw [List.size_toArray, hs]
    rw [h66, getElem!_pos _ _ (by rw [h66]; exact hr)]
    rfl
  · rw [Array.getElem?_eq_none (by rw [size_madeCells]; omega), Array.getElem?_eq_none (by rw [List.size_toArray, hl]; omega)]
theorem cnt0 (n : Nat) : V.cntN (List.replicate n V.en0) = 0 := by
  unfold V.cntN
  rw [List.length_eq_zero_iff, List.filter_eq_nil_iff]
  intro e he
  rw [List.eq_of_mem_replicate he]; simp [V.en0]
theorem find0 (n : Nat) (k d : List UInt8) : V.findN (List.replicate n V.en0) k d = none := by
  unfold V.findN
  rw [List.findIdx?_eq_none_iff]
  intro e he
  rw [List.eq_of_mem_replicate he]; simp [V.en0]
theorem Uq0 (n : Nat) : V.Uq (List.replicate n V.en0) := fun i j a b ha hb h1 => by
  rw [List.eq_of_mem_replicate (List.mem_of_getElem? ha)] at h1
  exact absurd rfl h1
theorem PW.made (n : Nat) (W : World) : PW (W.alloc (.map #[] 0)) W.heap.size (List.replicate n V.en0) :=
  ⟨.map [], by rw [cnt0]; exact World.ownsMap_made W _ _ _, ⟨(fun k d i _ _ h => by rw [find0] at h; cases h), (fun k d _ _ _ => by simp [Maps.has]), (by rw [cnt0]; rfl)⟩⟩
def hv0 (f n : Nat) : Hv := ⟨f, List.replicate n V.en0, 0, []⟩
def ld0 (f n a : Nat) (sl : List H.Sl) : LSt := ⟨hv0 f n, a, sl, false⟩
theorem ld0_ok (f n a : Nat) (sl : List H.Sl) (h : Ss n sl) : Ld n 0 a 0 (ld0 f n a sl) :=
  ⟨by simp [ld0, hv0], h, fun j e _ he => by rw [List.eq_of_mem_replicate (List.mem_of_getElem? he)]; rfl, by simp [ld0, hv0], by simp [ld0]⟩
/-- the new store's blocks -/
def newB (b c k : Nat) : HB := ⟨b, c, k + 2, k, k + 1, none⟩
theorem open_hx {w W : World} {b c f n a : Nat} {sl : List H.Sl} (x : SW w b c (shOf f a sl) W) (hg : GW W) (hb : 2 ≤ b) (hc : 2 ≤ c) (hn : sl.length = n) :
    HW w (newB b c W.heap.size) (hv0 f n) (shOf f a sl) (((W.alloc (.cells (hvC (List.replicate n V.en0)).toArray 96)).alloc (.map #[] 0)).alloc (.cells (hC (newB b c W.heap.size) (hv0 f n)).toArray 70)) := by
  have hbl := x.ltb
  have hcl := x.ltc
  have hne := x.ne
  have hz := hg.z
  have bl : ∀ j, j < W.heap.size → (((W.alloc (.cells (hvC (List.replicate n V.en0)).toArray 96)).alloc (.map #[] 0)).alloc (.cells (hC (newB b c W.heap.size) (hv0 f n)).toArray 70)).heap[j]? = W.heap[j]? := fun j hj => by
    rw [Below.heap_alloc _ _ _ (by simp; omega), Below.heap_alloc _ _ _ (by simp; omega), Below.heap_alloc _ _ _ hj]
  have hs1 : (W.alloc (.cells (hvC (List.replicate n V.en0)).toArray 96)).heap.size = W.heap.size + 1 := by simp
  have hs2 : ((W.alloc (.cells (hvC (List.replicate n V.en0)).toArray 96)).alloc (.map #[] 0)).heap.size = W.heap.size + 2 := by simp
  refine ⟨(bl b hbl).trans x.hb, (bl c hcl).trans x.hc, ?_, ?_, ?_, rfl, ?_, ?_, ?_, Uq0 n, all0 n, by simp [hv0, shOf, hn]⟩
  · have := heap_alloc_new ((W.alloc (.cells (hvC (List.replicate n V.en0)).toArray 96)).alloc (.map #[] 0)) (.cells (hC (newB b c W.heap.size) (hv0 f n)).toArray 70)
    rw [hs2] at this
    exact this
  · show _ = some (Obj.cells (hvC (List.replicate n V.en0)).toArray _ _)
    show (((W.alloc _).alloc _).alloc _).heap[W.heap.size]? = _
    rw [Below.heap_alloc _ _ _ (by simp; omega), Below.heap_alloc _ _ _ (by simp)]
    exact heap_alloc_new _ _
  · have := PW.made n (W.alloc (.cells (hvC (List.replicate n V.en0)).toArray 96))
    rw [hs1] at this
    exact this.block (Below.heap_alloc _ _ _ (by simp))
  · exact ⟨hne, by show b ≠ W.heap.size + 2; omega, by show b ≠ W.heap.size; omega, by show c ≠ W.heap.size + 2; omega, by show c ≠ W.heap.size; omega, by show W.heap.size + 2 ≠ W.heap.size; omega, (by intro e; cases e), hb, hc, by show 2 ≤ W.heap.size + 2; omega, hz, by show 2 ≤ W.heap.size + 1; omega, (by intro p e; cases e)⟩
  · refine ⟨x.o.os, x.o.tape, x.o.output, by have := x.o.size; simp; omega, fun k hk hm => ?_⟩
    rw [bl k (by have := x.o.size; omega)]
    exact x.o.block k hk (fun e => hm (.inl e)) (fun e => hm (.inr (.inl e)))
  · exact hg.below (((Below.refl _ W).alloc (Nat.le_refl _) _).alloc (by simp) _ |>.alloc (by simp; omega) _) hz

theorem Open_nil (W : World) : Calls Tryz.prog 9 #[.pointer none] W fun e w' => e = .returned (.tuple #[.pointer none, .int .i64 2]) ∧ w' = W := by
  go_enter Tryz.func9, Tryz.ntmps9
  go_wp2_with fail
  go_ret2
  exact ⟨rfl, rfl⟩
set_option maxRecDepth 8000 in
set_option maxHeartbeats 2000000 in
theorem Open_x {w W : World} {b c f n a : Nat} {sl : List H.Sl} (x : SW w b c (shOf f a sl) W) (hg : GW W) (hb : 2 ≤ b) (hc : 2 ≤ c) (hS : Ss n sl) (hn : n ≤ 128) (ha : a ≤ 900000) (hf : f ≤ 1000000) :
    Calls Tryz.prog 9 #[.pointer (some ⟨b, 0, none⟩)] W fun e' w' => ∃ k, W.heap.size ≤ k ∧ e' = .returned (.tuple #[.pointer (some ⟨k + 2, 0, none⟩), .int .i64 0]) ∧ HW w (newB b c k) (ldN (ld0 f n a sl) n).h (ldEnd f (ldN (ld0 f n a sl) n)) w' := by
  obtain ⟨i, hi, hz, hs, hb'⟩ : ∃ i, Tryz.prog.info? 96 = some i ∧ i.zero = some (.agg (svL V.en0).toArray) ∧ i.size = 66 ∧ i.bytes = 88 :=
    info_parts (show (Tryz.prog.info? 96).map (fun i => (i.zero, i.size, i.bytes)) = some (some (.agg (svL V.en0).toArray), 66, 88) by kernel_rfl)
  have hmk : ∀ W : World, (Instr.makeSlice 66 (.int .i64 (n : Int)) (.int .i64 (n : Int))).run Tryz.prog W = .ok (.slice (some ⟨W.heap.size, 0, none⟩) n n) (W.alloc (.cells (hvC (List.replicate n V.en0)).toArray 96)) := fun W => by
    have hmk := run_make (P := Tryz.prog) W 66 96 i (.agg (svL V.en0).toArray) Tryz.underlying66 hi hz .i64 .i64 (n : Int) (n : Int) (by omega) (by omega) (by rw [hb']; omega) (by omega)
    rw [hs, Int.toNat_natCast, show (Value.agg (svL V.en0).toArray).cells = (svL V.en0).toArray from rfl, made66 n] at hmk
    exact hmk
  clear hi hz hs hb'
  have hmm : ∀ W : World, (Instr.makeMap tMap none).run Tryz.prog W = .ok (.map (some W.heap.size)) (W.alloc (.map #[] 0)) := fun W => rfl
  have hsl : sl.length = n := hS.n
  have LX : SW w b c (shOf f a sl) W ∧ GW W ∧ W.heap.size ≤ W.heap.size := ⟨x, hg, Nat.le_refl _⟩
  have CD : Hid (∀ W', (SW w b c (shOf f a sl) W' ∧ GW W' ∧ W.heap.size ≤ W'.heap.size) → Calls Tryz.prog 24 #[.pointer (some ⟨b, 0, none⟩)] W' fun e w' => e = .returned (.bool false) ∧ (SW w b c (shOf f a sl) w' ∧ GW w' ∧ W.heap.size ≤ w'.heap.size)) := fun W' l => by
    refine (Down_at l.1).mono ?_
    rintro e w' ⟨rfl, m, rfl⟩
    exact ⟨rfl, l.1.drewN m, l.2.1.below (below_drewN (Below.refl _ _) m) l.2.1.z, by have := (below_drewN (Below.refl W'.heap.size W') m).size; have := l.2.2; omega⟩
  have CL : Hid (∀ W', (SW w b c (shOf f a sl) W' ∧ GW W' ∧ W.heap.size ≤ W'.heap.size) → Calls Tryz.prog 25 #[.pointer (some ⟨b, 0, none⟩)] W' fun e w' => e = .returned (.int .i64 (f : Int)) ∧ w' = W') := fun W' l => Life_at l.1
  have CN : Hid (∀ W', (SW w b c (shOf f a sl) W' ∧ GW W' ∧ W.heap.size ≤ W'.heap.size) → Calls Tryz.prog 26 #[.pointer (some ⟨b, 0, none⟩)] W' fun e w' => e = .returned (.int .i64 (n : Int)) ∧ w' = W') := fun W' l => by
    have := shLen_at l.1
    rw [show (shOf f a sl).sl.length = n from hsl] at this
    exact this
  have CO : Hid (∀ {k : Nat} W', HW w (newB b c k) (hv0 f n) (shOf f a sl) W' → Calls Tryz.prog 27 #[.pointer (some ⟨k + 2, 0, none⟩)] W' fun e' w' => e' = .returned (.int .i64 0) ∧ HW w (newB b c k) (ldN (ld0 f n a sl) n).h (ldEnd f (ldN (ld0 f n a sl) n)) w') := fun W' l => load_x (s := ld0 f n a sl) l (ld0_ok f n a sl hS) hn (by omega) ha hf rfl
  have HO : Hid (∀ {W' : World}, (SW w b c (shOf f a sl) W' ∧ GW W' ∧ W.heap.size ≤ W'.heap.size) → HW w (newB b c W'.heap.size) (hv0 f n) (shOf f a sl) (((W'.alloc (.cells (hvC (List.replicate n V.en0)).toArray 96)).alloc (.map #[] 0)).alloc (.cells #[.pointer (some ⟨b, 0, none⟩), .int .i64 (f : Int), .slice (some ⟨W'.heap.size, 0, none⟩) n n, .map (some (W'.heap.size + 1)), .map none, .int .i64 0] 70))) := fun {W'} l => by
    have hh := open_hx l.1 l.2.1 hb hc hsl
    have e1 : (hC (newB b c W'.heap.size) (hv0 f n)).toArray = #[.pointer (some ⟨b, 0, none⟩), .int .i64 (f : Int), .slice (some ⟨W'.heap.size, 0, none⟩) n n, .map (some (W'.heap.size + 1)), .map none, .int .i64 0] := by simp [hC, newB, hv0]
    rw [e1] at hh
    exact hh
  clear x hS hn ha hf hb hc hg hsl
  generalize (hvC (List.replicate n V.en0)).toArray = CC at *
  go_enter Tryz.func9, Tryz.ntmps9
  go_wp2_with (first
    | (go_at_call 24; refine (CD.out _ LX).mono ?_; clear CD LX; rintro e' w1 ⟨rfl, LX⟩)
    | (go_at_call 25; refine (CL.out _ LX).mono ?_; clear CL; rintro e' w2 ⟨rfl, rfl⟩)
    | (go_at_call 26; refine (CN.out _ LX).mono ?_; clear CN; rintro e' w2 ⟨rfl, rfl⟩)
    | (go_at_call 27; refine (CO.out _ (HO.out LX)).mono ?_; clear CO HO; rintro e' w3 ⟨rfl, LY⟩))
  go_ret2
  exact ⟨_, LX.2.2, rfl, LY⟩
end Go.Proofs.YtlkllcnnnndllaaGreatDoor
