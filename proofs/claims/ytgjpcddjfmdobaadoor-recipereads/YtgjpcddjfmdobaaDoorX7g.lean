/- The reference's action. -/
import Derived.Test.YtgjpcddjfmdobaaDoorX7f
namespace Go.Proofs.YtgjpcddjfmdobaaDoor
open Go.RowKit
set_option linter.unusedVariables false

theorem oneZ : (#[Value.string ⟨#[]⟩, .slice none 0 0, .string ⟨#[]⟩] : Array Value).all (·.oneCell') = true := by simp [Value.oneCell']
/-- no action is read -/
def RNo (w : World) (e : Ending) (w' : World) : Prop := ∃ cs : Array Value, cs.size = 3 ∧ cs.all (·.oneCell') = true ∧ e = .returned (.tuple #[.agg cs, .bool false]) ∧ Bl w w'
theorem RNo.of {w w' : World} {cs : Array Value} (h1 : cs.size = 3) (h2 : cs.all (·.oneCell') = true) (h3 : Bl w w') : RNo w (.returned (.tuple #[.agg cs, .bool false])) w' := ⟨cs, h1, h2, rfl, h3⟩
/-- where an action is being read: its block, the result's block, its inputs -/
structure AX (W : World) (x code : List UInt8) (L : List (List UInt8)) (v : Value) (U : World) : Prop where
  blk : U.heap[W.heap.size + 1]? = some (.cells #[.string (M.bs x), v, .string (M.bs code)] 42 (0, 0))
  res : U.heap[W.heap.size]? = some (.cells zAc 42 (0, 0))
  own : U.ownsRow (W.heap.size + 2) 9 1 v L.length (L.map encS)
  bl : Bl W U
  sz : W.heap.size + 2 ≤ U.heap.size
theorem AX.step {W : World} {x code : List UInt8} {L : List (List UInt8)} {v : Value} {U U' : World} (h : AX W x code L v U) (hb : Bl U U') : AX W x code L v U' :=
  ⟨by rw [Below.block hb _ (TA.lt_heap h.blk)]; exact h.blk, by rw [Below.block hb _ (TA.lt_heap h.res)]; exact h.res, ownsRow_belowT h.own hb, h.bl.step hb, Nat.le_trans h.sz (Below.size hb)⟩
theorem AX.range {W : World} {x code : List UInt8} {L : List (List UInt8)} {v : Value} {U : World} (h : AX W x code L v U) : U.rangeAt (W.heap.size + 1) 0 [.string (M.bs x), v, .string (M.bs code)] := fun j u hu => by
  rw [Lib.cell_of_heap h.blk, Nat.zero_add]
  rcases j with _ | _ | _ | j
  · cases hu; rfl
  · cases hu; rfl
  · cases hu; rfl
  · simp at hu
theorem AX.app {W : World} {x code : List UInt8} {L : List (List UInt8)} {v : Value} {U U1 w8 : World} (h : AX W x code L v U) (hb : Bl U U1) (t : List UInt8) (v' : Value) (ho : w8.ownsRow (W.heap.size + 2) 9 1 v' (L.length + 1) (L.map encS ++ [encS t])) (hg : U1.grownBy w8 v.ownBlock) :
    AX W x code (L ++ [t]) v' (w8.setCell ⟨W.heap.size + 1, 1, none⟩ v') ∧ w8.cell? ⟨W.heap.size + 1, 1, none⟩ = some v ∧ w8.frozen? ⟨W.heap.size + 1, 1, none⟩ = false := by
  have h1 := h.step hb
  have hne : ∀ k, k < W.heap.size + 2 → some k ≠ v.ownBlock := fun k hk e => by have := (TA.owns_ge h1.own e.symm).1; omega
  have hblk : w8.heap[W.heap.size + 1]? = some (.cells #[.string (M.bs x), v, .string (M.bs code)] 42 (0, 0)) := by rw [hg.block _ (TA.lt_heap h1.blk) (hne _ (by omega))]; exact h1.blk
  have hres : w8.heap[W.heap.size]? = some (.cells zAc 42 (0, 0)) := by rw [hg.block _ (TA.lt_heap h1.res) (hne _ (by omega))]; exact h1.res
  refine ⟨⟨by rw [heap_setCell_rowR hblk]; rfl, by rw [heap_setCell_otherR (by omega)]; exact hres, ?_, ?_, ?_⟩, by rw [Lib.cell_of_heap hblk]; rfl, by simp [World.frozen?, hblk]⟩
  · have := ownsRow_setC (i := 1) ho (show W.heap.size + 1 < W.heap.size + 2 by omega) v'
    simpa using this
  · have : Below W.heap.size W w8 := Below.grown h1.bl hg (Below.size h1.bl) (fun k hk => by have := (TA.owns_ge h1.own hk).1; omega)
    exact this.setCell (by simp) _
  · have h2 := hg.size; have h3 := h1.sz
    have e : (w8.setCell ⟨W.heap.size + 1, 1, none⟩ v').heap.size = w8.heap.size := by simp
    omega
theorem v_blk (W : World) {w2 : World} (h : Bl ((W.alloc (.cells zAc 42)).alloc (.cells zAc 42)) w2) : w2.heap[W.heap.size + 1]? = some (.cells zAc 42 (0, 0)) ∧ w2.heap[W.heap.size]? = some (.cells zAc 42 (0, 0)) := by
  have e : (W.alloc (.cells zAc 42)).heap.size = W.heap.size + 1 := by simp
  constructor
  · rw [Below.block h _ (by simp), ← e]; exact heap_alloc_new _ _
  · rw [Below.block h _ (by simp; omega), Below.block ((Bl.refl (W.alloc (.cells zAc 42))).alloc _) _ (by simp)]; exact heap_alloc_new W _
theorem v_bl (W : World) : Bl W ((W.alloc (.cells zAc 42)).alloc (.cells zAc 42)) := ((Bl.refl W).alloc _).alloc _
theorem AX.start (W : World) (x code : List UInt8) {w2 : World} (h : Bl ((W.alloc (.cells zAc 42)).alloc (.cells zAc 42)) w2) : AX W x code [] (.slice none 0 0) ((w2.setCell ⟨W.heap.size + 1, 0, none⟩ (.string (M.bs x))).setCell ⟨W.heap.size + 1, 2, none⟩ (.string (M.bs code))) ∧
    (w2.cell? ⟨W.heap.size + 1, 0, none⟩ = some (.string ⟨#[]⟩) ∧ w2.frozen? ⟨W.heap.size + 1, 0, none⟩ = false) ∧
    ((w2.setCell ⟨W.heap.size + 1, 0, none⟩ (.string (M.bs x))).cell? ⟨W.heap.size + 1, 2, none⟩ = some (.string ⟨#[]⟩) ∧ (w2.setCell ⟨W.heap.size + 1, 0, none⟩ (.string (M.bs x))).frozen? ⟨W.heap.size + 1, 2, none⟩ = false) := by
  obtain ⟨h1, h2⟩ := v_blk W h
  have h3 := heap_setCell_rowR (i := 0) (v := .string (M.bs x)) h1
  have h4 := heap_setCell_rowR (i := 2) (v := .string (M.bs code)) h3
  have hbw : Bl W w2 := (v_bl W).step h
  refine ⟨⟨by rw [h4]; rfl, by rw [heap_setCell_otherR (by omega), heap_setCell_otherR (by omega)]; exact h2, ⟨rfl, Or.inl ⟨rfl, rfl⟩⟩, ?_, ?_⟩, ⟨by rw [Lib.cell_of_heap h1]; rfl, by simp [World.frozen?, h1]⟩, ⟨by rw [Lib.cell_of_heap h3]; rfl, by simp [World.frozen?, h3]⟩⟩
  · have h5 : Below W.heap.size W w2 := hbw
    exact (h5.setCell (by simp) _).setCell (by simp) _
  · have := TA.lt_heap h1
    have e : ((w2.setCell ⟨W.heap.size + 1, 0, none⟩ (.string (M.bs x))).setCell ⟨W.heap.size + 1, 2, none⟩ (.string (M.bs code))).heap.size = w2.heap.size := by simp
    omega

set_option maxRecDepth 8000 in
set_option maxHeartbeats 2000000 in
theorem raction_short (l : List (List UInt8)) (a : Option Addr) (c : Nat) {w W : World} (HB : Bl w W) (h : l.length < 4) :
    Calls Tryd.prog 35 #[.slice a l.length c] W (RNo w) := by
  have HF : Hid (∀ o o', Bl w ((W.alloc o).alloc o')) := fun o o' => (HB.alloc o).alloc o'
  have h' : (l.length : Int) < 4 := by omega
  clear h HB
  go_enter Tryd.func35, Tryd.ntmps35
  go_wp2_with fail
  exact bodyPost_ret (v := .tuple #[.agg #[.string ⟨#[]⟩, .slice none 0 0, .string ⟨#[]⟩], .bool false]) (by simp [results, Tryd.results35, go_sem]) rfl (RNo.of rfl oneZ (HF.out _ _))

set_option maxRecDepth 8000 in
set_option maxHeartbeats 2000000 in
theorem raction_bad (k x : List UInt8) (m : List (List UInt8)) (y z : List UInt8) (b off c : Nat) {w W : World} (HB : Bl w W) (hv : ∀ i t, (k :: x :: (m ++ [y, z]))[i]? = some t → b < W.heap.size ∧ W.cell? ⟨b, off + i, none⟩ = some (.string (M.bs t))) (hc : m.length + 4 ≤ c) (hl : x.length ≤ 100000) (hn : m.length ≤ 90000) (hq : k ≠ RC.wMake ∨ RC.isNm x = false ∨ y ≠ RC.wBy) :
    Calls Tryd.prog 35 #[.slice (some ⟨b, off, none⟩) (m.length + 4) c] W (RNo w) := by
  have HF : Hid (∀ o o', Bl w ((W.alloc o).alloc o')) := fun o o' => (HB.alloc o).alloc o'
  obtain ⟨hb, h0⟩ := hv 0 k rfl
  rw [Nat.add_zero] at h0
  have h1 := (hv 1 x rfl).2
  have h2 := (hv (m.length + 2) y (by rw [List.getElem?_cons_succ, List.getElem?_cons_succ, List.getElem?_append_right (Nat.le_refl _)]; simp)).2
  have hA : ∀ o o' p, ((W.alloc o).alloc o').cell? ⟨b, p, none⟩ = W.cell? ⟨b, p, none⟩ := fun o o' p => (((Below.refl _ W).alloc (Nat.le_refl _) o).alloc (by simp) o').cell (p := ⟨b, p, none⟩) hb
  have CI : Hid (∀ W', Calls Tryd.prog 16 #[.string (M.bs x)] W' fun e w' => e = .returned (.bool (RC.isNm x)) ∧ w' = W') := fun W' => rIsName_at x W' (by unfold maxLen; omega)
  have hne0 := bs_eqW k RC.wMake
  have hne := bs_eqW y RC.wBy
  have e4 : ¬ ((m.length : Int) + 4 < 4) := by omega
  unfold RC.wBy at hne
  unfold RC.wMake at hne0
  clear HB hv hl
  by_cases c1 : k = RC.wMake
  · rw [decide_eq_true (show k = [109, 97, 107, 101] from c1)] at hne0
    cases c2 : RC.isNm x with
    | false =>
      rw [c2] at CI
      clear c1 c2 hq hne h2
      go_enter Tryd.func35, Tryd.ntmps35
      go_wp2_with (go_at_call 16; refine (CI.out _).mono ?_; rintro e w' ⟨rfl, hw⟩; rw [hw]; clear hw w' CI)
      exact bodyPost_ret (v := .tuple #[.agg #[.string ⟨#[]⟩, .slice none 0 0, .string ⟨#[]⟩], .bool false]) (by simp [results, Tryd.results35, go_sem]) rfl (RNo.of rfl oneZ (HF.out _ _))
    | true =>
      rw [c2] at CI
      have c3 : y ≠ RC.wBy := by
        rcases hq with h | h | h
        · exact absurd c1 h
        · rw [c2] at h; cases h
        · exact h
      rw [decide_eq_false (show ¬ y = [98, 121] from c3)] at hne
      clear c1 c2 c3 hq
      go_enter Tryd.func35, Tryd.ntmps35
      go_wp2_with (go_at_call 16; refine (CI.out _).mono ?_; rintro e w' ⟨rfl, hw⟩; rw [hw]; clear hw w' CI)
      exact bodyPost_ret (v := .tuple #[.agg #[.string ⟨#[]⟩, .slice none 0 0, .string ⟨#[]⟩], .bool false]) (by simp [results, Tryd.results35, go_sem]) rfl (RNo.of rfl oneZ (HF.out _ _))
  · rw [decide_eq_false (show ¬ k = [109, 97, 107, 101] from c1)] at hne0
    clear c1 hq hne CI h1 h2
    go_enter Tryd.func35, Tryd.ntmps35
    go_wp2_with fail
    exact bodyPost_ret (v := .tuple #[.agg #[.string ⟨#[]⟩, .slice none 0 0, .string ⟨#[]⟩], .bool false]) (by simp [results, Tryd.results35, go_sem]) rfl (RNo.of rfl oneZ (HF.out _ _))

/-- what is known where an action's words are read -/
structure RB (w W : World) (x : List UInt8) (m : List (List UInt8)) (z : List UInt8) (b off c : Nat) : Prop where
  hb : b < W.heap.size
  h0 : W.cell? ⟨b, off, none⟩ = some (.string (M.bs RC.wMake))
  h1 : W.cell? ⟨b, off + 1, none⟩ = some (.string (M.bs x))
  h2 : W.cell? ⟨b, off + (m.length + 2), none⟩ = some (.string (M.bs RC.wBy))
  h3 : W.cell? ⟨b, off + (m.length + 3), none⟩ = some (.string (M.bs z))
  hm : ∀ i t, m[i]? = some t → W.cell? ⟨b, off + 2 + i, none⟩ = some (.string (M.bs t))
  hc : m.length + 4 ≤ c
  hx : x.length ≤ 100000
  hz : z.length ≤ 100000
  hl : ∀ t ∈ m, t.length ≤ 100000
  hn : m.length ≤ 90000
  nm : RC.isNm x = true
  bl : Bl w W

set_option maxRecDepth 8000 in
set_option maxHeartbeats 2000000 in
theorem raction_code (x : List UInt8) (m : List (List UInt8)) (z : List UInt8) (b off c : Nat) {w W : World} (h : RB w W x m z b off c) (hr : RC.readC z = none) :
    Calls Tryd.prog 35 #[.slice (some ⟨b, off, none⟩) (m.length + 4) c] W (RNo w) := by
  obtain ⟨hb, h0, h1, h2, h3, hm, hc, hx, hz, hl, hn, nm, HB⟩ := h
  have hA : ∀ o o' p, ((W.alloc o).alloc o').cell? ⟨b, p, none⟩ = W.cell? ⟨b, p, none⟩ := fun o o' p => (((Below.refl _ W).alloc (Nat.le_refl _) o).alloc (by simp) o').cell (p := ⟨b, p, none⟩) hb
  have CI : Hid (∀ W', Calls Tryd.prog 16 #[.string (M.bs x)] W' fun e w' => e = .returned (.bool true) ∧ w' = W') := fun W' => by rw [← nm]; exact rIsName_at x W' (by unfold maxLen; omega)
  have hne0 : ((M.bs RC.wMake).toList == [109, 97, 107, 101]) = true := by rw [bs_eqW]; rfl
  have hne : ((M.bs RC.wBy).toList == [98, 121]) = true := by rw [bs_eqW]; rfl
  have e4 : ¬ ((m.length : Int) + 4 < 4) := by omega
  have hws : w.heap.size ≤ W.heap.size := Below.size HB
  obtain ⟨fs, hum⟩ := undAc
  have CC : Hid (∀ W', Bl ((W.alloc (.cells zAc 42)).alloc (.cells zAc 42)) W' → Calls Tryd.prog 47 #[.string (M.bs z)] W' fun e w' => e = .returned (.tuple #[.string ⟨#[]⟩, .bool false]) ∧ Bl ((W.alloc (.cells zAc 42)).alloc (.cells zAc 42)) w') := fun W' h' => by
    have := rcode_at z h' hz
    rw [hr] at this
    exact this
  have HV0 : Hid (Bl ((W.alloc (.cells zAc 42)).alloc (.cells zAc 42)) ((W.alloc (.cells zAc 42)).alloc (.cells zAc 42))) := Bl.refl _
  have HST : Hid (∀ w2, Bl ((W.alloc (.cells zAc 42)).alloc (.cells zAc 42)) w2 → w2.heap[W.heap.size]? = some (.cells zAc 42 (0, 0)) ∧ w2.rangeAt (W.heap.size + 1) 0 [.string ⟨#[]⟩, .slice none 0 0, .string ⟨#[]⟩] ∧ Bl w (w2.setRow W.heap.size zAc)) := fun w2 h => by
    obtain ⟨a1, a2⟩ := v_blk W h
    refine ⟨a2, fun j u hu => ?_, (HB.step ((v_bl W).step h)).setRow hws _⟩
    rw [Lib.cell_of_heap a1, Nat.zero_add]
    rcases j with _ | _ | _ | j
    · cases hu; rfl
    · cases hu; rfl
    · cases hu; rfl
    · simp at hu
  clear hm hl nm HB hr
  unfold zAc at CC HST HV0
  go_enter Tryd.func35, Tryd.ntmps35
  go_wp2_with (first
    | (go_at_call 16; refine (CI.out _).mono ?_; rintro e w' ⟨rfl, hw⟩; rw [hw]; clear hw w' CI)
    | (go_at_call 47; refine (CC.out _ HV0.out).mono ?_; rintro e w2 ⟨rfl, hb2⟩; obtain ⟨HH, RN, HF⟩ := HST.out _ hb2; clear CC HV0 HST hb2)
    | (refine wpList_load_mid rfl 42 _ rfl (W.heap.size + 1) 0 rfl _ _ RN hum rfl (by rw [infoAc3]; rfl) ?_; clear RN)
    | (refine wpList_store_row rfl 42 _ _ rfl W.heap.size #[.string ⟨#[]⟩, .slice none 0 0, .string ⟨#[]⟩] rfl rfl 42 _ HH infoAc3 rfl (by simp [Value.oneCell']) ?_))
  (try simp only [Exit.inBlock, Exit.then])
  exact bodyPost_ret (results2_rowR rfl _ _ _ 42 #[.string ⟨#[]⟩, .slice none 0 0, .string ⟨#[]⟩] (0, 0) _ rfl (setRow_heap _ _ _ _ _ _ HH) hum rfl infoAc3) rfl (RNo.of rfl (by simp [Value.oneCell']) HF)

set_option maxRecDepth 8000 in
set_option maxHeartbeats 2000000 in
theorem raction_none (x : List UInt8) (z code : List UInt8) (b off c : Nat) {w W : World} (h : RB w W x [] z b off c) (hr : RC.readC z = some code) :
    Calls Tryd.prog 35 #[.slice (some ⟨b, off, none⟩) 4 c] W fun e w' => ∃ a' c', e = .returned (.tuple #[.agg (acL (x, [], code) a' c').toArray, .bool true]) ∧ w'.ownsRow W.heap.size 9 1 (.slice a' 0 c') 0 (([] : List (List UInt8)).map encS) ∧ Bl w w' := by
  obtain ⟨hb, h0, h1, h2, h3, hm, hc, hx, hz, hl, hn, nm, HB⟩ := h
  have hA : ∀ o o' p, ((W.alloc o).alloc o').cell? ⟨b, p, none⟩ = W.cell? ⟨b, p, none⟩ := fun o o' p => (((Below.refl _ W).alloc (Nat.le_refl _) o).alloc (by simp) o').cell (p := ⟨b, p, none⟩) hb
  have CI : Hid (∀ W', Calls Tryd.prog 16 #[.string (M.bs x)] W' fun e w' => e = .returned (.bool true) ∧ w' = W') := fun W' => by rw [← nm]; exact rIsName_at x W' (by unfold maxLen; omega)
  have hne0 : ((M.bs RC.wMake).toList == [109, 97, 107, 101]) = true := by rw [bs_eqW]; rfl
  have hne : ((M.bs RC.wBy).toList == [98, 121]) = true := by rw [bs_eqW]; rfl
  have hws : w.heap.size ≤ W.heap.size := Below.size HB
  obtain ⟨fs, hum⟩ := undAc
  have CC : Hid (∀ W', Bl ((W.alloc (.cells zAc 42)).alloc (.cells zAc 42)) W' → Calls Tryd.prog 47 #[.string (M.bs z)] W' fun e w' => e = .returned (.tuple #[.string (M.bs code), .bool true]) ∧ Bl ((W.alloc (.cells zAc 42)).alloc (.cells zAc 42)) w') := fun W' h' => by
    have := rcode_at z h' hz
    rw [hr] at this
    exact this
  have HV0 : Hid (Bl ((W.alloc (.cells zAc 42)).alloc (.cells zAc 42)) ((W.alloc (.cells zAc 42)).alloc (.cells zAc 42))) := Bl.refl _
  have HST : Hid (∀ w2, Bl ((W.alloc (.cells zAc 42)).alloc (.cells zAc 42)) w2 → AX W x code [] (.slice none 0 0) ((w2.setCell ⟨W.heap.size + 1, 0, none⟩ (.string (M.bs x))).setCell ⟨W.heap.size + 1, 2, none⟩ (.string (M.bs code))) ∧ w2.cell? ⟨b, off + 1, none⟩ = some (.string (M.bs x)) ∧ (∀ i t, ([] : List (List UInt8))[i]? = some t → ((w2.setCell ⟨W.heap.size + 1, 0, none⟩ (.string (M.bs x))).setCell ⟨W.heap.size + 1, 2, none⟩ (.string (M.bs code))).cell? ⟨b, off + 2 + i, none⟩ = some (.string (M.bs t))) ∧
      (w2.cell? ⟨W.heap.size + 1, 0, none⟩ = some (.string ⟨#[]⟩) ∧ w2.frozen? ⟨W.heap.size + 1, 0, none⟩ = false) ∧
      ((w2.setCell ⟨W.heap.size + 1, 0, none⟩ (.string (M.bs x))).cell? ⟨W.heap.size + 1, 2, none⟩ = some (.string ⟨#[]⟩) ∧ (w2.setCell ⟨W.heap.size + 1, 0, none⟩ (.string (M.bs x))).frozen? ⟨W.heap.size + 1, 2, none⟩ = false)) := fun w2 h => by
    obtain ⟨a1, a2, a3⟩ := AX.start W x code h
    refine ⟨a1, ?_, fun i t ht => ?_, a2, a3⟩
    · rw [Bl.cell ((v_bl W).step h) hb]; exact h1
    · rw [Bl.cell a1.bl hb]; exact hm i t ht
  have HFN : Hid (∀ U cs, Bl W U → Bl w (U.setRow W.heap.size cs)) := fun U cs h => (HB.step h).setRow hws _
  simp only [List.length_nil, Nat.zero_add] at h2 h3
  clear hm hl nm HB hr
  unfold zAc at CC HST HV0
  unfold acL
  simp only [List.length_nil]
  go_enter Tryd.func35, Tryd.ntmps35
  go_wp2_with (first
    | (go_at_call 16; refine (CI.out _).mono ?_; rintro e w' ⟨rfl, hw⟩; rw [hw]; clear hw w' CI)
    | (go_at_call 47; refine (CC.out _ HV0.out).mono ?_; rintro e w2 ⟨rfl, hb2⟩; obtain ⟨AX0, hx2, hM, ⟨q1, q2⟩, ⟨q3, q4⟩⟩ := HST.out _ hb2; have RN := AX0.range; have HH := AX0.res; have HF := HFN.out _ #[.string (M.bs x), .slice none 0 0, .string (M.bs code)] AX0.bl; clear hM AX0; clear CC HV0 HST hb2)
    | (refine wpList_load_mid rfl 42 _ rfl (W.heap.size + 1) 0 rfl _ _ RN hum rfl (by rw [infoAc3]; rfl) ?_; clear RN)
    | (refine wpList_store_row rfl 42 _ _ rfl W.heap.size #[.string (M.bs x), .slice none 0 0, .string (M.bs code)] rfl rfl 42 _ HH infoAc3 rfl (by simp [Value.oneCell']) ?_))
  · (try simp only [Exit.inBlock, Exit.then])
    exact bodyPost_ret (results2_rowR rfl _ _ _ 42 #[.string (M.bs x), .slice none 0 0, .string (M.bs code)] (0, 0) _ rfl (setRow_heap _ _ _ _ _ _ HH) hum rfl infoAc3) rfl ⟨none, 0, rfl, ⟨rfl, Or.inl ⟨rfl, rfl⟩⟩, HF⟩

set_option maxRecDepth 8000 in
set_option maxHeartbeats 2000000 in
theorem raction_from (x f : List UInt8) (r : List (List UInt8)) (z code : List UInt8) (b off c : Nat) {w W : World} (h : RB w W x (f :: r) z b off c) (hr : RC.readC z = some code) (hq : f ≠ RC.wFrom ∨ r = [] ∨ 4 < r.length) :
    Calls Tryd.prog 35 #[.slice (some ⟨b, off, none⟩) (r.length + 1 + 4) c] W (RNo w) := by
  obtain ⟨hb, h0, h1, h2, h3, hm, hc, hx, hz, hl, hn, nm, HB⟩ := h
  have hA : ∀ o o' p, ((W.alloc o).alloc o').cell? ⟨b, p, none⟩ = W.cell? ⟨b, p, none⟩ := fun o o' p => (((Below.refl _ W).alloc (Nat.le_refl _) o).alloc (by simp) o').cell (p := ⟨b, p, none⟩) hb
  have CI : Hid (∀ W', Calls Tryd.prog 16 #[.string (M.bs x)] W' fun e w' => e = .returned (.bool true) ∧ w' = W') := fun W' => by rw [← nm]; exact rIsName_at x W' (by unfold maxLen; omega)
  have hne0 : ((M.bs RC.wMake).toList == [109, 97, 107, 101]) = true := by rw [bs_eqW]; rfl
  have hne : ((M.bs RC.wBy).toList == [98, 121]) = true := by rw [bs_eqW]; rfl
  have e4 : ¬ ((r.length : Int) + 1 + 4 < 4) := by omega
  have hws : w.heap.size ≤ W.heap.size := Below.size HB
  obtain ⟨fs, hum⟩ := undAc
  have CC : Hid (∀ W', Bl ((W.alloc (.cells zAc 42)).alloc (.cells zAc 42)) W' → Calls Tryd.prog 47 #[.string (M.bs z)] W' fun e w' => e = .returned (.tuple #[.string (M.bs code), .bool true]) ∧ Bl ((W.alloc (.cells zAc 42)).alloc (.cells zAc 42)) w') := fun W' h' => by
    have := rcode_at z h' hz
    rw [hr] at this
    exact this
  have HV0 : Hid (Bl ((W.alloc (.cells zAc 42)).alloc (.cells zAc 42)) ((W.alloc (.cells zAc 42)).alloc (.cells zAc 42))) := Bl.refl _
  have HST : Hid (∀ w2, Bl ((W.alloc (.cells zAc 42)).alloc (.cells zAc 42)) w2 → AX W x code [] (.slice none 0 0) ((w2.setCell ⟨W.heap.size + 1, 0, none⟩ (.string (M.bs x))).setCell ⟨W.heap.size + 1, 2, none⟩ (.string (M.bs code))) ∧ w2.cell? ⟨b, off + 1, none⟩ = some (.string (M.bs x)) ∧ (∀ i t, (f :: r)[i]? = some t → ((w2.setCell ⟨W.heap.size + 1, 0, none⟩ (.string (M.bs x))).setCell ⟨W.heap.size + 1, 2, none⟩ (.string (M.bs code))).cell? ⟨b, off + 2 + i, none⟩ = some (.string (M.bs t))) ∧
      (w2.cell? ⟨W.heap.size + 1, 0, none⟩ = some (.string ⟨#[]⟩) ∧ w2.frozen? ⟨W.heap.size + 1, 0, none⟩ = false) ∧
      ((w2.setCell ⟨W.heap.size + 1, 0, none⟩ (.string (M.bs x))).cell? ⟨W.heap.size + 1, 2, none⟩ = some (.string ⟨#[]⟩) ∧ (w2.setCell ⟨W.heap.size + 1, 0, none⟩ (.string (M.bs x))).frozen? ⟨W.heap.size + 1, 2, none⟩ = false)) := fun w2 h => by
    obtain ⟨a1, a2, a3⟩ := AX.start W x code h
    refine ⟨a1, ?_, fun i t ht => ?_, a2, a3⟩
    · rw [Bl.cell ((v_bl W).step h) hb]; exact h1
    · rw [Bl.cell a1.bl hb]; exact hm i t ht
  have HFN : Hid (∀ U cs, Bl W U → Bl w (U.setRow W.heap.size cs)) := fun U cs h => (HB.step h).setRow hws _
  simp only [List.length_cons] at h2 h3 hc hn
  have hf := bs_eqW f RC.wFrom
  unfold RC.wFrom at hf
  have hmz : ((r.length : Int) + 1 == 0) = false := by rw [beq_eq_false_iff_ne]; omega
  clear hm hl nm HB hr
  unfold zAc at CC HST HV0
  by_cases c1 : f = RC.wFrom
  · rw [decide_eq_true (show f = [102, 114, 111, 109] from c1)] at hf
    by_cases c2 : (r.length : Int) + 1 < 2
    · clear c1 hq
      go_enter Tryd.func35, Tryd.ntmps35
      go_wp2_with (first
    | (go_at_call 16; refine (CI.out _).mono ?_; rintro e w' ⟨rfl, hw⟩; rw [hw]; clear hw w' CI)
    | (go_at_call 47; refine (CC.out _ HV0.out).mono ?_; rintro e w2 ⟨rfl, hb2⟩; obtain ⟨AX0, hx2, hM, ⟨q1, q2⟩, ⟨q3, q4⟩⟩ := HST.out _ hb2; have RN := AX0.range; have HH := AX0.res; have HF := HFN.out _ #[.string (M.bs x), .slice none 0 0, .string (M.bs code)] AX0.bl; have hM0 := hM 0 f rfl; rw [Nat.add_zero] at hM0; clear hM AX0; clear CC HV0 HST hb2)
    | (refine wpList_load_mid rfl 42 _ rfl (W.heap.size + 1) 0 rfl _ _ RN hum rfl (by rw [infoAc3]; rfl) ?_; clear RN)
    | (refine wpList_store_row rfl 42 _ _ rfl W.heap.size #[.string (M.bs x), .slice none 0 0, .string (M.bs code)] rfl rfl 42 _ HH infoAc3 rfl (by simp [Value.oneCell']) ?_))
      (try simp only [Exit.inBlock, Exit.then])
      exact bodyPost_ret (results2_rowR rfl _ _ _ 42 #[.string (M.bs x), .slice none 0 0, .string (M.bs code)] (0, 0) _ rfl (setRow_heap _ _ _ _ _ _ HH) hum rfl infoAc3) rfl (RNo.of rfl (by simp [Value.oneCell']) HF)
    · have c3 : (5 : Int) < (r.length : Int) + 1 := by
        rcases hq with h | h | h
        · exact absurd c1 h
        · rw [h] at c2; simp at c2
        · omega
      clear c1 hq
      go_enter Tryd.func35, Tryd.ntmps35
      go_wp2_with (first
    | (go_at_call 16; refine (CI.out _).mono ?_; rintro e w' ⟨rfl, hw⟩; rw [hw]; clear hw w' CI)
    | (go_at_call 47; refine (CC.out _ HV0.out).mono ?_; rintro e w2 ⟨rfl, hb2⟩; obtain ⟨AX0, hx2, hM, ⟨q1, q2⟩, ⟨q3, q4⟩⟩ := HST.out _ hb2; have RN := AX0.range; have HH := AX0.res; have HF := HFN.out _ #[.string (M.bs x), .slice none 0 0, .string (M.bs code)] AX0.bl; have hM0 := hM 0 f rfl; rw [Nat.add_zero] at hM0; clear hM AX0; clear CC HV0 HST hb2)
    | (refine wpList_load_mid rfl 42 _ rfl (W.heap.size + 1) 0 rfl _ _ RN hum rfl (by rw [infoAc3]; rfl) ?_; clear RN)
    | (refine wpList_store_row rfl 42 _ _ rfl W.heap.size #[.string (M.bs x), .slice none 0 0, .string (M.bs code)] rfl rfl 42 _ HH infoAc3 rfl (by simp [Value.oneCell']) ?_))
      (try simp only [Exit.inBlock, Exit.then])
      exact bodyPost_ret (results2_rowR rfl _ _ _ 42 #[.string (M.bs x), .slice none 0 0, .string (M.bs code)] (0, 0) _ rfl (setRow_heap _ _ _ _ _ _ HH) hum rfl infoAc3) rfl (RNo.of rfl (by simp [Value.oneCell']) HF)
  · rw [decide_eq_false (show ¬ f = [102, 114, 111, 109] from c1)] at hf
    clear c1 hq
    go_enter Tryd.func35, Tryd.ntmps35
    go_wp2_with (first
    | (go_at_call 16; refine (CI.out _).mono ?_; rintro e w' ⟨rfl, hw⟩; rw [hw]; clear hw w' CI)
    | (go_at_call 47; refine (CC.out _ HV0.out).mono ?_; rintro e w2 ⟨rfl, hb2⟩; obtain ⟨AX0, hx2, hM, ⟨q1, q2⟩, ⟨q3, q4⟩⟩ := HST.out _ hb2; have RN := AX0.range; have HH := AX0.res; have HF := HFN.out _ #[.string (M.bs x), .slice none 0 0, .string (M.bs code)] AX0.bl; have hM0 := hM 0 f rfl; rw [Nat.add_zero] at hM0; clear hM AX0; clear CC HV0 HST hb2)
    | (refine wpList_load_mid rfl 42 _ rfl (W.heap.size + 1) 0 rfl _ _ RN hum rfl (by rw [infoAc3]; rfl) ?_; clear RN)
    | (refine wpList_store_row rfl 42 _ _ rfl W.heap.size #[.string (M.bs x), .slice none 0 0, .string (M.bs code)] rfl rfl 42 _ HH infoAc3 rfl (by simp [Value.oneCell']) ?_))
    (try simp only [Exit.inBlock, Exit.then])
    exact bodyPost_ret (results2_rowR rfl _ _ _ 42 #[.string (M.bs x), .slice none 0 0, .string (M.bs code)] (0, 0) _ rfl (setRow_heap _ _ _ _ _ _ HH) hum rfl infoAc3) rfl (RNo.of rfl (by simp [Value.oneCell']) HF)
end Go.Proofs.YtgjpcddjfmdobaaDoor
