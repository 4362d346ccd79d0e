/- A sky in memory: New, Put, Drop. -/
import Derived.Test.YtokicaacllaijaaHzC
import Derived.Test.YtokicaacllaijaaHzN
import Derived.BigGuard
namespace Go.Proofs.Ytokicaacllaijaa
open Go.RowKit
set_option linter.unusedVariables false
set_option linter.unusedSimpArgs false
attribute [local go_sem ↓] zeroH zeroD

abbrev tSky : TypeId := 68
abbrev tSi : TypeId := 71
abbrev tP7 : TypeId := 66
/-- what is known of nodes -/
abbrev SkF := Nat → Option (HZ.H × Int)
def sk0 : SkF := fun _ => none
def SkF.put (f : SkF) (n : Nat) (h : HZ.H) (t : Int) : SkF := fun j => if j = n then some (h, t) else f j
def SkF.drop (f : SkF) (n : Nat) : SkF := fun j => if j = n then none else f j
/-- a node's sight, as it lies -/
def siC (h : HZ.H) (t : Int) : List Value := hC h ++ [.int .i64 t]
theorem siC_len (h : HZ.H) (t : Int) : (siC h t).length = 65 := by unfold siC; rw [List.length_append, hC_len]; rfl
def SiP (W : World) (p : Nat) (v : Value) : Option (HZ.H × Int) → Prop
  | none => v = .pointer none
  | some (h, t) => ∃ b, b ≠ p ∧ v = .pointer (some ⟨b, 0, none⟩) ∧ W.heap[b]? = some (.cells (siC h t).toArray tSi (0, 0))
/-- a sky in memory -/
def SKY (w : World) (p : Nat) (f : SkF) (W : World) : Prop := Bl w W ∧ w.heap.size ≤ p ∧ ∃ L : List Value, L.length = 7 ∧ W.heap[p]? = some (.cells L.toArray tSky (0, 0)) ∧ ∀ j, j < 7 → ∃ v, L[j]? = some v ∧ SiP W p v (f j)
theorem SiP.keep {W W' : World} {p : Nat} {v : Value} {o : Option (HZ.H × Int)} (h : SiP W p v o) (hk : ∀ b, b < W.heap.size → b ≠ p → W'.heap[b]? = W.heap[b]?) : SiP W' p v o := by
  cases o with
  | none => exact h
  | some x =>
    obtain ⟨y, t⟩ := x
    obtain ⟨b, h1, h2, h3⟩ := h
    exact ⟨b, h1, h2, by rw [hk b (lt_heap h3) h1]; exact h3⟩
theorem SKY.grow {w W W' : World} {p : Nat} {f : SkF} (h : SKY w p f W) (b : Bl W W') : SKY w p f W' := by
  obtain ⟨h1, h2, L, h3, h4, h5⟩ := h
  exact ⟨h1.step b, h2, L, h3, b.heap h4, fun j hj => by
    obtain ⟨v, g1, g2⟩ := h5 j hj
    exact ⟨v, g1, g2.keep fun k hk _ => Below.block b k hk⟩⟩
theorem SKY.bl {w W : World} {p : Nat} {f : SkF} (h : SKY w p f W) : Bl w W := h.1
theorem SKY.base {w0 w W : World} {p : Nat} {f : SkF} (h : SKY w p f W) (b : Bl w0 w) : SKY w0 p f W := ⟨b.step h.1, Nat.le_trans b.size h.2.1, h.2.2⟩
/-- one of a sky's pointers stored anew -/
theorem SKY.set {w W U : World} {p : Nat} {f : SkF} (h : SKY w p f W) {L : List Value} (hL : W.heap[p]? = some (.cells L.toArray tSky (0, 0))) {n : Nat} (hn : n < 7) {v : Value} {o : Option (HZ.H × Int)} (hv : SiP W p v o) (hU : U.heap[p]? = some (.cells (L.set n v).toArray tSky (0, 0))) (hO : Of1 p W U) : SKY w p (fun j => if j = n then o else f j) U := by
  obtain ⟨h1, h2, L', h3, h4, h5⟩ := h
  obtain rfl : L' = L := by
    rw [hL] at h4
    simp only [Option.some.injEq, Obj.cells.injEq, and_true, true_and] at h4
    exact (Array.toList_inj.2 h4).symm
  refine ⟨hO.bl h1 h2, h2, _, by rw [List.length_set]; exact h3, hU, fun j hj => ?_⟩
  by_cases e : j = n
  · subst e
    refine ⟨v, by rw [List.getElem?_set_self (by omega)], ?_⟩
    show SiP U p v (if j = j then o else f j)
    rw [if_pos rfl]
    exact hv.keep fun b hb hp => hO.block b hb hp
  · obtain ⟨u, g1, g2⟩ := h5 j hj
    refine ⟨u, by rw [List.getElem?_set_ne (fun x => e x.symm)]; exact g1, ?_⟩
    show SiP U p u (if j = n then o else f j)
    rw [if_neg e]
    exact g2.keep fun b hb hp => hO.block b hb hp
def nils : List Value := List.replicate 7 (.pointer none)
theorem builtSky : Try.prog.built tSky [] = some nils.toArray := by kernel_rfl
theorem nils_one : ∀ u ∈ nils, u.oneCell' = true := fun u hu => by rw [List.eq_of_mem_replicate hu]; rfl
theorem infoSky : (Try.prog.info? tSky).map (·.size) = some 7 := by kernel_rfl
theorem sky_new {w : World} : SKY w w.heap.size sk0 (w.alloc (.cells nils.toArray tSky)) := ⟨(Bl.refl w).alloc _, Nat.le_refl _, nils, rfl, heap_alloc_new w _, fun j hj => ⟨.pointer none, by unfold nils; rw [List.getElem?_replicate, if_pos hj], rfl⟩⟩
set_option maxRecDepth 8000 in
theorem New_x (w : World) : Calls Try.prog 19 #[] w fun e w' => e = .returned (.pointer (some ⟨w.heap.size, 0, none⟩)) ∧ SKY w w.heap.size sk0 w' := by
  have HS : Hid (SKY w w.heap.size sk0 (w.alloc (.cells nils.toArray tSky))) := sky_new
  go_enter Try.func19, Try.ntmps19
  go_wp2_with (first
    | (refine wl_build rfl tSky #[] rfl [] rfl nils.toArray builtSky ?_))
  go_ret
  exact ⟨rfl, HS.out⟩
def isN (n : Int) : Bool := decide (1 ≤ n) && decide (n ≤ 6)
def isT (t : Int) : Bool := decide (0 ≤ t) && decide (t ≤ 1099511627776)
theorem isNode_x (n : Int) (w : World) : Calls Try.prog 32 #[.int .i64 n] w fun e w' => e = .returned (.bool (isN n)) ∧ w' = w := by
  unfold isN
  by_cases h1 : 1 ≤ n
  · have e := decide_eq_true h1
    go_enter Try.func32, Try.ntmps32
    go_wp2_with go_big_skip
    go_ret
    exact ⟨by rw [e]; rfl, rfl⟩
  · have e := decide_eq_false h1
    have E : Hid (decide (1 ≤ n) = false) := e
    clear e
    go_enter Try.func32, Try.ntmps32
    go_wp2_with go_big_skip
    go_ret
    exact ⟨by rw [E.out]; rfl, rfl⟩
theorem isTime_x (n : Int) (w : World) : Calls Try.prog 33 #[.int .i64 n] w fun e w' => e = .returned (.bool (isT n)) ∧ w' = w := by
  unfold isT
  by_cases h1 : 0 ≤ n
  · have h1' : n ≥ 0 := h1
    have e := decide_eq_true h1
    have E : Hid (decide (0 ≤ n) = true) := e
    clear e
    go_enter Try.func33, Try.ntmps33
    go_wp2_with go_big_skip
    go_ret
    exact ⟨by rw [E.out]; rfl, rfl⟩
  · have h1' : ¬ n ≥ 0 := h1
    have e := decide_eq_false h1
    have E : Hid (decide (0 ≤ n) = false) := e
    clear e
    go_enter Try.func33, Try.ntmps33
    go_wp2_with go_big_skip
    go_ret
    exact ⟨by rw [E.out]; rfl, rfl⟩
theorem foldO_at (L : List Value) : ∀ (Z : Array Value) (off k : Nat), off + k + L.length ≤ Z.size → (L.zipIdx k).foldl (fun (cs : Array Value) (x : Value × Nat) => cs.setIfInBounds (off + x.2) x.1) Z = (Z.toList.take (off + k) ++ L ++ Z.toList.drop (off + k + L.length)).toArray := by
  induction L with
  | nil => intro Z off k h; simp
  | cons x L ih =>
    intro Z off k h
    rw [List.zipIdx_cons, List.foldl_cons, ih _ _ _ (by simp at h ⊢; omega)]
    congr 1
    simp only [List.length_cons] at h
    have hk : off + k < Z.toList.length := by simp; omega
    have e : off + (k + 1) = off + k + 1 := by omega
    rw [e, Array.toList_setIfInBounds, List.take_add_one, List.getElem?_set_self hk, List.take_set_of_le (Nat.le_refl _), List.drop_set_of_lt (by omega)]
    simp only [List.length_cons, Option.toList_some, List.append_assoc, List.cons_append, List.nil_append]
    rw [show off + k + 1 + L.length = off + k + (L.length + 1) by omega]
theorem fill_cons (place : Nat → Option (Nat × Nat)) (A M' Z' : List Value) (i : Nat) (v : Value) (rest : List (Nat × Value)) (L : List Value) (off : Nat) (hv : v.cells = L.toArray) (hp : place i = some (off, L.length)) (hA : A.length = off) (hM : M'.length = L.length) :
    Instr.fill place (A ++ M' ++ Z').toArray ((i, v) :: rest) = Instr.fill place (A ++ L ++ Z').toArray rest := by
  have hz : (A ++ M' ++ Z').toArray.size = off + L.length + Z'.length := by simp [hA, hM]; omega
  rw [Instr.fill, hp]
  simp only [hv, List.size_toArray]
  rw [if_neg (by simp [hA, hM])]
  congr 1
  have := foldO_at L (A ++ M' ++ Z').toArray off 0 (by rw [hz]; omega)
  simp only [Nat.add_zero] at this
  rw [show L.toArray.zipIdx = (L.zipIdx 0).toArray by simp]
  rw [List.foldl_toArray]
  refine this.trans ?_
  congr 1
  have e1 : (A ++ M' ++ Z').take off = A := by rw [List.append_assoc]; exact List.take_left' hA
  have e2 : (A ++ M' ++ Z').drop (off + L.length) = Z' := List.drop_left' (by simp [hA, hM])
  rw [e1, e2]
theorem built_si (L : List (Nat × Value)) : Try.prog.built tSi L = Instr.fill (fun i => (#[(0, 64), (64, 1)] : Array (Nat × Nat))[i]?) (hC HZ.zero ++ [Value.int .i64 0]).toArray L := by kernel_rfl
theorem builtSi (h : HZ.H) (t : Int) : Try.prog.built tSi [(0, .agg (hC h).toArray), (1, .int .i64 t)] = some (siC h t).toArray := by
  rw [built_si]
  have e := fill_cons (fun i => (#[(0, 64), (64, 1)] : Array (Nat × Nat))[i]?) [] (hC HZ.zero) [.int .i64 0] 0 (.agg (hC h).toArray) [(1, .int .i64 t)] (hC h) 0 rfl (by simp [hC_len]) rfl (by rw [hC_len, hC_len])
  rw [List.nil_append] at e
  rw [e]
  have e2 := fill_cons (fun i => (#[(0, 64), (64, 1)] : Array (Nat × Nat))[i]?) (hC h) [.int .i64 0] [] 1 (.int .i64 t) [] [.int .i64 t] 64 rfl (by simp) (hC_len h) rfl
  rw [List.append_nil] at e2
  rw [List.nil_append, e2, Instr.fill, List.append_nil]
  rfl
theorem siC_one (h : HZ.H) (t : Int) : ∀ u ∈ siC h t, u.oneCell' = true := fun u hu => by
  unfold siC at hu
  rcases List.mem_append.1 hu with h1 | h1
  · exact hC_one h u h1
  · simp at h1; subst h1; rfl
set_option maxRecDepth 8000 in
set_option maxHeartbeats 2000000 in
/-- of a nil sky nothing -/
theorem Put_nil (n t : Int) (h : HZ.H) (w : World) : Calls Try.prog 20 #[.pointer none, .int .i64 n, .agg (hC h).toArray, .int .i64 t] w fun e w' => e = .returned (.tuple #[]) ∧ Bl w w' := by
  have HB : Hid (Bl w (w.alloc (.cells (hC h).toArray tH))) := (Bl.refl w).alloc _
  generalize hC h = LH at *
  go_enter Try.func20, Try.ntmps20
  go_wp2_with go_big_skip
  first | refine bodyPost_end (results_none rfl _ _ _) rfl ?_ | refine bodyPost_ret (results_none rfl _ _ _) rfl ?_
  exact ⟨rfl, HB.out⟩
theorem Drop_nil (n : Int) (w : World) : Calls Try.prog 22 #[.pointer none, .int .i64 n] w fun e w' => e = .returned (.tuple #[]) ∧ w' = w := by
  go_enter Try.func22, Try.ntmps22
  go_wp2_with go_big_skip
  first | refine bodyPost_end (results_none rfl _ _ _) rfl ?_ | refine bodyPost_ret (results_none rfl _ _ _) rfl ?_
  exact ⟨rfl, rfl⟩
set_option maxRecDepth 8000 in
set_option maxHeartbeats 2000000 in
theorem Put_no {w W : World} {p : Nat} {f : SkF} (x : SKY w p f W) (n t : Int) (h : HZ.H) (hno : isN n = false ∨ isT t = false) : Calls Try.prog 20 #[.pointer (some ⟨p, 0, none⟩), .int .i64 n, .agg (hC h).toArray, .int .i64 t] W fun e w' => e = .returned (.tuple #[]) ∧ SKY w p f w' := by
  have HB : Hid (SKY w p f (W.alloc (.cells (hC h).toArray tH))) := x.grow ((Bl.refl W).alloc _)
  have C1 : Hid (∀ U, Calls Try.prog 32 #[.int .i64 n] U fun e w' => e = .returned (.bool (isN n)) ∧ w' = U) := isNode_x n
  have C2 : Hid (∀ U, Calls Try.prog 33 #[.int .i64 t] U fun e w' => e = .returned (.bool (isT t)) ∧ w' = U) := isTime_x t
  clear x
  generalize hC h = LH at *
  generalize isN n = a at *
  generalize isT t = b at *
  cases a
  · clear hno
    go_enter Try.func20, Try.ntmps20
    go_wp2_with (first
      | go_big_skip
      | (go_at_call 32; refine (C1.out _).mono ?_; rintro e w' ⟨rfl, hw⟩; rw [hw]; clear hw))
    first | refine bodyPost_end (results_none rfl _ _ _) rfl ?_ | refine bodyPost_ret (results_none rfl _ _ _) rfl ?_
    exact ⟨rfl, HB.out⟩
  · obtain rfl : b = false := by simpa using hno
    clear hno
    go_enter Try.func20, Try.ntmps20
    go_wp2_with (first
      | go_big_skip
      | (go_at_call 32; refine (C1.out _).mono ?_; rintro e w' ⟨rfl, hw⟩; rw [hw]; clear hw)
      | (go_at_call 33; refine (C2.out _).mono ?_; rintro e w' ⟨rfl, hw⟩; rw [hw]; clear hw))
    first | refine bodyPost_end (results_none rfl _ _ _) rfl ?_ | refine bodyPost_ret (results_none rfl _ _ _) rfl ?_
    exact ⟨rfl, HB.out⟩
set_option maxRecDepth 8000 in
set_option maxHeartbeats 2000000 in
theorem Drop_no {w W : World} {p : Nat} {f : SkF} (x : SKY w p f W) (n : Int) (hno : isN n = false) : Calls Try.prog 22 #[.pointer (some ⟨p, 0, none⟩), .int .i64 n] W fun e w' => e = .returned (.tuple #[]) ∧ SKY w p f w' := by
  have HB : Hid (SKY w p f W) := x
  have C1 : Hid (∀ U, Calls Try.prog 32 #[.int .i64 n] U fun e w' => e = .returned (.bool false) ∧ w' = U) := by rw [← hno]; exact isNode_x n
  clear x hno
  go_enter Try.func22, Try.ntmps22
  go_wp2_with (first
    | go_big_skip
    | (go_at_call 32; refine (C1.out _).mono ?_; rintro e w' ⟨rfl, hw⟩; rw [hw]; clear hw))
  first | refine bodyPost_end (results_none rfl _ _ _) rfl ?_ | refine bodyPost_ret (results_none rfl _ _ _) rfl ?_
  exact ⟨rfl, HB.out⟩
theorem infoPs : (Try.prog.info? 65).map (·.size) = some 1 := by kernel_rfl
set_option maxRecDepth 8000 in
set_option maxHeartbeats 2000000 in
theorem Drop_yes {w W : World} {p : Nat} {f : SkF} (x : SKY w p f W) (n : Nat) (h1 : 1 ≤ n) (h6 : n ≤ 6) : Calls Try.prog 22 #[.pointer (some ⟨p, 0, none⟩), .int .i64 (n : Int)] W fun e w' => e = .returned (.tuple #[]) ∧ SKY w p (f.drop n) w' := by
  have C1 : Hid (∀ U, Calls Try.prog 32 #[.int .i64 (n : Int)] U fun e w' => e = .returned (.bool true) ∧ w' = U) := by
    have e : isN (n : Int) = true := by unfold isN; rw [decide_eq_true (by omega), decide_eq_true (by omega)]; rfl
    rw [← e]; exact isNode_x n
  obtain ⟨L, hL, hp, hx⟩ := x.2.2
  have HX : Hid (∀ U, U.heap[p]? = some (.cells (L.set n (.pointer none)).toArray tSky (0, 0)) → Of1 p W U → SKY w p (f.drop n) U) := fun U hU hO => x.set hp (by omega) (o := none) rfl hU hO
  have HP : Hid (W.heap[p]? = some (.cells L.toArray tSky (0, 0))) := hp
  clear hx hp x
  have hn7 : (n : Int) < 7 := by omega
  go_enter Try.func22, Try.ntmps22
  go_wp2_with (first
    | go_big_skip
    | (go_at_call 32; refine (C1.out _).mono ?_; rintro e w' ⟨rfl, hw⟩; rw [hw]; clear hw)
    | (refine wl_setU rfl 65 _ _ rfl p n (.pointer none) rfl rfl rfl infoPs L (L.set n (.pointer none)) tSky HP.out (by omega) rfl ?_; intro U hU hO))
  first | refine bodyPost_end (results_none rfl _ _ _) rfl ?_ | refine bodyPost_ret (results_none rfl _ _ _) rfl ?_
  exact ⟨rfl, HX.out U hU hO⟩
set_option maxRecDepth 8000 in
set_option maxHeartbeats 2000000 in
theorem Put_yes {w W : World} {p : Nat} {f : SkF} (x : SKY w p f W) (n : Nat) (h1 : 1 ≤ n) (h6 : n ≤ 6) (t : Int) (ht : isT t = true) (h : HZ.H) : Calls Try.prog 20 #[.pointer (some ⟨p, 0, none⟩), .int .i64 (n : Int), .agg (hC h).toArray, .int .i64 t] W fun e w' => e = .returned (.tuple #[]) ∧ SKY w p (f.put n h t) w' := by
  have C1 : Hid (∀ U, Calls Try.prog 32 #[.int .i64 (n : Int)] U fun e w' => e = .returned (.bool true) ∧ w' = U) := by
    have e : isN (n : Int) = true := by unfold isN; rw [decide_eq_true (by omega), decide_eq_true (by omega)]; rfl
    rw [← e]; exact isNode_x n
  have C2 : Hid (∀ U, Calls Try.prog 33 #[.int .i64 t] U fun e w' => e = .returned (.bool true) ∧ w' = U) := by rw [← ht]; exact isTime_x t
  obtain ⟨L, hL, hp, hx⟩ := x.2.2
  have hpl : p < W.heap.size := lt_heap hp
  have HX : Hid (∀ V U g, Bl W V → g ≠ p → V.heap[g]? = some (.cells (siC h t).toArray tSi (0, 0)) → U.heap[p]? = some (.cells (L.set n (.pointer (some ⟨g, 0, none⟩))).toArray tSky (0, 0)) → Of1 p V U → SKY w p (f.put n h t) U) := fun V U g hb hg hg2 hU hO => (x.grow hb).set (hb.heap hp) (by omega) (o := some (h, t)) ⟨g, hg, rfl, hg2⟩ hU hO
  have HP : Hid (∀ U, Bl W U → U.heap[p]? = some (.cells L.toArray tSky (0, 0))) := fun U hb => hb.heap hp
  have KP : Hid (∀ U, Bl (W.alloc (.cells (hC h).toArray tH)) U → U.rangeAt W.heap.size 0 (hC h)) := fun U b => range_of (b.heap (heap_alloc_new W _))
  have HV : Hid (Bl (W.alloc (.cells (hC h).toArray tH)) (W.alloc (.cells (hC h).toArray tH)).drew) := (Bl.refl _).drew
  have HWV : Hid (∀ U, Bl (W.alloc (.cells (hC h).toArray tH)) U → Bl W U) := fun U b => ((Bl.refl W).alloc _).step b
  have HIH : Hid ((Try.prog.info? tH).map (·.size) = some (hC h).length) := by show _ = _; rw [hC_len]; exact infoH
  have HBU : Hid (Try.prog.built tSi [(0, .agg (hC h).toArray), (1, .int .i64 t)] = some (siC h t).toArray) := builtSi h t
  clear hx hp x ht
  have hn7 : (n : Int) < 7 := by omega
  have hnw : IntKind.i64.wrap (n : Int) = (n : Int) := by rw [IntKind.wrap_i64]; omega
  have hsz1 : (W.alloc (.cells (hC h).toArray tH)).drew.heap.size = W.heap.size + 1 := by simp
  generalize siC h t = LS at *
  generalize hC h = LH at *
  go_enter Try.func20, Try.ntmps20
  go_wp2_with (first
    | go_big_skip
    | (go_at_call 32; refine (C1.out _).mono ?_; rintro e w' ⟨rfl, hw⟩; rw [hw]; clear hw)
    | (go_at_call 33; refine (C2.out _).mono ?_; rintro e w' ⟨rfl, hw⟩; rw [hw]; clear hw))
  refine wp_region_noPanic ?_
  refine wp_region_held_drew (S := fun U => U.rangeAt W.heap.size 0 LH) (by kernel_rfl) (KP.out _ (HV.out)) (fun hHeld => ?_)
  refine wpAnyH_take (i := 0) rfl (by kernel_rfl) (by kernel_rfl) (by kernel_rfl) (fun _ _ _ h => h) (yi_move (by kernel_rfl) rfl rfl) (by assumption) ?_
  simp only [Act.put, List.getElem_toArray, List.getElem_cons_succ, List.getElem_cons_zero, List.setIfInBounds_toArray, List.set_cons_zero, List.set_cons_succ, Act.eval, Array.getD_eq_getD_getElem?, List.getElem?_toArray, List.getElem?_cons_succ, List.getElem?_cons_zero, Option.getD_some]
  refine wpAnyH_take (i := 1) rfl (by kernel_rfl) (by kernel_rfl) (by kernel_rfl) (fun _ _ _ h => h) (yi_move (by kernel_rfl) rfl rfl) (by assumption) ?_
  simp only [Act.put, List.getElem_toArray, List.getElem_cons_succ, List.getElem_cons_zero, List.setIfInBounds_toArray, List.set_cons_zero, List.set_cons_succ, Act.eval, Array.getD_eq_getD_getElem?, List.getElem?_toArray, List.getElem?_cons_succ, List.getElem?_cons_zero, Option.getD_some]
  refine wpAnyH_take (i := 2) (v := .agg (List.toArray LH)) rfl (by kernel_rfl) (by kernel_rfl) (by kernel_rfl) (fun _ _ _ h => h) (yieldsIf_load_mid (by kernel_rfl) _ (.tmp 6) (by kernel_rfl) W.heap.size 0 (by kernel_rfl) LH _ (fun W hW => hW) undH rfl HIH.out) (by assumption) ?_
  simp only [Act.put, List.getElem_toArray, List.getElem_cons_succ, List.getElem_cons_zero, List.setIfInBounds_toArray, List.set_cons_zero, List.set_cons_succ, Act.eval, Array.getD_eq_getD_getElem?, List.getElem?_toArray, List.getElem?_cons_succ, List.getElem?_cons_zero, Option.getD_some]
  refine wpAnyH_take (i := 3) rfl (by kernel_rfl) (by kernel_rfl) (by kernel_rfl) (fun _ _ _ h => h) (yi_move (by kernel_rfl) rfl rfl) (by assumption) ?_
  simp only [Act.put, List.getElem_toArray, List.getElem_cons_succ, List.getElem_cons_zero, List.setIfInBounds_toArray, List.set_cons_zero, List.set_cons_succ, Act.eval, Array.getD_eq_getD_getElem?, List.getElem?_toArray, List.getElem?_cons_succ, List.getElem?_cons_zero, Option.getD_some]
  refine wpAnyH_take (i := 4) (v := (.agg LS.toArray)) rfl (by kernel_rfl) (by kernel_rfl) (by kernel_rfl) (fun _ _ _ h => h) (yi_buildP (by kernel_rfl) rfl #[(0, .agg LH.toArray), (1, .int .i64 t)] (by rfl) HBU.out) (by assumption) ?_
  simp only [Act.put, List.getElem_toArray, List.getElem_cons_succ, List.getElem_cons_zero, List.setIfInBounds_toArray, List.set_cons_zero, List.set_cons_succ, Act.eval, Array.getD_eq_getD_getElem?, List.getElem?_toArray, List.getElem?_cons_succ, List.getElem?_cons_zero, Option.getD_some]
  refine wpAnyH_take (i := 6) (v := ?_) rfl (by kernel_rfl) (by kernel_rfl) (by kernel_rfl) (fun _ _ _ h => h) (Or.inl ⟨by kernel_rfl, ?_⟩) (by assumption) ?_
  rotate_left
  · (intro w hSw; (try dsimp only at hSw); go_simp; (try with_reducible rfl))
  simp only [Act.put, List.getElem_toArray, List.getElem_cons_succ, List.getElem_cons_zero, List.setIfInBounds_toArray, List.set_cons_zero, List.set_cons_succ, Act.eval, Array.getD_eq_getD_getElem?, List.getElem?_toArray, List.getElem?_cons_succ, List.getElem?_cons_zero, Option.getD_some]
  refine wpAnyH_take (i := 7) (v := ?_) rfl (by kernel_rfl) (by kernel_rfl) (by kernel_rfl) (fun _ _ _ h => h) (Or.inl ⟨by kernel_rfl, ?_⟩) (by assumption) ?_
  rotate_left
  · (intro w hSw; (try dsimp only at hSw); go_simp; (try with_reducible rfl))
  simp only [Act.put, List.getElem_toArray, List.getElem_cons_succ, List.getElem_cons_zero, List.setIfInBounds_toArray, List.set_cons_zero, List.set_cons_succ, Act.eval, Array.getD_eq_getD_getElem?, List.getElem?_toArray, List.getElem?_cons_succ, List.getElem?_cons_zero, Option.getD_some]
  refine wpAnyH_ready (rs := [5]) (by kernel_rfl) (by simp) ?_
  refine AllReadyH.cons (o := _) rfl (fun K hK => ?_) AllReadyH.nil
  go_simp
  have HBX := (HV.out).alloc (.cells LS.toArray tSi)
  refine hK.out _ _ (KP.out _ (HBX)) (fun hHeld => ?_)
  clear hK K
  (try simp only [Act.put, List.getElem_toArray, List.getElem_cons_succ, List.getElem_cons_zero, List.setIfInBounds_toArray, List.set_cons_zero, List.set_cons_succ, Act.eval, Array.getD_eq_getD_getElem?, List.getElem?_toArray, List.getElem?_cons_succ, List.getElem?_cons_zero, Option.getD_some])
  refine wpAnyH_take (i := 8) (v := ?_) rfl (by kernel_rfl) (by kernel_rfl) (by kernel_rfl) (fun _ _ _ h => h) (Or.inl ⟨by kernel_rfl, ?_⟩) (by assumption) ?_
  rotate_left
  · (intro w hSw; (try dsimp only at hSw); go_simp; (try with_reducible rfl))
  simp only [Act.put, List.getElem_toArray, List.getElem_cons_succ, List.getElem_cons_zero, List.setIfInBounds_toArray, List.set_cons_zero, List.set_cons_succ, Act.eval, Array.getD_eq_getD_getElem?, List.getElem?_toArray, List.getElem?_cons_succ, List.getElem?_cons_zero, Option.getD_some]
  refine wpAnyH_ready (rs := [9]) (by kernel_rfl) (by simp) ?_
  refine AllReadyH.cons (o := _) rfl (fun K hK => ?_) AllReadyH.nil
  refine stepo_setU rfl 65 _ _ rfl p n (.pointer (some ⟨W.heap.size + 1, 0, none⟩)) rfl (by first | rfl | (rw [← hsz1]; rfl)) rfl infoPs L (L.set n (.pointer (some ⟨W.heap.size + 1, 0, none⟩))) tSky (HP.out _ (HWV.out _ HBX)) (by omega) rfl (fun U9 hu9 ho9 => ?_)
  have HF9 : SKY w p (f.put n h t) U9 := HX.out _ U9 (W.heap.size + 1) (HWV.out _ HBX) (by omega) (by first | exact heap_alloc_new _ _ | (rw [← hsz1]; exact heap_alloc_new _ _)) hu9 ho9
  have hz9 : W.heap.size < ((W.alloc (.cells LH.toArray tH)).drew.alloc (.cells LS.toArray tSi)).heap.size := by simp; omega
  refine hK.out _ _ (fun j v hv => by rw [World.cell?_of_block (ho9.block _ hz9 (by show W.heap.size ≠ p; omega))]; exact KP.out _ HBX j v hv) (fun hHeld => ?_)
  clear hK K
  (try simp only [Act.put, List.getElem_toArray, List.getElem_cons_succ, List.getElem_cons_zero, List.setIfInBounds_toArray, List.set_cons_zero, List.set_cons_succ, Act.eval, Array.getD_eq_getD_getElem?, List.getElem?_toArray, List.getElem?_cons_succ, List.getElem?_cons_zero, Option.getD_some])
  refine wpAnyH_done (by kernel_rfl) ?_ _
  refine NoPanic.normal ?_
  go_wp2_with fail
  first | refine bodyPost_end (results_none rfl _ _ _) rfl ?_ | refine bodyPost_ret (results_none rfl _ _ _) rfl ?_
  exact ⟨rfl, HF9⟩
end Go.Proofs.Ytokicaacllaijaa
