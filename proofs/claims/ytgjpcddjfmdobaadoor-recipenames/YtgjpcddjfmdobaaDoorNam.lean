/- RecipeNames: what can be a name: the law answers true for every input. -/
import Derived.Test.YtgjpcddjfmdobaaDoorL17
namespace Go.Proofs.YtgjpcddjfmdobaaDoor
open Go.RowKit
set_option linter.unusedVariables false

theorem isNm_app (a b : List UInt8) (ha : RC.isNm a = true) (hb : RC.isNm b = true) : RC.isNm (a ++ b) = decide (a.length + b.length ≤ 8) := by
  have h1 := RC.isNm_len ha
  simp only [RC.isNm, Bool.and_eq_true, decide_eq_true_eq] at ha hb
  simp only [RC.isNm, List.all_append, ha.2, hb.2, List.length_append, Bool.and_self, Bool.and_true]
  cases a with
  | nil => exact absurd rfl h1.2
  | cons x l => simp
theorem isNm_snoc (a : List UInt8) (c : UInt8) (ha : RC.isNm a = true) : RC.isNm (a ++ [c]) = (RC.nmB c && decide (a.length < 8)) ∧ RC.isNm ([c] ++ a) = (RC.nmB c && decide (a.length < 8)) := by
  simp only [RC.isNm, Bool.and_eq_true, decide_eq_true_eq] at ha
  have e : decide (a.length + 1 ≤ 8) = decide (a.length < 8) := by simp; omega
  constructor
  · simp only [RC.isNm, List.all_append, ha.2, List.length_append, List.all_cons, List.all_nil, List.length_cons, List.length_nil, Nat.zero_add, Bool.and_true, Bool.true_and]
    rw [e]
    cases a <;> simp [Bool.and_comm]
  · simp only [RC.isNm, List.all_append, ha.2, List.length_append, List.all_cons, List.all_nil, List.length_cons, List.length_nil, Nat.zero_add, Bool.and_true]
    rw [Nat.add_comm 1, e]
    simp [Bool.and_comm]
theorem conv1N (W : World) (c : UInt8) (x : Int) (T : TypeId) (hx : x = (c.toNat : Int)) : (convert 37 9 (.slice (some ⟨W.heap.size, 0, none⟩) 1 1)).run Tryd.prog (W.alloc (.cells #[.int .u8 x] T)) = .ok (.string (M.bs [c])) (W.alloc (.cells #[.int .u8 x] T)) := by
  subst hx
  have := run_convert_bytes_back (P := Tryd.prog) (W.alloc (.cells #[.int .u8 (c.toNat : Int)] T)) 37 9 5 ⟨W.heap.size, 0, none⟩ 1 [c] Tryd.underlying37 Tryd.underlying5 Tryd.underlying9 (fun j hj => by
    obtain rfl : j = 0 := by simpa using hj
    rw [Addr.add_mid]; rw [Lib.cell_of_heap (heap_alloc_new W _)]; rfl)
  exact this
set_option maxRecDepth 8000 in
set_option maxHeartbeats 2000000 in
theorem names_walk (a b : List UInt8) (c : UInt8) (W : World) (hm : MX W) (ha : a.length ≤ maxLen) (hb : b.length ≤ maxLen) :
    Calls Tryd.prog 7 #[.string (M.bs a), .string (M.bs b), .int .u8 c.toNat] W fun e w' => e = .returned (.bool true) ∧ Bl W w' := by
  have CW : Hid (Calls Tryd.prog 9 #[] W fun e w' => e = .returned (.bool true) ∧ Bl W w') := awake_x (Bl.refl W) hm
  have hza := M.bs_size a
  have hzb := M.bs_size b
  have CA : Hid (∀ W', Calls Tryd.prog 15 #[.string (M.bs a)] W' fun e w' => e = .returned (.bool (RC.isNm a)) ∧ w' = W') := fun W' => IsName_at a W' ha
  have CB : Hid (∀ W', Calls Tryd.prog 15 #[.string (M.bs b)] W' fun e w' => e = .returned (.bool (RC.isNm b)) ∧ w' = W') := fun W' => IsName_at b W' hb
  unfold maxLen at ha hb
  clear hm
  by_cases h1 : 100 < a.length
  · clear CA CB
    go_enter Tryd.func7, Tryd.ntmps7
    go_wp2_with (go_at_call 9; refine CW.out.mono ?_; rintro e w1 ⟨rfl, HB⟩; clear CW)
    go_ret
    exact ⟨rfl, HB⟩
  by_cases h2 : 100 < b.length
  · clear CA CB
    go_enter Tryd.func7, Tryd.ntmps7
    go_wp2_with (go_at_call 9; refine CW.out.mono ?_; rintro e w1 ⟨rfl, HB⟩; clear CW)
    go_ret
    exact ⟨rfl, HB⟩
  cases hna : RC.isNm a with
  | false =>
    rw [hna] at CA
    clear CB hna
    go_enter Tryd.func7, Tryd.ntmps7
    go_wp2_with (first
      | (go_at_call 9; refine CW.out.mono ?_; rintro e w1 ⟨rfl, HB⟩; clear CW)
      | (go_at_call 15; refine (CA.out _).mono ?_; rintro e w' ⟨rfl, hw⟩; rw [hw]; clear hw w' CA))
    go_ret
    exact ⟨rfl, HB⟩
  | true =>
    rw [hna] at CA
    cases hnb : RC.isNm b with
    | false =>
      rw [hnb] at CB
      clear hna hnb
      go_enter Tryd.func7, Tryd.ntmps7
      go_wp2_with (first
        | (go_at_call 9; refine CW.out.mono ?_; rintro e w1 ⟨rfl, HB⟩; clear CW)
        | (go_at_call 15; refine (CA.out _).mono ?_; rintro e w' ⟨rfl, hw⟩; rw [hw]; clear hw w' CA)
        | (go_at_call 15; refine (CB.out _).mono ?_; rintro e w' ⟨rfl, hw⟩; rw [hw]; clear hw w' CB))
      go_ret
      exact ⟨rfl, HB⟩
    | true =>
      rw [hnb] at CB
      have q1 := isNm_app a b hna hnb
      obtain ⟨q2, q3⟩ := isNm_snoc a c hna
      have C1 : Hid (∀ W', Calls Tryd.prog 15 #[.string (M.bs (a ++ b))] W' fun e w' => e = .returned (.bool (decide ((a.length : Int) + b.length ≤ 8))) ∧ w' = W') := fun W' => by
        have := IsName_at (a ++ b) W' (by unfold maxLen; simp; omega)
        rw [q1] at this
        rw [show decide ((a.length : Int) + b.length ≤ 8) = decide (a.length + b.length ≤ 8) by simp; omega]
        exact this
      have C2 : Hid (∀ W', Calls Tryd.prog 15 #[.string (M.bs (a ++ [c]))] W' fun e w' => e = .returned (.bool (RC.nmB c && decide ((a.length : Int) < 8))) ∧ w' = W') := fun W' => by
        have := IsName_at (a ++ [c]) W' (by unfold maxLen; simp; omega)
        rw [q2] at this
        rw [show decide ((a.length : Int) < 8) = decide (a.length < 8) by simp; omega]
        exact this
      have C3 : Hid (∀ W', Calls Tryd.prog 15 #[.string (M.bs ([c] ++ a))] W' fun e w' => e = .returned (.bool (RC.nmB c && decide ((a.length : Int) < 8))) ∧ w' = W') := fun W' => by
        have := IsName_at ([c] ++ a) W' (by unfold maxLen; simp; omega)
        rw [q3] at this
        rw [show decide ((a.length : Int) < 8) = decide (a.length < 8) by simp; omega]
        exact this
      have C4 : Hid (∀ W', Calls Tryd.prog 15 #[.string ⟨#[]⟩] W' fun e w' => e = .returned (.bool false) ∧ w' = W') := fun W' => IsName_at [] W' (by unfold maxLen; simp)
      have hzc : (M.bs [c]).size = 1 := M.bs_size [c]
      have e1 := bs_append a b
      have e2 := bs_append a [c]
      have e3 := bs_append [c] a
      have hc := c.toNat_lt
      have hcb : RC.nmB c = ((decide ((97 : Int) ≤ (c.toNat : Int)) && decide ((c.toNat : Int) ≤ 122)) || (decide ((48 : Int) ≤ (c.toNat : Int)) && decide ((c.toNat : Int) ≤ 57))) := by
        unfold RC.nmB
        congr 1 <;> congr 1 <;> rw [Bool.eq_iff_iff] <;> simp <;> omega
      rw [hcb] at C2 C3
      have hcv : ∀ (W : World) (T : TypeId), (convert 37 9 (.slice (some ⟨W.heap.size, 0, none⟩) 1 1)).run Tryd.prog (W.alloc (.cells #[.int .u8 (c.toNat : Int)] T)) = .ok (.string (M.bs [c])) (W.alloc (.cells #[.int .u8 (c.toNat : Int)] T)) := fun W T => conv1N W c _ T rfl
      clear hna hnb q1 q2 q3 hcb
      go_enter Tryd.func7, Tryd.ntmps7
      go_wp2_with (first
        | (go_at_call 9; refine CW.out.mono ?_; rintro e w1 ⟨rfl, HB⟩; clear CW)
        | (go_at_call 15; refine (CA.out _).mono ?_; rintro e w' ⟨rfl, hw⟩; rw [hw]; clear hw w' CA)
        | (go_at_call 15; refine (CB.out _).mono ?_; rintro e w' ⟨rfl, hw⟩; rw [hw]; clear hw w' CB)
        | (go_at_call 15; refine (C1.out _).mono ?_; rintro e w' ⟨rfl, hw⟩; rw [hw]; clear hw w' C1)
        | (go_at_call 15; refine (C2.out _).mono ?_; rintro e w' ⟨rfl, hw⟩; rw [hw]; clear hw w' C2)
        | (go_at_call 15; refine (C3.out _).mono ?_; rintro e w' ⟨rfl, hw⟩; rw [hw]; clear hw w' C3)
        | (go_at_call 15; refine (C4.out _).mono ?_; rintro e w' ⟨rfl, hw⟩; rw [hw]; clear hw w' C4))
      all_goals
        go_ret
        exact ⟨by first | rfl | (simp_all; done) | (simp_all; omega), HB.alloc _⟩
end Go.Proofs.YtgjpcddjfmdobaaDoor
