/- SapWrites' walk: numbers, texts and rows have the bytes that the document says. -/
import Derived.Test.YtfpeohlfofcbjaaR1
import Derived.Test.YtfpeohlfofcbjaaArgs
namespace Go.Proofs.Ytfpeohlfofcbjaa
open Go.RowKit
set_option linter.unusedVariables false

theorem textsB_total (l : List (List UInt8)) : (M.textsB l).length ≤ 9 * total l := by
  induction l with
  | nil => simp [M.textsB, total]
  | cons t l ih =>
    have e : M.textsB (t :: l) = M.textB t ++ M.textsB l := by simp [M.textsB]
    have h3 := M.numB_len (t.length : Int)
    have e2 : total (t :: l) = t.length + 1 + total l := by simp [total]
    rw [e, List.length_append, M.textB, List.length_append, e2]
    omega
theorem rowB_total (l : List (List UInt8)) : (M.rowB l).length ≤ 9 * total l + 9 := by
  have h1 := textsB_total l
  have h2 := M.numB_len (l.length : Int)
  unfold M.rowB
  rw [List.length_append]
  omega
theorem total_ge (l : List (List UInt8)) : l.length ≤ total l := by
  induction l with
  | nil => simp [total]
  | cons t l ih =>
    have e2 : total (t :: l) = t.length + 1 + total l := by simp [total]
    rw [e2, List.length_cons]
    omega

set_option maxHeartbeats 1000000 in
theorem sapWrites_many (n : Int) (s : ByteArray) (a : Option Addr) (k c : Nat) (w : World) (hm : k ≤ maxLen) (h : 100 < k) :
    Calls Try.prog 3 #[.int .i64 n, .string s, .slice a k c] w fun e w' => e = .returned (.bool true) ∧ Below w.heap.size w w' := by
  have HB : Bl w w := Bl.refl w
  unfold maxLen at hm
  go_enter Try.func3, Try.ntmps3
  go_wp2_with (go_at_call 9; refine (awake_b HB).mono ?_; clear HB; rintro e w' ⟨rfl, HB⟩)
  go_ret
  exact ⟨rfl, HB⟩

set_option maxHeartbeats 2000000 in
theorem sapWrites_walk (n : Int) (s : List UInt8) (a : Option Addr) (c : Nat) (l : List (List UInt8)) (w : World) (hn1 : -9223372036854775808 ≤ n) (hn2 : n < 9223372036854775808) (hs : s.length ≤ 1048576) (hk : l.length ≤ 100) (htot : total l ≤ 1048576)
    (hv : Strs w.heap.size w (.slice a l.length c) l) :
    Calls Try.prog 3 #[.int .i64 n, .string (M.bs s), .slice a l.length c] w fun e w' => e = .returned (.bool true) ∧ Below w.heap.size w w' := by
  have HB : Bl w w := Bl.refl w
  have hrl := rowB_total l
  have C1 : Hid (∀ W, Bl w W → Calls Try.prog 11 #[.int .i64 n] W fun e w' => e = .returned (.string (M.bs (M.numB n))) ∧ Bl w w') := fun W h => by
    refine (refNum_any n W hn1 hn2).mono ?_
    rintro e w' ⟨rfl, hb⟩
    exact ⟨rfl, h.step hb⟩
  have C2 : Hid (∀ W, Bl w W → Calls Try.prog 13 #[.string (M.bs s)] W fun e w' => e = .returned (.string (M.bs (M.textB s))) ∧ Bl w w') := fun W h => by
    refine (refText_any s W (by omega)).mono ?_
    rintro e w' ⟨rfl, hb⟩
    exact ⟨rfl, h.step hb⟩
  have C3 : Hid (∀ W, Bl w W → Calls Try.prog 15 #[.slice a l.length c] W fun e w' => e = .returned (.string (M.bs (M.rowB l))) ∧ Bl w w') := fun W h => by
    refine (refRow_any a c l W (strs_at (hv.bl h)) (by omega) (by omega)).mono ?_
    rintro e w' ⟨rfl, hb⟩
    exact ⟨rfl, h.step hb⟩
  have C4 : Hid (∀ W, Bl w W → Calls Try.prog 14 #[.slice a l.length c] W fun e w' => e = .returned (.string (M.bs (M.rowB l))) ∧ Bl w w') := fun W h => row_c _ l h hv (by omega) (by omega)
  clear hv
  go_enter Try.func3, Try.ntmps3
  go_wp2_with (first
    | (go_at_call 9; refine (awake_b HB).mono ?_; clear HB; rintro e w' ⟨rfl, HB⟩)
    | (go_at_call 10; refine (num_b _ HB (by omega) (by omega)).mono ?_; clear HB; rintro e w' ⟨rfl, HB⟩)
    | (go_at_call 11; refine (C1.out _ HB).mono ?_; clear HB; rintro e w' ⟨rfl, HB⟩)
    | (go_at_call 12; refine (text_b _ HB (by omega)).mono ?_; clear HB; rintro e w' ⟨rfl, HB⟩)
    | (go_at_call 13; refine (C2.out _ HB).mono ?_; clear HB; rintro e w' ⟨rfl, HB⟩)
    | (go_at_call 14; refine (C4.out _ HB).mono ?_; clear HB; rintro e w' ⟨rfl, HB⟩)
    | (go_at_call 15; refine (C3.out _ HB).mono ?_; clear HB; rintro e w' ⟨rfl, HB⟩))
  go_ret
  exact ⟨rfl, HB⟩

end Go.Proofs.Ytfpeohlfofcbjaa
