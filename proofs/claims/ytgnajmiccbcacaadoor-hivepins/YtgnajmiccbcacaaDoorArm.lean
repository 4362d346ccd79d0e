/- The walk of the law ShelfArms. -/
import Derived.Test.YtgnajmiccbcacaaDoorH7
namespace Go.Proofs.YtgnajmiccbcacaaDoor
open Go.RowKit
set_option linter.unusedVariables false

theorem SW.under {w W0 W : World} {b c : Nat} {st : H.Sh} (h : SW W0 b c st W) (hb : Below w.heap.size w W0) : SW w b c st W := ⟨h.hb, h.hc, h.ne, (Off2.of_below hb).trans h.o⟩
theorem New_u (n : Nat) (hn : n ≤ 128) {w W : World} (hb : Below w.heap.size w W) :
    Calls Tryd.prog 9 #[.int .i64 (n : Int)] W fun e w' => ∃ b c, e = .returned (.pointer (some ⟨b, 0, none⟩)) ∧ w.heap.size ≤ b ∧ w.heap.size ≤ c ∧ SW w b c (new n) w' := by
  refine (shNew_at n hn W).mono ?_
  rintro e w' ⟨b, c, rfl, h1, h2, h3⟩
  have := hb.size
  exact ⟨b, c, rfl, by omega, by omega, h3.under hb⟩
theorem Down_s {w W : World} {b c : Nat} {st : H.Sh} (h : SW w b c st W) : Calls Tryd.prog 28 #[.pointer (some ⟨b, 0, none⟩)] W fun e w' => e = .returned (.bool st.off) ∧ SW w b c st w' := by
  refine (Down_at h).mono ?_
  rintro e w' ⟨rfl, n, rfl⟩
  exact ⟨rfl, h.drewN n⟩
theorem act_0 (a l : Nat) (s : List H.Sl) : H.act ⟨false, 0, a, l, s⟩ = ⟨false, 0, a + 1, l, s⟩ := rfl
theorem act_1 (a l : Nat) (s : List H.Sl) : H.act ⟨false, 1, a, l, s⟩ = ⟨true, 0, a + 1, l + 1, s⟩ := rfl
theorem act_2 (m a l : Nat) (s : List H.Sl) (h : 2 ≤ m) : H.act ⟨false, m, a, l, s⟩ = ⟨false, m - 1, a + 1, l, s⟩ := by
  unfold H.act; rw [if_neg (by show ¬ m = 0; omega), if_neg (by show ¬ m = 1; omega)]

end Go.Proofs.YtgnajmiccbcacaaDoor
