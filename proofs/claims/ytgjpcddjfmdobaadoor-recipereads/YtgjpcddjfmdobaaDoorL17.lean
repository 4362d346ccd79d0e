/- The law's own awake. -/
import Derived.Test.YtgjpcddjfmdobaaDoorL16
namespace Go.Proofs.YtgjpcddjfmdobaaDoor
open Go.RowKit
set_option linter.unusedVariables false

theorem exG_ok : grOk RC.exG := by
  refine ⟨by unfold maxLen; decide, fun s hs => ?_, by unfold maxLen; decide, fun t ht => ?_⟩
  · simp [RC.exG] at hs; subst hs; unfold maxLen; simp
  · simp [RC.exG] at ht
    rcases ht with rfl | rfl
    · refine ⟨by unfold maxLen; simp, by unfold maxLen; simp, fun s hs => ?_, by unfold maxLen; simp⟩
      simp at hs; subst hs; unfold maxLen; simp
    · refine ⟨by unfold maxLen; simp, by unfold maxLen; simp, fun s hs => ?_, by unfold maxLen; simp⟩
      simp at hs
set_option maxRecDepth 8000 in
set_option maxHeartbeats 4000000 in
theorem awake_x {w W : World} (HB : Bl w W) (hm : MX W) : Calls Tryd.prog 9 #[] W fun e w' => e = .returned (.bool true) ∧ Bl w w' := by
  have P1 : Hid (Calls Tryd.prog 17 #[.string ⟨#[115, 111, 117, 114, 99, 101, 32, 97, 10, 109, 97, 107, 101, 32, 120, 32, 102, 114, 111, 109, 32, 97, 32, 97, 32, 98, 121, 32, 54, 57, 48, 48, 54, 51, 10, 109, 97, 107, 101, 32, 121, 32, 98, 121, 32, 45, 10]⟩] W fun e w1 => ∃ sa sc aa ac, e = .returned (.tuple #[.agg #[.slice sa 1 sc, .slice aa 2 ac], .int .i64 0, .int .i64 0]) ∧ GA w1.heap.size w1 RC.exG sa sc aa ac ∧ Bl W w1) := by
    have h := Parse_x RC.exT (Bl.refl W) hm (by decide)
    rw [← RC.parse_eq _ (by decide), RC.parse_ex] at h
    exact h
  have P2 : Hid (∀ (W' : World) (sa : Option Addr) (sc : Nat) (aa : Option Addr) (ac : Nat), GA W'.heap.size W' RC.exG sa sc aa ac → Calls Tryd.prog 11 #[.agg #[.slice sa 1 sc, .slice aa 2 ac]] W' fun e w' => e = .returned (.tuple #[.string ⟨#[115, 111, 117, 114, 99, 101, 32, 97, 10, 109, 97, 107, 101, 32, 120, 32, 102, 114, 111, 109, 32, 97, 32, 97, 32, 98, 121, 32, 54, 57, 48, 48, 54, 51, 10, 109, 97, 107, 101, 32, 121, 32, 98, 121, 32, 45, 10]⟩, .int .i64 0]) ∧ Bl W' w') := fun W' sa sc aa ac h => by
    have := Print_yes RC.exG sa sc aa ac (Bl.refl W') h exG_ok RC.can_ex
    rw [RC.text_ex] at this
    exact this
  have P3 : Hid (∀ W', MX W' → Calls Tryd.prog 17 #[.string ⟨#[115, 111, 117, 114, 99, 101, 32, 97, 10, 109, 97, 100, 101, 32, 120, 32, 98, 121, 32, 45, 10]⟩] W' fun e w' => e = .returned (.tuple #[.agg #[.slice none 0 0, .slice none 0 0], .int .i64 2, .int .i64 24]) ∧ Bl W' w') := fun W' hm' => by
    have h := Parse_x RC.exW (Bl.refl W') hm' (by decide)
    rw [← RC.parse_eq _ (by decide), RC.parse_exW] at h
    exact h
  have I1 : Hid (∀ W', Calls Tryd.prog 15 #[.string ⟨#[97, 49]⟩] W' fun e w' => e = .returned (.bool true) ∧ w' = W') := fun W' => IsName_at [97, 49] W' (by unfold maxLen; decide)
  have I2 : Hid (∀ W', Calls Tryd.prog 15 #[.string ⟨#[65]⟩] W' fun e w' => e = .returned (.bool false) ∧ w' = W') := fun W' => IsName_at [65] W' (by unfold maxLen; decide)
  have hcode : (M.bs [105, 0, 99]).toList = [105, 0, 99] := by rw [Lib.toList_data, M.bs_toList]
  have HB0 : Hid (Bl w W) := HB
  have HM : Hid (MX W) := hm
  clear HB hm
  go_enter Tryd.func9, Tryd.ntmps9
  go_wp2_with (first
    | (go_at_call 17; refine P1.out.mono ?_; rintro e w1 ⟨sa, sc, aa, ac, rfl, hga, hb1⟩; clear P1; obtain ⟨b, off, x, c, rfl, hb, hr, hs⟩ := hga.a 0 _ rfl; have hr1 := hr 1 _ rfl; have hr2 := hr 2 _ rfl; simp only [Nat.zero_mul, Nat.add_zero] at hr1 hr2; clear hr hs; have HG := fun o => hga.bl ((Bl.refl w1).alloc o); have HK : Hid (∀ T w2, Bl (w1.alloc (.cells #[.slice sa 1 sc, .slice (some ⟨b, off, none⟩) 2 ac] T)) w2 → Bl W w2 ∧ ∀ w3, Bl w2 w3 → ∀ o, (w3.alloc o).cell? ⟨w1.heap.size, 1, none⟩ = some (.slice (some ⟨b, off, none⟩) 2 ac) ∧ (w3.alloc o).cell? ⟨b, off + 1, none⟩ = w1.cell? ⟨b, off + 1, none⟩ ∧ (w3.alloc o).cell? ⟨b, off + 2, none⟩ = w1.cell? ⟨b, off + 2, none⟩) := (fun T w2 h2 => ⟨(hb1.alloc _).step h2, fun w3 h3 o => by
        have hh := (h2.step h3).alloc o
        refine ⟨?_, ?_, ?_⟩
        · rw [Bl.cell hh (by simp), Lib.cell_of_heap (heap_alloc_new w1 _)]; rfl
        · exact Bl.cell (((Bl.refl w1).alloc _).step hh) hb
        · exact Bl.cell (((Bl.refl w1).alloc _).step hh) hb⟩))
    | (go_at_call 11; refine (P2.out _ _ _ _ _ (HG _)).mono ?_; rintro e w2 ⟨rfl, hb2⟩; obtain ⟨hW2, HK2⟩ := HK.out _ _ hb2; clear P2 HG HK)
    | (go_at_call 17; refine (P3.out _ (HM.out.bl hW2)).mono ?_; rintro e w3 ⟨rfl, hb3⟩; have k1 := fun o => (HK2 w3 hb3 o).1; have k2 := fun o => (HK2 w3 hb3 o).2.1.trans hr1; have k3 := fun o => (HK2 w3 hb3 o).2.2.trans hr2; have HFF : Hid (∀ o, Bl w (w3.alloc o)) := (fun o => ((HB0.out.step hW2).step hb3).alloc o); clear P3 HK2 hr1 hr2)
    | (go_at_call 15; refine (I1.out _).mono ?_; rintro e w' ⟨rfl, hw⟩; rw [hw]; clear hw w' I1)
    | (go_at_call 15; refine (I2.out _).mono ?_; rintro e w' ⟨rfl, hw⟩; rw [hw]; clear hw w' I2))
  go_ret
  exact ⟨rfl, HFF.out _⟩
end Go.Proofs.YtgjpcddjfmdobaaDoor
