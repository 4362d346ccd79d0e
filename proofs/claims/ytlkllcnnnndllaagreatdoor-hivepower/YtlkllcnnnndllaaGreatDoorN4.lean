/- What a store's reach answers. -/
import Derived.Test.YtlkllcnnnndllaaGreatDoorN3
namespace Go.Proofs.YtlkllcnnnndllaaGreatDoor
open Go.RowKit Go.Maps
set_option linter.unusedVariables false
set_option linter.unusedSimpArgs false

def rchE (h : Hv) (st : H.Sh) : Int := if st.off = true ∨ st.life ≠ h.life then 10 else 0
theorem reach_nilH (W : World) : Calls Tryz.prog 29 #[.pointer none] W fun e w' => e = .returned (.int .i64 2) ∧ w' = W := by
  go_enter Tryz.func29, Tryz.ntmps29
  go_wp2_with fail
  go_ret
  exact ⟨rfl, rfl⟩
set_option maxRecDepth 8000 in
set_option maxHeartbeats 1000000 in
theorem reach_x {w W : World} {b : HB} {h : Hv} {st : H.Sh} (x : HW w b h st W) : Calls Tryz.prog 29 #[.pointer (some ⟨b.hv, 0, none⟩)] W fun e w' => e = .returned (.int .i64 (rchE h st)) ∧ ∃ n, w' = W.drewN n := by
  have k0 := x.c0
  have k1 := x.c1
  have CD : Hid (∀ n, Calls Tryz.prog 24 #[.pointer (some ⟨b.sh, 0, none⟩)] (W.drewN n) fun e w' => e = .returned (.bool st.off) ∧ ∃ m, w' = (W.drewN n).drewN m) := fun n => Down_at ((HX.drewN x n).sw)
  have CL : Hid (∀ n, Calls Tryz.prog 25 #[.pointer (some ⟨b.sh, 0, none⟩)] (W.drewN n) fun e w' => e = .returned (.int .i64 (st.life : Int)) ∧ w' = W.drewN n) := fun n => Life_at ((HX.drewN x n).sw)
  clear x
  unfold rchE
  cases ho : st.off with
  | true =>
    rw [ho] at CD
    rw [if_pos (Or.inl rfl)]
    clear ho CL
    go_enter Tryz.func29, Tryz.ntmps29
    go_wp2_with fail
    go_quiet ((go_at_call 24; exact Calls.quiet_of (CD.out _)))
    go_wp2_with fail
    go_ret
    exact ⟨rfl, _, rfl⟩
  | false =>
    rw [ho] at CD
    by_cases hl : st.life = h.life
    · rw [if_neg (by simp [hl])]
      have hne : ((st.life : Int) != (h.life : Int)) = false := by simp; omega
      clear ho hl
      go_enter Tryz.func29, Tryz.ntmps29
      go_wp2_with fail
      go_quiet ((first | (go_at_call 24; exact Calls.quiet_of (CD.out _)) | (go_at_call 25; exact Calls.quiet_of_same (CL.out _))))
      go_wp2_with fail
      go_ret
      exact ⟨rfl, _, rfl⟩
    · rw [if_pos (Or.inr hl)]
      have hne : ((st.life : Int) != (h.life : Int)) = true := by simp; omega
      clear ho hl
      go_enter Tryz.func29, Tryz.ntmps29
      go_wp2_with fail
      go_quiet ((first | (go_at_call 24; exact Calls.quiet_of (CD.out _)) | (go_at_call 25; exact Calls.quiet_of_same (CL.out _))))
      go_wp2_with fail
      go_ret
      exact ⟨rfl, _, rfl⟩
end Go.Proofs.YtlkllcnnnndllaaGreatDoor
