/- The law's own 'kept' and 'awake'. -/
import Derived.Test.YtdeddiclemdpoaaH5
namespace Go.Proofs.Ytdeddiclemdpoaa
open Go.RowKit
set_option linter.unusedVariables false

def abc : List UInt8 := [97, 98, 99]
def xy : List UInt8 := [120, 121]
def tt : List UInt8 := [116]
def K1 : H.Sh := ⟨false, 0, 1, 0, [⟨abc, [], true⟩]⟩
def K2 : H.Sh := ⟨false, 0, 2, 0, [⟨abc, abc, false⟩]⟩
def K3 : H.Sh := ⟨false, 0, 3, 0, [⟨xy, abc, true⟩]⟩
def K4 : H.Sh := ⟨true, 0, 3, 1, [⟨xy, abc, true⟩]⟩
def keptT (F : List Int) : List UInt8 := H.left ⟨xy, abc, true⟩ (F.getD 0 0)
def K5 (F : List Int) : H.Sh := ⟨false, 0, 3, 1, [H.settle (keptT F)]⟩
theorem sm_of (st : H.Sh) (h1 : st.sl.length ≤ 128) (h2 : st.sl.all (fun s => decide (s.text.length ≤ 640 ∧ s.sure.length ≤ 640)) = true) (h3 : st.acts ≤ 1000000) (h4 : st.life ≤ 1000000) (h5 : st.arm ≤ 9223372036854775807) : Sm st :=
  ⟨h1, fun i s hs => by have := List.all_eq_true.1 h2 s (List.mem_of_getElem? hs); simpa using this, h3, h4, h5⟩
theorem sm_new1 : Sm (new 1) := sm_of _ (by decide) (by decide) (by decide) (by decide) (by decide)
theorem sm_K1 : Sm K1 := sm_of _ (by decide) (by decide) (by decide) (by decide) (by decide)
theorem sm_K2 : Sm K2 := sm_of _ (by decide) (by decide) (by decide) (by decide) (by decide)
theorem sm_K4 : Sm K4 := sm_of _ (by decide) (by decide) (by decide) (by decide) (by decide)
/-- numbers as a slice, read in a world -/
def FI (w : World) (a : Option Addr) (F : List Int) : Prop := ∀ i x, F[i]? = some x → ∃ sb off, a = some ⟨sb, off, none⟩ ∧ sb < w.heap.size ∧ w.cell? ⟨sb, off + i, none⟩ = some (.int .i64 x)
theorem FI.ft {w : World} {b c : Nat} {a : Option Addr} {F : List Int} (h : FI w a F) (hb : w.heap.size ≤ b) (hc : w.heap.size ≤ c) : FT w b c a F := fun i x hx => by
  obtain ⟨sb, off, h1, h2, h3⟩ := h i x hx
  exact ⟨sb, off, h1, h2, by omega, by omega, h3⟩
/-- On, whatever the fates -/
theorem On_at {w W : World} {b c : Nat} {st : H.Sh} (h : SW w b c st W) (ho : st.off = true) (hm : Sm st) (F : List Int) (a : Option Addr) (cap : Nat) (HF : FT w b c a F) (hl : F.length ≤ 9223372036854775807) (hb : ∀ x ∈ F, -9223372036854775808 ≤ x ∧ x ≤ 9223372036854775807) :
    Calls Try.prog 19 #[.pointer (some ⟨b, 0, none⟩), .slice a F.length cap] W fun e w' => e = .returned (.tuple #[]) ∧ SW w b c (H.on F st) w' := by
  unfold H.on
  by_cases h0 : F.length = 0
  · rw [if_pos h0, h0]
    exact On_none h ho hm a cap
  · rw [if_neg h0]
    exact On_some h ho hm F a cap HF (by omega) hl hb

set_option maxHeartbeats 1000000 in
theorem kept_at (F : List Int) (a : Option Addr) (cap : Nat) (w : World) (HF : Hid (FI w a F)) (hl : F.length ≤ 9223372036854775807) (hb : Hid (∀ x ∈ F, -9223372036854775808 ≤ x ∧ x ≤ 9223372036854775807)) :
    Calls Try.prog 31 #[.slice a F.length cap] w fun e w' => e = .returned (.string (M.bs (keptT F))) ∧ Below w.heap.size w w' := by
  have C1 : Hid (∀ b c W, SW w b c (new 1) W → Calls Try.prog 11 #[.pointer (some ⟨b, 0, none⟩), .int .i64 0, .string ⟨#[97, 98, 99]⟩] W fun e w' => e = .returned (.int .i64 0) ∧ SW w b c K1 w') := fun b c W h =>
    Write_at (i := 0) (s := s0) h rfl sm_new1 rfl abc (by decide)
  have C2 : Hid (∀ b c W, SW w b c K1 W → Calls Try.prog 15 #[.pointer (some ⟨b, 0, none⟩)] W fun e w' => e = .returned (.int .i64 0) ∧ SW w b c K2 w') := fun b c W h =>
    Sync_at h rfl sm_K1 (by decide)
  have C3 : Hid (∀ b c W, SW w b c K2 W → Calls Try.prog 11 #[.pointer (some ⟨b, 0, none⟩), .int .i64 0, .string ⟨#[120, 121]⟩] W fun e w' => e = .returned (.int .i64 0) ∧ SW w b c K3 w') := fun b c W h =>
    Write_at (i := 0) (s := ⟨abc, abc, false⟩) h rfl sm_K2 rfl xy (by decide)
  have C4 : Hid (∀ b c W, SW w b c K3 W → Calls Try.prog 17 #[.pointer (some ⟨b, 0, none⟩)] W fun e w' => e = .returned (.tuple #[]) ∧ SW w b c K4 w') := fun b c W h => Off_at h (by decide)
  have C5 : Hid (∀ b c W, w.heap.size ≤ b → w.heap.size ≤ c → SW w b c K4 W → Calls Try.prog 19 #[.pointer (some ⟨b, 0, none⟩), .slice a F.length cap] W fun e w' => e = .returned (.tuple #[]) ∧ SW w b c (K5 F) w') := fun b c W h1 h2 h => by
    have := On_at h rfl sm_K4 F a cap (HF.out.ft h1 h2) hl hb.out
    have e : H.on F K4 = K5 F := by
      by_cases h0 : F.length = 0
      · obtain rfl : F = [] := List.eq_nil_of_length_eq_zero h0
        rfl
      · simp [H.on, K4, K5, h0, H.back, keptT, H.nx]
    rwa [e] at this
  have C6 : Hid (∀ b c W, SW w b c (K5 F) W → Calls Try.prog 13 #[.pointer (some ⟨b, 0, none⟩), .int .i64 0] W fun e w' => e = .returned (.tuple #[.string (M.bs (keptT F)), .int .i64 0]) ∧ ∃ n, w' = W.drewN n) := fun b c W h =>
    Read_at (i := 0) (s := H.settle (keptT F)) h rfl (by simp [K5]) rfl
  have C0 : Hid (Calls Try.prog 9 #[.int .i64 1] w fun e w' => ∃ b c, e = .returned (.pointer (some ⟨b, 0, none⟩)) ∧ w.heap.size ≤ b ∧ w.heap.size ≤ c ∧ SW w b c (new 1) w') := New_at 1 (by decide) w
  clear HF hb
  go_enter Try.func31, Try.ntmps31
  go_wp2_with (first
    | (go_at_call 9; refine C0.out.mono ?_; clear C0; rintro e w1 ⟨b, c, rfl, lb, lc, HS⟩)
    | (go_at_call 11; refine (C1.out _ _ _ HS).mono ?_; clear C1 HS; rintro e w2 ⟨rfl, HS⟩)
    | (go_at_call 15; refine (C2.out _ _ _ HS).mono ?_; clear C2 HS; rintro e w3 ⟨rfl, HS⟩)
    | (go_at_call 11; refine (C3.out _ _ _ HS).mono ?_; clear C3 HS; rintro e w4 ⟨rfl, HS⟩)
    | (go_at_call 17; refine (C4.out _ _ _ HS).mono ?_; clear C4 HS; rintro e w5 ⟨rfl, HS⟩)
    | (go_at_call 19; refine (C5.out _ _ _ lb lc HS).mono ?_; clear C5 HS; rintro e w6 ⟨rfl, HS⟩)
    | (go_at_call 13; refine (C6.out _ _ _ HS).mono ?_; clear C6; rintro e w7 ⟨rfl, n, rfl⟩))
  go_ret
  exact ⟨rfl, (HS.drewN n).o.below lb lc (Nat.le_refl _)⟩

def A1 : H.Sh := ⟨false, 0, 1, 0, [s0, ⟨tt, [], true⟩]⟩
def A2 : H.Sh := ⟨false, 0, 2, 0, [s0, ⟨tt, tt, false⟩]⟩
def A3 : H.Sh := ⟨true, 0, 2, 1, [s0, ⟨tt, tt, false⟩]⟩
def A4 : H.Sh := ⟨false, 0, 2, 1, [s0, ⟨tt, tt, false⟩]⟩
theorem fi_one (W : World) (x : Int) : FI (W.alloc (.cells #[.int .i64 x] 3)) (some ⟨W.heap.size, 0, none⟩) [x] := fun i y hy => by
  refine ⟨W.heap.size, 0, rfl, by simp, ?_⟩
  have hc := heap_alloc_new W (.cells #[.int .i64 x] 3)
  rcases i with _ | i
  · simp at hy; subst hy
    show World.cell? _ ⟨W.heap.size, 0, none⟩ = _
    unfold World.cell?
    rw [hc]; rfl
  · simp at hy
theorem kept_one (x : Int) (u : List UInt8) (h1 : -9223372036854775808 ≤ x ∧ x ≤ 9223372036854775807) (hu : keptT [x] = u) (W : World) :
    Calls Try.prog 31 #[.slice (some ⟨W.heap.size, 0, none⟩) 1 1] (W.alloc (.cells #[.int .i64 x] 3)) fun e w' => e = .returned (.string (M.bs u)) ∧ Below W.heap.size W w' := by
  refine (kept_at [x] (some ⟨W.heap.size, 0, none⟩) 1 _ (fi_one W x) (by simp) (by intro y hy; simp at hy; subst hy; exact h1)).mono ?_
  rintro e w' ⟨rfl, hb⟩
  rw [hu]
  exact ⟨rfl, ((Below.refl _ W).alloc (Nat.le_refl _) _).trans (hb.mono (by simp))⟩
set_option maxRecDepth 4000 in
set_option maxHeartbeats 2000000 in
theorem awake_at (w : World) : Calls Try.prog 8 #[] w fun e w' => e = .returned (.bool true) ∧ Below w.heap.size w w' := by
  have C0 : Hid (Calls Try.prog 9 #[.int .i64 2] w fun e w' => ∃ b c, e = .returned (.pointer (some ⟨b, 0, none⟩)) ∧ w.heap.size ≤ b ∧ w.heap.size ≤ c ∧ SW w b c (new 2) w') := New_at 2 (by decide) w
  have sm2 : Sm (new 2) := sm_of _ (by decide) (by decide) (by decide) (by decide) (by decide)
  have smA1 : Sm A1 := sm_of _ (by decide) (by decide) (by decide) (by decide) (by decide)
  have smA3 : Sm A3 := sm_of _ (by decide) (by decide) (by decide) (by decide) (by decide)
  have C1 : Hid (∀ b c W, SW w b c (new 2) W → Calls Try.prog 11 #[.pointer (some ⟨b, 0, none⟩), .int .i64 1, .string ⟨#[116]⟩] W fun e w' => e = .returned (.int .i64 0) ∧ SW w b c A1 w') := fun b c W h =>
    Write_at (i := 1) (s := s0) h rfl sm2 rfl tt (by decide)
  have C2 : Hid (∀ b c W, SW w b c A1 W → Calls Try.prog 11 #[.pointer (some ⟨b, 0, none⟩), .int .i64 2, .string ⟨#[116]⟩] W fun e w' => e = .returned (.int .i64 1) ∧ SW w b c A1 w') := fun b c W h => by
    refine (Write_no h 2 ⟨#[116]⟩ (by decide) (by decide)).mono ?_
    rintro e w' ⟨rfl, n, rfl⟩
    exact ⟨rfl, h.drewN n⟩
  have C3 : Hid (∀ b c W, SW w b c A1 W → Calls Try.prog 15 #[.pointer (some ⟨b, 0, none⟩)] W fun e w' => e = .returned (.int .i64 0) ∧ SW w b c A2 w') := fun b c W h => Sync_at h rfl smA1 (by decide)
  have C4 : Hid (∀ b c W, SW w b c A2 W → Calls Try.prog 17 #[.pointer (some ⟨b, 0, none⟩)] W fun e w' => e = .returned (.tuple #[]) ∧ SW w b c A3 w') := fun b c W h => Off_at h (by decide)
  have C5 : Hid (∀ b c W, SW w b c A3 W → Calls Try.prog 13 #[.pointer (some ⟨b, 0, none⟩), .int .i64 1] W fun e w' => e = .returned (.tuple #[.string ⟨#[]⟩, .int .i64 10]) ∧ SW w b c A3 w') := fun b c W h => by
    refine (Read_down h 1 (by decide) (by decide)).mono ?_
    rintro e w' ⟨rfl, n, rfl⟩
    exact ⟨rfl, h.drewN n⟩
  have C6 : Hid (∀ b c W, SW w b c A3 W → Calls Try.prog 19 #[.pointer (some ⟨b, 0, none⟩), .slice none 0 0] W fun e w' => e = .returned (.tuple #[]) ∧ SW w b c A4 w') := fun b c W h => On_none h rfl smA3 none 0
  have C7 : Hid (∀ b c W, SW w b c A4 W → Calls Try.prog 13 #[.pointer (some ⟨b, 0, none⟩), .int .i64 1] W fun e w' => e = .returned (.tuple #[.string ⟨#[116]⟩, .int .i64 0]) ∧ SW w b c A4 w') := fun b c W h => by
    refine (Read_at (i := 1) (s := ⟨tt, tt, false⟩) h rfl (by decide) rfl).mono ?_
    rintro e w' ⟨rfl, n, rfl⟩
    exact ⟨rfl, h.drewN n⟩
  have G1 : Hid (∀ b c W, SW w b c A4 W → Calls Try.prog 31 #[.slice (some ⟨W.heap.size, 0, none⟩) 1 1] (W.alloc (.cells #[.int .i64 1] 3)) fun e w' => e = .returned (.string ⟨#[120, 121]⟩) ∧ SW w b c A4 w') := fun b c W h => by
    refine (kept_one 1 xy (by decide) (by decide) W).mono ?_
    rintro e w' ⟨rfl, hb⟩
    exact ⟨rfl, h.step hb⟩
  have G2 : Hid (∀ b c W, SW w b c A4 W → Calls Try.prog 31 #[.slice (some ⟨W.heap.size, 0, none⟩) 1 1] (W.alloc (.cells #[.int .i64 0] 3)) fun e w' => e = .returned (.string ⟨#[97, 98, 99]⟩) ∧ SW w b c A4 w') := fun b c W h => by
    refine (kept_one 0 abc (by decide) (by decide) W).mono ?_
    rintro e w' ⟨rfl, hb⟩
    exact ⟨rfl, h.step hb⟩
  have G3 : Hid (∀ b c W, SW w b c A4 W → Calls Try.prog 31 #[.slice (some ⟨W.heap.size, 0, none⟩) 1 1] (W.alloc (.cells #[.int .i64 5] 3)) fun e w' => e = .returned (.string ⟨#[120, 98, 99]⟩) ∧ SW w b c A4 w') := fun b c W h => by
    refine (kept_one 5 [120, 98, 99] (by decide) (by decide) W).mono ?_
    rintro e w' ⟨rfl, hb⟩
    exact ⟨rfl, h.step hb⟩
  have G4 : Hid (∀ b c W, SW w b c A4 W → Calls Try.prog 31 #[.slice none 0 0] W fun e w' => e = .returned (.string ⟨#[97, 98, 99]⟩) ∧ SW w b c A4 w') := fun b c W h => by
    refine (kept_at [] none 0 W (fun i x hx => by simp at hx) (by simp) (by intro x hx; simp at hx)).mono ?_
    rintro e w' ⟨rfl, hb⟩
    exact ⟨rfl, h.step hb⟩
  have D1 : Hid (∀ b c W, SW w b c A4 W → Calls Try.prog 25 #[.pointer (some ⟨b, 0, none⟩)] W fun e w' => e = .returned (.int .i64 2) ∧ w' = W) := fun b c W h => Acts_at h
  have D2 : Hid (∀ b c W, SW w b c A4 W → Calls Try.prog 27 #[.pointer (some ⟨b, 0, none⟩)] W fun e w' => e = .returned (.int .i64 1) ∧ w' = W) := fun b c W h => Life_at h
  have D3 : Hid (∀ b c W, SW w b c A4 W → Calls Try.prog 29 #[.pointer (some ⟨b, 0, none⟩)] W fun e w' => e = .returned (.int .i64 2) ∧ w' = W) := fun b c W h => Len_at h
  clear sm2 smA1 smA3
  go_enter Try.func8, Try.ntmps8
  go_wp2_with (first
    | (go_at_call 9; refine C0.out.mono ?_; clear C0; rintro e w1 ⟨b, c, rfl, lb, lc, HS⟩)
    | (go_at_call 11; refine (C1.out _ _ _ HS).mono ?_; clear C1 HS; rintro e w2 ⟨rfl, HS⟩)
    | (go_at_call 11; refine (C2.out _ _ _ HS).mono ?_; clear C2 HS; rintro e w3 ⟨rfl, HS⟩)
    | (go_at_call 15; refine (C3.out _ _ _ HS).mono ?_; clear C3 HS; rintro e w4 ⟨rfl, HS⟩)
    | (go_at_call 17; refine (C4.out _ _ _ HS).mono ?_; clear C4 HS; rintro e w5 ⟨rfl, HS⟩)
    | (go_at_call 13; refine (C5.out _ _ _ HS).mono ?_; clear C5 HS; rintro e w6 ⟨rfl, HS⟩)
    | (go_at_call 19; refine (C6.out _ _ _ HS).mono ?_; clear C6 HS; rintro e w7 ⟨rfl, HS⟩)
    | (go_at_call 13; refine (C7.out _ _ _ HS).mono ?_; clear C7 HS; rintro e w8 ⟨rfl, HS⟩)
    | (go_at_call 31; refine (G1.out _ _ _ HS).mono ?_; clear G1 HS; rintro e w9 ⟨rfl, HS⟩)
    | (go_at_call 31; refine (G2.out _ _ _ HS).mono ?_; clear G2 HS; rintro e w10 ⟨rfl, HS⟩)
    | (go_at_call 31; refine (G3.out _ _ _ HS).mono ?_; clear G3 HS; rintro e w11 ⟨rfl, HS⟩)
    | (go_at_call 31; refine (G4.out _ _ _ HS).mono ?_; clear G4 HS; rintro e w12 ⟨rfl, HS⟩)
    | (go_at_call 25; refine (D1.out _ _ _ HS).mono ?_; clear D1; rintro e w13 ⟨rfl, rfl⟩)
    | (go_at_call 27; refine (D2.out _ _ _ HS).mono ?_; clear D2; rintro e w13 ⟨rfl, rfl⟩)
    | (go_at_call 29; refine (D3.out _ _ _ HS).mono ?_; clear D3; rintro e w13 ⟨rfl, rfl⟩))
  go_ret
  exact ⟨rfl, HS.o.below lb lc (Nat.le_refl _)⟩
end Go.Proofs.Ytdeddiclemdpoaa
