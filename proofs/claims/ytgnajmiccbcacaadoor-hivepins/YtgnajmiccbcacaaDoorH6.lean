/- The law's own 'kept' and 'awake'. -/
import Derived.Test.YtgnajmiccbcacaaDoorH5
namespace Go.Proofs.YtgnajmiccbcacaaDoor
open Go.RowKit
set_option linter.unusedVariables false

def abc : List UInt8 := [97, 98, 99]
def xy : List UInt8 := [120, 121]
def tt : List UInt8 := [116]
def K1 : H.Sh := ⟨false, 0, 1, 0, [⟨abc, [], true⟩]⟩
def K2 : H.Sh := ⟨false, 0, 2, 0, [⟨abc, abc, false⟩]⟩
def K3 : H.Sh := ⟨false, 0, 3, 0, [⟨xy, abc, true⟩]⟩
def K4 : H.Sh := ⟨true, 0, 3, 1, [⟨xy, abc, true⟩]⟩
def keptT (F : List Int) : List UInt8 := H.left ⟨xy, abc, true⟩ (F.getD 0 0)
def K5 (F : List Int) : H.Sh := ⟨false, 0, 3, 1, [H.settle (keptT F)]⟩
theorem sm_of (st : H.Sh) (h1 : st.sl.length ≤ 128) (h2 : st.sl.all (fun s => decide (s.text.length ≤ 640 ∧ s.sure.length ≤ 640)) = true) (h3 : st.acts ≤ 1000000) (h4 : st.life ≤ 1000000) (h5 : st.arm ≤ 9223372036854775807) : Sm st :=
  ⟨h1, fun i s hs => by have := List.all_eq_true.1 h2 s (List.mem_of_getElem? hs); simpa using this, h3, h4, h5⟩
theorem sm_new1 : Sm (new 1) := sm_of _ (by decide) (by decide) (by decide) (by decide) (by decide)
theorem sm_K1 : Sm K1 := sm_of _ (by decide) (by decide) (by decide) (by decide) (by decide)
theorem sm_K2 : Sm K2 := sm_of _ (by decide) (by decide) (by decide) (by decide) (by decide)
theorem sm_K4 : Sm K4 := sm_of _ (by decide) (by decide) (by decide) (by decide) (by decide)
/-- numbers as a slice, read in a world -/
def FI (w : World) (a : Option Addr) (F : List Int) : Prop := ∀ i x, F[i]? = some x → ∃ sb off, a = some ⟨sb, off, none⟩ ∧ sb < w.heap.size ∧ w.cell? ⟨sb, off + i, none⟩ = some (.int .i64 x)
theorem FI.ft {w : World} {b c : Nat} {a : Option Addr} {F : List Int} (h : FI w a F) (hb : w.heap.size ≤ b) (hc : w.heap.size ≤ c) : FT w b c a F := fun i x hx => by
  obtain ⟨sb, off, h1, h2, h3⟩ := h i x hx
  exact ⟨sb, off, h1, h2, by omega, by omega, h3⟩
/-- On, whatever the fates -/
theorem On_at {w W : World} {b c : Nat} {st : H.Sh} (h : SW w b c st W) (ho : st.off = true) (hm : Sm st) (F : List Int) (a : Option Addr) (cap : Nat) (HF : FT w b c a F) (hl : F.length ≤ 9223372036854775807) (hb : ∀ x ∈ F, -9223372036854775808 ≤ x ∧ x ≤ 9223372036854775807) :
    Calls Tryd.prog 14 #[.pointer (some ⟨b, 0, none⟩), .slice a F.length cap] W fun e w' => e = .returned (.tuple #[]) ∧ SW w b c (H.on F st) w' := by
  unfold H.on
  by_cases h0 : F.length = 0
  · rw [if_pos h0, h0]
    exact On_none h ho hm a cap
  · rw [if_neg h0]
    exact On_some h ho hm F a cap HF (by omega) hl hb

def A1 : H.Sh := ⟨false, 0, 1, 0, [s0, ⟨tt, [], true⟩]⟩
def A2 : H.Sh := ⟨false, 0, 2, 0, [s0, ⟨tt, tt, false⟩]⟩
def A3 : H.Sh := ⟨true, 0, 2, 1, [s0, ⟨tt, tt, false⟩]⟩
def A4 : H.Sh := ⟨false, 0, 2, 1, [s0, ⟨tt, tt, false⟩]⟩
theorem fi_one (W : World) (x : Int) : FI (W.alloc (.cells #[.int .i64 x] 3)) (some ⟨W.heap.size, 0, none⟩) [x] := fun i y hy => by
  refine ⟨W.heap.size, 0, rfl, by simp, ?_⟩
  have hc := heap_alloc_new W (.cells #[.int .i64 x] 3)
  rcases i with _ | i
  · simp at hy; subst hy
    show World.cell? _ ⟨W.heap.size, 0, none⟩ = _
    unfold World.cell?
    rw [hc]; rfl
  · simp at hy
end Go.Proofs.YtgnajmiccbcacaaDoor
