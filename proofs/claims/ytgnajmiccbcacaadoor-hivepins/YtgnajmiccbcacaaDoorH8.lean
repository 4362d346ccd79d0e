/- More on shelves: behind a loss of power; blocks beside them. -/
import Derived.Test.YtgnajmiccbcacaaDoorArm
import Derived.Deep.WholeRow
namespace Go.Proofs.YtgnajmiccbcacaaDoor
open Go.RowKit
set_option linter.unusedVariables false

theorem back_un (F : List Int) (l : List H.Sl) : ∀ s ∈ l.mapIdx (H.back F l), s.un = false := fun s hs => by
  obtain ⟨j, hj⟩ := List.mem_iff_getElem?.1 hs
  cases hl : l[j]? with
  | none => rw [List.getElem?_mapIdx, hl] at hj; simp at hj
  | some x =>
    rw [back_at _ _ _ _ hl] at hj
    have := Option.some.inj hj
    subst this
    unfold H.back
    split
    · rfl
    · next h => simpa using h
theorem back_same (F : List Int) (l : List H.Sl) (h : ∀ s ∈ l, s.un = false) : l.mapIdx (H.back F l) = l := by
  apply List.ext_getElem?
  intro j
  cases hl : l[j]? with
  | none => rw [List.getElem?_mapIdx, hl]; rfl
  | some x =>
    rw [back_at _ _ _ _ hl]
    have := h x (List.mem_of_getElem? hl)
    simp [H.back, this]
theorem cut_on (m a l : Nat) (s : List H.Sl) : H.cut ⟨false, m, a, l, s⟩ = ⟨true, 0, a, l + 1, s⟩ := rfl
theorem cut_off (m a l : Nat) (s : List H.Sl) : H.cut ⟨true, m, a, l, s⟩ = ⟨true, 0, a, l, s⟩ := rfl
theorem SW.other {w W : World} {b c q : Nat} {st : H.Sh} (h : SW w b c st W) (h1 : q ≠ b) (h2 : q ≠ c) (h3 : w.heap.size ≤ q) (i : Nat) (v : Value) : SW w b c st (W.setCell ⟨q, i, none⟩ v) :=
  ⟨by rw [Below.heap_setCell _ _ _ _ (fun e => h1 e.symm)]; exact h.hb, by rw [Below.heap_setCell _ _ _ _ (fun e => h2 e.symm)]; exact h.hc, h.ne,
    ⟨h.o.os, h.o.tape, h.o.output, by have := h.o.size; simp [World.setCell]; exact this, fun k hk hb hc => by rw [Below.heap_setCell _ _ _ _ (by show k ≠ q; omega)]; exact h.o.block k hk hb hc⟩⟩
theorem FI.at {w W : World} {b c : Nat} {st : H.Sh} {a : Option Addr} {F : List Int} (h : FI w a F) (hS : SW w b c st W) (hb : w.heap.size ≤ b) (hc : w.heap.size ≤ c) : FT W b c a F := fun i x hx => by
  obtain ⟨sb, off, h1, h2, h3⟩ := h i x hx
  have := hS.o.size
  exact ⟨sb, off, h1, by omega, by omega, by omega, by rw [hS.o.cell (p := ⟨sb, off + i, none⟩) h2 (by show sb ≠ b; omega) (by show sb ≠ c; omega)]; exact h3⟩
theorem Read_s {w W : World} {b c : Nat} {st : H.Sh} {s : H.Sl} {i : Nat} (h : SW w b c st W) (hs : st.sl[i]? = some s) (hn : st.sl.length ≤ 128) (ho : st.off = false) :
    Calls Tryd.prog 51 #[.pointer (some ⟨b, 0, none⟩), .int .i64 (i : Int)] W fun e w' => e = .returned (.tuple #[.string (M.bs s.text), .int .i64 0]) ∧ SW w b c st w' ∧ ∃ n, w' = W.drewN n := by
  refine (Read_at h hs hn ho).mono ?_
  rintro e w' ⟨rfl, n, rfl⟩
  exact ⟨rfl, h.drewN n, n, rfl⟩
/-- Write, whatever the text, with nothing armed -/
theorem Write_0 {w W : World} {b c n d f : Nat} {sl : List H.Sl} (h : SW w b c ⟨false, 0, d, f, sl⟩ W) (hs : Ss n sl) (hn : n ≤ 128) (i : Nat) (hi : i < n) (hd : d ≤ 1000000) (hf : f ≤ 1000000) (t : List UInt8) (ht : t.length ≤ maxLen) :
    Calls Tryd.prog 15 #[.pointer (some ⟨b, 0, none⟩), .int .i64 (i : Int), .string (M.bs t)] W fun e w' => (∃ x, e = .returned (.int .i64 x)) ∧
      ∃ d' sl', d' ≤ d + 1 ∧ Ss n sl' ∧ (∀ j, j ≠ i → sl'[j]? = sl[j]?) ∧ SW w b c ⟨false, 0, d', f, sl'⟩ w' := by
  have hl : sl.length = n := hs.n
  obtain ⟨s, hss⟩ : ∃ s, sl[i]? = some s := ⟨sl[i]'(by omega), List.getElem?_eq_getElem _⟩
  have sm := hs.sm hn false 0 d f hd hf (by omega)
  by_cases hl : t.length ≤ 640
  · refine (Write_at h hss sm rfl t hl).mono ?_
    rintro e w' ⟨rfl, h'⟩
    refine ⟨⟨_, rfl⟩, d + 1, _, Nat.le_refl _, hs.put i t hl, fun j hj => ?_, h'⟩
    rw [List.getElem?_modify]
    cases sl[j]? <;> simp [Ne.symm hj]
  · have e : slotE ⟨false, 0, d, f, sl⟩ (i : Int) = 0 := by unfold slotE; rw [if_neg (by simp), if_pos (by show _ ∧ (i : Int) < (sl.length : Int); omega)]
    refine (Write_long h (i : Int) (M.bs t) sm.n e (by rw [M.bs_size]; omega) (by rw [M.bs_size]; exact ht)).mono ?_
    rintro e w' ⟨rfl, k, rfl⟩
    exact ⟨⟨_, rfl⟩, d, sl, by omega, hs, fun _ _ => rfl, h.drewN k⟩
theorem wrap_i64_ofH {n : Int} (h1 : -9223372036854775808 ≤ n) (h2 : n ≤ 9223372036854775807) : IntKind.i64.wrap n = n := by
  simp only [IntKind.wrap, IntKind.bits, IntKind.signed]; simp; omega
theorem um_wrap8 (n : Int) : Int.tmod (IntKind.u64.wrap n) 8 = (um n 8 : Int) := um_wrap n 8

/-- eight empty texts -/
def zT : List Value := List.replicate 8 (.string ⟨#[]⟩)
theorem zT_one : zT.toArray.all (·.oneCell') = true := by kernel_rfl
/-- slots' texts as cells -/
def txC (l : List H.Sl) : List Value := l.map (fun s => .string (M.bs s.text))
theorem txC_at (l : List H.Sl) (i : Nat) (s : H.Sl) (h : l[i]? = some s) : (txC l)[i]? = some (.string (M.bs s.text)) := by simp [txC, h]
end Go.Proofs.YtgnajmiccbcacaaDoor
