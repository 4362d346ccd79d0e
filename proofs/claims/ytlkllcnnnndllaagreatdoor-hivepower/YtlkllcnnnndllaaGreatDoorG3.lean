/- The texts of calls; whether two of them have one digest. -/
import Derived.Test.YtlkllcnnnndllaaGreatDoorG2
import Derived.Test.YtlkllcnnnndllaaGreatDoorNB
namespace Go.Proofs.YtlkllcnnnndllaaGreatDoor
open Go.RowKit Go.Maps
set_option linter.unusedVariables false
set_option linter.unusedSimpArgs false
attribute [local go_sem ↓] empty9

theorem ts_one5 (W : World) (s : List UInt8) (T : TypeId) : TS (W.alloc (.cells #[.string (M.bs s)] T)) (some ⟨W.heap.size, 0, none⟩) [s] := fun i t ht => by
  cases i with
  | zero => simp at ht; subst ht; exact ⟨_, 0, rfl, by simp, cell_new1 _ _ _⟩
  | succ i => simp at ht
/-- the texts of the first calls -/
structure TL (acts : List A5) (i : Nat) (L : List (List UInt8)) : Prop where
  n : L.length ≤ i
  m : ∀ (j : Nat) (x : A5), j < i → acts[j]? = some x → x.text ∈ L
  s : ∀ t ∈ L, ∃ (j : Nat) (x : A5), j < i ∧ acts[j]? = some x ∧ x.text = t
theorem TL.is {acts : List A5} {i : Nat} {L : List (List UInt8)} (h : TL acts i L) {x : A5} (hx : acts[i]? = some x) (ht : x.text ∈ L) : TL acts (i + 1) L :=
  ⟨by have := h.n; omega, fun j y hj hy => by
    by_cases e : j = i
    · subst e; rw [hx] at hy; cases hy; exact ht
    · exact h.m j y (by omega) hy, fun t ht => by obtain ⟨j, y, h1, h2, h3⟩ := h.s t ht; exact ⟨j, y, by omega, h2, h3⟩⟩
theorem TL.new {acts : List A5} {i : Nat} {L : List (List UInt8)} (h : TL acts i L) {x : A5} (hx : acts[i]? = some x) : TL acts (i + 1) (L ++ [x.text]) :=
  ⟨by have := h.n; simp; omega, fun j y hj hy => by
    by_cases e : j = i
    · subst e; rw [hx] at hy; cases hy; simp
    · exact List.mem_append_left _ (h.m j y (by omega) hy), fun t ht => by
    rcases List.mem_append.1 ht with ht | ht
    · obtain ⟨j, y, h1, h2, h3⟩ := h.s t ht; exact ⟨j, y, by omega, h2, h3⟩
    · simp at ht; exact ⟨i, x, by omega, hx, ht.symm⟩⟩
def TP (acts : List A5) (W : World) (e : Ending) (w' : World) : Prop := ∃ (a : Option Addr) (c : Nat) (L : List (List UInt8)), e = .returned (.slice a L.length c) ∧ TS w' a L ∧ Below W.heap.size W w' ∧ L.length ≤ 70 ∧ (∀ (j : Nat) (x : A5), j < 70 → acts[j]? = some x → x.text ∈ L) ∧ (∀ t ∈ L, ∃ (j : Nat) (x : A5), j < 70 ∧ acts[j]? = some x ∧ x.text = t)
theorem TP.of {acts : List A5} {W w' : World} {a : Option Addr} {c i : Nat} {L : List (List UInt8)} (h : TL acts i L) (hi : i = 70 ∨ acts.length ≤ i) (h7 : i ≤ 70) (ht : TS w' a L) (hb : Below W.heap.size W w') : TP acts W (.returned (.slice a L.length c)) w' :=
  ⟨a, c, L, rfl, ht, hb, by have := h.n; omega, fun j x hj hx => h.m j x (by have := (List.getElem?_eq_some_iff.1 hx).1; omega) hx, fun t ht => by obtain ⟨j, y, h1, h2, h3⟩ := h.s t ht; exact ⟨j, y, by omega, h2, h3⟩⟩
set_option maxRecDepth 8000 in
set_option maxHeartbeats 4000000 in
theorem texts_at (acts : List A5) (a : Option Addr) (c : Nat) {w W : World} (hA : AC5 w a acts) (hB : Below w.heap.size w W) (hl : acts.length ≤ 9223372036854775807) :
    Calls Tryz.prog 7 #[.slice a acts.length c] W fun e w' => TP acts W e w' := by
  have HA : Hid (∀ {W' : World} {i : Nat} {x : A5}, Below W.heap.size W W' → acts[i]? = some x → ∃ sb off, a = some ⟨sb, off, none⟩ ∧ W'.rangeAt sb (off + i * 69) (avL x) ∧ W'.cell? ⟨sb, off + i * 69 + 1, none⟩ = some (.string (M.bs x.text)) ∧ W'.cell? ⟨sb, off + i * 69 + 68, none⟩ = some (.slice x.fa x.fates.length x.fc) ∧ A5ok w x) := fun hb hx => hA.at (hB.trans (hb.mono hB.size)) hx
  have OW0 : Hid ((W.alloc (.cells #[] 9)).ownsRow W.heap.size 9 1 (.slice (some ⟨W.heap.size, 0, none⟩) 0 0) ([] : List (List UInt8)).length (([] : List (List UInt8)).map encS)) := World.ownsRow_made W #[] 0 (Nat.le_refl _) (Nat.zero_le _) rfl
  have HB0 : Hid (Below W.heap.size W (W.alloc (.cells #[] 9))) := (Below.refl _ W).alloc (Nat.le_refl _) _
  clear hA hB
  go_enter Tryz.func7, Tryz.ntmps7
  go_wp2_with fail
  go_loopw [3, 4] (fun u3 u4 wr => ∃ (i : Nat) (L : List (List UInt8)), i ≤ acts.length ∧ i ≤ 70 ∧ u4 = .int .i64 (i : Int) ∧ wr.ownsRow W.heap.size 9 1 u3 L.length (L.map encS) ∧ Below W.heap.size W wr ∧ TL acts i L) (fun _ u4 _ => 70 - (intOf u4).toNat)
  case atStart => exact ⟨0, [], Nat.zero_le _, Nat.zero_le _, rfl, OW0.out, HB0.out, ⟨Nat.le_refl _, fun j x h => by omega, fun t ht => by cases ht⟩⟩
  case round =>
    obtain ⟨i, L, hi, h7, rfl, hown, hbe, htl⟩ := hrel
    clear OW0 HB0
    have HTL : Hid (TL acts i L) := htl
    have HOW : Hid (wr.ownsRow W.heap.size 9 1 u3 L.length (L.map encS)) := hown
    have HBE : Hid (Below W.heap.size W wr) := hbe
    have hsz := hbe.size
    have hLn := htl.n
    obtain ⟨a5, c5, rfl, htv⟩ := owns_ts hown
    have HTV : Hid (TS wr a5 L) := htv
    clear hown hbe htl htv
    by_cases hlt : i < acts.length
    · have i1 : (i : Int) < (acts.length : Int) := by omega
      by_cases h70 : i < 70
      · have i2 : (i : Int) < 70 := by omega
        have i0 : (0 : Int) ≤ (i : Int) := by omega
        obtain ⟨x, hx⟩ : ∃ x, acts[i]? = some x := ⟨acts[i], List.getElem?_eq_getElem hlt⟩
        obtain ⟨sb, off, ha, _, c1, _, ok⟩ := HA.out HBE.out hx
        cases ha
        have HX : Hid (acts[i]? = some x) := hx
        clear ok hx
        have CH : Hid (Calls Tryz.prog 19 #[.slice a5 L.length c5, .string (M.bs x.text)] wr fun e w' => e = .returned (.bool (decide (x.text ∈ L))) ∧ w' = wr) := has_at a5 c5 L x.text wr HTV.out (by omega)
        by_cases ht : x.text ∈ L
        · have HN : Hid (TL acts (i + 1) L) := HTL.out.is HX.out ht
          rw [decide_eq_true ht] at CH
          clear ht HX HTL HTV
          go_wp2_with (go_at_call 19; refine CH.out.mono ?_; clear CH; rintro e w3 ⟨rfl, hw⟩; rw [hw]; clear hw w3)
          go_roundw
          case rel => exact ⟨i + 1, L, by omega, by omega, by go_num, HOW.out, HBE.out, HN.out⟩
          case measure => simp [intOf]; omega
        · have HN : Hid (TL acts (i + 1) (L ++ [x.text])) := HTL.out.new HX.out
          rw [decide_eq_false ht] at CH
          have HO2 : Hid ((wr.alloc (.cells #[.string (M.bs x.text)] 9)).ownsRow W.heap.size 9 1 (.slice a5 L.length c5) L.length (L.map encS)) := World.ownsRow.alloc (w := wr) HOW.out _
          have HB2 : Hid (Below W.heap.size W (wr.alloc (.cells #[.string (M.bs x.text)] 9))) := HBE.out.alloc hsz _
          have hwl2 : L.length + 1 ≤ 100000 := by omega
          clear ht HX HTL HTV HOW HBE
          go_wp2_with (first
            | (go_at_call 19; refine CH.out.mono ?_; clear CH; rintro e w3 ⟨rfl, hw⟩; rw [hw]; clear hw w3)
            | (at_builtin; refine wl_app rfl _ _ rfl W.heap.size L _ rfl HO2.out (some ⟨_, 0, none⟩) [x.text] 1 rfl (ts_one5 _ _ _) (by simp; omega) (by simpa using hwl2) ?_; intro v9 w9 hown9 hg9 hv9; have HO9 : Hid _ := hown9; have HB9 : Hid (Below W.heap.size W w9) := HB2.out.grown hg9 (by simp; omega) (fun q hq => (owns_ge HO2.out hq).1); clear hown9 hg9 hv9 HO2 HB2))
          go_roundw
          case rel => exact ⟨i + 1, L ++ [x.text], by omega, by omega, by go_num, HO9.out, HB9.out, HN.out⟩
          case measure => simp [intOf]; omega
      · obtain rfl : i = 70 := by omega
        go_wp2_with fail
        go_ret
        exact TP.of HTL.out (.inl rfl) (Nat.le_refl _) HTV.out HBE.out
    · have i1 : ¬ (i : Int) < (acts.length : Int) := by omega
      go_wp2_with fail
      go_ret
      exact TP.of HTL.out (.inr (by omega)) h7 HTV.out HBE.out
end Go.Proofs.YtlkllcnnnndllaaGreatDoor
