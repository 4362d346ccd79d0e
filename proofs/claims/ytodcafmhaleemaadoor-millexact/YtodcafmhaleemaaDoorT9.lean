/- A machine's step: what is known of it in memory. -/
import Derived.Test.YtodcafmhaleemaaDoorT8
namespace Go.Proofs.YtodcafmhaleemaaDoor
open Go.RowKit
set_option linter.unusedVariables false

theorem Q.len_le (t : List UInt8) (h : t.length ≤ 512) : (Q.len t).length ≤ 1000000 := by
  unfold Q.len Lib.itoa
  rw [if_neg (by omega), Lib.decDigits_length]
  show Lib.nDigits t.length ≤ _
  generalize t.length = u at *
  by_cases h1 : u < 10
  · rw [Lib.nDigits_small h1]; omega
  · rw [Lib.nDigits_big h1]
    by_cases h2 : u / 10 < 10
    · rw [Lib.nDigits_small h2]; omega
    · rw [Lib.nDigits_big h2, Lib.nDigits_small (by omega)]; omega
/-- the cells of a machine behind its stack -/
def rowM (code : List UInt8) (a : Option Addr) (il c place n : Nat) : List Value := [.string (M.bs code), .slice a il c, .int .i64 (place : Int), .int .i64 (n : Int)]
theorem SX.setR {w W : World} {b : Nat} {r r' : List Value} {st : List (List UInt8)} {v : Value} (h : SX w b r st v W) (i : Nat) (x : Value) (e : r.set i x = r') : SX w b r' st v (W.setCell ⟨b, i + 1, none⟩ x) := by
  have h1 := h.hb
  have h2 := h.z
  refine ⟨?_, ownsRow_setCell_below h.own (show b < b + 1 by omega) _, ⟨h.g.g.below (Below.setCell (Below.refl b W) (Nat.le_refl _) _) (by omega), h.g.b.trans (Below.setCell (Below.refl _ W) h1 _)⟩, h1, h2, h.ok⟩
  rw [heap_setCell_rowM h.row, ← e]
  simp
section
variable {w W : World} {b : Nat} {code : List UInt8} {a : Option Addr} {il c place n : Nat} {st : List (List UInt8)} {v : Value}
theorem SX.m1 (h : SX w b (rowM code a il c place n) st v W) : W.cell? ⟨b, 1, none⟩ = some (.string (M.bs code)) := by rw [cell_rowM h.row]; rfl
theorem SX.m2 (h : SX w b (rowM code a il c place n) st v W) : W.cell? ⟨b, 2, none⟩ = some (.slice a il c) := by rw [cell_rowM h.row]; rfl
theorem SX.m3 (h : SX w b (rowM code a il c place n) st v W) : W.cell? ⟨b, 3, none⟩ = some (.int .i64 (place : Int)) := by rw [cell_rowM h.row]; rfl
theorem SX.m4 (h : SX w b (rowM code a il c place n) st v W) : W.cell? ⟨b, 4, none⟩ = some (.int .i64 (n : Int)) := by rw [cell_rowM h.row]; rfl
theorem SX.setP (h : SX w b (rowM code a il c place n) st v W) (k : Nat) : SX w b (rowM code a il c k n) st v (W.setCell ⟨b, 3, none⟩ (.int .i64 (k : Int))) := h.setR 2 _ rfl
theorem SX.setN (h : SX w b (rowM code a il c place n) st v W) (k : Nat) : SX w b (rowM code a il c place k) st v (W.setCell ⟨b, 4, none⟩ (.int .i64 (k : Int))) := h.setR 3 _ rfl
end

/-- what 'do' does first: the step is boxed and counted, the place moves on -/
theorem SX.pre {w W : World} {b : Nat} {code : List UInt8} {a : Option Addr} {il c place n : Nat} {st : List (List UInt8)} {v : Value} (h : SX w b (rowM code a il c place n) st v W) (sx : ByteArray) (L : Nat) (Li : Int) (hL : (L : Int) = Li) :
    SX w b (rowM code a il c (place + L) (n + 1)) st v ((((W.setCell ⟨b, 4, none⟩ (.int .i64 ((n : Int) + 1))).setCell ⟨b, 3, none⟩ (.int .i64 ((place : Int) + Li))).alloc (.cells #[.string sx] 9)).drew) ∧
    ((((W.setCell ⟨b, 4, none⟩ (.int .i64 ((n : Int) + 1))).setCell ⟨b, 3, none⟩ (.int .i64 ((place : Int) + Li))).alloc (.cells #[.string sx] 9)).drew).cell? ⟨W.heap.size, 0, none⟩ = some (.string sx) := by
  have h1 := h.setN (n + 1)
  have h2 := h1.setP (place + L)
  rw [show ((n + 1 : Nat) : Int) = (n : Int) + 1 by omega, show ((place + L : Nat) : Int) = (place : Int) + Li by omega] at h2
  refine ⟨(h2.alloc _).drew, ?_⟩
  have := cell_new1 ((W.setCell ⟨b, 4, none⟩ (.int .i64 ((n : Int) + 1))).setCell ⟨b, 3, none⟩ (.int .i64 ((place : Int) + Li))) (.string sx) 9
  simpa using this

/-- inputs that came in, in the world w -/
structure IN (w : World) (a : Option Addr) (ins : List (List UInt8)) : Prop where
  t : TX w a ins
  n : ins.length ≤ 4
  l : ∀ t ∈ ins, t.length ≤ 512
set_option maxRecDepth 8000 in
set_option maxHeartbeats 2000000 in
theorem putInput_at {w W : World} {b : Nat} {code : List UInt8} {a : Option Addr} {c place n : Nat} {ins st : List (List UInt8)} {v : Value} (h : SX w b (rowM code a ins.length c place n) st v W) (hin : IN w a ins) (k : Nat) (hk : k ≤ 255) :
    Calls Tryd.prog 36 #[.pointer (some ⟨b, 0, none⟩), .int .i64 (k : Int)] W fun e w' => e = .returned (.int .i64 ((if ins.length ≤ k then (32, st) else Q.put st (ins.getD k [])).1 : Nat)) ∧ ∃ v', SX w b (rowM code a ins.length c place n) (if ins.length ≤ k then (32, st) else Q.put st (ins.getD k [])).2 v' w' := by
  have k2 := h.m2
  have h4 := hin.n
  by_cases hlt : ins.length ≤ k
  · rw [if_pos hlt]
    have HH : Hid (SX w b (rowM code a ins.length c place n) st v W) := h
    clear h hin
    go_enter Tryd.func36, Tryd.ntmps36
    go_wp2_with fail
    go_ret
    exact ⟨rfl, _, HH.out⟩
  · rw [if_neg hlt]
    obtain ⟨t, ht⟩ : ∃ t, ins[k]? = some t := ⟨ins[k]'(by omega), List.getElem?_eq_getElem (by omega)⟩
    have hg : ins.getD k [] = t := by rw [List.getD_eq_getElem?_getD, ht]; rfl
    rw [hg]
    have htl := hin.l t (List.mem_of_getElem? ht)
    obtain ⟨sb, off, rfl, hsb, hc⟩ := hin.t k t ht
    have kc : W.cell? ⟨sb, off + k, none⟩ = some (.string (M.bs t)) := by rw [h.g.b.cell (p := ⟨sb, off + k, none⟩) hsb]; exact hc
    have CP : Hid (∀ W', SX w b (rowM code (some ⟨sb, off, none⟩) ins.length c place n) st v W' → Calls Tryd.prog 38 #[.pointer (some ⟨b, 0, none⟩), .string (M.bs t)] W' fun e w' => e = .returned (.int .i64 ((Q.put st t).1 : Int)) ∧ ∃ v', SX w b (rowM code (some ⟨sb, off, none⟩) ins.length c place n) (Q.put st t).2 v' w') := fun W' h => put_at t h (by omega)
    have HH : Hid (SX w b (rowM code (some ⟨sb, off, none⟩) ins.length c place n) st v W) := h
    clear h hin hg ht hc
    generalize Q.put st t = R at *
    have hw1 : IntKind.i64.wrap (k : Int) = (k : Int) := by simp only [IntKind.wrap, IntKind.bits, IntKind.signed]; simp; omega
    have i0 : (0 : Int) ≤ (k : Int) := by omega
    have i1 : (k : Int) < (ins.length : Int) := by omega
    have i2 : ¬ (ins.length : Int) ≤ (k : Int) := by omega
    go_enter Tryd.func36, Tryd.ntmps36
    go_wp2_with fail
    go_region_with (go_at_call 38; refine (CP.out _ (by first | exact HH.out | exact HH.out.drew)).mono ?_; rintro e w' ⟨rfl, HS⟩)
    all_goals go_wp2_with fail
    all_goals go_ret
    all_goals exact ⟨rfl, HS⟩
set_option maxRecDepth 8000 in
set_option maxHeartbeats 2000000 in
theorem goIf_at {w W : World} {b : Nat} {code : List UInt8} {a : Option Addr} {il c place n : Nat} {st : List (List UInt8)} {v : Value} (h : SX w b (rowM code a il c place n) st v W) (k : Nat) (hk : k ≤ 255) :
    Calls Tryd.prog 51 #[.pointer (some ⟨b, 0, none⟩), .int .i64 (k : Int)] W fun e w' => e = .returned (.int .i64 ((Q.drop st).1 : Int)) ∧ ∃ v', SX w b (rowM code a il c (if Q.isE st then k else place) n) (Q.drop st).2 v' w' := by
  have HH : Hid (SX w b (rowM code a il c place n) st v W) := h
  clear h
  rcases st with _ | ⟨t, st⟩
  · unfold Q.drop Q.isE
    go_enter Tryd.func51, Tryd.ntmps51
    go_wp2_with (go_at_call 27; refine (take_nil HH.out).mono ?_; rintro e w' ⟨rfl, rfl⟩)
    go_ret
    exact ⟨rfl, _, HH.out⟩
  · have CT : Hid (Calls Tryd.prog 27 #[.pointer (some ⟨b, 0, none⟩)] W fun e w' => e = .returned (.tuple #[.string (M.bs t), .bool true]) ∧ ∃ v', SX w b (rowM code a il c place n) st v' w') := by
      refine (take_cons HH.out).mono ?_
      rintro e w' ⟨rfl, v', hw', hs⟩
      exact ⟨rfl, v', hs⟩
    clear HH
    rcases t with _ | ⟨x, t⟩
    · have hq := bs_nil
      have hE : Q.isE ([] :: st) = true := rfl
      rw [hE, if_pos rfl]
      clear hE
      unfold Q.drop
      generalize M.bs [] = B at *
      go_enter Tryd.func51, Tryd.ntmps51
      go_wp2_with (go_at_call 27; refine CT.out.mono ?_; clear CT; rintro e w' ⟨rfl, v', HS⟩; have HF := (SX.setP HS k); have k3 := HS.m3; have f3 := HS.fb)
      go_ret
      exact ⟨rfl, _, HF⟩
    · have hq := bs_ne (x :: t) (by simp)
      have hE : Q.isE ((x :: t) :: st) = false := rfl
      rw [hE, if_neg (by simp)]
      clear hE
      unfold Q.drop
      generalize M.bs (x :: t) = B at *
      go_enter Tryd.func51, Tryd.ntmps51
      go_wp2_with (go_at_call 27; refine CT.out.mono ?_; clear CT; rintro e w' ⟨rfl, v', HS⟩)
      go_ret
      exact ⟨rfl, _, HS⟩
end Go.Proofs.YtodcafmhaleemaaDoor
