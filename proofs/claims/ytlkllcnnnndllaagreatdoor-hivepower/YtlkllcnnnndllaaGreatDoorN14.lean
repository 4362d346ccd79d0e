/- A store's load. -/
import Derived.Test.YtlkllcnnnndllaaGreatDoorN13
namespace Go.Proofs.YtlkllcnnnndllaaGreatDoor
open Go.RowKit Go.Maps
set_option linter.unusedVariables false
set_option linter.unusedSimpArgs false

/-- what load has come to: the store, the shelf's acts and slots, whether any was wiped -/
structure LSt where
  h : Hv
  a : Nat
  sl : List H.Sl
  wp : Bool
def adoptN (es : List V.En) (t : List UInt8) : Option V.En :=
  match V.decode t with
  | none => none
  | some c => match V.findN es c.kind c.dig with
    | some _ => none
    | none => some (enOf c)
def wipe (sl : List H.Sl) (i : Nat) : List H.Sl := sl.modify i (fun s => { s with text := [], un := true })
def ldStep (i : Nat) (s : LSt) : LSt :=
  match s.sl[i]? with
  | none => s
  | some z => if z.text = [] then s else match adoptN s.h.es z.text with
    | none => { s with a := s.a + 1, sl := wipe s.sl i, wp := true }
    | some e => { s with h := fillV s.h i e }
def ldN (s : LSt) : Nat → LSt
  | 0 => s
  | k + 1 => ldStep k (ldN s k)
def shOf (f a : Nat) (sl : List H.Sl) : H.Sh := ⟨false, 0, a, f, sl⟩
def ldEnd (f : Nat) (s : LSt) : H.Sh := if s.wp then shOf f (s.a + 1) (s.sl.map (fun s => H.settle s.text)) else shOf f s.a s.sl
structure Ld (n u0 a0 : Nat) (k : Nat) (S : LSt) : Prop where
  l : S.h.es.length = n
  s : Ss n S.sl
  f : ∀ (j : Nat) (e : V.En), k ≤ j → S.h.es[j]? = some e → e.kind = []
  u : S.h.uses ≤ u0 + k
  a : S.a ≤ a0 + k
theorem fillV_len (h : Hv) (i : Nat) (e : V.En) : (fillV h i e).es.length = h.es.length := by simp [fillV]
theorem Ld.step {n u a k : Nat} {s : LSt} (h : Ld n u a k s) : Ld n u a (k + 1) (ldStep k s) := by
  unfold ldStep
  cases hz : s.sl[k]? with
  | none => simp only; exact ⟨h.l, h.s, fun j e hj he => h.f j e (by omega) he, by have := h.u; omega, by have := h.a; omega⟩
  | some z =>
    simp only
    by_cases ht : z.text = []
    · rw [if_pos ht]; exact ⟨h.l, h.s, fun j e hj he => h.f j e (by omega) he, by have := h.u; omega, by have := h.a; omega⟩
    · rw [if_neg ht]
      cases adoptN s.h.es z.text with
      | none => exact ⟨h.l, h.s.put k [] (by simp), fun j e hj he => h.f j e (by omega) he, by have := h.u; show s.h.uses ≤ _; omega, by have := h.a; show s.a + 1 ≤ _; omega⟩
      | some e =>
        refine ⟨by simp only; rw [fillV_len]; exact h.l, h.s, fun j e' hj he => ?_, by have := h.u; show s.h.uses + 1 ≤ _; omega, by have := h.a; show s.a ≤ _; omega⟩
        simp only [fillV] at he
        rw [List.getElem?_set_ne (by omega)] at he
        exact h.f j e' (by omega) he
theorem Ld.all {n u a : Nat} {s : LSt} (h : Ld n u a 0 s) : ∀ k, Ld n u a k (ldN s k)
  | 0 => h
  | k + 1 => (h.all k).step

set_option maxRecDepth 8000 in
set_option maxHeartbeats 4000000 in
theorem load_x {w W : World} {b : HB} {n u f : Nat} {s : LSt} (x : HW w b s.h (shOf f s.a s.sl) W) (hL : Ld n u s.a 0 s) (hn : n ≤ 128) (hu : u ≤ 900000) (ha : s.a ≤ 900000) (hf : f ≤ 1000000) (hw : s.wp = false) :
    Calls Tryz.prog 27 #[.pointer (some ⟨b.hv, 0, none⟩)] W fun e' w' => e' = .returned (.int .i64 0) ∧ HW w b (ldN s n).h (ldEnd f (ldN s n)) w' := by
  have hL2 : Hid (∀ k, Ld n u s.a k (ldN s k)) := hL.all
  have XX : Hid (HW w b s.h (shOf f s.a s.sl) W) := x
  have HA : Hid (s.a ≤ 900000) := ha
  have k2 : W.cell? ⟨b.hv, 2, none⟩ = some (.slice (some ⟨b.sl, 0, none⟩) n n) := by rw [x.c2, hL.l]
  have HWP : Hid (s.wp = false) := hw
  clear x hL hw ha
  go_enter Tryz.func27, Tryz.ntmps27
  go_wp2_with fail
  clear k2
  go_loopw [3, 13] (fun u3 u13 wr => ∃ k : Nat, k ≤ n ∧ u13 = .int .i64 k ∧ u3 = .bool (ldN s k).wp ∧ HW w b (ldN s k).h (shOf f (ldN s k).a (ldN s k).sl) wr) (fun _ u13 _ => n - (intOf u13).toNat)
  case atStart => exact ⟨0, Nat.zero_le _, rfl, by rw [ldN, HWP.out], XX.out⟩
  case round =>
    obtain ⟨k, hk, rfl, rfl, hx⟩ := hrel
    clear XX
    obtain ⟨S, hS⟩ : ∃ S, S = ldN s k := ⟨_, rfl⟩
    have hLk := hL2.out k
    rw [← hS] at hx hLk ⊢
    have ha := HA.out
    have h1 := hLk.a
    have h2 := hLk.u
    have sm : Sm (shOf f S.a S.sl) := hLk.s.sm hn false 0 S.a f (by omega) hf (by omega)
    by_cases hlt : k < n
    · obtain ⟨z, hz⟩ : ∃ z, S.sl[k]? = some z := ⟨S.sl[k]'(by rw [hLk.s.n]; exact hlt), List.getElem?_eq_getElem _⟩
      have hzl := (hLk.s.t z (List.mem_of_getElem? hz)).1
      obtain ⟨fe, hfe⟩ : ∃ fe, S.h.es[k]? = some fe := ⟨S.h.es[k]'(by rw [hLk.l]; exact hlt), List.getElem?_eq_getElem _⟩
      have hf0 := hLk.f k fe (Nat.le_refl _) hfe
      have LX : HW w b S.h (shOf f S.a S.sl) wr := hx
      have k0 := hx.c0
      have HST : Hid (ldN s (k + 1) = ldStep k S) := by show ldN s (k + 1) = ldStep k S; rw [ldN, ← hS]
      have HSZ : Hid (S.sl[k]? = some z) := hz
      have CR : Hid (∀ W', HW w b S.h (shOf f S.a S.sl) W' → Calls Tryz.prog 46 #[.pointer (some ⟨b.sh, 0, none⟩), .int .i64 (k : Int)] W' fun e' w' => e' = .returned (.tuple #[.string (M.bs z.text), .int .i64 0]) ∧ HW w b S.h (shOf f S.a S.sl) w') := fun W' l => by
        refine (Read_at l.sw (st := shOf f S.a S.sl) hz (by show S.sl.length ≤ 128; rw [hLk.s.n]; exact hn) rfl).mono ?_
        rintro e' w' ⟨rfl, m, rfl⟩
        exact ⟨rfl, HX.drewN l m⟩
      have CW : Hid (∀ W', HW w b S.h (shOf f S.a S.sl) W' → Calls Tryz.prog 48 #[.pointer (some ⟨b.sh, 0, none⟩), .int .i64 (k : Int), .string ⟨#[]⟩] W' fun e' w' => e' = .returned (.int .i64 0) ∧ HW w b S.h (shOf f (S.a + 1) (wipe S.sl k)) w') := fun W' l => Write_h l (st := shOf f S.a S.sl) hz sm rfl [] (by simp)
      by_cases ht : z.text = []
      · have hE : Hid (ldStep k S = S) := by show ldStep k S = S; unfold ldStep; rw [hz]; simp only; rw [if_pos ht]
        have hq : (M.bs z.text).toList.isEmpty = true := by rw [Lib.toList_data, M.bs_toList, ht]; rfl
        have hq2 : ((M.bs z.text).toList == []) = true := by rw [bs_eqC]; simpa using ht
        clear hx hS hLk hz hfe hf0 ht sm CW hzl
        go_wp2_with (go_at_call 46; refine (CR.out _ LX).mono ?_; clear CR LX k0; rintro e' w2 ⟨rfl, LX⟩)
        go_roundw
        case rel => exact ⟨k + 1, by omega, by go_num, by rw [HST.out, hE.out]; exact ⟨rfl, LX⟩⟩
        case measure => simp [intOf]; omega
      · have hq : (M.bs z.text).toList.isEmpty = false := by
          rw [Lib.toList_data, M.bs_toList]
          cases hzt : z.text with
          | nil => exact absurd hzt ht
          | cons a r => rfl
        have hq2 : ((M.bs z.text).toList == []) = false := by rw [bs_eqC]; simpa using ht
        cases had : adoptN S.h.es z.text with
        | none =>
          have hE : Hid (ldStep k S = { S with a := S.a + 1, sl := wipe S.sl k, wp := true }) := by show ldStep k S = _; unfold ldStep; rw [hz]; simp only; rw [if_neg ht, had]
          have CA : Hid (∀ W', HW w b S.h (shOf f S.a S.sl) W' → Calls Tryz.prog 47 #[.pointer (some ⟨b.hv, 0, none⟩), .int .i64 (k : Int), .string (M.bs z.text)] W' fun e' w' => e' = .returned (.bool false) ∧ HW w b S.h (shOf f S.a S.sl) w') := fun W' l => by
            unfold adoptN at had
            cases hdc : V.decode z.text with
            | none => exact adopt_bad l k z.text hzl hdc
            | some c =>
              rw [hdc] at had
              simp only at had
              cases hfi : V.findN S.h.es c.kind c.dig with
              | none => rw [hfi] at had; simp at had
              | some j => exact adopt_twice l k z.text hzl hdc hfi
          clear hx hS hLk hz hfe hf0 ht sm hzl had
          go_wp2_with (first
            | (go_at_call 46; refine (CR.out _ LX).mono ?_; clear CR LX k0; rintro e' w2 ⟨rfl, LX⟩)
            | (go_at_call 47; refine (CA.out _ LX).mono ?_; clear CA LX; rintro e' w3 ⟨rfl, LX⟩; have k0 := LX.c0)
            | (go_at_call 48; refine (CW.out _ LX).mono ?_; clear CW LX k0; rintro e' w4 ⟨rfl, LX⟩))
          go_roundw
          case rel => exact ⟨k + 1, by omega, by go_num, by rw [HST.out, hE.out]; exact ⟨rfl, LX⟩⟩
          case measure => simp [intOf]; omega
        | some e =>
          have hE : Hid (ldStep k S = { S with h := fillV S.h k e }) := by show ldStep k S = _; unfold ldStep; rw [hz]; simp only; rw [if_neg ht, had]
          have CA : Hid (∀ W', HW w b S.h (shOf f S.a S.sl) W' → Calls Tryz.prog 47 #[.pointer (some ⟨b.hv, 0, none⟩), .int .i64 (k : Int), .string (M.bs z.text)] W' fun e' w' => e' = .returned (.bool true) ∧ HW w b (fillV S.h k e) (shOf f S.a S.sl) w') := fun W' l => by
            unfold adoptN at had
            cases hdc : V.decode z.text with
            | none => rw [hdc] at had; simp at had
            | some c =>
              rw [hdc] at had
              simp only at had
              cases hfi : V.findN S.h.es c.kind c.dig with
              | some j => rw [hfi] at had; simp at had
              | none =>
                rw [hfi] at had
                obtain rfl : enOf c = e := by simpa using had
                exact adopt_yes l k z.text hzl hdc hfi hfe hf0 (by rw [hLk.l]; exact hn) (by omega)
          clear hx hS hLk hz hfe hf0 ht sm hzl had CW
          go_wp2_with (first
            | (go_at_call 46; refine (CR.out _ LX).mono ?_; clear CR LX k0; rintro e' w2 ⟨rfl, LX⟩)
            | (go_at_call 47; refine (CA.out _ LX).mono ?_; clear CA LX; rintro e' w3 ⟨rfl, LX⟩))
          go_roundw
          case rel => exact ⟨k + 1, by omega, by go_num, by rw [HST.out, hE.out]; exact ⟨rfl, LX⟩⟩
          case measure => simp [intOf]; omega
    · obtain rfl : k = n := by omega
      have HS : Hid (S = ldN s k) := hS
      have LX : HW w b S.h (shOf f S.a S.sl) wr := hx
      have k0 := hx.c0
      cases hwp : S.wp with
      | false =>
        have hE : Hid (ldEnd f S = shOf f S.a S.sl) := by show ldEnd f S = _; unfold ldEnd; rw [hwp]; rfl
        clear hx hS hLk sm hwp
        go_wp2_with fail
        go_ret
        exact ⟨rfl, by rw [← HS.out, hE.out]; exact LX⟩
      | true =>
        have hE : Hid (ldEnd f S = H.sync (H.act (shOf f S.a S.sl))) := by show ldEnd f S = _; unfold ldEnd; rw [hwp]; rfl
        have CS : Hid (∀ W', HW w b S.h (shOf f S.a S.sl) W' → Calls Tryz.prog 37 #[.pointer (some ⟨b.sh, 0, none⟩)] W' fun e' w' => e' = .returned (.int .i64 0) ∧ HW w b S.h (H.sync (H.act (shOf f S.a S.sl))) w') := fun W' l => Sync_h l sm rfl (by show (0 : Nat) ≠ 1; decide)
        clear hx hS hLk sm hwp
        go_wp2_with (go_at_call 37; refine (CS.out _ LX).mono ?_; clear CS LX k0; rintro e' w2 ⟨rfl, LX⟩)
        go_ret
        exact ⟨rfl, by rw [← HS.out, hE.out]; exact LX⟩
end Go.Proofs.YtlkllcnnnndllaaGreatDoor
