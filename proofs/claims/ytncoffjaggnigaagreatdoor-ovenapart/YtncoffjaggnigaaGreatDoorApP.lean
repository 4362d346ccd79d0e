/- PROVED: for every two makings the law OvenApart returns true and leaves its arguments as they were: unlike codes and unlike results of inputs have unlike keys, as long as digests tell texts apart; like ones have one (up to 30 inputs of up to 1000 bytes). No condition; the tables (start, roundWords, uint64pow10, deBruijn32tab, deBruijn64tab) hold what the program's text lays in them (the card ties them). -/
import Derived.Test.YtncoffjaggnigaaGreatDoorAp4
import Derived.Test.YtncoffjaggnigaaGreatDoorOpA
import Derived.Test.YtncoffjaggnigaaGreatDoorLaid6
import Derived.Test.YtncoffjaggnigaaGreatDoorCards
import Derived.Test.YtncoffjaggnigaaGreatDoorTie
import Derived.SevenTiedAt
import Derived.ChangeOld
import Derived.Below
import Derived.ShutString
namespace Go.Proofs.YtncoffjaggnigaaGreatDoor.ovenApart
open Go.ChangeShapes Go.WideShapes Go.ChangeAt Go.WideMaps Go.WideElems Go.RowKit
open Go.ChangeMaps (open_string shut_string)
set_option linter.unusedVariables false

theorem door_met (os : Os) (args : Array Value) : laidMetH Tryz.prog Rows.ovenApartRow.laid ((World.doorLaid Tryz.prog 400 os).forCall (fun _ _ => 0) ⟨#[], args, []⟩).memory :=
  laidMetH_of_parts3 (fuel := 8) (laidMet_of_run' 8 (by kernel_rfl) (by kernel_rfl)) (by kernel_rfl) (by kernel_rfl)

theorem walk (ca : List UInt8) (aa : Option Addr) (ka : Nat) (la : List O.Re) (na : la.length ≤ 9223372036854775807) (ha : ca.length ≤ 9223372036854775807) (oa : ∀ t ∈ la, ReIn t) (cb : List UInt8) (ab : Option Addr) (kb : Nat) (lb : List O.Re) (nb : lb.length ≤ 9223372036854775807) (hb : cb.length ≤ 9223372036854775807) (ob : ∀ t ∈ lb, ReIn t) (w : World) (hG : GW w) (hT : Tab w) (va : RS lyR w aa la) (vb : RS lyR w ab lb) :
    Calls Tryz.prog 6 #[.agg #[.string (M.bs ca), .slice aa la.length ka], .agg #[.string (M.bs cb), .slice ab lb.length kb]] w fun e w' => e = .returned (.bool true) ∧ Below w.heap.size w w' :=
  apart_walk ca cb la lb aa ab ka kb hG hT (Bl.refl w) va vb na nb oa ob ha hb


set_option maxRecDepth 100000 in
theorem lifted (os : Os) (started : os.Started) (H : Type) (enc : TypeId × Value → H) :
    ReturnsInHanded {} Tryz.checked os 6 .any (fun w args => (Rows.ovenApartSpec.pre enc Tryz.prog Tryz.f6 [] false w args ∧ laidMetH Tryz.prog Rows.ovenApartRow.laid w) ∧ sizedMet enc Tryz.prog Tryz.f6 (OpenSpec.ofChange Rows.ovenApartSpec) false w args)
      (Rows.ovenApartSpec.post enc Tryz.prog Tryz.f6 false true false false) := by
  refine returnsInHanded_of_change_and (C := Tryz.checked) (X := fun w _ => laidMetH Tryz.prog Rows.ovenApartRow.laid w) (fun _ _ _ hh h => h.of_heap hh) own started (by kernel_rfl) Tryz.func6
    (ChangeSpec.witness_shaped (enc := enc) (C := Tryz.checked) (os := os) (X := fun w _ => laidMetH Tryz.prog Rows.ovenApartRow.laid w) false (World.doorLaid Tryz.prog 400 os) #[.agg #[.string ByteArray.empty, .slice none 0 0], .agg #[.string ByteArray.empty, .slice none 0 0]] 8 rfl (World.shaped_of_RefB (by kernel_rfl) (by kernel_rfl)) (by kernel_rfl) (by kernel_rfl) (by kernel_rfl) (door_met os _)) ?_
  intro W base args ds gs before hval0 hW _ _ hL _
  have hval : ∀ (j : Nat) t v, Tryz.f6.params[j]? = some t → args[j]? = some v → Value.okWide Tryz.prog W .any base t v := hval0
  have hW' := hW
  obtain ⟨p, q, hA0, hV, rfl, hfz, hnd⟩ := hW
  have hA : DataW.TrodAll enc Tryz.prog W 0 (fun _ => true) true Tryz.f6.params.toList args.toList ds p := hA0
  rw [Tryz.params6] at hA hval
  obtain ⟨v0, vs0, d0, ds0, p0, q0, hargs, rfl, rfl, h0, r0⟩ := trodAll_cons hA
  obtain ⟨v1, vs1, d1, ds1, p1, q1, rfl, rfl, rfl, h1, r1⟩ := trodAll_cons r0
  obtain ⟨rfl, rfl, rfl⟩ := trodAll_nil r1
  obtain rfl : args = #[v0, v1] := by cases args; simp_all
  obtain ⟨rfl, rfl⟩ := trodVars_none hV
  have k0 := h0
  have k1 := h1
  have lt0 : ∀ x ∈ p0, x.block < W.heap.size := by obtain ⟨m, hm⟩ := k0; exact DataW.trod_lt m _ _ _ hm
  have lt1 : ∀ x ∈ p1, x.block < W.heap.size := by obtain ⟨m, hm⟩ := k1; exact DataW.trod_lt m _ _ _ hm
  obtain ⟨cd0, a0, c0, l0, rfl, hv0, hn0, hc0, hl0⟩ := open_making (hval 0 57 v0 rfl rfl) h0
  obtain ⟨cd1, a1, c1, l1, rfl, hv1, hn1, hc1, hl1⟩ := open_making (hval 1 57 v1 rfl rfl) h1
  clear hA0 hval0
  refine (walk cd0 a0 c0 l0 hn0 hc0 hl0 cd1 a1 c1 l1 hn1 hc1 hl1 W (of_laid6 hL).1 (of_laid6 hL).2 hv0 hv1).mono fun e W' ⟨he, bel⟩ => ?_
  subst he
  exact ⟨_, rfl, _, _, _, [], _, [], hW', trodAll_mk1 (shut_bool Tryz.underlying4 _), (trodAll_cons_mk (Below.trod laidOut (by kernel_rfl) (of_decide_eq_true (by kernel_rfl)) k0 bel lt0) (trodAll_cons_mk (Below.trod laidOut (by kernel_rfl) (of_decide_eq_true (by kernel_rfl)) k1 bel lt1) trodAll_mk0)), rfl, bel.frame _, fun h => by cases h⟩

theorem over : Rows.OvenApartSaid :=
  OpenClaim.holds_of_wide 6 Tryz.f6 rfl rfl rfl rfl rfl rfl rfl ⟨rfl, rfl, rfl, rfl, rfl⟩ rfl rfl rfl rfl rfl (by kernel_rfl) Tryz.func6 (by kernel_rfl)
    (of_decide_eq_true (by kernel_rfl)) (by unfold Func.isWrapper; first | (rw [if_pos (by decide +kernel)]; kernel_rfl) | (rw [if_neg (by decide +kernel)]; exact ⟨rfl, rfl⟩))
    (fun os started H enc _ => lifted os started H enc)

theorem proved : Rows.OvenApartCardSaid :=
  Claim7.holds_tied_plain_at .later [] [.data, .data, .data, .data, .data] true _ false
    over (fun _ h => by cases h) (by kernel_rfl) (fun _ h => by cases h) ovenApart_row_tie rfl ⟨rfl, rfl⟩ (by kernel_rfl) rfl
    (fun f fn hf hfn => by
      obtain rfl : f = 6 := Option.some.inj ((show Tryz.prog.funcNamed "apiary/apiarylaw09.OvenApart" = some 6 by kernel_rfl).symm.trans hf) |>.symm
      obtain rfl : fn = Tryz.f6 := (Option.some.inj (Tryz.func6.symm.trans hfn)).symm
      exact ⟨by kernel_rfl, fun j t ht => by
        rw [Tryz.params6] at ht
        rcases j with _ | _ | j
        · obtain rfl : t = 57 := by simpa using ht.symm
          kernel_rfl
        · obtain rfl : t = 57 := by simpa using ht.symm
          kernel_rfl
        · simp at ht⟩)
    (by kernel_rfl)
end Go.Proofs.YtncoffjaggnigaaGreatDoor.ovenApart
