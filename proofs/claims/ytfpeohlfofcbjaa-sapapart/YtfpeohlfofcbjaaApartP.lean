/- PROVED: for every two things and every cut the law SapApart returns true and leaves its arguments as they were: of two unlike numbers or rows the bytes of neither begin with those of the other one; cut off, a thing is none. No condition. -/
import Derived.Test.YtfpeohlfofcbjaaApart
import Derived.Test.YtfpeohlfofcbjaaArgs
import Derived.ShutString
import Derived.ChangeOld
import Derived.Below
import Derived.Lib.SmallJoins
namespace Go.Proofs.Ytfpeohlfofcbjaa.sapApart
open Go.ChangeShapes Go.WideShapes Go.ChangeAt Go.RowKit
open Go.ChangeMaps (open_string shut_string)
open Go.Joins
set_option linter.unusedVariables false

theorem own : ownKnob Try.prog.godebug = none := by kernel_rfl
theorem laidOut : laidOutB Try.prog = true := by kernel_rfl

theorem cellsThing : Try.prog.cellsOf 41 = 2 := by kernel_rfl

theorem walk (na nb cut : Int) (a1 a2 : Option Addr) (c1 c2 : Nat) (la lb : List (List UInt8)) (w : World) (hna : -9223372036854775808 ≤ na ∧ na < 9223372036854775808) (hnb : -9223372036854775808 ≤ nb ∧ nb < 9223372036854775808)
    (hv1 : Strs w.heap.size w (.slice a1 la.length c1) la) (hv2 : Strs w.heap.size w (.slice a2 lb.length c2) lb) (hn1 : la.length ≤ maxLen) (hn2 : lb.length ≤ maxLen) (hl1 : ∀ t ∈ la, t.length ≤ maxLen) (hl2 : ∀ t ∈ lb, t.length ≤ maxLen) :
    Calls Try.prog 7 #[.agg #[.int .i64 na, .slice a1 la.length c1], .agg #[.int .i64 nb, .slice a2 lb.length c2], .int .i64 cut] w fun e w' => e = .returned (.bool true) ∧ Below w.heap.size w w' := by
  by_cases h : 40 < la.length ∨ (la.length ≤ 40 ∧ 40 < lb.length)
  · exact sapApart_many na nb cut a1 a2 _ c1 _ c2 w hn1 hn2 h
  rcases first_long la 1024 with hall1 | ⟨j, t, h1, h2, h3⟩
  · rcases first_long lb 1024 with hall2 | ⟨j, t, h1, h2, h3⟩
    · exact sapApart_walk na nb cut a1 a2 c1 c2 la lb w hna hnb (by omega) (by omega) (strs_at hv1) (strs_at hv2) hv1 hv2 hall1 hall2
    · exact sapApart_longb na nb cut a1 a2 c1 c2 la lb w (by omega) (by omega) (strs_at hv1) (strs_at hv2) hall1 j t h1 h2 (hl2 t (mem_of h1)) h3
  · exact sapApart_longa na nb cut a1 a2 c1 c2 la lb w (by omega) (by omega) (strs_at hv1) (strs_at hv2) j t h1 h2 (hl1 t (mem_of h1)) h3

set_option maxRecDepth 100000 in
theorem lifted (os : Os) (started : os.Started) (H : Type) (enc : TypeId × Value → H) :
    ReturnsInHanded {} Try.checked os 7 .any (Rows.sapApartSpec.pre6 enc Try.prog Try.f7 Rows.sapApartRow.domain false) (Rows.sapApartSpec.post enc Try.prog Try.f7 false true false false) := by
  refine returnsInHanded_of_change (C := Try.checked) own started (by kernel_rfl) Try.func7
    (ChangeSpec.witness6 (enc := enc) (C := Try.checked) false ⟨#[], #[.agg #[.int .i64 0, .slice none 0 0], .agg #[.int .i64 0, .slice none 0 0], .int .i64 0], []⟩ 8 (by kernel_rfl) (by kernel_rfl) (by kernel_rfl) (by kernel_rfl)) ?_
  intro W base args ds gs before hval0 hW hcnd _
  have hval : ∀ (j : Nat) t v, Try.f7.params[j]? = some t → args[j]? = some v → Value.okWide Try.prog W .any base t v := hval0
  have hW' := hW
  obtain ⟨p, q, hA0, hV, rfl, hfz, hnd⟩ := hW
  have hA : DataW.TrodAll enc Try.prog W 0 (fun _ => true) true Try.f7.params.toList args.toList ds p := hA0
  rw [Try.params7] at hA hval
  obtain ⟨v0, vs0, d0, ds0, p0, q0, hargs, rfl, rfl, h0, r0⟩ := trodAll_cons hA
  obtain ⟨v1, vs1, d1, ds1, p1, q1, rfl, rfl, rfl, h1, r1⟩ := trodAll_cons r0
  obtain ⟨v2, vs2, d2, ds2, p2, q2, rfl, rfl, rfl, h2, r2⟩ := trodAll_cons r1
  obtain ⟨rfl, rfl, rfl⟩ := trodAll_nil r2
  obtain rfl : args = #[v0, v1, v2] := by cases args; simp_all
  obtain ⟨rfl, rfl⟩ := trodVars_none hV
  have k0 := h0
  have lt0 : ∀ x ∈ p0, x.block < W.heap.size := by obtain ⟨m, hm⟩ := k0; exact DataW.trod_lt m _ _ _ hm
  have k1 := h1
  have lt1 : ∀ x ∈ p1, x.block < W.heap.size := by obtain ⟨m, hm⟩ := k1; exact DataW.trod_lt m _ _ _ hm
  obtain ⟨u0, u1, y0, y1, m0, rfl, rfl, rfl, hy0, hy1⟩ := open_agg2 Try.underlying41 (by kernel_rfl) cellsThing (hval 0 41 v0 rfl rfl) h0
  obtain ⟨u2, u3, y2, y3, m1, rfl, rfl, rfl, hy2, hy3⟩ := open_agg2 Try.underlying41 (by kernel_rfl) cellsThing (hval 1 41 v1 rfl rfl) h1
  obtain ⟨na, e0, _, wa⟩ := DataW.trod_int Try.underlying3 hy0
  obtain ⟨nb, e2, _, wb⟩ := DataW.trod_int Try.underlying3 hy2
  simp only [List.cons.injEq, and_true] at e0 e2
  subst e0 e2
  obtain ⟨a1, c1, la, rfl, hv1, hn1, hl1, _⟩ := open_texts_c (d := y1.1) (p := y1.2) hy1
  obtain ⟨a2, c2, lb, rfl, hv2, hn2, hl2, _⟩ := open_texts_c (d := y3.1) (p := y3.2) hy3
  obtain ⟨cut, rfl, rfl, rfl, w2⟩ := open_int Try.underlying3 (hval 2 3 v2 rfl rfl) h2
  clear hA0 hval0
  refine (walk na nb cut a1 a2 c1 c2 la lb W (wf_i64 wa) (wf_i64 wb) hv1 hv2 hn1 hn2 hl1 hl2).mono fun e W' ⟨he, bel⟩ => ?_
  subst he
  exact ⟨_, rfl, _, _, _, [], _, [], hW', trodAll_mk1 (shut_bool Try.underlying4 _), (trodAll_cons_mk (Below.trod laidOut (by kernel_rfl) (of_decide_eq_true (by kernel_rfl)) k0 bel lt0) (trodAll_cons_mk (Below.trod laidOut (by kernel_rfl) (of_decide_eq_true (by kernel_rfl)) k1 bel lt1) (trodAll_cons_mk (shut_int Try.underlying3 w2) trodAll_mk0))), rfl, bel.frame _, fun h => by cases h⟩

theorem over : Rows.sapApartRow.holds Try.pinned (OpenSpec.ofChange Rows.sapApartSpec) :=
  OpenClaim.holds_of_wide 7 Try.f7 rfl rfl rfl rfl rfl rfl rfl ⟨rfl, rfl, rfl, rfl, rfl⟩ rfl rfl rfl rfl rfl (by kernel_rfl) Try.func7 (by kernel_rfl)
    (of_decide_eq_true (by kernel_rfl)) (by unfold Func.isWrapper; first | (rw [if_pos (by decide +kernel)]; kernel_rfl) | (rw [if_neg (by decide +kernel)]; exact ⟨rfl, rfl⟩))
    (fun os started H enc _ => lifted os started H enc)

theorem proved : Rows.SapApartSaid :=
  over
end Go.Proofs.Ytfpeohlfofcbjaa.sapApart
