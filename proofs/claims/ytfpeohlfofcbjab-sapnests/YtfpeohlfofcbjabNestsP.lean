/- PROVED: for every row, every depth and all bytes behind it the law SapNests returns true and leaves its arguments as they were: rows within rows are read as they were. No condition. -/
import Derived.Test.YtfpeohlfofcbjabNests
import Derived.ShutString
import Derived.ChangeOld
import Derived.Below
import Derived.SizedLaws
namespace Go.Proofs.Ytfpeohlfofcbjab.sapNests
open Go.ChangeShapes Go.WideShapes Go.ChangeAt Go.RowKit
open Go.ChangeMaps (open_string shut_string)
set_option linter.unusedVariables false

theorem own : ownKnob Try.prog.godebug = none := by kernel_rfl
theorem laidOut : laidOutB Try.prog = true := by kernel_rfl

theorem walk (a : Option Addr) (c : Nat) (l : List (List UInt8)) (deep : Int) (s : ByteArray) (w : World) (hv : Strs w.heap.size w (.slice a l.length c) l) (hn : l.length ≤ maxLen) (hl : ∀ t ∈ l, t.length ≤ maxLen) (hs : s.size ≤ 140737488355328) :
    Calls Try.prog 3 #[.slice a l.length c, .int .i64 deep, .string s] w fun e w' => e = .returned (.bool true) ∧ Below w.heap.size w w' := by
  by_cases h : 40 < l.length
  · exact sapNests_many a _ c deep s w hn h
  rcases first_long l 1024 with hall | ⟨j, t, h1, h2, h3⟩
  · rw [← M.bs_of s]
    have hs' : s.data.toList.length = s.size := (Lib.size_eq s).symm
    exact sapNests_walk a c l deep _ w (by omega) (by rw [hs']; exact hs) (strs_at hv) hv hall
  · exact sapNests_long a c l deep s w (by omega) (strs_at hv) j t h1 h2 (hl t (mem_of h1)) h3

set_option maxRecDepth 100000 in
theorem lifted (os : Os) (started : os.Started) (H : Type) (enc : TypeId × Value → H) :
    ReturnsInHanded {} Try.checked os 3 .any (Rows.sapNestsSpec.pre6 enc Try.prog Try.f3 Rows.sapNestsRow.domain false) (Rows.sapNestsSpec.post enc Try.prog Try.f3 false true false false) := by
  refine returnsInHanded_of_change_sized (C := Try.checked) own started (by kernel_rfl) Try.func3
    (ChangeSpec.witness6 (enc := enc) (C := Try.checked) false ⟨#[], #[.slice none 0 0, .int .i64 0, .string ByteArray.empty], []⟩ 8 (by kernel_rfl) (by kernel_rfl) (by kernel_rfl) (by kernel_rfl)) ?_
  intro W base args ds gs before hval0 hW hcnd hsz0 _
  have hval : ∀ (j : Nat) t v, Try.f3.params[j]? = some t → args[j]? = some v → Value.okWide Try.prog W .any base t v := hval0
  have hW' := hW
  obtain ⟨p, q, hA0, hV, rfl, hfz, hnd⟩ := hW
  have hA : DataW.TrodAll enc Try.prog W 0 (fun _ => true) true Try.f3.params.toList args.toList ds p := hA0
  rw [Try.params3] at hA hval
  obtain ⟨v0, vs0, d0, ds0, p0, q0, hargs, rfl, rfl, h0, r0⟩ := trodAll_cons hA
  obtain ⟨v1, vs1, d1, ds1, p1, q1, rfl, rfl, rfl, h1, r1⟩ := trodAll_cons r0
  obtain ⟨v2, vs2, d2, ds2, p2, q2, rfl, rfl, rfl, h2, r2⟩ := trodAll_cons r1
  obtain ⟨rfl, rfl, rfl⟩ := trodAll_nil r2
  obtain rfl : args = #[v0, v1, v2] := by cases args; simp_all
  obtain ⟨rfl, rfl⟩ := trodVars_none hV
  have k0 := h0
  have lt0 : ∀ x ∈ p0, x.block < W.heap.size := by obtain ⟨m, hm⟩ := k0; exact DataW.trod_lt m _ _ _ hm
  obtain ⟨a, c, l, rfl, hv, hn, hl, _⟩ := open_texts (hval 0 22 v0 rfl rfl) h0
  obtain ⟨deep, rfl, rfl, rfl, w1⟩ := open_int Try.underlying3 (hval 1 3 v1 rfl rfl) h1
  obtain ⟨s, rfl, rfl, rfl, w2⟩ := open_string Try.underlying9 (hval 2 9 v2 rfl rfl) h2
  have hs : s.size ≤ 140737488355328 := by
    have hsz : (DataW.weightsEach Try.prog (Try.f3.params.toList ++ Rows.sapNestsSpec.plain.varTypes Try.prog) ([d0, .lit (.int .i64 deep), .lit (.string s.data.toList)] ++ [])).all (· ≤ reachBytes) = true := hsz0
    have h := sized_string hsz (j := 2) (t := 9) (bytes := s.data.toList) (by rw [Try.params3]; rfl) rfl
    have := reachBytes_lt
    rw [← Lib.size_eq] at h
    omega
  clear hA0 hval0 hsz0
  refine (walk a c l deep s W hv hn hl hs).mono fun e W' ⟨he, bel⟩ => ?_
  subst he
  exact ⟨_, rfl, _, _, _, [], _, [], hW', trodAll_mk1 (shut_bool Try.underlying4 _), (trodAll_cons_mk (Below.trod laidOut (by kernel_rfl) (of_decide_eq_true (by kernel_rfl)) k0 bel lt0) (trodAll_cons_mk (shut_int Try.underlying3 w1) (trodAll_cons_mk (shut_string Try.underlying9 w2) trodAll_mk0))), rfl, bel.frame _, fun h => by cases h⟩

theorem over : Rows.sapNestsRow.holds Try.pinned (OpenSpec.ofChange Rows.sapNestsSpec) :=
  OpenClaim.holds_of_wide 3 Try.f3 rfl rfl rfl rfl rfl rfl rfl ⟨rfl, rfl, rfl, rfl, rfl⟩ rfl rfl rfl rfl rfl (by kernel_rfl) Try.func3 (by kernel_rfl)
    (of_decide_eq_true (by kernel_rfl)) (by unfold Func.isWrapper; first | (rw [if_pos (by decide +kernel)]; kernel_rfl) | (rw [if_neg (by decide +kernel)]; exact ⟨rfl, rfl⟩))
    (fun os started H enc _ => lifted os started H enc)

theorem proved : Rows.SapNestsSaid :=
  over
end Go.Proofs.Ytfpeohlfofcbjab.sapNests
