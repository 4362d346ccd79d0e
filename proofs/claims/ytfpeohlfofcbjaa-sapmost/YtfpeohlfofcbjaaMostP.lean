/- PROVED: for every text, every row and every most the law SapMost returns true and leaves its arguments as they were: a text or a row is read if it has at most as many bytes or texts as are asked for. No condition. -/
import Derived.Test.YtfpeohlfofcbjaaMost
import Derived.Test.YtfpeohlfofcbjaaArgs
import Derived.ShutString
import Derived.ChangeOld
import Derived.Below
namespace Go.Proofs.Ytfpeohlfofcbjaa.sapMost
open Go.ChangeShapes Go.WideShapes Go.ChangeAt Go.RowKit
open Go.ChangeMaps (open_string shut_string)
set_option linter.unusedVariables false

theorem own : ownKnob Try.prog.godebug = none := by kernel_rfl
theorem laidOut : laidOutB Try.prog = true := by kernel_rfl

theorem walk (s : ByteArray) (a : Option Addr) (c : Nat) (l : List (List UInt8)) (most : Int) (w : World) (w0 : s.size ≤ maxLen) (hv : Strs w.heap.size w (.slice a l.length c) l) (hn : l.length ≤ maxLen) (hl : ∀ t ∈ l, t.length ≤ maxLen) :
    Calls Try.prog 8 #[.string s, .slice a l.length c, .int .i64 most] w fun e w' => e = .returned (.bool true) ∧ Below w.heap.size w w' := by
  rw [← M.bs_of s]
  have hs : s.data.toList.length = s.size := (Lib.size_eq s).symm
  by_cases h : 1024 < s.data.toList.length ∨ (s.data.toList.length ≤ 1024 ∧ 60 < l.length)
  · exact sapMost_many _ a l.length c most w (by rw [hs]; exact w0) hn h
  rcases strs_cases hv with ⟨h0, a', c', e⟩ | ⟨b, off, cap, e, hb, hc⟩
  · rw [h0]
    exact sapMost_nil _ a c most w (by omega)
  · rw [e]
    rcases first_long l 1024 with hall | ⟨j, t, h1, h2, h3⟩
    · exact sapMost_ne _ b off cap l most w (by omega) (by omega) hb hc hall
    · exact sapMost_long _ b off cap l most w (by omega) (by omega) hb hc j t h1 h2 (hl t (mem_of h1)) h3

set_option maxRecDepth 100000 in
theorem lifted (os : Os) (started : os.Started) (H : Type) (enc : TypeId × Value → H) :
    ReturnsInHanded {} Try.checked os 8 .any (Rows.sapMostSpec.pre6 enc Try.prog Try.f8 Rows.sapMostRow.domain false) (Rows.sapMostSpec.post enc Try.prog Try.f8 false true false false) := by
  refine returnsInHanded_of_change (C := Try.checked) own started (by kernel_rfl) Try.func8
    (ChangeSpec.witness6 (enc := enc) (C := Try.checked) false ⟨#[], #[.string ByteArray.empty, .slice none 0 0, .int .i64 0], []⟩ 8 (by kernel_rfl) (by kernel_rfl) (by kernel_rfl) (by kernel_rfl)) ?_
  intro W base args ds gs before hval0 hW hcnd _
  have hval : ∀ (j : Nat) t v, Try.f8.params[j]? = some t → args[j]? = some v → Value.okWide Try.prog W .any base t v := hval0
  have hW' := hW
  obtain ⟨p, q, hA0, hV, rfl, hfz, hnd⟩ := hW
  have hA : DataW.TrodAll enc Try.prog W 0 (fun _ => true) true Try.f8.params.toList args.toList ds p := hA0
  rw [Try.params8] at hA hval
  obtain ⟨v0, vs0, d0, ds0, p0, q0, hargs, rfl, rfl, h0, r0⟩ := trodAll_cons hA
  obtain ⟨v1, vs1, d1, ds1, p1, q1, rfl, rfl, rfl, h1, r1⟩ := trodAll_cons r0
  obtain ⟨v2, vs2, d2, ds2, p2, q2, rfl, rfl, rfl, h2, r2⟩ := trodAll_cons r1
  obtain ⟨rfl, rfl, rfl⟩ := trodAll_nil r2
  obtain rfl : args = #[v0, v1, v2] := by cases args; simp_all
  obtain ⟨rfl, rfl⟩ := trodVars_none hV
  obtain ⟨s, rfl, rfl, rfl, w0⟩ := open_string Try.underlying9 (hval 0 9 v0 rfl rfl) h0
  have k1 := h1
  have lt1 : ∀ x ∈ p1, x.block < W.heap.size := by obtain ⟨m, hm⟩ := k1; exact DataW.trod_lt m _ _ _ hm
  obtain ⟨a, c, l, rfl, hv, hn, hl, _⟩ := open_texts (hval 1 22 v1 rfl rfl) h1
  obtain ⟨most, rfl, rfl, rfl, w2⟩ := open_int Try.underlying3 (hval 2 3 v2 rfl rfl) h2
  clear hA0 hval0
  refine (walk s a c l most W w0 hv hn hl).mono fun e W' ⟨he, bel⟩ => ?_
  subst he
  exact ⟨_, rfl, _, _, _, [], _, [], hW', trodAll_mk1 (shut_bool Try.underlying4 _), (trodAll_cons_mk (shut_string Try.underlying9 w0) (trodAll_cons_mk (Below.trod laidOut (by kernel_rfl) (of_decide_eq_true (by kernel_rfl)) k1 bel lt1) (trodAll_cons_mk (shut_int Try.underlying3 w2) trodAll_mk0))), rfl, bel.frame _, fun h => by cases h⟩

theorem over : Rows.sapMostRow.holds Try.pinned (OpenSpec.ofChange Rows.sapMostSpec) :=
  OpenClaim.holds_of_wide 8 Try.f8 rfl rfl rfl rfl rfl rfl rfl ⟨rfl, rfl, rfl, rfl, rfl⟩ rfl rfl rfl rfl rfl (by kernel_rfl) Try.func8 (by kernel_rfl)
    (of_decide_eq_true (by kernel_rfl)) (by unfold Func.isWrapper; first | (rw [if_pos (by decide +kernel)]; kernel_rfl) | (rw [if_neg (by decide +kernel)]; exact ⟨rfl, rfl⟩))
    (fun os started H enc _ => lifted os started H enc)

theorem proved : Rows.SapMostSaid :=
  over
end Go.Proofs.Ytfpeohlfofcbjaa.sapMost
