/- A row's wrap that keeps both the listed variables and the world's shape; the library's own variable holds some number. -/
import Derived.Test.YtgjpcddjfmdobaaDoorL17
import Derived.Test.YtgjpcddjfmdobaaDoorRows
import Derived.Handed
import Derived.ProofKit
import Derived.Shelf.Vars
namespace Go.Proofs.YtgjpcddjfmdobaaDoor
open Go.RowKit
set_option linter.unusedVariables false

theorem own : ownKnob Tryd.prog.godebug = none := by kernel_rfl
theorem laidOut : laidOutB Tryd.prog = true := by kernel_rfl
theorem mx_of {W : World} (h : W.ShapedOpen Tryd.prog) : MX W :=
  cell_of_shapedOpen_int (zero := #[.int .i64 0]) (t := 3) h (by decide +kernel) (by kernel_rfl) rfl (by kernel_rfl) (by kernel_rfl) Tryd.underlying3
/-- for a law whose row lists variables: the walk is handed what they hold and the shape of the first world -/
theorem handed_both {H : Type} {enc : TypeId × Value → H} {a : Assume} {C : Checked} {os : Os} {f : FuncId} {fn : Func} {s : ChangeSpec} {conds : List PathCond} {apart fresh handsOn again : Bool} {X : World → Array Value → Prop}
    (hX : ∀ (u v : World) (args : Array Value), u.heap = v.heap → X u args → X v args)
    (ho : ownKnob C.prog.godebug = none) (hs : os.Started) (hi : C.prog.inits.idxOf? f = none) (hfn : C.prog.funcs[f]? = some fn)
    (wit : ∃ (w : World) (tape : Tape) (i : Input), w.os = os ∧ (w.forCall tape i).Shaped C.prog ∧ i.vars = [] ∧ Input.okWide C.prog (w.forCall tape i) .any w.heap.size f i ∧
      ((s.pre enc C.prog fn conds apart (w.forCall tape i).memory i.args ∧ X (w.forCall tape i).memory i.args) ∧ sizedMet enc C.prog fn (OpenSpec.ofChange s) apart (w.forCall tape i).memory i.args) ∧ a.holds C.prog (lone (Frame.enter C.prog f i.args .normal) [] (w.forCall tape i)))
    (walk : ∀ (W : World) (base : Nat) (args : Array Value) (ds gs : List (DataW H)) (before : List MemPlace),
      (∀ (j : Nat) t v, fn.params[j]? = some t → args[j]? = some v → Value.okWide C.prog W .any base t v) →
      DataW.Whole enc C.prog fn.params.toList s.vars apart W args.toList ds gs before → W.ShapedOpen C.prog → X W args →
      Calls C.prog f args W fun e W' => ∃ v, e = .returned v ∧ s.post enc C.prog fn apart fresh handsOn again W args v W') :
    ReturnsInHanded a C os f .any (fun w args => (s.pre enc C.prog fn conds apart w args ∧ X w args) ∧ sizedMet enc C.prog fn (OpenSpec.ofChange s) apart w args) (s.post enc C.prog fn apart fresh handsOn again) :=
  returnsInHanded_of_calls ho hs hi wit fun w tape i _ shape _ ok pre _ => by
    obtain ⟨_, _, _, fn2, h2, _, _, _, _, vals⟩ := ok
    cases Option.some.inj (h2.symm.trans hfn)
    obtain ⟨⟨⟨ds, gs, bef, whole, _⟩, hx⟩, _⟩ := pre
    have w2 := DataW.Whole.of_heap (w' := w.forCall tape i) (by rfl) whole
    refine (walk _ w.heap.size i.args ds gs bef vals w2 shape (hX _ _ _ (by rfl) hx)).mono fun e W' h => ?_
    obtain ⟨v, rfl, hp⟩ := h
    exact ChangeSpec.post_blind hp
end Go.Proofs.YtgjpcddjfmdobaaDoor
