/- Two digests compared by '=='. -/
import Derived.Test.YtfbjakhanjbaeaaDoorS13
import Derived.Laws.StructEq
namespace Go.Proofs.YtfbjakhanjbaeaaDoor
open Go.RowKit
set_option linter.unusedVariables false

theorem equal5 (d : Nat) (x y : UInt8) (W : World) : (Op.equalIn (d + 1) 5 (vb x) (vb y)).run Tryd.prog W = .ok (decide (x = y)) W := by
  have e : ((x.toNat : Int) == (y.toNat : Int)) = decide (x = y) := by
    by_cases h : x = y
    · subst h; simp
    · have : x.toNat ≠ y.toNat := fun e => h (UInt8.toNat_inj.1 e)
      simp [h]; omega
  simp only [Op.equalIn, Sem.run_bind, run_underlying Tryd.underlying5, Result.andThen_ok, if_true, Sem.run_pure, e]
theorem part5 (A : Array Value) (i : Nat) (v : Value) (h : A[i]? = some v) (W : World) : (part 5 A (i * 1)).run Tryd.prog W = .ok v W := by
  simp [part, Sem.run_bind, Tryd.isAgg5, h]
theorem eqLoop (d : Nat) (a b : List UInt8) (A B : Array Value) (W : World) : ∀ l : List Nat, (∀ i ∈ l, A[i]? = some (vb (S.by8 a i)) ∧ B[i]? = some (vb (S.by8 b i))) →
    ((forIn l ((none, ()) : Option Bool × PUnit) fun i r => do
        let x ← part 5 A (i * 1)
        let y ← part 5 B (i * 1)
        let q ← Op.equalIn (d + 1) 5 x y
        if (!q) = true then pure (ForInStep.done (some false, ())) else pure (ForInStep.yield (none, ())) : Sem (Option Bool × PUnit))).run Tryd.prog W =
      .ok (if ∀ i ∈ l, S.by8 a i = S.by8 b i then (none, ()) else (some false, ())) W := by
  intro l
  induction l with
  | nil => intro _; simp
  | cons i l ih =>
    intro h
    have h0 := h i (by simp)
    rw [List.forIn_cons]
    simp only [Sem.run_bind, part5 A i _ h0.1, part5 B i _ h0.2, Result.andThen_ok, equal5]
    by_cases he : S.by8 a i = S.by8 b i
    · have := ih (fun j hj => h j (by simp [hj]))
      rw [show decide (S.by8 a i = S.by8 b i) = true from decide_eq_true he]
      simp only [Bool.not_true, Bool.false_eq_true, if_false, Sem.run_pure, Result.andThen_ok]
      rw [this]
      simp [he]
    · simp [he]
theorem eqDg (a b : List UInt8) (ha : a.length = 32) (hb : b.length = 32) (W : World) : (Op.equalIn 10000 24 (.agg (dg a)) (.agg (dg b))).run Tryd.prog W = .ok (decide (a = b)) W := by
  rw [show 10000 = 9998 + 1 + 1 by rfl]
  rw [Op.equalIn]
  simp only [Sem.run_bind, run_underlying und27, Result.andThen_ok, Tryd.sizeOf5]
  rw [Std.Legacy.Range.forIn_eq_forIn_range']
  have hl : ∀ i ∈ List.range' 0 32 1, (dg a)[i]? = some (vb (S.by8 a i)) ∧ (dg b)[i]? = some (vb (S.by8 b i)) := fun i hi => by
    have : i < 32 := by simp [List.mem_range'] at hi; omega
    exact ⟨dg_at a i (by omega), dg_at b i (by omega)⟩
  have h := eqLoop 9998 a b (dg a) (dg b) W (List.range' 0 32 1) hl
  show ((Sem.run Tryd.prog (forIn (List.range' 0 32 1) _ _) W).andThen _) = _
  rw [h]
  by_cases he : a = b
  · subst he; simp
  · have hne : ¬ ∀ i ∈ List.range' 0 32 1, S.by8 a i = S.by8 b i := fun hall => he (eq_by8 (by omega) (fun j hj => hall j (by simp [List.mem_range']; omega)))
    rw [if_neg hne]; simp [he]
end Go.Proofs.YtfbjakhanjbaeaaDoor
