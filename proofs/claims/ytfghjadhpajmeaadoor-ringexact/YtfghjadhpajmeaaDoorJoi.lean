/- What the law's own 'joined' answers: the texts one behind the other, or none where there is more than is asked. -/
import Derived.Test.YtfghjadhpajmeaaDoorBlk
import Derived.Test.YtfghjadhpajmeaaDoorW9
namespace Go.Proofs.YtfghjadhpajmeaaDoor
open Go.RowKit
set_option linter.unusedVariables false

theorem cat_len (l : List (List UInt8)) (k : Nat) (h : ∀ t ∈ l, t.length ≤ 4096) : (cat l k).length ≤ 4096 * k := by
  induction k with
  | zero => simp [cat]
  | succ k ih =>
    by_cases hk : k < l.length
    · have ht : l[k]? = some l[k] := List.getElem?_eq_getElem hk
      rw [cat_succ l k _ ht, List.length_append]
      have := h _ (List.mem_of_getElem? ht)
      omega
    · have e : cat l (k + 1) = cat l k := by
        unfold cat; rw [List.take_of_length_le (by omega), List.take_of_length_le (by omega)]
      rw [e]; omega

end Go.Proofs.YtfghjadhpajmeaaDoor
