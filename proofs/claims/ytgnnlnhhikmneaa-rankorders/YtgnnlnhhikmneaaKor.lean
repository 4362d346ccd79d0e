/- The walk of the law RankOrders. -/
import Derived.Test.YtgnnlnhhikmneaaKorA
import Derived.Test.YtgnnlnhhikmneaaKorB
import Derived.Test.YtgnnlnhhikmneaaKorC
namespace Go.Proofs.Ytgnnlnhhikmneaa
open Go.RowKit Go.Maps
set_option linter.unusedVariables false
set_option linter.unusedSimpArgs false

theorem above_tr {a b c : K.Me} (h1 : K.above a b = true) (h2 : K.above b c = true) : K.above a c = true := by
  unfold K.above at *
  obtain ⟨x1, x2, x3, x4⟩ := of_decide_eq_true h1
  obtain ⟨y1, y2, y3, y4⟩ := of_decide_eq_true h2
  exact decide_eq_true ⟨x1, y2, x3.trans y3, K.hi_trans x4 y4⟩
theorem above_as {a b : K.Me} (h : K.above a b = true) : K.above b a = false := by
  unfold K.above at *
  obtain ⟨x1, x2, x3, x4⟩ := of_decide_eq_true h
  exact decide_eq_false fun ⟨_, _, _, y⟩ => K.hi_asymm x4 y
theorem above_ok {a b : K.Me} (h : K.above a b = true) : K.good a = true ∧ K.good b = true ∧ (a.1 == b.1) = true ∧ decide (a = b) = false := by
  unfold K.above at h
  obtain ⟨x1, x2, x3, x4⟩ := of_decide_eq_true h
  refine ⟨decide_eq_true x1, decide_eq_true x2, by simp [x3], decide_eq_false fun e => ?_⟩
  subst e
  exact K.hi_asymm x4 x4
theorem eqb_symm {a b : Int} (h : (a == b) = true) : (b == a) = true := by simp at *; exact h.symm
theorem rankOrders_walk (w : World) (a b c : K.Me) :
    Calls Try.prog 6 #[.agg (meV a), .agg (meV b), .agg (meV c)] w fun e w' => e = .returned (.bool true) ∧ Bl w w' := by
  have haa := K.above_irr a
  cases hab : K.above a b with
  | true =>
    obtain ⟨h1, h2, h3, h4⟩ := above_ok hab
    have hba := above_as hab
    cases hbc : K.above b c with
    | true => exact kor_1 w a b c (haa0 := haa) (hab1 := hab) (hac1 := above_tr hab hbc) (hba0 := hba) (hbc1 := hbc) (hga1 := h1) (hgb1 := h2) (hnn := h3) (hee := h4)
    | false => exact kor_2 w a b c (haa0 := haa) (hab1 := hab) (hba0 := hba) (hbc0 := hbc) (hga1 := h1) (hgb1 := h2) (hnn := h3) (hee := h4)
  | false =>
    cases hba : K.above b a with
    | true =>
      obtain ⟨h1, h2, h3, h4⟩ := above_ok hba
      exact kor_3 w a b c (haa0 := haa) (hab0 := hab) (hba1 := hba) (hga1 := h2) (hgb1 := h1) (hnn := eqb_symm h3) (hee := decide_eq_false fun e => of_decide_eq_false h4 e.symm)
    | false =>
      cases hga : K.good a with
      | false => exact kor_5 w a b c (haa0 := haa) (hab0 := hab) (hba0 := hba) (hga0 := hga)
      | true =>
        cases hgb : K.good b with
        | false => exact kor_6 w a b c (haa0 := haa) (hab0 := hab) (hba0 := hba) (hga1 := hga) (hgb0 := hgb)
        | true =>
          cases hnn : (a.1 == b.1) with
          | false => exact kor_7 w a b c (haa0 := haa) (hab0 := hab) (hba0 := hba) (hga1 := hga) (hgb1 := hgb) (hnn := hnn)
          | true =>
            refine kor_4 w a b c (haa0 := haa) (hab0 := hab) (hba0 := hba) (hga1 := hga) (hgb1 := hgb) (hnn := hnn) (hee := decide_eq_true ?_)
            have e : a.1 = b.1 := by simpa using hnn
            have ga := (K.good_iff a).1 hga
            have gb := (K.good_iff b).1 hgb
            rcases K.tri a b e with h | h | h
            · exact h
            · exact absurd ⟨ga, gb, e, h⟩ (of_decide_eq_false hab)
            · exact absurd ⟨gb, ga, e.symm, h⟩ (of_decide_eq_false hba)
end Go.Proofs.Ytgnnlnhhikmneaa
