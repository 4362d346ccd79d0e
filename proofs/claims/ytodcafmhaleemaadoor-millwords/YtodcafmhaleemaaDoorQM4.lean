/- What single steps do, said of a code of one's own. -/
import Derived.Test.YtodcafmhaleemaaDoorQM2
namespace Go.Proofs.YtodcafmhaleemaaDoor.Q

theorem rstep {code : List UInt8} {ins : List (List UInt8)} {k : Nat} {st st' : List (List UInt8)} {p p' n : Nat} (s : List UInt8) (h1 : p ≠ code.length) (h2 : stepAt code p = some s) (h3 : n < 300) (h4 : act ins st s = (0, st')) (h5 : next ⟨st, p, n⟩ s = p') :
    runF code ins (k + 1) ⟨st, p, n⟩ = runF code ins k ⟨st', p', n + 1⟩ := by
  conv => lhs; unfold runF
  rw [if_neg h1]
  simp only [h2]
  rw [if_neg (by omega)]
  have e1 : (step ins ⟨st, p, n⟩ s).1 = 0 := by unfold step; simp only [h4]
  have e2 : (step ins ⟨st, p, n⟩ s).2 = ⟨st', p', n + 1⟩ := by unfold step; simp only [h4, h5]
  rw [e1, e2, if_pos rfl]
theorem rend {code : List UInt8} {ins : List (List UInt8)} {k : Nat} {t : List UInt8} {st : List (List UInt8)} {n : Nat} : runF code ins (k + 1) ⟨t :: st, code.length, n⟩ = ⟨0, t, n⟩ := by
  unfold runF
  rw [if_pos rfl]; rfl
theorem run_two (code a b : List UInt8) (hc : code.length ≤ 64) (ha : a.length ≤ 200) (hb : b.length ≤ 200) : run code [a, b] = runF code [a, b] 301 ⟨[], 0, 0⟩ := by
  unfold run
  rw [if_neg]
  rintro (h | h | h)
  · omega
  · simp at h
  · simp at h; omega
theorem word0 (a b : List UInt8) (ha : a.length ≤ 200) (hb : b.length ≤ 200) : run [105, 0, 105, 1, 99] [a, b] = ⟨0, a ++ b, 3⟩ := by
  rw [run_two _ a b (by decide) ha hb]
  rw [rstep [105, 0] (st' := [a]) (p' := 2) (by decide) rfl (by omega) (by simp [act, put]; omega) rfl]
  rw [rstep [105, 1] (st' := [b, a]) (p' := 4) (by decide) rfl (by omega) (by simp [act, put]; omega) rfl]
  rw [rstep [99] (st' := [a ++ b]) (p' := 5) (by decide) rfl (by omega) (by simp [act, fold, change, put]; omega) rfl]
  exact rend (code := [105, 0, 105, 1, 99])
theorem word1 (a b : List UInt8) (ha : a.length ≤ 200) (hb : b.length ≤ 200) : run [105, 0, 114] [a, b] = ⟨0, a.reverse, 2⟩ := by
  rw [run_two _ a b (by decide) ha hb]
  rw [rstep [105, 0] (st' := [a]) (p' := 2) (by decide) rfl (by omega) (by simp [act, put]; omega) rfl]
  rw [rstep [114] (st' := [a.reverse]) (p' := 3) (by decide) rfl (by omega) (by simp [act, change, put]; omega) rfl]
  exact rend (code := [105, 0, 114])
theorem word2 (a b : List UInt8) (ha : a.length ≤ 200) (hb : b.length ≤ 200) (n : UInt8) : run [105, 0, 116, n] [a, b] = ⟨0, a.take n.toNat, 2⟩ := by
  rw [run_two _ a b (by simp) ha hb]
  rw [rstep [105, 0] (st' := [a]) (p' := 2) (by simp) rfl (by omega) (by simp [act, put]; omega) rfl]
  rw [rstep [116, n] (st' := [a.take n.toNat]) (p' := 4) (by simp) rfl (by omega) (by simp [act, change, put]; omega) rfl]
  exact rend (code := [105, 0, 116, n])
theorem word3 (a b : List UInt8) (ha : a.length ≤ 200) (hb : b.length ≤ 200) (n : UInt8) : run [105, 0, 107, n] [a, b] = ⟨0, a.drop n.toNat, 2⟩ := by
  rw [run_two _ a b (by simp) ha hb]
  rw [rstep [105, 0] (st' := [a]) (p' := 2) (by simp) rfl (by omega) (by simp [act, put]; omega) rfl]
  rw [rstep [107, n] (st' := [a.drop n.toNat]) (p' := 4) (by simp) rfl (by omega) (by simp [act, change, put]; omega) rfl]
  exact rend (code := [105, 0, 107, n])
theorem word4 (a b : List UInt8) (ha : a.length ≤ 200) (hb : b.length ≤ 200) : run [105, 0, 105, 1, 61] [a, b] = ⟨0, cmp a b, 3⟩ := by
  have hc : (cmp a b).length ≤ 1 := by unfold cmp; split <;> simp
  rw [run_two _ a b (by decide) ha hb]
  rw [rstep [105, 0] (st' := [a]) (p' := 2) (by decide) rfl (by omega) (by simp [act, put]; omega) rfl]
  rw [rstep [105, 1] (st' := [b, a]) (p' := 4) (by decide) rfl (by omega) (by simp [act, put]; omega) rfl]
  rw [rstep [61] (st' := [cmp a b]) (p' := 5) (by decide) rfl (by omega) (by simp [act, fold, change, put]; omega) rfl]
  exact rend (code := [105, 0, 105, 1, 61])
theorem word5 (a b : List UInt8) (ha : a.length ≤ 200) (hb : b.length ≤ 200) : run [105, 0, 104] [a, b] = ⟨0, S.sha a, 2⟩ := by
  have hc := S.sha_length a
  rw [run_two _ a b (by decide) ha hb]
  rw [rstep [105, 0] (st' := [a]) (p' := 2) (by decide) rfl (by omega) (by simp [act, put]; omega) rfl]
  rw [rstep [104] (st' := [S.sha a]) (p' := 3) (by decide) rfl (by omega) (by simp [act, change, put]; omega) rfl]
  exact rend (code := [105, 0, 104])
theorem word6 (a b : List UInt8) (ha : a.length ≤ 200) (hb : b.length ≤ 200) : run [105, 0, 105, 1, 115, 120] [a, b] = ⟨0, b, 4⟩ := by
  rw [run_two _ a b (by decide) ha hb]
  rw [rstep [105, 0] (st' := [a]) (p' := 2) (by decide) rfl (by omega) (by simp [act, put]; omega) rfl]
  rw [rstep [105, 1] (st' := [b, a]) (p' := 4) (by decide) rfl (by omega) (by simp [act, put]; omega) rfl]
  rw [rstep [115] (st' := [a, b]) (p' := 5) (by decide) rfl (by omega) (by simp [act, swap]) rfl]
  rw [rstep [120] (st' := [b]) (p' := 6) (by decide) rfl (by omega) (by simp [act, drop]) rfl]
  exact rend (code := [105, 0, 105, 1, 115, 120])
theorem word7 (a b : List UInt8) (ha : a.length ≤ 200) (hb : b.length ≤ 200) : run [105, 0, 100, 99] [a, b] = ⟨0, a ++ a, 3⟩ := by
  rw [run_two _ a b (by decide) ha hb]
  rw [rstep [105, 0] (st' := [a]) (p' := 2) (by decide) rfl (by omega) (by simp [act, put]; omega) rfl]
  rw [rstep [100] (st' := [a, a]) (p' := 3) (by decide) rfl (by omega) (by simp [act, double, put]; omega) rfl]
  rw [rstep [99] (st' := [a ++ a]) (p' := 4) (by decide) rfl (by omega) (by simp [act, fold, change, put]; omega) rfl]
  exact rend (code := [105, 0, 100, 99])
end Go.Proofs.YtodcafmhaleemaaDoor.Q
