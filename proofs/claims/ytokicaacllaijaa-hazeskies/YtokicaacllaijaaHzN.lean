/- The reference's way of joining, bit by bit; what the laws say, on lists. -/
import Derived.Test.YtokicaacllaijaaHzM
namespace Go.Proofs.Ytokicaacllaijaa
namespace HZ
/-- the bits of x below n put into g -/
def H.orB (g x : H) : Nat → H
  | 0 => g
  | n + 1 => if x.bit n = true then (g.orB x n).on n else g.orB x n
theorem H.bit_orB (g x : H) : ∀ n, n ≤ 512 → ∀ m, (g.orB x n).bit m = (g.bit m || (decide (m < n) && x.bit m))
  | 0, _, m => by simp [H.orB]
  | n + 1, hn, m => by
    unfold H.orB
    have ih := H.bit_orB g x n (by omega)
    by_cases hx : x.bit n = true
    · rw [if_pos hx, H.bit_on _ (by omega), ih]
      by_cases e : m = n
      · subst e; simp [hx]
      · have : decide (m < n + 1) = decide (m < n) := decide_eq_decide.2 ⟨fun h => by omega, fun h => by omega⟩
        rw [this]; simp [e]
    · rw [if_neg hx, ih]
      by_cases e : m = n
      · subst e; simp [hx]
      · have : decide (m < n + 1) = decide (m < n) := decide_eq_decide.2 ⟨fun h => by omega, fun h => by omega⟩
        rw [this]
theorem H.orB_all (g x : H) : g.orB x 512 = g.or x := H.ext_bit fun m hm => by
  rw [H.bit_orB g x 512 (by omega), H.bit_or g x hm]; simp [hm]
theorem H.orB_no {g x : H} {n : Nat} (h : x.bit n = false) : g.orB x (n + 1) = g.orB x n := by
  show (if x.bit n = true then (g.orB x n).on n else g.orB x n) = _
  rw [h]; rfl
theorem H.orB_yes {g x : H} {n : Nat} (h : x.bit n = true) : g.orB x (n + 1) = (g.orB x n).on n := by
  show (if x.bit n = true then (g.orB x n).on n else g.orB x n) = _
  rw [h]; rfl
theorem H.orB_had {g x : H} {n : Nat} (hn : n < 512) (h : (g.orB x n).bit n = true) : g.orB x (n + 1) = g.orB x n := by
  show (if x.bit n = true then (g.orB x n).on n else g.orB x n) = _
  rw [H.on_same _ hn h]; split <;> rfl
theorem H.or_comm (a b : H) : a.or b = b.or a := H.ext_bit fun n hn => by rw [H.bit_or _ _ hn, H.bit_or _ _ hn, Bool.or_comm]
/-- joined in what order you like: the same bits -/
theorem jo_ext {a b : List H} (h : ∀ n, n < 512 → a.any (fun x => x.bit n) = b.any (fun x => x.bit n)) : jo a = jo b := H.ext_bit fun n hn => by rw [bit_jo hn, bit_jo hn, h n hn]
/-- HazeFinds -/
theorem wi_parts (keys : List D) (k : Nat) : jo [zero.wi (keys.drop k), zero.wi (keys.take k)] = zero.wi keys := H.ext_bit fun n hn => by
  rw [bit_jo hn]
  simp only [List.any_cons, List.any_nil, Bool.or_false, H.bit_wi, zero_bit, Bool.false_or]
  conv => rhs; rw [← List.take_append_drop k keys, List.any_append]
  rw [Bool.or_comm]
theorem ct_mono {a b : H} (h : ∀ n, n < 512 → a.bit n = true → b.bit n = true) : a.ct ≤ b.ct := H.cn_mono 512 h
theorem jo_le {l : List H} {x : H} (hx : x ∈ l) : ∀ n, n < 512 → x.bit n = true → (jo l).bit n = true := fun n hn hb => by
  rw [bit_jo hn, List.any_eq_true]; exact ⟨x, hx, hb⟩
theorem wi_has {h : H} {l : List D} {k : D} (hk : k ∈ l) : (h.wi l).hs k = true := by
  rw [H.hs_iff]
  intro n hn
  rw [H.bit_wi, Bool.or_eq_true]
  exact Or.inr (List.any_eq_true.2 ⟨k, hk, hn⟩)
/-- keys put one by one, each twice, the last first -/
def bk (l : List D) : Nat → H
  | 0 => zero
  | i + 1 => (bk l i).wi [l[l.length - 1 - i]?.getD ⟨List.replicate 32 0, by simp⟩, l[l.length - 1 - i]?.getD ⟨List.replicate 32 0, by simp⟩]
theorem bk_succ {l : List D} {i : Nat} {k : D} (h : l[l.length - 1 - i]? = some k) : bk l (i + 1) = (bk l i).wi [k, k] := by
  show (bk l i).wi _ = _
  rw [h]; rfl
theorem bit_bk (l : List D) (n : Nat) : ∀ i, i ≤ l.length → (bk l i).bit n = (l.drop (l.length - i)).any (fun k => k.has n)
  | 0, _ => by rw [Nat.sub_zero, List.drop_length]; exact zero_bit n
  | i + 1, hi => by
    have hlt : l.length - 1 - i < l.length := by omega
    rw [bk_succ (List.getElem?_eq_getElem hlt), H.bit_wi, bit_bk l n i (by omega)]
    have e : l.length - (i + 1) = l.length - 1 - i := by omega
    rw [e, List.drop_eq_getElem_cons hlt, show l.length - 1 - i + 1 = l.length - i by omega]
    simp only [List.any_cons, List.any_nil, Bool.or_false]
    cases (l.drop (l.length - i)).any (fun k => k.has n) <;> cases (l[l.length - 1 - i]).has n <;> rfl
theorem bk_all (l : List D) : bk l l.length = zero.wi l := H.ext_bit fun n hn => by
  rw [bit_bk l n _ (Nat.le_refl _), H.bit_wi, zero_bit, Nat.sub_self, List.drop_zero, Bool.false_or]
theorem jo_with {a h : H} (hle : ∀ n, n < 512 → h.bit n = true → a.bit n = true) : jo [a, h] = a := H.ext_bit fun n hn => by
  rw [bit_jo hn]
  simp only [List.any_cons, List.any_nil, Bool.or_false]
  cases e : h.bit n
  · simp
  · rw [hle n hn e]; rfl
theorem jo_one (a : H) : jo [a] = a := H.ext_bit fun n hn => by rw [bit_jo hn]; simp
theorem jo_same (a : H) : jo [a, a] = a := H.ext_bit fun n hn => by rw [bit_jo hn]; simp
/-- HazeBits -/
theorem bits_same (a b : D) : (zero.wi [a]).hs b = eqB (zero.wi [a, b]) (zero.wi [a]) := by
  rw [Bool.eq_iff_iff, eqB_iff, H.hs_iff]
  constructor
  · intro h
    refine H.ext_bit fun n hn => ?_
    simp only [H.bit_wi, zero_bit, Bool.false_or, List.any_cons, List.any_nil, Bool.or_false]
    cases e : b.has n
    · simp
    · have := h n e
      simp only [H.bit_wi, zero_bit, Bool.false_or, List.any_cons, List.any_nil, Bool.or_false] at this
      simp [this]
  · intro h n hn
    rw [← h]
    simp only [H.bit_wi, zero_bit, Bool.false_or, List.any_cons, List.any_nil, Bool.or_false]
    simp [hn]
theorem has_0 (a : D) : a.has (a.mk' 0) = true := by unfold D.has; simp
theorem ct_one (a : D) : 1 ≤ (zero.wi [a]).ct := H.ct_pos (a.mk_lt 0) (by simp only [H.bit_wi, zero_bit, Bool.false_or, List.any_cons, List.any_nil, Bool.or_false]; exact has_0 a)
theorem ct_keys (l : List D) : (zero.wi l).ct ≤ 4 * l.length := by have := H.ct_wi l zero; rw [zero_ct] at this; omega
theorem zero_hs (a : D) : zero.hs a = false := by unfold H.hs; rw [zero_bit]; rfl
/-- HazeJoins -/
theorem joins_1 (a b c : H) : jo [jo [c, a], b, b] = jo [a, jo [b, c]] := H.ext_bit fun n hn => by
  rw [bit_jo hn, bit_jo hn]
  simp only [List.any_cons, List.any_nil, Bool.or_false, bit_jo hn]
  cases a.bit n <;> cases b.bit n <;> cases c.bit n <;> rfl
theorem joins_2 (a b : H) (l : List D) : (jo [a, b]).wi l = jo [a, jo [b, zero.wi l]] := H.ext_bit fun n hn => by
  rw [bit_jo hn]
  simp only [H.bit_wi, List.any_cons, List.any_nil, Bool.or_false, bit_jo hn, zero_bit, Bool.false_or, Bool.or_assoc]
theorem joins_le (a b c : H) : (∀ n, n < 512 → a.bit n = true → (jo [a, jo [b, c]]).bit n = true) ∧ (∀ n, n < 512 → b.bit n = true → (jo [a, jo [b, c]]).bit n = true) ∧ (∀ n, n < 512 → c.bit n = true → (jo [a, jo [b, c]]).bit n = true) := by
  refine ⟨fun n hn h => ?_, fun n hn h => ?_, fun n hn h => ?_⟩ <;>
  · rw [bit_jo hn]
    simp only [List.any_cons, List.any_nil, Bool.or_false, bit_jo hn, h, Bool.true_or, Bool.or_true]
/-- the summary is the join of its list with keys: the law HazeFinds' 'all' -/
theorem all_le (h : H) (l : List H) : ∀ n, n < 512 → h.bit n = true → (jo (h :: l)).bit n = true := jo_le List.mem_cons_self
end HZ
end Go.Proofs.Ytokicaacllaijaa
