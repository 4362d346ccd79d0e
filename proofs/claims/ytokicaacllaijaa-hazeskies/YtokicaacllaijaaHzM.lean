/- Summaries on lists: 64 bytes, their bits, a key's marks, joins, how many bits are set. -/
namespace Go.Proofs.Ytokicaacllaijaa
namespace HZ
/-- a summary: 64 bytes -/
structure H where
  l : List UInt8
  n : l.length = 64
/-- a key: 32 bytes -/
structure D where
  l : List UInt8
  n : l.length = 32
theorem H.ext' {a b : H} (h : a.l = b.l) : a = b := by cases a; cases b; simp at h; subst h; rfl
theorem D.ext' {a b : D} (h : a.l = b.l) : a = b := by cases a; cases b; simp at h; subst h; rfl
/-- two summaries compared -/
def eqB (a b : H) : Bool := decide (a.l = b.l)
theorem eqB_iff {a b : H} : eqB a b = true ↔ a = b := by unfold eqB; rw [decide_eq_true_eq]; exact ⟨H.ext', fun e => by rw [e]⟩
theorem eqB_self (a : H) : eqB a a = true := eqB_iff.2 rfl
theorem eqB_of {a b : H} (h : a = b) : eqB a b = true := eqB_iff.2 h
theorem eqB_ne {a b : H} (h : a ≠ b) : eqB a b = false := by
  cases e : eqB a b
  · rfl
  · exact absurd (eqB_iff.1 e) h
/-- a byte -/
def by8 (l : List UInt8) (i : Nat) : UInt8 := l[i]?.getD 0
theorem by8_at {l : List UInt8} {i : Nat} (h : i < l.length) : l[i]? = some (by8 l i) := by unfold by8; rw [List.getElem?_eq_getElem h]; rfl
def H.b (h : H) (i : Nat) : UInt8 := by8 h.l i
def D.b (k : D) (i : Nat) : UInt8 := by8 k.l i
theorem H.ext_b {a b : H} (h : ∀ i, i < 64 → a.b i = b.b i) : a = b := by
  apply H.ext'
  apply List.ext_getElem?
  intro i
  by_cases hi : i < 64
  · rw [by8_at (by rw [a.n]; exact hi), by8_at (by rw [b.n]; exact hi)]; exact congrArg some (h i hi)
  · rw [List.getElem?_eq_none (by rw [a.n]; omega), List.getElem?_eq_none (by rw [b.n]; omega)]
/-- a byte's bit -/
def bt (x : UInt8) (j : Nat) : Bool := x.toNat.testBit j
theorem bt_ext {x y : UInt8} (h : ∀ j, j < 8 → bt x j = bt y j) : x = y := by
  apply UInt8.toNat_inj.1
  apply Nat.eq_of_testBit_eq
  intro j
  by_cases hj : j < 8
  · exact h j hj
  · have hx : x.toNat < 2 ^ j := Nat.lt_of_lt_of_le x.toNat_lt (show 2 ^ 8 ≤ 2 ^ j from Nat.pow_le_pow_right (by omega) (by omega))
    have hy : y.toNat < 2 ^ j := Nat.lt_of_lt_of_le y.toNat_lt (show 2 ^ 8 ≤ 2 ^ j from Nat.pow_le_pow_right (by omega) (by omega))
    rw [Nat.testBit_lt_two_pow hx, Nat.testBit_lt_two_pow hy]
/-- the n-th bit -/
def H.bit (h : H) (n : Nat) : Bool := bt (h.b (n / 8)) (n % 8)
theorem H.ext_bit {a b : H} (h : ∀ n, n < 512 → a.bit n = b.bit n) : a = b := H.ext_b fun i hi => bt_ext fun j hj => by
  have := h (8 * i + j) (by omega)
  unfold H.bit at this
  rw [show (8 * i + j) / 8 = i by omega, show (8 * i + j) % 8 = j by omega] at this
  exact this
/-- a mask: the bit n of its byte -/
def msk (n : Nat) : UInt8 := UInt8.ofNat (2 ^ (n % 8))
theorem msk_nat (n : Nat) : (msk n).toNat = 2 ^ (n % 8) := by
  unfold msk
  have h : n % 8 < 8 := Nat.mod_lt _ (by omega)
  have : 2 ^ (n % 8) < 2 ^ 8 := Nat.pow_lt_pow_right (by omega) h
  rw [UInt8.toNat_ofNat']
  exact Nat.mod_eq_of_lt this
theorem bt_msk (n j : Nat) : bt (msk n) j = decide (j = n % 8) := by
  unfold bt; rw [msk_nat, Nat.testBit_two_pow]; exact decide_eq_decide.2 eq_comm
theorem bt_or (x y : UInt8) (j : Nat) : bt (x ||| y) j = (bt x j || bt y j) := by unfold bt; rw [UInt8.toNat_or, Nat.testBit_or]
theorem bt_and (x y : UInt8) (j : Nat) : bt (x &&& y) j = (bt x j && bt y j) := by unfold bt; rw [UInt8.toNat_and, Nat.testBit_and]
theorem bt_zero (j : Nat) : bt 0 j = false := by unfold bt; simp
/-- a bit by a mask -/
theorem and_msk (x : UInt8) (n : Nat) : (x &&& msk n = 0) ↔ bt x (n % 8) = false := by
  constructor
  · intro h
    have := congrArg (fun u => bt u (n % 8)) h
    simp only [bt_and, bt_msk, bt_zero, decide_true, Bool.and_true] at this
    exact this
  · intro h
    refine bt_ext fun j _ => ?_
    rw [bt_and, bt_msk, bt_zero]
    by_cases e : j = n % 8
    · rw [e, h]; rfl
    · simp [e]
/-- a bit by division -/
theorem bt_div (x : UInt8) (j : Nat) : bt x j = decide (x.toNat / 2 ^ j % 2 = 1) := by
  unfold bt; rw [Nat.testBit_eq_decide_div_mod_eq]
def H.set (h : H) (i : Nat) (x : UInt8) : H := ⟨h.l.set i x, by rw [List.length_set]; exact h.n⟩
theorem H.b_set (h : H) {i : Nat} (hi : i < 64) (x : UInt8) (j : Nat) : (h.set i x).b j = if j = i then x else h.b j := by
  unfold H.b H.set by8
  simp only [List.getElem?_set, h.n]
  by_cases e : i = j
  · subst e; simp [hi]
  · simp [e, Ne.symm e]
/-- one bit more -/
def H.on (h : H) (n : Nat) : H := h.set (n / 8) (h.b (n / 8) ||| msk n)
theorem H.bit_on (h : H) {n : Nat} (hn : n < 512) (m : Nat) : (h.on n).bit m = (h.bit m || decide (m = n)) := by
  unfold H.on H.bit
  rw [H.b_set h (by omega)]
  by_cases e : m / 8 = n / 8
  · rw [if_pos e, bt_or, bt_msk, e]
    congr 1
    exact decide_eq_decide.2 ⟨fun h => by omega, fun h => by rw [h]⟩
  · rw [if_neg e]
    have : ¬ m = n := fun h => e (by rw [h])
    simp [this]
theorem or_addF : ∀ x : Fin 256, ∀ j : Fin 8, x.val.testBit j.val = false → x.val ||| 2 ^ j.val = x.val + 2 ^ j.val := by decide +kernel
/-- a bit that isn't set is set by a sum -/
theorem or_add (x : UInt8) (n : Nat) (h : bt x (n % 8) = false) : (x ||| msk n).toNat = x.toNat + 2 ^ (n % 8) := by
  rw [UInt8.toNat_or, msk_nat]
  exact or_addF ⟨x.toNat, x.toNat_lt⟩ ⟨n % 8, Nat.mod_lt _ (by omega)⟩ h
theorem H.on_same (h : H) {n : Nat} (hn : n < 512) (hb : h.bit n = true) : h.on n = h := H.ext_bit fun m _ => by
  rw [H.bit_on h hn]
  by_cases e : m = n
  · rw [e, hb]; rfl
  · simp [e]
/-- a key's i-th mark -/
def D.mk' (k : D) (i : Nat) : Nat := (256 * (k.b (2 * i)).toNat + (k.b (2 * i + 1)).toNat) % 512
theorem D.mk_lt (k : D) (i : Nat) : k.mk' i < 512 := Nat.mod_lt _ (by omega)
/-- the summary with the first i marks of a key -/
def H.adN (h : H) (k : D) : Nat → H
  | 0 => h
  | i + 1 => (h.adN k i).on (k.mk' i)
def H.ad (h : H) (k : D) : H := h.adN k 4
/-- a key's marks -/
def D.has (k : D) (n : Nat) : Bool := decide (n = k.mk' 0) || decide (n = k.mk' 1) || decide (n = k.mk' 2) || decide (n = k.mk' 3)
theorem H.bit_ad (h : H) (k : D) (n : Nat) : (h.ad k).bit n = (h.bit n || k.has n) := by
  unfold H.ad H.adN H.adN H.adN H.adN H.adN D.has
  rw [H.bit_on _ (k.mk_lt _), H.bit_on _ (k.mk_lt _), H.bit_on _ (k.mk_lt _), H.bit_on _ (k.mk_lt _)]
  simp only [Bool.or_assoc]
def H.wi (h : H) (l : List D) : H := l.foldl H.ad h
theorem H.wi_nil (h : H) : h.wi [] = h := rfl
theorem H.wi_cons (h : H) (k : D) (l : List D) : h.wi (k :: l) = (h.ad k).wi l := rfl
theorem H.wi_app (h : H) (a b : List D) : h.wi (a ++ b) = (h.wi a).wi b := by unfold H.wi; rw [List.foldl_append]
theorem H.wi_succ (h : H) {l : List D} {i : Nat} {k : D} (hk : l[i]? = some k) : h.wi (l.take (i + 1)) = (h.wi (l.take i)).ad k := by
  rw [List.take_add_one, hk, Option.toList_some, H.wi_app]; rfl
theorem H.bit_wi (n : Nat) : ∀ (l : List D) (h : H), (h.wi l).bit n = (h.bit n || l.any (fun k => k.has n))
  | [], h => by simp [H.wi_nil]
  | k :: l, h => by rw [H.wi_cons, H.bit_wi n l, H.bit_ad, List.any_cons, Bool.or_assoc]
def zero : H := ⟨List.replicate 64 0, by simp⟩
theorem zero_b (i : Nat) : zero.b i = 0 := by
  unfold H.b by8 zero
  simp only [List.getElem?_replicate]
  split <;> rfl
theorem zero_bit (n : Nat) : zero.bit n = false := by unfold H.bit; rw [zero_b, bt_zero]
/-- two in one, up to the first i bytes -/
def H.orN (a b : H) : Nat → H
  | 0 => a
  | i + 1 => (a.orN b i).set i ((a.orN b i).b i ||| b.b i)
theorem H.b_orN (a b : H) : ∀ (i : Nat), i ≤ 64 → ∀ j, (a.orN b i).b j = if j < i then a.b j ||| b.b j else a.b j
  | 0, _, j => by simp [H.orN]
  | i + 1, hi, j => by
    rw [H.orN, H.b_set _ (by omega), H.b_orN a b i (by omega), H.b_orN a b i (by omega)]
    by_cases e : j = i
    · subst e; simp
    · by_cases e2 : j < i
      · rw [if_neg e, if_pos e2, if_pos (by omega)]
      · rw [if_neg e, if_neg e2, if_neg (by omega)]
def H.or (a b : H) : H := a.orN b 64
theorem H.bit_or (a b : H) {n : Nat} (hn : n < 512) : (a.or b).bit n = (a.bit n || b.bit n) := by
  unfold H.or H.bit
  rw [H.b_orN a b 64 (by omega), if_pos (by omega), bt_or]
def jo (l : List H) : H := l.foldl H.or zero
theorem jo_app (a b : List H) : jo (a ++ b) = b.foldl H.or (jo a) := by unfold jo; rw [List.foldl_append]
theorem jo_succ {l : List H} {i : Nat} {h : H} (hk : l[i]? = some h) : jo (l.take (i + 1)) = (jo (l.take i)).or h := by
  rw [List.take_add_one, hk, Option.toList_some, jo_app]; rfl
theorem bit_fold {n : Nat} (hn : n < 512) : ∀ (l : List H) (h : H), (l.foldl H.or h).bit n = (h.bit n || l.any (fun x => x.bit n))
  | [], h => by simp
  | k :: l, h => by rw [List.foldl_cons, bit_fold hn l, H.bit_or _ _ hn, List.any_cons, Bool.or_assoc]
theorem bit_jo {n : Nat} (hn : n < 512) (l : List H) : (jo l).bit n = l.any (fun x => x.bit n) := by
  unfold jo; rw [bit_fold hn, zero_bit, Bool.false_or]
/-- whether all marks of a key are set -/
def H.hs (h : H) (k : D) : Bool := h.bit (k.mk' 0) && h.bit (k.mk' 1) && h.bit (k.mk' 2) && h.bit (k.mk' 3)
theorem H.hs_iff (h : H) (k : D) : h.hs k = true ↔ ∀ n, k.has n = true → h.bit n = true := by
  unfold H.hs D.has
  simp only [Bool.and_eq_true, Bool.or_eq_true, decide_eq_true_eq]
  constructor
  · rintro ⟨⟨⟨h0, h1⟩, h2⟩, h3⟩ n (((e | e) | e) | e) <;> rw [e] <;> assumption
  · intro h0
    exact ⟨⟨⟨h0 _ (by simp), h0 _ (by simp)⟩, h0 _ (by simp)⟩, h0 _ (by simp)⟩
theorem D.has_lt {k : D} {n : Nat} (h : k.has n = true) : n < 512 := by
  unfold D.has at h
  simp only [Bool.or_eq_true, decide_eq_true_eq] at h
  have h0 := k.mk_lt 0; have h1 := k.mk_lt 1; have h2 := k.mk_lt 2; have h3 := k.mk_lt 3
  omega
/-- how many bits are set below n -/
def H.cn (h : H) : Nat → Nat
  | 0 => 0
  | n + 1 => h.cn n + if h.bit n = true then 1 else 0
def H.ct (h : H) : Nat := h.cn 512
theorem H.cn_le (h : H) : ∀ n, h.cn n ≤ n
  | 0 => Nat.le_refl _
  | n + 1 => by have := h.cn_le n; unfold H.cn; split <;> omega
theorem H.cn_mono {a b : H} : ∀ n, (∀ i, i < n → a.bit i = true → b.bit i = true) → a.cn n ≤ b.cn n
  | 0, _ => Nat.le_refl _
  | n + 1, h => by
    have := H.cn_mono n (fun i hi => h i (by omega))
    have h1 := h n (by omega)
    unfold H.cn
    by_cases e : a.bit n = true
    · rw [if_pos e, if_pos (h1 e)]; omega
    · rw [if_neg e]; split <;> omega
theorem H.cn_on (h : H) {m : Nat} (hm : m < 512) : ∀ n, (h.on m).cn n ≤ h.cn n + if m < n then 1 else 0
  | 0 => by simp [H.cn]
  | n + 1 => by
    have := h.cn_on hm n
    unfold H.cn
    rw [H.bit_on h hm]
    by_cases e : n = m
    · subst e
      simp only [decide_true, Bool.or_true, if_true]
      rw [if_neg (by omega)] at this
      rw [if_pos (Nat.lt_succ_self _)]
      omega
    · simp only [e, decide_false, Bool.or_false]
      split at this <;> split <;> (first | (rw [if_pos (by omega)]; omega) | (split <;> omega) | omega)
theorem H.ct_on (h : H) {m : Nat} (hm : m < 512) : (h.on m).ct ≤ h.ct + 1 := by
  have := h.cn_on hm 512
  unfold H.ct
  split at this <;> omega
theorem H.ct_ad (h : H) (k : D) : (h.ad k).ct ≤ h.ct + 4 := by
  have h1 := h.ct_on (k.mk_lt 0)
  have h2 := (h.on (k.mk' 0)).ct_on (k.mk_lt 1)
  have h3 := ((h.on (k.mk' 0)).on (k.mk' 1)).ct_on (k.mk_lt 2)
  have h4 := (((h.on (k.mk' 0)).on (k.mk' 1)).on (k.mk' 2)).ct_on (k.mk_lt 3)
  show ((((h.on (k.mk' 0)).on (k.mk' 1)).on (k.mk' 2)).on (k.mk' 3)).ct ≤ h.ct + 4
  omega
theorem H.ct_wi : ∀ (l : List D) (h : H), (h.wi l).ct ≤ h.ct + 4 * l.length
  | [], h => by simp [H.wi_nil]
  | k :: l, h => by
    have h1 := h.ct_ad k
    have h2 := H.ct_wi l (h.ad k)
    rw [H.wi_cons, List.length_cons]; omega
theorem zero_ct : zero.ct = 0 := by
  have : ∀ n, zero.cn n = 0 := by
    intro n
    induction n with
    | zero => rfl
    | succ n ih => unfold H.cn; rw [ih, zero_bit]; rfl
  exact this 512
theorem H.ct_pos {h : H} {n : Nat} (hn : n < 512) (hb : h.bit n = true) : 1 ≤ h.ct := by
  have : ∀ m, n < m → 1 ≤ h.cn m := by
    intro m
    induction m with
    | zero => intro h; omega
    | succ m ih =>
      intro hm
      unfold H.cn
      by_cases e : n = m
      · subst e; rw [if_pos hb]; omega
      · have := ih (by omega); omega
  exact this 512 (by omega)
/-- how many bits of a byte are set -/
def pc (x : UInt8) : Nat := (if bt x 0 then 1 else 0) + (if bt x 1 then 1 else 0) + (if bt x 2 then 1 else 0) + (if bt x 3 then 1 else 0) + (if bt x 4 then 1 else 0) + (if bt x 5 then 1 else 0) + (if bt x 6 then 1 else 0) + (if bt x 7 then 1 else 0)
theorem pc_le (x : UInt8) : pc x ≤ 8 := by
  have f : ∀ c : Bool, (if c = true then 1 else 0) ≤ 1 := fun c => by cases c <;> decide
  have h0 := f (bt x 0); have h1 := f (bt x 1); have h2 := f (bt x 2); have h3 := f (bt x 3); have h4 := f (bt x 4); have h5 := f (bt x 5); have h6 := f (bt x 6); have h7 := f (bt x 7)
  unfold pc; omega
theorem H.cn_byte (h : H) (i : Nat) : h.cn (8 * (i + 1)) = h.cn (8 * i) + pc (h.b i) := by
  have e : ∀ j, j < 8 → h.bit (8 * i + j) = bt (h.b i) j := fun j hj => by
    unfold H.bit; rw [show (8 * i + j) / 8 = i by omega, show (8 * i + j) % 8 = j by omega]
  rw [show 8 * (i + 1) = 8 * i + 1 + 1 + 1 + 1 + 1 + 1 + 1 + 1 by omega]
  simp only [H.cn]
  have e0 := e 0 (by omega); have e1 := e 1 (by omega); have e2 := e 2 (by omega); have e3 := e 3 (by omega)
  have e4 := e 4 (by omega); have e5 := e 5 (by omega); have e6 := e 6 (by omega); have e7 := e 7 (by omega)
  rw [Nat.add_zero] at e0
  simp only [Nat.add_assoc] at *
  simp only [e0, e1, e2, e3, e4, e5, e6, e7, pc, Nat.add_assoc]
/-- the library's table -/
def tab : List UInt8 := (List.range 256).map fun i => UInt8.ofNat (pc (UInt8.ofNat i))
/-- what is known of a and b is known of them joined -/
theorem hs_le {a b : H} {k : D} (h : ∀ n, n < 512 → a.bit n = true → b.bit n = true) (ha : a.hs k = true) : b.hs k = true := by
  rw [H.hs_iff] at *
  exact fun n hn => h n (D.has_lt hn) (ha n hn)
end HZ
end Go.Proofs.Ytokicaacllaijaa
