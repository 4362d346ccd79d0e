/- Plain facts on the bytes of numbers, texts and rows: what is written, what is read, and that the two fit. No program is named here. -/
import Derived.WalkKit
namespace Go.Proofs.YtfbjakhanjbaeaaDoor.M

/-- a text out of its bytes -/
def bs (l : List UInt8) : ByteArray := ⟨l.toArray⟩
theorem bs_size (l : List UInt8) : (bs l).size = l.length := by simp [bs, ByteArray.size]
theorem bs_toList (l : List UInt8) : (bs l).data.toList = l := by simp [bs]
theorem bs_of (s : ByteArray) : bs s.data.toList = s := by simp [bs]
theorem bs_inj {a b : List UInt8} (h : bs a = bs b) : a = b := by
  have := congrArg (fun s : ByteArray => s.data.toList) h
  simpa [bs] using this

/-- k bytes of m, the highest first -/
def bytesK : Nat → Nat → List UInt8
  | 0, _ => []
  | k + 1, m => bytesK k (m / 256) ++ [UInt8.ofNat (m % 256)]
theorem bytesK_length (k m : Nat) : (bytesK k m).length = k := by
  induction k generalizing m with
  | zero => rfl
  | succ k ih => simp [bytesK, ih]

/-- how many bytes m takes -/
def cnt (m : Nat) : Nat :=
  if m = 0 then 0 else if m < 256 then 1 else if m < 65536 then 2 else if m < 16777216 then 3 else if m < 4294967296 then 4
  else if m < 1099511627776 then 5 else if m < 281474976710656 then 6 else if m < 72057594037927936 then 7 else 8
theorem cnt_le (m : Nat) : cnt m ≤ 8 := by unfold cnt; repeat' split
                                           all_goals omega

/-- the number that bytes spell -/
def val (l : List UInt8) : Nat := l.foldl (fun a c => a * 256 + c.toNat) 0
theorem val_snoc (l : List UInt8) (c : UInt8) : val (l ++ [c]) = val l * 256 + c.toNat := by simp [val]
theorem val_nil : val [] = 0 := rfl

theorem snoc_ind {p : List UInt8 → Prop} (h0 : p []) (h1 : ∀ l c, p l → p (l ++ [c])) (l : List UInt8) : p l := by
  have h : ∀ r : List UInt8, p r.reverse := by
    intro r
    induction r with
    | nil => simpa using h0
    | cons c r ih => rw [List.reverse_cons]; exact h1 _ _ ih
  have := h l.reverse
  rwa [List.reverse_reverse] at this

theorem val_lt (l : List UInt8) : val l < 256 ^ l.length := by
  induction l using snoc_ind with
  | h0 => simp [val]
  | h1 l c ih =>
    rw [val_snoc]
    have := c.toNat_lt
    simp only [List.length_append, List.length_cons, List.length_nil, Nat.pow_succ]
    omega

theorem val_bytesK (k m : Nat) (h : m < 256 ^ k) : val (bytesK k m) = m := by
  induction k generalizing m with
  | zero => simp [bytesK, val] at *; omega
  | succ k ih =>
    have h1 : m / 256 < 256 ^ k := by rw [Nat.pow_succ] at h; omega
    simp only [bytesK, val_snoc, ih _ h1]
    have : (UInt8.ofNat (m % 256)).toNat = m % 256 := by simp
    omega

theorem bytesK_val (l : List UInt8) : bytesK l.length (val l) = l := by
  induction l using snoc_ind with
  | h0 => rfl
  | h1 l c ih =>
    have hc := c.toNat_lt
    simp only [List.length_append, List.length_cons, List.length_nil, Nat.zero_add, bytesK, val_snoc]
    have e1 : (val l * 256 + c.toNat) / 256 = val l := by omega
    have e2 : (val l * 256 + c.toNat) % 256 = c.toNat := by omega
    rw [e1, e2, ih]
    simp

theorem val_cons (c : UInt8) (t : List UInt8) : val (c :: t) = c.toNat * 256 ^ t.length + val t := by
  induction t using snoc_ind with
  | h0 => simp [val]
  | h1 l d ih =>
    rw [← List.cons_append, val_snoc, val_snoc, ih]
    simp only [List.length_append, List.length_cons, List.length_nil, Nat.zero_add, Nat.pow_succ]
    rw [Nat.add_mul, Nat.mul_assoc]
    omega

theorem cnt_hi (m : Nat) (h : m < 18446744073709551616) : m < 256 ^ cnt m := by
  unfold cnt
  repeat' split
  all_goals simp
  all_goals omega
theorem cnt_lo (m : Nat) (h : 0 < cnt m) : 256 ^ (cnt m - 1) ≤ m := by
  revert h
  unfold cnt
  repeat' split
  all_goals simp
  all_goals omega
theorem cnt_unique (m k : Nat) (h0 : 0 < k) (h1 : 256 ^ (k - 1) ≤ m) (h2 : m < 256 ^ k) (h8 : k ≤ 8) : cnt m = k := by
  have hk : k = 1 ∨ k = 2 ∨ k = 3 ∨ k = 4 ∨ k = 5 ∨ k = 6 ∨ k = 7 ∨ k = 8 := by omega
  unfold cnt
  rcases hk with rfl | rfl | rfl | rfl | rfl | rfl | rfl | rfl
  all_goals simp at h1 h2
  all_goals repeat' split
  all_goals omega
theorem cnt_zero : cnt 0 = 0 := rfl
theorem cnt_pos (m : Nat) (h : m ≠ 0) : 0 < cnt m := by
  unfold cnt
  repeat' split
  all_goals omega

/-- a number without its sign; the mark of its sign -/
def mag (n : Int) : Nat := if n < 0 then (-1 - n).toNat else n.toNat
def mark (n : Int) : Nat := if n < 0 then 128 else 0
/-- THE BYTES OF A NUMBER -/
def numB (n : Int) : List UInt8 := UInt8.ofNat (mark n + cnt (mag n)) :: bytesK (cnt (mag n)) (mag n)
/-- .. OF A TEXT -/
def textB (t : List UInt8) : List UInt8 := numB t.length ++ t
/-- .. OF TEXTS ONE BEHIND THE OTHER, OF A ROW -/
def textsB (l : List (List UInt8)) : List UInt8 := (l.map textB).flatten
def rowB (l : List (List UInt8)) : List UInt8 := numB l.length ++ textsB l

theorem numB_length (n : Int) : (numB n).length = 1 + cnt (mag n) := by simp [numB, bytesK_length]; omega
theorem numB_len (n : Int) : (numB n).length ≤ 9 := by have := cnt_le (mag n); rw [numB_length]; omega

/-- THE NUMBER THAT BYTES BEGIN WITH -/
def readNum (s : List UInt8) : Option (Int × List UInt8) :=
  match s with
  | [] => none
  | c :: r =>
    if 8 < c.toNat % 128 ∨ r.length < c.toNat % 128 then none
    else if 0 < c.toNat % 128 ∧ r.headD 1 = 0 then none
    else if 9223372036854775808 ≤ val (r.take (c.toNat % 128)) then none
    else some (if 128 ≤ c.toNat then -1 - (val (r.take (c.toNat % 128)) : Int) else (val (r.take (c.toNat % 128)) : Int), r.drop (c.toNat % 128))

theorem mag_lt (n : Int) (h1 : -9223372036854775808 ≤ n) (h2 : n < 9223372036854775808) : mag n < 9223372036854775808 := by
  unfold mag; split <;> omega

theorem head_ne (k m : Nat) (h : m < 256 ^ k) (hk : 0 < k) (hl : 256 ^ (k - 1) ≤ m) (r : List UInt8) : (bytesK k m ++ r).headD 1 ≠ 0 := by
  have hlen := bytesK_length k m
  have hv := val_bytesK k m h
  cases hb : bytesK k m with
  | nil => rw [hb] at hlen; simp at hlen; omega
  | cons c t =>
    rw [hb] at hlen hv
    rw [val_cons] at hv
    have hvt := val_lt t
    have ht : t.length = k - 1 := by simp at hlen; omega
    rw [ht] at hv hvt
    simp only [List.cons_append, List.headD_cons]
    intro hc
    subst hc
    simp at hv
    omega

theorem readNum_numB (n : Int) (h1 : -9223372036854775808 ≤ n) (h2 : n < 9223372036854775808) (r : List UInt8) : readNum (numB n ++ r) = some (n, r) := by
  have hm := mag_lt n h1 h2
  have h8 := cnt_le (mag n)
  have hhi := cnt_hi (mag n) (by omega)
  have hlen := bytesK_length (cnt (mag n)) (mag n)
  have hmk : mark n = 0 ∨ mark n = 128 := by unfold mark; split <;> simp
  have ec : (UInt8.ofNat (mark n + cnt (mag n))).toNat = mark n + cnt (mag n) := by
    simp; rcases hmk with e | e <;> omega
  have ek : (mark n + cnt (mag n)) % 128 = cnt (mag n) := by rcases hmk with e | e <;> omega
  simp only [numB, List.cons_append, readNum, ec, ek]
  rw [if_neg (by simp [hlen]; omega), if_neg (by
    rintro ⟨ha, hb⟩
    exact head_ne _ _ hhi ha (cnt_lo _ ha) r hb)]
  have et : (bytesK (cnt (mag n)) (mag n) ++ r).take (cnt (mag n)) = bytesK (cnt (mag n)) (mag n) := by
    rw [List.take_append_of_le_length (by omega), List.take_of_length_le (by omega)]
  have ed : (bytesK (cnt (mag n)) (mag n) ++ r).drop (cnt (mag n)) = r := by
    rw [List.drop_append_of_le_length (by omega), List.drop_of_length_le (by omega)]; rfl
  rw [et, ed, val_bytesK _ _ hhi, if_neg (by omega)]
  simp only [Option.some.injEq, Prod.mk.injEq, and_true]
  by_cases hn : n < 0
  · have e1 : mark n = 128 := by simp [mark, hn]
    have e2 : mag n = (-1 - n).toNat := by simp [mag, hn]
    rw [if_pos (by omega)]; omega
  · have e1 : mark n = 0 := by simp [mark, hn]
    have e2 : mag n = n.toNat := by simp [mag, hn]
    rw [if_neg (by omega)]; omega

theorem readNum_some (s r : List UInt8) (n : Int) (h : readNum s = some (n, r)) : numB n ++ r = s ∧ -9223372036854775808 ≤ n ∧ n < 9223372036854775808 := by
  cases s with
  | nil => simp [readNum] at h
  | cons c t =>
    simp only [readNum] at h
    have hc := c.toNat_lt
    generalize hk : c.toNat % 128 = k at h
    by_cases h1 : 8 < k ∨ t.length < k
    · simp [h1] at h
    rw [if_neg h1] at h
    by_cases h2 : 0 < k ∧ t.headD 1 = 0
    · rw [if_pos h2] at h; simp at h
    rw [if_neg h2] at h
    by_cases h3 : 9223372036854775808 ≤ val (t.take k)
    · rw [if_pos h3] at h; simp at h
    rw [if_neg h3] at h
    simp only [Option.some.injEq, Prod.mk.injEq] at h
    obtain ⟨hn, hr⟩ := h
    have hlt : (t.take k).length = k := by simp; omega
    have hval := val_lt (t.take k)
    rw [hlt] at hval
    have hmag : mag n = val (t.take k) := by subst hn; unfold mag; split <;> split <;> omega
    have hmark : mark n + k = c.toNat := by subst hn; unfold mark; split <;> split <;> omega
    have hcnt : cnt (val (t.take k)) = k := by
      by_cases hk0 : k = 0
      · subst hk0; simp [val_nil, cnt_zero]
      · refine cnt_unique _ _ (by omega) ?_ hval (by omega)
        cases ht : t with
        | nil => subst ht; simp at h1; omega
        | cons d u =>
          rw [ht] at h2 hlt
          obtain ⟨k', rfl⟩ : ∃ k', k = k' + 1 := ⟨k - 1, by omega⟩
          rw [List.take_succ_cons, val_cons]
          have hul : (u.take k').length = k' := by simpa using hlt
          have hd : d.toNat ≠ 0 := by
            intro e
            apply h2
            refine ⟨by omega, ?_⟩
            simp only [List.headD_cons]
            exact UInt8.toNat_inj.1 (by simpa using e)
          rw [hul]
          have : 1 * 256 ^ k' ≤ d.toNat * 256 ^ k' := Nat.mul_le_mul_right _ (by omega)
          simp only [Nat.add_sub_cancel]
          omega
    refine ⟨?_, ?_, ?_⟩
    · unfold numB
      rw [hmag, hcnt, hmark]
      have e1 : bytesK k (val (t.take k)) = t.take k := by
        have := bytesK_val (t.take k)
        rwa [hlt] at this
      rw [e1, ← hr]
      simp
    · subst hn; split <;> omega
    · subst hn; split <;> omega

/-- THE TEXT OF AT MOST most BYTES -/
def readText (s : List UInt8) (most : Int) : Option (List UInt8 × List UInt8) :=
  match readNum s with
  | none => none
  | some (n, r) => if n < 0 ∨ most < n ∨ (r.length : Int) < n then none else some (r.take n.toNat, r.drop n.toNat)

theorem readText_textB (t r : List UInt8) (most : Int) (h : t.length < 9223372036854775808) (hm : (t.length : Int) ≤ most) : readText (textB t ++ r) most = some (t, r) := by
  unfold readText textB
  rw [List.append_assoc, readNum_numB _ (by omega) (by omega)]
  simp only
  rw [if_neg (by simp; omega)]
  simp
theorem readText_many (t r : List UInt8) (most : Int) (h : t.length < 9223372036854775808) (hm : most < (t.length : Int)) : readText (textB t ++ r) most = none := by
  unfold readText textB
  rw [List.append_assoc, readNum_numB _ (by omega) (by omega)]
  simp only
  rw [if_pos (by omega)]
theorem readText_some (s t r : List UInt8) (most : Int) (h : readText s most = some (t, r)) : textB t ++ r = s ∧ (t.length : Int) ≤ most := by
  unfold readText at h
  cases hn : readNum s with
  | none => rw [hn] at h; simp at h
  | some x =>
    obtain ⟨n, q⟩ := x
    rw [hn] at h
    simp only at h
    by_cases hc : n < 0 ∨ most < n ∨ (q.length : Int) < n
    · rw [if_pos hc] at h; simp at h
    rw [if_neg hc] at h
    simp only [Option.some.injEq, Prod.mk.injEq] at h
    obtain ⟨rfl, rfl⟩ := h
    have hs := (readNum_some _ _ _ hn).1
    have hl : (q.take n.toNat).length = n.toNat := by simp; omega
    refine ⟨?_, by rw [hl]; omega⟩
    unfold textB
    rw [hl, List.append_assoc, List.take_append_drop, Int.toNat_of_nonneg (by omega)]
    exact hs

/-- so many texts, one behind the other -/
def readTexts : Nat → List UInt8 → Option (List (List UInt8) × List UInt8)
  | 0, s => some ([], s)
  | k + 1, s =>
    match readText s s.length with
    | none => none
    | some (t, r) => match readTexts k r with
      | none => none
      | some (l, q) => some (t :: l, q)
/-- THE ROW OF AT MOST most TEXTS -/
def readRow (s : List UInt8) (most : Int) : Option (List (List UInt8) × List UInt8) :=
  match readNum s with
  | none => none
  | some (n, r) => if n < 0 ∨ most < n then none else readTexts n.toNat r

theorem readTexts_textsB (l : List (List UInt8)) (r : List UInt8) (h : ∀ t ∈ l, t.length < 9223372036854775808) : readTexts l.length (textsB l ++ r) = some (l, r) := by
  induction l with
  | nil => simp [readTexts, textsB]
  | cons t l ih =>
    have e : textsB (t :: l) ++ r = textB t ++ (textsB l ++ r) := by simp [textsB]
    rw [e]
    simp only [List.length_cons, readTexts]
    rw [readText_textB t _ _ (h t (by simp)) (by simp [textB]; omega)]
    simp only
    rw [ih (fun t ht => h t (by simp [ht]))]

theorem readTexts_some (k : Nat) (s : List UInt8) (l : List (List UInt8)) (r : List UInt8) (h : readTexts k s = some (l, r)) : textsB l ++ r = s ∧ l.length = k := by
  induction k generalizing s l r with
  | zero => simp [readTexts] at h; obtain ⟨rfl, rfl⟩ := h; simp [textsB]
  | succ k ih =>
    simp only [readTexts] at h
    cases ht : readText s s.length with
    | none => rw [ht] at h; simp at h
    | some x =>
      obtain ⟨t, q⟩ := x
      rw [ht] at h
      simp only at h
      cases hq : readTexts k q with
      | none => rw [hq] at h; simp at h
      | some y =>
        obtain ⟨l', q'⟩ := y
        rw [hq] at h
        simp only [Option.some.injEq, Prod.mk.injEq] at h
        obtain ⟨rfl, rfl⟩ := h
        obtain ⟨e1, e2⟩ := ih _ _ _ hq
        have e3 := (readText_some _ _ _ _ ht).1
        refine ⟨?_, by simp [e2]⟩
        rw [← e3, ← e1]
        simp [textsB]

theorem readRow_rowB (l : List (List UInt8)) (r : List UInt8) (most : Int) (hl : l.length < 9223372036854775808) (h : ∀ t ∈ l, t.length < 9223372036854775808) (hm : (l.length : Int) ≤ most) :
    readRow (rowB l ++ r) most = some (l, r) := by
  unfold readRow rowB
  rw [List.append_assoc, readNum_numB _ (by omega) (by omega)]
  simp only
  rw [if_neg (by omega)]
  simpa using readTexts_textsB l r h
theorem readRow_many (l : List (List UInt8)) (r : List UInt8) (most : Int) (hl : l.length < 9223372036854775808) (hm : most < (l.length : Int)) :
    readRow (rowB l ++ r) most = none := by
  unfold readRow rowB
  rw [List.append_assoc, readNum_numB _ (by omega) (by omega)]
  simp only
  rw [if_pos (by omega)]
theorem readRow_some (s : List UInt8) (l : List (List UInt8)) (r : List UInt8) (most : Int) (h : readRow s most = some (l, r)) : rowB l ++ r = s ∧ (l.length : Int) ≤ most := by
  unfold readRow at h
  cases hn : readNum s with
  | none => rw [hn] at h; simp at h
  | some x =>
    obtain ⟨n, q⟩ := x
    rw [hn] at h
    simp only at h
    by_cases hc : n < 0 ∨ most < n
    · rw [if_pos hc] at h; simp at h
    rw [if_neg hc] at h
    obtain ⟨e1, e2⟩ := readTexts_some _ _ _ _ h
    have hs := (readNum_some _ _ _ hn).1
    refine ⟨?_, by rw [e2]; omega⟩
    unfold rowB
    rw [e2, List.append_assoc, e1, Int.toNat_of_nonneg (by omega)]
    exact hs

end Go.Proofs.YtfbjakhanjbaeaaDoor.M
