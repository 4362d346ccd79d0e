/- The texts HgPm HgQe as one. -/
import Derived.Test.YtfbjakhanjbaeaaDoorHgU
import Derived.Test.YtfbjakhanjbaeaaDoorHq8
/- A range and its parts, on lists. -/
namespace Go.Proofs.YtfbjakhanjbaeaaDoor
open Go.RowKit
set_option linter.unusedVariables false
set_option linter.unusedSimpArgs false
namespace HG
theorem b16_lt (a b : List UInt8) (ha : a.length = 32) (hb : b.length = 32) (h : b16 a < b16 b) : ltB a b = true := by
  rcases a with _ | ⟨x, _ | ⟨y, a⟩⟩
  · simp at ha
  · simp at ha
  rcases b with _ | ⟨u, _ | ⟨v, b⟩⟩
  · simp at hb
  · simp at hb
  have e1 : b16 (x :: y :: a) = x.toNat * 256 + y.toNat := rfl
  have e2 : b16 (u :: v :: b) = u.toNat * 256 + v.toNat := rfl
  rw [e1, e2] at h
  have := x.toNat_lt; have := y.toNat_lt; have := u.toNat_lt; have := v.toNat_lt
  by_cases e : x = u
  · subst e
    have hyv : y ≠ v := fun e => by subst e; omega
    simp only [ltB, if_true, hyv, if_false, decide_eq_true_eq]; omega
  · have hxu : x.toNat ≠ u.toNat := fun e' => e (UInt8.toNat_inj.1 e')
    simp only [ltB, e, if_false, decide_eq_true_eq]; omega
theorem pre_lt (a b : List UInt8) (n : Nat) (ha : a.length = 32) (hb : b.length = 32) (h : pre a n < pre b n) : ltB a b = true := by
  refine b16_lt a b ha hb ?_
  rcases Nat.lt_or_ge (b16 a) (b16 b) with h1 | h1
  · exact h1
  · have := Nat.div_le_div_right (c := 4 ^ (8 - n)) h1
    unfold pre at h; omega
theorem pre_up (k : List UInt8) (n : Nat) (h : n < 8) : pre k (n + 1) / 4 = pre k n := by
  unfold pre
  rw [Nat.div_div_eq_div_mul, ← Nat.pow_succ, show (8 - (n + 1)).succ = 8 - n by omega]
/-- what being a good range that has parts says -/
theorem can_of {r : G} (h : canP r = true) : 0 ≤ r.d ∧ r.d < 8 ∧ 0 ≤ r.p ∧ r.p < 4 ^ r.d.toNat ∧ good r = true := by
  unfold canP at h
  rw [Bool.and_eq_true] at h
  have h1 := h.1
  unfold good pl at h1
  rw [Bool.and_eq_true] at h1
  obtain ⟨a1, a2, a3, a4⟩ := of_decide_eq_true h1.1
  have h2 := h.2
  simp at h2
  exact ⟨a1, by omega, a3, a4, h.1⟩
theorem items_len (r : G) (l : List R) : (items r l).length ≤ l.length := Nat.le_trans (srt_len _) (List.length_filter_le _ _)
theorem items_eq (r : G) (l : List R) (h : 0 ≤ r.n ∧ r.n ≤ 1048576) : items r l = items (g0 r.d r.p) l := by
  unfold items
  congr 1
  apply List.filter_congr
  intro x _
  exact inn_of r r.n x.k h rfl
theorem good_n {r : G} (h : good r = true) : 0 ≤ r.n ∧ r.n ≤ 1048576 := by
  unfold good at h
  rw [Bool.and_eq_true] at h
  exact of_decide_eq_true h.2
theorem rng_num (d p : Int) (l : List R) (hl : l.length ≤ 1000) : 0 ≤ (rng d p l).n ∧ (rng d p l).n ≤ 1048576 := by
  have h := items_len (g0 d p) l
  show (0 : Int) ≤ ((items (g0 d p) l).length : Nat) ∧ (((items (g0 d p) l).length : Nat) : Int) ≤ 1048576
  omega
theorem part_pl {r : G} (h : canP r = true) (i : Nat) (hi : i < 4) : pl (r.d + 1) (r.p * 4 + i) = true := by
  obtain ⟨a1, a2, a3, a4, _⟩ := can_of h
  unfold pl
  apply decide_eq_true
  refine ⟨by omega, by omega, by omega, ?_⟩
  have e : (r.d + 1).toNat = r.d.toNat + 1 := by omega
  rw [e, Int.pow_succ]; omega
theorem part_good {r : G} (h : canP r = true) (l : List R) (hl : l.length ≤ 1000) (i : Nat) (hi : i < 4) : good (part r l i) = true := by
  unfold good
  show (pl (r.d + 1) (r.p * 4 + i) && _) = true
  rw [part_pl h i hi, Bool.true_and]
  exact decide_eq_true (rng_num _ _ l hl)
theorem part_inn {r : G} (h : canP r = true) (l : List R) (hl : l.length ≤ 1000) (i : Nat) (hi : i < 4) (k : List UInt8) : inn (part r l i) k = decide ((pre k (r.d.toNat + 1) : Int) = r.p * 4 + i) := by
  unfold inn
  rw [part_good h l hl i hi, Bool.true_and]
  obtain ⟨a1, _⟩ := can_of h
  show decide ((pre k (r.d + 1).toNat : Int) = r.p * 4 + i) = _
  rw [show (r.d + 1).toNat = r.d.toNat + 1 by omega]
theorem inn_can {r : G} (h : canP r = true) (k : List UInt8) : inn r k = decide ((pre k r.d.toNat : Int) = r.p) := by
  unfold inn; rw [(can_of h).2.2.2.2, Bool.true_and]
theorem part_num {r : G} (h : canP r = true) (l : List R) (hl : l.length ≤ 1000) (i : Nat) (hi : i < 4) : (part r l i).n = ((items (part r l i) l).length : Nat) := by
  rw [items_eq _ _ (good_n (part_good h l hl i hi))]; rfl
theorem items_mem (r : G) (l : List R) (z : R) : z ∈ items r l ↔ z ∈ srt l ∧ inn r z.k = true := by
  unfold items
  rw [srt_filter l (fun k => inn r k), List.mem_filter]
theorem items_rise (r : G) (l : List R) : Rise (items r l) := srt_rise _
/-- the records of the first i parts -/
def allN (r : G) (l : List R) (i : Nat) : List R := (List.range i).flatMap fun j => items (part r l j) l
/-- in how many of the first i parts a key is -/
def inN (r : G) (l : List R) (k : List UInt8) (i : Nat) : Nat := ((List.range i).filter fun j => inn (part r l j) k).length
theorem allN_succ (r : G) (l : List R) (i : Nat) : allN r l (i + 1) = allN r l i ++ items (part r l i) l := by
  unfold allN; rw [List.range_succ, List.flatMap_append]; simp
theorem inN_succ (r : G) (l : List R) (k : List UInt8) (i : Nat) : inN r l k (i + 1) = inN r l k i + (if inn (part r l i) k = true then 1 else 0) := by
  unfold inN; rw [List.range_succ, List.filter_append, List.length_append]
  by_cases h : inn (part r l i) k = true <;> simp [h]
theorem allN_mem {r : G} (h : canP r = true) (l : List R) (hl : l.length ≤ 1000) (i : Nat) (hi : i ≤ 4) (z : R) : z ∈ allN r l i ↔ z ∈ srt l ∧ r.p * 4 ≤ (pre z.k (r.d.toNat + 1) : Int) ∧ (pre z.k (r.d.toNat + 1) : Int) < r.p * 4 + i := by
  induction i with
  | zero => simp [allN]; try (intro _ _; omega)
  | succ i ih =>
    rw [allN_succ, List.mem_append, ih (by omega), items_mem, part_inn h l hl i (by omega), decide_eq_true_eq]
    constructor
    · rintro (⟨a, b, c⟩ | ⟨a, b⟩)
      · exact ⟨a, b, by omega⟩
      · exact ⟨a, by omega, by omega⟩
    · rintro ⟨a, b, c⟩
      by_cases e : (pre z.k (r.d.toNat + 1) : Int) = r.p * 4 + i
      · exact Or.inr ⟨a, e⟩
      · exact Or.inl ⟨a, b, by omega⟩
theorem allN_rise {r : G} (h : canP r = true) (l : List R) (hl : l.length ≤ 1000) (i : Nat) (hi : i ≤ 4) : Rise (allN r l i) := by
  induction i with
  | zero => exact List.Pairwise.nil
  | succ i ih =>
    rw [allN_succ]
    refine List.pairwise_append.2 ⟨ih (by omega), items_rise _ _, fun x hx y hy => ?_⟩
    have h1 := ((allN_mem h l hl i (by omega) x).1 hx).2.2
    have h2 := ((items_mem _ _ _).1 hy).2
    rw [part_inn h l hl i (by omega), decide_eq_true_eq] at h2
    exact pre_lt x.k y.k (r.d.toNat + 1) x.hk y.hk (by omega)
/-- A RANGE'S RECORDS ARE THOSE OF ITS PARTS -/
theorem parts_all {r : G} (h : canP r = true) (l : List R) (hl : l.length ≤ 1000) : allN r l 4 = items r l := by
  refine rise_uniq _ _ (allN_rise h l hl 4 (by omega)) (items_rise _ _) fun z => ?_
  rw [allN_mem h l hl 4 (by omega), items_mem, inn_can h, decide_eq_true_eq]
  obtain ⟨a1, a2, a3, a4, _⟩ := can_of h
  have := pre_up z.k r.d.toNat (by omega)
  constructor
  · rintro ⟨a, b, c⟩
    refine ⟨a, ?_⟩
    have : (pre z.k (r.d.toNat + 1) : Int) / 4 = (pre z.k r.d.toNat : Int) := by rw [← this]; rfl
    omega
  · rintro ⟨a, b⟩
    have : (pre z.k (r.d.toNat + 1) : Int) / 4 = (pre z.k r.d.toNat : Int) := by rw [← this]; rfl
    exact ⟨a, by omega, by omega⟩
theorem inN_val {r : G} (h : canP r = true) (l : List R) (hl : l.length ≤ 1000) (k : List UInt8) (i : Nat) (hi : i ≤ 4) : inN r l k i = if r.p * 4 ≤ (pre k (r.d.toNat + 1) : Int) ∧ (pre k (r.d.toNat + 1) : Int) < r.p * 4 + i then 1 else 0 := by
  induction i with
  | zero => rw [if_neg (by omega)]; rfl
  | succ i ih =>
    rw [inN_succ, ih (by omega), part_inn h l hl i (by omega)]
    simp only [decide_eq_true_eq]
    split <;> split <;> split <;> omega
/-- EACH KEY IS IN JUST ONE PART -/
theorem inN_four {r : G} (h : canP r = true) (l : List R) (hl : l.length ≤ 1000) (k : List UInt8) : inN r l k 4 = if inn r k = true then 1 else 0 := by
  rw [inN_val h l hl k 4 (by omega), inn_can h]
  obtain ⟨a1, a2, a3, a4, _⟩ := can_of h
  have := pre_up k r.d.toNat (by omega)
  have e : (pre k (r.d.toNat + 1) : Int) / 4 = (pre k r.d.toNat : Int) := by rw [← this]; rfl
  simp only [decide_eq_true_eq]
  split <;> split <;> omega
theorem allN_len (r : G) (l : List R) (i : Nat) : (allN r l i).length ≤ i * l.length := by
  induction i with
  | zero => simp [allN]
  | succ i ih =>
    have := items_len (part r l i) l
    rw [allN_succ, List.length_append, Nat.add_mul]; omega
end HG
end Go.Proofs.YtfbjakhanjbaeaaDoor

/- Records compared, ranges compared; the reference's Records. -/
namespace Go.Proofs.YtfbjakhanjbaeaaDoor
open Go.RowKit Go.Maps Go.Sort Go.Shelf Go.Lib
set_option linter.unusedVariables false
set_option linter.unusedSimpArgs false

theorem eqDgD (n : Nat) (a b : List UInt8) (ha : a.length = 32) (hb : b.length = 32) (W : World) : (Op.equalIn (n + 1 + 1) 24 (.agg (dg a)) (.agg (dg b))).run Tryd.prog W = .ok (decide (a = b)) W := by
  rw [Op.equalIn]
  simp only [Sem.run_bind, run_underlying und27, Result.andThen_ok, Tryd.sizeOf5]
  rw [Std.Legacy.Range.forIn_eq_forIn_range']
  have hl : ∀ i ∈ List.range' 0 32 1, (dg a)[i]? = some (vb (S.by8 a i)) ∧ (dg b)[i]? = some (vb (S.by8 b i)) := fun i hi => by
    have : i < 32 := by simp [List.mem_range'] at hi; omega
    exact ⟨dg_at a i (by omega), dg_at b i (by omega)⟩
  have h := eqLoop n a b (dg a) (dg b) W (List.range' 0 32 1) hl
  show ((Sem.run Tryd.prog (forIn (List.range' 0 32 1) _ _) W).andThen _) = _
  rw [h]
  by_cases he : a = b
  · subst he; simp
  · have hne : ¬ ∀ i ∈ List.range' 0 32 1, S.by8 a i = S.by8 b i := fun hall => he (eq_by8 (by omega) (fun j hj => hall j (by simp [List.mem_range']; omega)))
    rw [if_neg hne]; simp [he]
theorem part_agg {t : TypeId} {n : Nat} (ha : ∀ W, (isAgg t).run Tryd.prog W = .ok true W) (hs : ∀ W, (sizeOf t).run Tryd.prog W = .ok n W) (a m z : List Value) (o : Nat) (ho : a.length = o) (hm : m.length = n) (W : World) : (part t (a ++ (m ++ z)).toArray o).run Tryd.prog W = .ok (.agg m.toArray) W := by
  unfold part
  simp only [Sem.run_bind, ha, hs, Result.andThen_ok, if_true]
  have : ((a ++ (m ++ z)).toArray.extract o (o + n)) = m.toArray := by
    apply Array.ext'
    simp only [Array.toList_extract, List.extract_eq_take_drop]
    subst ho hm
    simp
  simp [this, ← ho, ← hm]
theorem part_one {t : TypeId} (ha : ∀ W, (isAgg t).run Tryd.prog W = .ok false W) (C : Array Value) (o : Nat) (v : Value) (h : C[o]? = some v) (W : World) : (part t C o).run Tryd.prog W = .ok v W := by
  unfold part
  simp only [Sem.run_bind, ha, Result.andThen_ok, Bool.false_eq_true, if_false, h, Sem.run_pure]

theorem R_eq (x y : HG.R) : (x = y) ↔ (x.k = y.k ∧ x.c = y.c ∧ x.o = y.o) := ⟨fun h => by subst h; exact ⟨rfl, rfl, rfl⟩, fun ⟨a, b, c⟩ => HG.R.ext' a b c⟩
def eqR (x y : HG.R) : Bool := decide (x.k = y.k ∧ x.c = y.c ∧ x.o = y.o)
theorem eqR_iff (x y : HG.R) : eqR x y = true ↔ x = y := by unfold eqR; rw [decide_eq_true_eq, R_eq]
theorem eqRec (r s : HG.R) (W : World) : (Op.equalIn 10000 48 (.agg (fR r).toArray) (.agg (fR s).toArray)).run Tryd.prog W = .ok (eqR r s) W := by
  have hS : Tryd.prog.underlying 48 = some (.struct (Tryd.prog.fieldsOf 48)) := by kernel_rfl
  have hp : Tryd.prog.stoodInHeld 48 = false := by kernel_rfl
  rw [show (10000 : Nat) = 9997 + 1 + 1 + 1 from rfl, run_equalIn_struct W (9997 + 1 + 1) 48 _ _ hS hp]
  simp only [Program.fieldsOf, Tryd.underlying48, Op.eqFields]
  have p1 := fun (r : HG.R) W => part_agg (t := 24) Tryd.isAgg24 Tryd.sizeOf24 [] (r.k.map vb) (.int .i64 r.c :: r.o.map vb) 0 rfl (by simp [r.hk]) W
  have q32 : ∀ r : HG.R, (fR r).toArray[32]? = some (.int .i64 r.c) := fun r => by
    unfold fR; rw [List.getElem?_toArray, List.getElem?_append_right (by simp [r.hk])]; simp [r.hk]
  have p2 := fun (r : HG.R) W => part_one (t := 28) Tryd.isAgg28 (fR r).toArray 32 (.int .i64 r.c) (q32 r) W
  have p3 := fun (r : HG.R) W => part_agg (t := 24) Tryd.isAgg24 Tryd.sizeOf24 (r.k.map vb ++ [.int .i64 r.c]) (r.o.map vb) [] 33 (by simp [r.hk]) (by simp [r.ho]) W
  have e1 : ∀ r : HG.R, ([] ++ (r.k.map vb ++ (Value.int .i64 r.c :: r.o.map vb))).toArray = (fR r).toArray := fun r => by simp [fR]
  have e3 : ∀ r : HG.R, ((r.k.map vb ++ [Value.int .i64 r.c]) ++ (r.o.map vb ++ [])).toArray = (fR r).toArray := fun r => by simp [fR]
  simp only [e1] at p1
  simp only [e3] at p3
  have h1 := eqDgD 9997 r.k s.k r.hk s.hk
  have h2 : ∀ W, (Op.equalIn (9997 + 1 + 1) 28 (.int .i64 r.c) (.int .i64 s.c)).run Tryd.prog W = .ok (r.c == s.c) W := fun W => run_equalIn_int W (9997 + 1) 28 .i64 .i64 r.c s.c Tryd.underlying28
  have h3 := eqDgD 9997 r.o s.o r.ho s.ho
  simp only [dg] at h1 h3
  have P1 := p1 r
  have P1' := p1 s
  have P2 := p2 r
  have P2' := p2 s
  have P3 := p3 r
  have P3' := p3 s
  have HEQ : Hid (eqR r s = decide (r.k = s.k ∧ r.c = s.c ∧ r.o = s.o)) := rfl
  rw [HEQ.out]
  clear p1 p2 p3 e1 e3 hS hp q32 HEQ
  generalize (fR r).toArray = R at *
  generalize (fR s).toArray = S' at *
  generalize r.k = rk at *
  generalize r.c = rc at *
  generalize r.o = ro at *
  generalize s.k = sk at *
  generalize s.c = sc at *
  generalize s.o = so at *
  by_cases q1 : rk = sk
  · subst q1
    by_cases q2 : rc = sc
    · subst q2
      by_cases q3 : ro = so
      · subst q3
        simp [P1, P1', P2, P2', P3, P3', h1, h2, h3]
      · simp [P1, P1', P2, P2', P3, P3', h1, h2, h3, q3]
    · simp [P1, P1', P2, P2', h1, h2, q2]
  · simp [P1, P1', h1, q1]
theorem G_eq (x y : HG.G) : (x = y) ↔ (x.d = y.d ∧ x.p = y.p ∧ x.n = y.n ∧ x.s = y.s) := ⟨fun h => by subst h; exact ⟨rfl, rfl, rfl, rfl⟩, fun ⟨a, b, c, d⟩ => HG.G.ext' a b c d⟩
def eqG (x y : HG.G) : Bool := decide (x.d = y.d ∧ x.p = y.p ∧ x.n = y.n ∧ x.s = y.s)
theorem eqG_iff (x y : HG.G) : eqG x y = true ↔ x = y := by unfold eqG; rw [decide_eq_true_eq, G_eq]
theorem eqRng (r s : HG.G) (W : World) : (Op.equalIn 10000 26 (.agg (fG r).toArray) (.agg (fG s).toArray)).run Tryd.prog W = .ok (eqG r s) W := by
  have hS : Tryd.prog.underlying 26 = some (.struct (Tryd.prog.fieldsOf 26)) := by kernel_rfl
  have hp : Tryd.prog.stoodInHeld 26 = false := by kernel_rfl
  rw [show (10000 : Nat) = 9997 + 1 + 1 + 1 from rfl, run_equalIn_struct W (9997 + 1 + 1) 26 _ _ hS hp]
  simp only [Program.fieldsOf, Tryd.underlying26, Op.eqFields]
  have p0 := fun (r : HG.G) W => part_one (t := 3) Tryd.isAgg3 (fG r).toArray 0 (.int .i64 r.d) rfl W
  have p1 := fun (r : HG.G) W => part_one (t := 3) Tryd.isAgg3 (fG r).toArray 1 (.int .i64 r.p) rfl W
  have p2 := fun (r : HG.G) W => part_one (t := 3) Tryd.isAgg3 (fG r).toArray 2 (.int .i64 r.n) rfl W
  have p3 := fun (r : HG.G) W => part_agg (t := 24) Tryd.isAgg24 Tryd.sizeOf24 [.int .i64 r.d, .int .i64 r.p, .int .i64 r.n] (r.s.map vb) [] 3 rfl (by simp [r.hs]) W
  have e3 : ∀ r : HG.G, ([Value.int .i64 r.d, .int .i64 r.p, .int .i64 r.n] ++ (r.s.map vb ++ [])).toArray = (fG r).toArray := fun r => by simp [fG]
  simp only [e3] at p3
  have hi : ∀ (x y : Int) W, (Op.equalIn (9997 + 1 + 1) 3 (.int .i64 x) (.int .i64 y)).run Tryd.prog W = .ok (x == y) W := fun x y W => run_equalIn_int W (9997 + 1) 3 .i64 .i64 x y Tryd.underlying3
  have h3 := eqDgD 9997 r.s s.s r.hs s.hs
  simp only [dg] at h3
  have P0 := p0 r
  have P0' := p0 s
  have P1 := p1 r
  have P1' := p1 s
  have P2 := p2 r
  have P2' := p2 s
  have P3 := p3 r
  have P3' := p3 s
  have HEQ : Hid (eqG r s = decide (r.d = s.d ∧ r.p = s.p ∧ r.n = s.n ∧ r.s = s.s)) := rfl
  rw [HEQ.out]
  clear p0 p1 p2 p3 e3 hS hp HEQ
  generalize (fG r).toArray = R at *
  generalize (fG s).toArray = S' at *
  generalize r.d = rd at *
  generalize r.p = rp at *
  generalize r.n = rn at *
  generalize r.s = rs at *
  generalize s.d = sd at *
  generalize s.p = sp at *
  generalize s.n = sn at *
  generalize s.s = ss at *
  by_cases q0 : rd = sd
  · subst q0
    by_cases q1 : rp = sp
    · subst q1
      by_cases q2 : rn = sn
      · subst q2
        by_cases q3 : rs = ss
        · subst q3
          simp [P0, P0', P1, P1', P2, P2', P3, P3', hi, h3]
        · simp [P0, P0', P1, P1', P2, P2', P3, P3', hi, h3, q3]
      · simp [P0, P0', P1, P1', P2, P2', hi, q2]
    · simp [P0, P0', P1, P1', hi, q1]
  · simp [P0, P0', hi, q0]

structure RcP (P : Program) (k : Nat) : Prop where
  mixed : P.follows .mixedOrders = true
  F : P.funcs[14]? = some Tryd.f14
  t3 : P.underlying 3 = some (.int .i64)
  a3 : ∀ w, (isAgg 3).run P w = .ok false w
  z3 : ∀ w, (Go.sizeOf 3).run P w = .ok 1 w
  v3 : ∀ w, (zeroValue 3).run P w = .ok (.int .i64 0) w
  t4 : P.underlying 4 = some .bool
  a4 : ∀ w, (isAgg 4).run P w = .ok false w
  z4 : ∀ w, (Go.sizeOf 4).run P w = .ok 1 w
  v4 : ∀ w, (zeroValue 4).run P w = .ok (.bool false) w
  t22 : P.underlying 22 = some (.slice 48)
  a22 : ∀ w, (isAgg 22).run P w = .ok false w
  z22 : ∀ w, (Go.sizeOf 22).run P w = .ok 1 w
  v22 : ∀ w, (zeroValue 22).run P w = .ok (.slice none 0 0) w
  gE : P.eqGuardType P.depth 48 = false
  aE : ∀ w, (isAgg 48).run P w = .ok true w
  zE : ∀ w, (Go.sizeOf 48).run P w = .ok k w
theorem rcP : RcP Tryd.prog 65 where
  mixed := by kernel_rfl
  F := Tryd.func14
  t3 := Tryd.underlying3
  a3 := Tryd.isAgg3
  z3 := Tryd.sizeOf3
  v3 := Tryd.zeroValue3
  t4 := Tryd.underlying4
  a4 := Tryd.isAgg4
  z4 := Tryd.sizeOf4
  v4 := Tryd.zeroValue4
  t22 := Tryd.underlying22
  a22 := Tryd.isAgg22
  z22 := Tryd.sizeOf22
  v22 := Tryd.zeroValue22
  gE := by kernel_rfl
  aE := Tryd.isAgg48
  zE := Tryd.sizeOf48
set_option maxHeartbeats 4000000 in
set_option maxRecDepth 8000 in
theorem recs_g {P : Program} {k : Nat} (L : RcP P k) (n m : Nat) (hn : n ≤ 100000) (A B : Nat → List Value) (hA : ∀ i, (A i).length = k) (hB : ∀ i, (B i).length = k) (e : Nat → Bool) (he : ∀ i, i < n → ∀ w, (Op.equalIn 10000 48 (.agg (A i).toArray) (.agg (B i).toArray)).run P w = .ok (e i) w) (a b : Option Addr) (c d : Nat) (W : World)
    (ra : n = m → ∀ i, i < n → ∃ ba oa, a = some ⟨ba, oa, none⟩ ∧ W.rangeAt ba (oa + i * k) (A i)) (rb : n = m → ∀ i, i < n → ∃ ba oa, b = some ⟨ba, oa, none⟩ ∧ W.rangeAt ba (oa + i * k) (B i)) :
    Calls P 14 #[.slice a n c, .slice b m d] W fun e' w' => e' = .returned (.bool (decide (n = m) && (List.range n).all e)) ∧ Gn W w' := by
  have mixed := L.mixed; have t3 := L.t3; have a3 := L.a3; have z3 := L.z3; have v3 := L.v3; have t4 := L.t4; have a4 := L.a4; have z4 := L.z4; have v4 := L.v4
  have t22 := L.t22; have a22 := L.a22; have z22 := L.z22; have v22 := L.v22; have aE := L.aE; have zE := L.zE; have gE := L.gE
  have u22 := run_underlying L.t22
  have HE := hidI he
  have HAL := hidI hA
  have HBL := hidI hB
  clear he hA hB
  by_cases hnm : n = m
  · have RA := hidI (ra hnm)
    have RB := hidI (rb hnm)
    clear ra rb
    subst hnm
    have h0 : ((n : Int) != (n : Int)) = false := by simp
    have HX : Hid ((decide (n = n) && (List.range n).all e) = (List.range n).all e) := by show _ = _; simp
    rw [HX.out]
    clear HX
    obtain ⟨qq, hqq⟩ : ∃ qq, qq = (List.range n).all e := ⟨_, rfl⟩
    rw [← hqq]
    have HQQ := hidI hqq
    clear hqq
    go_enter L.F, Tryd.ntmps14
    go_wp2_with fail
    go_loopw [5] (fun u wr => ∃ i : Nat, i ≤ n ∧ u = .int .i64 i ∧ (List.range i).all e = true ∧ Gn W wr) (fun u _ => n - (intOf u).toNat)
    case atStart => exact ⟨0, Nat.zero_le _, rfl, by simp, Gn.refl W⟩
    case round =>
      obtain ⟨i, hin, rfl, hall, hg⟩ := hrel
      have HALL := hidI hall
      have HG := hidI hg
      clear hall
      by_cases hlt : i < n
      · have hltz : (i : Int) < (n : Int) := by omega
        obtain ⟨ba, oa, rfl, r1⟩ := RA.out i hlt
        obtain ⟨bb, ob, rfl, r2⟩ := RB.out i hlt
        have r1' : wr.rangeAt ba (oa + i * k) (A i) := by
          obtain ⟨q, os, rfl⟩ := hg
          exact fun j v h => grow_cell (r1 j v h) q os
        have r2' : wr.rangeAt bb (ob + i * k) (B i) := by
          obtain ⟨q, os, rfl⟩ := hg
          exact fun j v h => grow_cell (r2 j v h) q os
        have l1 : ∀ n' os', Sem.run P (loadCellsFrom ⟨ba, oa + i * k, none⟩ 0 k #[]) (grow (wr.drewN n') os') = .ok (A i).toArray (grow (wr.drewN n') os') := fun n os => grow_loads r1' (HAL.out i) n os
        have l2 : ∀ n' os', Sem.run P (loadCellsFrom ⟨bb, ob + i * k, none⟩ 0 k #[]) (grow (wr.drewN n') os') = .ok (B i).toArray (grow (wr.drewN n') os') := fun n os => grow_loads r2' (HBL.out i) n os
        have hq := HE.out i hlt
        have s1 : (A i).toArray.size = k := by simpa using HAL.out i
        have s2 : (B i).toArray.size = k := by simpa using HBL.out i
        have HS : Hid ((List.range (i + 1)).all e = ((List.range i).all e && e i)) := by show _ = _; rw [List.range_succ]; simp
        have HF : Hid (e i = false → (List.range n).all e = false) := fun h => by
          rw [Bool.eq_false_iff]
          intro h2
          have := List.all_eq_true.1 h2 i (List.mem_range.2 hlt)
          rw [h] at this; cases this
        have HT : Hid (∀ n os, Gn W (grow (wr.drewN n) os)) := fun n os => HG.out.trans ⟨n, os, rfl⟩
        clear r1 r2 r1' r2' hg RA RB
        generalize (A i).toArray = CA at *
        generalize (B i).toArray = CB at *
        cases hei : e i with
        | true =>
          rw [hei] at hq HS
          clear hei
          go_wp2_with fail
          go_quiet_grown (fail)
          go_wp2_with fail
          go_roundw
          case rel => exact ⟨i + 1, by omega, by first | rfl | go_num, by rw [HS.out, HALL.out]; rfl, HT.out _ _⟩
          case measure => simp [intOf]; omega
        | false =>
          rw [hei] at hq
          have HF2 := hidI (HF.out hei)
          have HQF : Hid (qq = false) := by show _ = _; rw [HQQ.out]; exact HF2.out
          clear hei HF HF2 HQQ
          go_wp2_with fail
          go_quiet_grown (fail)
          go_wp2_with fail
          go_ret
          exact ⟨by rw [HQF.out]; rfl, HT.out _ _⟩
      · obtain rfl : i = n := by omega
        have hltz : ¬ (i : Int) < (i : Int) := by omega
        have HQF : Hid (qq = true) := by show _ = _; rw [HQQ.out]; exact HALL.out
        clear hg HQQ
        go_wp2_with fail
        go_ret
        exact ⟨by rw [HQF.out]; rfl, HG.out⟩
  · have h0 : ((n : Int) != (m : Int)) = true := by simp; omega
    have hx : (decide (n = m) && (List.range n).all e) = false := by simp [hnm]
    rw [hx]
    clear hx hnm ra rb
    go_enter L.F, Tryd.ntmps14
    go_wp2_with fail
    go_ret
    exact ⟨rfl, Gn.refl W⟩
/-- two lists of records compared -/
def eqRs (l m : List HG.R) : Bool := decide (l.length = m.length) && (List.range l.length).all fun i => eqR (l[i]?.getD HG.r0) (m[i]?.getD HG.r0)
theorem eqRs_iff (l m : List HG.R) : eqRs l m = true ↔ l = m := by
  unfold eqRs
  rw [Bool.and_eq_true, decide_eq_true_eq, List.all_eq_true]
  constructor
  · rintro ⟨hnm, hall⟩
    refine List.ext_getElem hnm fun i h1 h2 => ?_
    have := (eqR_iff _ _).1 (hall i (List.mem_range.2 h1))
    rwa [List.getElem?_eq_getElem h1, List.getElem?_eq_getElem h2] at this
  · intro h
    subst h
    exact ⟨rfl, fun i _ => (eqR_iff _ _).2 rfl⟩
/-- the reference's Records -/
theorem Records_x (l m : List HG.R) (u v : Value) (W : World) (hu : SL W u l) (hv : SL W v m) (hl : l.length ≤ 1000) :
    Calls Tryd.prog 14 #[u, v] W fun e w' => e = .returned (.bool (eqRs l m)) ∧ Bl W w' := by
  obtain ⟨a, c, rfl, r1, _⟩ := hu
  obtain ⟨b, d, rfl, r2, _⟩ := hv
  have h := recs_g rcP l.length m.length (by omega) (fun i => fR (l[i]?.getD HG.r0)) (fun i => fR (m[i]?.getD HG.r0)) (fun i => fR_len _) (fun i => fR_len _) (fun i => eqR (l[i]?.getD HG.r0) (m[i]?.getD HG.r0)) (fun i _ w => eqRec _ _ w) a b c d W
    (fun hnm i hi => by
      obtain ⟨ba, oa, e1, _, e2⟩ := r1 i l[i] (List.getElem?_eq_getElem hi)
      refine ⟨ba, oa, e1, ?_⟩
      rw [List.getElem?_eq_getElem hi]; exact e2)
    (fun hnm i hi => by
      have hi2 : i < m.length := by omega
      obtain ⟨ba, oa, e1, _, e2⟩ := r2 i m[i] (List.getElem?_eq_getElem hi2)
      refine ⟨ba, oa, e1, ?_⟩
      rw [List.getElem?_eq_getElem hi2]; exact e2)
  refine Calls.mono h ?_
  rintro e w' ⟨rfl, g⟩
  exact ⟨rfl, gn_bl g⟩
end Go.Proofs.YtfbjakhanjbaeaaDoor
