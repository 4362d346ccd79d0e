/- Names, entries and records compared by '=='. -/
import Derived.Test.YtlkllcnnnndllaaGreatDoorE9
import Derived.Laws.StructEq
namespace Go.Proofs.YtlkllcnnnndllaaGreatDoor
open Go.RowKit
set_option linter.unusedVariables false
set_option linter.unusedSimpArgs false

theorem eqDgD (n : Nat) (a b : List UInt8) (ha : a.length = 32) (hb : b.length = 32) (W : World) : (Op.equalIn (n + 1 + 1) 39 (.agg (dg a)) (.agg (dg b))).run Tryz.prog W = .ok (decide (a = b)) W := by
  rw [Op.equalIn]
  simp only [Sem.run_bind, run_underlying und27, Result.andThen_ok, Tryz.sizeOf5]
  rw [Std.Legacy.Range.forIn_eq_forIn_range']
  have hl : ∀ i ∈ List.range' 0 32 1, (dg a)[i]? = some (vb (S.by8 a i)) ∧ (dg b)[i]? = some (vb (S.by8 b i)) := fun i hi => by
    have : i < 32 := by simp [List.mem_range'] at hi; omega
    exact ⟨dg_at a i (by omega), dg_at b i (by omega)⟩
  have h := eqLoop n a b (dg a) (dg b) W (List.range' 0 32 1) hl
  show ((Sem.run Tryz.prog (forIn (List.range' 0 32 1) _ _) W).andThen _) = _
  rw [h]
  by_cases he : a = b
  · subst he; simp
  · have hne : ¬ ∀ i ∈ List.range' 0 32 1, S.by8 a i = S.by8 b i := fun hall => he (eq_by8 (by omega) (fun j hj => hall j (by simp [List.mem_range']; omega)))
    rw [if_neg hne]; simp [he]
theorem part_agg {t : TypeId} {n : Nat} (ha : ∀ W, (isAgg t).run Tryz.prog W = .ok true W) (hs : ∀ W, (sizeOf t).run Tryz.prog W = .ok n W) (a m z : List Value) (o : Nat) (ho : a.length = o) (hm : m.length = n) (W : World) : (part t (a ++ (m ++ z)).toArray o).run Tryz.prog W = .ok (.agg m.toArray) W := by
  unfold part
  simp only [Sem.run_bind, ha, hs, Result.andThen_ok, if_true]
  have : ((a ++ (m ++ z)).toArray.extract o (o + n)) = m.toArray := by
    apply Array.ext'
    simp only [Array.toList_extract, List.extract_eq_take_drop]
    subst ho hm
    simp
  simp [this, ← ho, ← hm]
theorem part_one {t : TypeId} (ha : ∀ W, (isAgg t).run Tryz.prog W = .ok false W) (C : Array Value) (o : Nat) (v : Value) (h : C[o]? = some v) (W : World) : (part t C o).run Tryz.prog W = .ok v W := by
  unfold part
  simp only [Sem.run_bind, ha, Result.andThen_ok, Bool.false_eq_true, if_false, h, Sem.run_pure]
theorem eqNm (n : Nat) (k k' a a' : List UInt8) (ha : a.length = 32) (ha' : a'.length = 32) (W : World) : (Op.equalIn (n + 1 + 1 + 1) 72 (.agg (nmv k a)) (.agg (nmv k' a'))).run Tryz.prog W = .ok (decide (k = k' ∧ a = a')) W := by
  have hS : Tryz.prog.underlying 72 = some (.struct (Tryz.prog.fieldsOf 72)) := by kernel_rfl
  have hp : Tryz.prog.stoodInHeld 72 = false := by kernel_rfl
  rw [run_equalIn_struct W (n + 1 + 1) 72 _ _ hS hp]
  simp only [Program.fieldsOf, Tryz.underlying72, Op.eqFields]
  have p1 := fun (k a : List UInt8) W => part_one (t := 9) Tryz.isAgg9 (nmv k a) 0 (.string (M.bs k)) rfl W
  have p2 := fun (k a : List UInt8) (h : a.length = 32) W => part_agg (t := 39) Tryz.isAgg39 Tryz.sizeOf39 [.string (M.bs k)] (a.map vb) [] 1 rfl (by simp [h]) W
  have e2 : ∀ k a : List UInt8, ([Value.string (M.bs k)] ++ (a.map vb ++ [])).toArray = nmv k a := fun k a => by simp [nmv, nmL]
  simp only [e2] at p2
  have hq : ∀ W, (Op.equalIn (n + 1 + 1) 9 (.string (M.bs k)) (.string (M.bs k'))).run Tryz.prog W = .ok ((M.bs k).toList == (M.bs k').toList) W := fun W => run_equalIn_string W (n + 1) 9 _ _ Tryz.underlying9
  have hd := eqDgD n a a' ha ha'
  have hk := bs_eqL k k'
  simp only [dg] at hd
  by_cases h1 : k = k'
  · subst h1
    by_cases h2 : a = a'
    · subst h2
      simp [p1, p2 _ _ ha, hq, hd]
    · simp [p1, p2 _ _ ha, p2 _ _ ha', hq, hd, h2]
  · have hk' : ((M.bs k).toList == (M.bs k').toList) = false := by rw [hk]; simp [h1]
    simp [p1, hq, hk', h1]
theorem eqEv (k k' a a' c c' : List UInt8) (ha : a.length = 32) (ha' : a'.length = 32) (hc : c.length = 32) (hc' : c'.length = 32) (W : World) : (Op.equalIn 10000 74 (.agg (ev k a c)) (.agg (ev k' a' c'))).run Tryz.prog W = .ok (decide (k = k' ∧ a = a' ∧ c = c')) W := by
  have hS : Tryz.prog.underlying 74 = some (.struct (Tryz.prog.fieldsOf 74)) := by kernel_rfl
  have hp : Tryz.prog.stoodInHeld 74 = false := by kernel_rfl
  rw [show (10000 : Nat) = 9996 + 1 + 1 + 1 + 1 from rfl, run_equalIn_struct W (9996 + 1 + 1 + 1) 74 _ _ hS hp]
  simp only [Program.fieldsOf, Tryz.underlying74, Op.eqFields]
  have p1 := fun (k a c : List UInt8) (h : a.length = 32) W => part_agg (t := 72) Tryz.isAgg72 Tryz.sizeOf72 [] (nmL k a) (c.map vb) 0 rfl (nmL_length h) W
  have p2 := fun (k a c : List UInt8) (h : a.length = 32) (hc : c.length = 32) W => part_agg (t := 39) Tryz.isAgg39 Tryz.sizeOf39 (nmL k a) (c.map vb) [] 33 (nmL_length h) (by simp [hc]) W
  have e1 : ∀ k a c : List UInt8, ([] ++ (nmL k a ++ c.map vb)).toArray = ev k a c := fun k a c => by simp [ev, evL]
  have e2 : ∀ k a c : List UInt8, (nmL k a ++ (c.map vb ++ [])).toArray = ev k a c := fun k a c => by simp [ev, evL]
  simp only [e1] at p1
  simp only [e2] at p2
  have hn := eqNm 9996 k k' a a' ha ha'
  have hd := eqDgD (9996 + 1) c c' hc hc'
  simp only [dg] at hd
  simp only [nmv] at hn
  by_cases h1 : k = k' ∧ a = a'
  · obtain ⟨rfl, rfl⟩ := h1
    by_cases h2 : c = c'
    · subst h2
      simp [p1 _ _ _ ha, p2 _ _ _ ha hc, hn, hd]
    · simp [p1 _ _ _ ha, p2 _ _ _ ha hc, p2 _ _ _ ha hc', hn, hd, h2]
  · have h3 : ¬ (k = k' ∧ a = a' ∧ c = c') := fun h => h1 ⟨h.1, h.2.1⟩
    simp [p1 _ _ _ ha, p1 _ _ _ ha', hn, h1, h3]
theorem eqRc (r s : V.Rc) (hr : Rc32 r) (hs : Rc32 s) (W : World) : (Op.equalIn 10000 41 (.agg (rv r)) (.agg (rv s))).run Tryz.prog W = .ok (decide (r.key = s.key ∧ r.code = s.code ∧ r.out = s.out)) W := by
  have hS : Tryz.prog.underlying 41 = some (.struct (Tryz.prog.fieldsOf 41)) := by kernel_rfl
  have hp : Tryz.prog.stoodInHeld 41 = false := by kernel_rfl
  rw [show (10000 : Nat) = 9997 + 1 + 1 + 1 from rfl, run_equalIn_struct W (9997 + 1 + 1) 41 _ _ hS hp]
  simp only [Program.fieldsOf, Tryz.underlying41, Op.eqFields]
  have p1 := fun (r : V.Rc) (h : Rc32 r) W => part_agg (t := 39) Tryz.isAgg39 Tryz.sizeOf39 [] (r.key.map vb) (.int .i64 r.code :: r.out.map vb) 0 rfl (by simp [h.k]) W
  have p2 := fun (r : V.Rc) (h : Rc32 r) W => part_one (t := 32) Tryz.isAgg32 (rv r) 32 (.int .i64 r.code) (rv_32 h) W
  have p3 := fun (r : V.Rc) (h : Rc32 r) W => part_agg (t := 39) Tryz.isAgg39 Tryz.sizeOf39 (r.key.map vb ++ [.int .i64 r.code]) (r.out.map vb) [] 33 (by simp [h.k]) (by simp [h.o]) W
  have e1 : ∀ r : V.Rc, ([] ++ (r.key.map vb ++ (Value.int .i64 r.code :: r.out.map vb))).toArray = rv r := fun r => by simp [rv, rvL]
  have e3 : ∀ r : V.Rc, ((r.key.map vb ++ [Value.int .i64 r.code]) ++ (r.out.map vb ++ [])).toArray = rv r := fun r => by simp [rv, rvL]
  simp only [e1] at p1
  simp only [e3] at p3
  have h1 := eqDgD 9997 r.key s.key hr.k hs.k
  have h2 : ∀ W, (Op.equalIn (9997 + 1 + 1) 32 (.int .i64 r.code) (.int .i64 s.code)).run Tryz.prog W = .ok (r.code == s.code) W := fun W => run_equalIn_int W (9997 + 1) 32 .i64 .i64 r.code s.code Tryz.underlying32
  have h3 := eqDgD 9997 r.out s.out hr.o hs.o
  simp only [dg] at h1 h3
  have P1 := p1 r hr
  have P1' := p1 s hs
  have P2 := p2 r hr
  have P2' := p2 s hs
  have P3 := p3 r hr
  have P3' := p3 s hs
  clear p1 p2 p3 e1 e3 hr hs hS hp
  generalize rv r = R at *
  generalize rv s = S' at *
  obtain ⟨rk, rc, ro⟩ := r
  obtain ⟨sk, sc, so⟩ := s
  simp only at *
  by_cases q1 : rk = sk
  · subst q1
    by_cases q2 : rc = sc
    · subst q2
      by_cases q3 : ro = so
      · subst q3
        simp [P1, P1', P2, P2', P3, P3', h1, h2, h3]
      · simp [P1, P1', P2, P2', P3, P3', h1, h2, h3, q3]
    · simp [P1, P1', P2, P2', h1, h2, q2]
  · simp [P1, P1', h1, q1]
end Go.Proofs.YtlkllcnnnndllaaGreatDoor
