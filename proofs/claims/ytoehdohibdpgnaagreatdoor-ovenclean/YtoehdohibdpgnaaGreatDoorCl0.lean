/- For OvenClean: a row of sources of one's own. -/
import Derived.Test.YtoehdohibdpgnaaGreatDoorRun9
import Derived.Test.YtoehdohibdpgnaaGreatDoorZC
import Derived.Laws.StructEq
namespace Go.Proofs.YtoehdohibdpgnaaGreatDoor
open Go.RowKit
set_option linter.unusedVariables false
set_option linter.unusedSimpArgs false

theorem own_empty9 (W : World) (T : TypeId) (k : Nat) : (W.alloc (.cells #[] T)).ownsRow W.heap.size T k (.slice (some ⟨W.heap.size, 0, none⟩) 0 0) 0 [] :=
  ⟨by simp, Or.inr ⟨W.heap.size, 0, #[], rfl, Nat.le_refl _, heap_alloc_new W _, Nat.le_refl _, by decide, by simp, by simp⟩⟩
/-- a slice of things is appended to a row of one's own -/
theorem wl_appG {α : Type} (E : Lay α) {ops : Array Oper} {rest : List Oper} {o : Oper} {a : Act} {W : World} {Q : Exit → Act → World → Prop} (T TS : TypeId) (z : Value) (bytes : Nat)
    (hund : Tryz.prog.underlying TS = some (.slice T)) (hinfo : (Tryz.prog.info? T).map (fun i => (i.zero, i.size, i.bytes)) = some (some z, E.k, bytes)) (hzc : z.cells.size = E.k) (hby : bytes ≤ 4096)
    (hgd : o.guard = none) (s x : Operand) (ho : o.op = .call { callee := .builtin .append, args := #[s, x], argTypes := #[TS, TS] }) (B : Nat) (ks : List α) (v : Value) (hs : a.eval s = v) (hB : B ≤ W.heap.size) (hown : W.ownsRow B T E.k v ks.length (flG E ks))
    (ad : Option Addr) (l : List α) (n c : Nat) (hn0 : n = l.length) (hx : a.eval x = .slice ad n c) (hl : RS E W ad l) (hn : ks.length + l.length ≤ 90000)
    (h : ∀ v' w', w'.ownsRow B T E.k v' (ks ++ l).length (flG E (ks ++ l)) → W.grownBy w' v.ownBlock → wpList Tryz.prog ops Q rest (a.put o.dst v') w') : wpList Tryz.prog ops Q (o :: rest) a W := by
  subst hn0
  have hk := E.pos
  obtain ⟨i0, hi0, hz0, hz1, hz2⟩ := TA.info_partsT hinfo
  by_cases h0 : l = []
  · subst h0
    refine wpList_plain hgd fun K hK => ?_
    have hrun : (Builtin.append_ #[TS, TS] o.type #[v, .slice ad 0 c]).run Tryz.prog W = .ok v W := by
      have hld : ∀ a : Addr, (loadCells a 0).run Tryz.prog W = .ok #[] W := fun a => by simp [loadCells, loadCellsFrom]
      rcases hown.2 with ⟨rfl, hh⟩ | ⟨g, cap, cur, rfl, _, _, hnc, _⟩ <;> cases ad
      · simp [Builtin.append_, run_underlying hund, sizeOf, typeInfo, hi0, Builtin.lenOf, Builtin.firstCells, hh]
      · simp [Builtin.append_, run_underlying hund, sizeOf, typeInfo, hi0, Builtin.lenOf, Builtin.firstCells, hh, hld]
      · simp [Builtin.append_, run_underlying hund, sizeOf, typeInfo, hi0, Builtin.lenOf, Builtin.firstCells, hnc, storeCells]
      · simp [Builtin.append_, run_underlying hund, sizeOf, typeInfo, hi0, Builtin.lenOf, Builtin.firstCells, hnc, storeCells, hld]
    have hK' := hK _ _ (h v W (by simpa using hown) ⟨rfl, rfl, rfl, Nat.le_refl _, fun _ _ _ => rfl⟩)
    have hx' : a.eval x = .slice ad 0 c := hx
    unfold Oper.wp
    simp [execOp, ho, resolve, invoke, builtin, hs, hx', hrun, Result.andThen]
    exact hK'
  · have hpos : 0 < l.length := List.length_pos_iff.2 h0
    obtain ⟨t0, ht0⟩ : ∃ t0, l[0]? = some t0 := ⟨l[0], List.getElem?_eq_getElem hpos⟩
    obtain ⟨sb, off, rfl, _, _⟩ := hl 0 t0 ht0
    have hall : ∀ j u, (flG E l)[j]? = some u → W.cell? ⟨sb, off + j, none⟩ = some u := fun j u hu => by
      have hj := (List.getElem?_eq_some_iff.1 hu).1
      rw [flG_len] at hj
      obtain ⟨t, ht⟩ : ∃ t, l[j / E.k]? = some t := ⟨l[j / E.k]'(Nat.div_lt_of_lt_mul (by rw [Nat.mul_comm]; exact hj)), List.getElem?_eq_getElem _⟩
      obtain ⟨sb', off', e, _, hc⟩ := hl _ t ht
      cases e
      obtain ⟨p, q, e1, e2⟩ := flG_at E l ht
      have hm := Nat.mod_lt j hk
      have hd := Nat.div_add_mod' j E.k
      rw [e1, List.getElem?_append_right (by omega), e2, List.getElem?_append_left (by rw [E.len]; omega)] at hu
      have := hc _ _ hu
      rwa [show off + j / E.k * E.k + (j - j / E.k * E.k) = off + j by omega] at this
    refine wpList_append_lies _ hgd s x TS ho B T i0 z E.k bytes hund hi0 hz0 hz1 hz2 hzc hk v ks.length (flG E ks) hs hown ⟨sb, off, none⟩ l.length c (flG E l) hx (flG_len E l) (fun j u hu => by rw [Addr.add_mid]; exact hall j u hu) (flG_one E l) hpos (by unfold maxLen; omega) ?_ hB W.heap.size rfl (fun g cap w' h1 h2 h3 h4 => ?_)
    · have : (ks.length + l.length) * bytes ≤ 90000 * 4096 := Nat.mul_le_mul (by omega) hby
      omega
    · exact h _ w' (by rw [List.length_append, flG_app]; exact h1) h2
theorem infoSo3 : (Tryz.prog.info? 39).map (fun i => (i.zero, i.size, i.bytes)) = some (some (.agg #[.string ⟨#[]⟩, .string ⟨#[]⟩]), 2, 32) := by kernel_rfl
theorem infoTx3 : (Tryz.prog.info? 9).map (fun i => (i.zero, i.size, i.bytes)) = some (some (.string ⟨#[]⟩), 1, 16) := by kernel_rfl
theorem heap_setCell_rowC {w : World} {b i : Nat} {C : Array Value} {t : TypeId} {fr : Nat × Nat} {v : Value} (h : w.heap[b]? = some (.cells C t fr)) : (w.setCell ⟨b, i, none⟩ v).heap[b]? = some (.cells (C.setIfInBounds i v) t fr) := by
  show (w.heap.modify b _)[b]? = _
  rw [Array.getElem?_modify, if_pos rfl, h]; rfl
theorem flS_set : ∀ (L : List O.So) (k : Nat) (r : O.So) (t : List UInt8), L[k]? = some r → (flG lyS L).set (k * 2 + 1) (.string (M.bs t)) = flG lyS (L.set k (r.1, t))
  | [], k, r, t, h => by simp at h
  | x :: L, 0, r, t, h => by
    simp at h; subst h
    rfl
  | x :: L, k + 1, r, t, h => by
    have h' : L[k]? = some r := by simpa using h
    have ih := flS_set L k r t h'
    have e : ∀ K : List O.So, flG lyS (x :: K) = .string (M.bs x.1) :: .string (M.bs x.2) :: flG lyS K := fun K => rfl
    rw [List.set_cons_succ, e, e, ← ih, show (k + 1) * 2 + 1 = (k * 2 + 1) + 1 + 1 by omega]
    rfl
/-- a blob of a row of one's own is written anew -/
theorem own_setC {W : World} {B g n cap : Nat} {L : List O.So} {k : Nat} {r : O.So} (hn : n = L.length) (h : W.ownsRow B 39 2 (.slice (some ⟨g, 0, none⟩) n cap) n (flG lyS L)) (hk : L[k]? = some r) (t : List UInt8) :
    B ≤ g ∧ g < W.heap.size ∧ W.frozen? ⟨g, k * 2 + 1, none⟩ = false ∧ (W.setCell ⟨g, k * 2 + 1, none⟩ (.string (M.bs t))).ownsRow B 39 2 (.slice (some ⟨g, 0, none⟩) n cap) n (flG lyS (L.set k (r.1, t))) := by
  obtain ⟨h0, ⟨h1, h2⟩ | ⟨g', cap', cur, h1, h2, h3, h4, h5, h6, h7⟩⟩ := h
  · cases h1
  · simp only [Value.slice.injEq, Option.some.injEq, Addr.mk.injEq, true_and, and_true] at h1
    obtain ⟨rfl, rfl⟩ := h1
    refine ⟨h2, TA.lt_heap h3, by simp [World.frozen?, h3], ?_, Or.inr ⟨g, cap, cur.setIfInBounds (k * 2 + 1) (.string (M.bs t)), rfl, h2, heap_setCell_rowC h3, h4, h5, by simpa using h6, ?_⟩⟩
    · rw [flG_len, List.length_set, hn]; rfl
    · rw [Array.toList_setIfInBounds, List.take_set, h7, flS_set L k r t hk]
theorem grown_setC (w : World) (b i : Nat) (v : Value) : w.grownBy (w.setCell ⟨b, i, none⟩ v) (some b) :=
  ⟨rfl, rfl, rfl, by simp [World.setCell], fun k hk hb => Below.heap_setCell _ _ _ _ (fun e => hb (by rw [e]))⟩
/-- a thing that was built is like itself -/
theorem eqBu (a : List UInt8 × O.Re) (W : World) : (Op.equalIn 10000 45 (.agg (lyB.f a).toArray) (.agg (lyB.f a).toArray)).run Tryz.prog W = .ok true W := by
  have hS : Tryz.prog.underlying 45 = some (.struct (Tryz.prog.fieldsOf 45)) := by kernel_rfl
  have hp : Tryz.prog.stoodInHeld 45 = false := by kernel_rfl
  have hS1 : Tryz.prog.underlying 37 = some (.struct (Tryz.prog.fieldsOf 37)) := by kernel_rfl
  have hp1 : Tryz.prog.stoodInHeld 37 = false := by kernel_rfl
  have hS2 : Tryz.prog.underlying 43 = some (.struct (Tryz.prog.fieldsOf 43)) := by kernel_rfl
  have hp2 : Tryz.prog.stoodInHeld 43 = false := by kernel_rfl
  obtain ⟨n, c, t⟩ := a
  have q1 : ∀ W, (part 37 #[.string (M.bs n), .int .i64 c, .string (M.bs t)] 0).run Tryz.prog W = .ok (.agg #[.string (M.bs n)]) W := fun W => by
    unfold part
    simp only [Sem.run_bind, Tryz.isAgg37, Tryz.sizeOf37, Result.andThen_ok, if_true, Sem.run_pure]
    rfl
  have q2 : ∀ W, (part 43 #[.string (M.bs n), .int .i64 c, .string (M.bs t)] 1).run Tryz.prog W = .ok (.agg #[.int .i64 c, .string (M.bs t)]) W := fun W => by
    unfold part
    simp only [Sem.run_bind, Tryz.isAgg43, Tryz.sizeOf43, Result.andThen_ok, if_true, Sem.run_pure]
    rfl
  have r1 : ∀ W, (Op.equalIn 9999 37 (.agg #[.string (M.bs n)]) (.agg #[.string (M.bs n)])).run Tryz.prog W = .ok true W := fun W => by
    rw [show (9999 : Nat) = 9998 + 1 from rfl, run_equalIn_struct W 9998 37 _ _ hS1 hp1]
    simp only [Program.fieldsOf, Tryz.underlying37, Op.eqFields]
    have p1 := fun W => part_one (t := 9) Tryz.isAgg9 #[.string (M.bs n)] 0 (.string (M.bs n)) rfl W
    have h2 : ∀ W, (Op.equalIn 9998 9 (.string (M.bs n)) (.string (M.bs n))).run Tryz.prog W = .ok ((M.bs n).toList == (M.bs n).toList) W := fun W => run_equalIn_string W 9997 9 _ _ Tryz.underlying9
    simp [p1, h2]
  have r2 : ∀ W, (Op.equalIn 9999 43 (.agg #[.int .i64 c, .string (M.bs t)]) (.agg #[.int .i64 c, .string (M.bs t)])).run Tryz.prog W = .ok true W := fun W => by
    rw [show (9999 : Nat) = 9998 + 1 from rfl, run_equalIn_struct W 9998 43 _ _ hS2 hp2]
    simp only [Program.fieldsOf, Tryz.underlying43, Op.eqFields]
    have p1 := fun W => part_one (t := 30) Tryz.isAgg30 #[.int .i64 c, .string (M.bs t)] 0 (.int .i64 c) rfl W
    have p2 := fun W => part_one (t := 9) Tryz.isAgg9 #[.int .i64 c, .string (M.bs t)] 1 (.string (M.bs t)) rfl W
    have h1 : ∀ W, (Op.equalIn 9998 30 (.int .i64 c) (.int .i64 c)).run Tryz.prog W = .ok (c == c) W := fun W => run_equalIn_int W 9997 30 .i64 .i64 c c Tryz.underlying30
    have h2 : ∀ W, (Op.equalIn 9998 9 (.string (M.bs t)) (.string (M.bs t))).run Tryz.prog W = .ok ((M.bs t).toList == (M.bs t).toList) W := fun W => run_equalIn_string W 9997 9 _ _ Tryz.underlying9
    simp [p1, p2, h1, h2]
  show (Op.equalIn 10000 45 (.agg #[.string (M.bs n), .int .i64 c, .string (M.bs t)]) (.agg #[.string (M.bs n), .int .i64 c, .string (M.bs t)])).run Tryz.prog W = _
  rw [show (10000 : Nat) = 9999 + 1 from rfl, run_equalIn_struct W 9999 45 _ _ hS hp]
  simp only [Program.fieldsOf, Tryz.underlying45, Op.eqFields]
  simp [q1, q2, r1, r2]
end Go.Proofs.YtoehdohibdpgnaaGreatDoor
