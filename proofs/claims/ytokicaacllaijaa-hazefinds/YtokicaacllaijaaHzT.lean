/- Slices of keys cut, a list appended to a slice literal, keys that came in with their capacity. -/
import Derived.Test.YtokicaacllaijaaHzS
import Derived.Test.YtokicaacllaijaaOpH
namespace Go.Proofs.Ytokicaacllaijaa
open Go.ChangeShapes Go.WideShapes Go.ChangeAt Go.RowKit
set_option linter.unusedVariables false
set_option linter.unusedSimpArgs false

theorem cap_of {TS T : TypeId} (hund : Try.prog.underlying TS = some (.slice T)) {H : Type} {enc : TypeId × Value → H} {W : World} {a : Option Addr} {n c : Nat} {d : DataW H} {p : List MemPlace}
    (h : DataW.Trod enc Try.prog W 0 (fun _ => true) true TS (.slice a n c) d p) : n ≤ c := by
  obtain ⟨fuel, hf0⟩ := h
  have hf : DataW.trod enc Try.prog W 0 (fun _ => true) true fuel TS [.slice a n c] = some (d, p) := by simpa [Value.cells] using hf0
  rcases DataW.trod_slice hund hf with ⟨hcs, _⟩ | ⟨a, len, cap, elems, rest, n, _, hcs, _, _, hl, _⟩
  · simp only [List.cons.injEq, and_true, Value.slice.injEq] at hcs; omega
  · simp only [List.cons.injEq, and_true, Value.slice.injEq] at hcs; omega
theorem sizeD (W : World) : (sizeOf tD).run Try.prog W = .ok 32 W := by kernel_rfl
theorem elemD : Try.prog.underlying 23 = some (.slice (Try.prog.elem 23)) := by kernel_rfl
theorem elemD' : Try.prog.elem 23 = tD := by kernel_rfl
/-- keys from the k-th on -/
theorem from_k (a : Option Addr) (l : List HZ.D) (c k : Nat) (hc : l.length ≤ c) (hk : k ≤ l.length) : ∃ a', (∀ U, (Instr.slice 23 (.slice a l.length c) (some (.int .i64 (k : Int))) none none).run Try.prog U = .ok (.slice a' (l.drop k).length (c - k)) U) ∧ ∀ W, RS lyD W a l → RS lyD W a' (l.drop k) := by
  refine ⟨if c = k then a else a.map (·.add (k * 32)), fun U => ?_, fun W h i x hx => ?_⟩
  · rw [run_slice_l (P := Try.prog) U 23 a l.length c elemD .i64 (k : Int) (by omega) (by omega), elemD', sizeD]
    simp [Result.andThen, sliced]
  · rw [List.getElem?_drop] at hx
    have hlt := (List.getElem?_eq_some_iff.1 hx).1
    obtain ⟨b, off, rfl, h2, h3⟩ := h (k + i) x hx
    rw [if_neg (by omega)]
    refine ⟨b, off + k * 32, congrArg some (Addr.add_mid ..), h2, ?_⟩
    have e : off + k * 32 + i * lyD.k = off + (k + i) * lyD.k := by show off + k * 32 + i * 32 = off + (k + i) * 32; rw [Nat.add_mul]; omega
    rw [e]; exact h3
/-- keys up to the k-th -/
theorem upto_k (a : Option Addr) (l : List HZ.D) (c k : Nat) (hc : l.length ≤ c) (hk : k ≤ l.length) : ∃ a', (∀ U, (Instr.slice 23 (.slice a l.length c) none (some (.int .i64 (k : Int))) none).run Try.prog U = .ok (.slice a' (l.take k).length c) U) ∧ ∀ W, RS lyD W a l → RS lyD W a' (l.take k) := by
  refine ⟨if c = 0 then a else a.map (·.add (0 * 32)), fun U => ?_, fun W h i x hx => ?_⟩
  · rw [run_slice_h (P := Try.prog) U 23 a l.length c elemD .i64 (k : Int) (by omega) (by omega), elemD', sizeD]
    have e : min k l.length = k := by omega
    simp [Result.andThen, sliced, e]
  · have hlt := (List.getElem?_eq_some_iff.1 hx).1
    rw [List.length_take] at hlt
    rw [List.getElem?_take] at hx
    split at hx
    · obtain ⟨b, off, rfl, h2, h3⟩ := h i x hx
      rw [if_neg (by omega)]
      exact ⟨b, off, rfl, h2, h3⟩
    · cases hx
/-- a list appended to a row of one's own, empty or not -/
theorem wl_appE {α : Type} (E : Lay α) {ops : Array Oper} {rest : List Oper} {o : Oper} {a : Act} {w : World} {Q : Exit → Act → World → Prop} (T TS : TypeId) (z : Value) (bytes : Nat)
    (hund : Try.prog.underlying TS = some (.slice T)) (hinfo : (Try.prog.info? T).map (fun i => (i.zero, i.size, i.bytes)) = some (some z, E.k, bytes)) (hzc : z.cells.size = E.k) (hby : bytes ≤ 4096)
    (hgd : o.guard = none) (s x : Operand) (ho : o.op = .call { callee := .builtin .append, args := #[s, x], argTypes := #[TS, TS] }) (base : Nat) (ks : List α) (v : Value) (hs : a.eval s = v) (hown : w.ownsRow base T E.k v ks.length (flG E ks))
    (ad : Option Addr) (l : List α) (c : Nat) (hx : a.eval x = .slice ad l.length c) (hl : RS E w ad l) (hbase : base ≤ w.heap.size) (hn : ks.length + l.length ≤ 90000)
    (h : ∀ v' w', w'.ownsRow base T E.k v' (ks ++ l).length (flG E (ks ++ l)) → w.grownBy w' v.ownBlock → wpList Try.prog ops Q rest (a.put o.dst v') w') : wpList Try.prog ops Q (o :: rest) a w := by
  obtain ⟨i0, hi0, hz0, hz1, hz2⟩ := info_partsT hinfo
  have hk := E.pos
  by_cases h0 : l = []
  · subst h0
    refine wpList_plain hgd fun K hK => ?_
    have hrun : (Builtin.append_ #[TS, TS] o.type #[v, .slice ad 0 c]).run Try.prog w = .ok v w := by
      have hld : ∀ a : Addr, (loadCells a 0).run Try.prog w = .ok #[] w := fun a => by simp [loadCells, loadCellsFrom]
      rcases hown.2 with ⟨rfl, hh⟩ | ⟨g, cap, cur, rfl, _, _, hnc, _⟩ <;> cases ad
      · simp [Builtin.append_, run_underlying hund, sizeOf, typeInfo, hi0, Builtin.lenOf, Builtin.firstCells, hh]
      · simp [Builtin.append_, run_underlying hund, sizeOf, typeInfo, hi0, Builtin.lenOf, Builtin.firstCells, hh, hld]
      · simp [Builtin.append_, run_underlying hund, sizeOf, typeInfo, hi0, Builtin.lenOf, Builtin.firstCells, hnc, storeCells]
      · simp [Builtin.append_, run_underlying hund, sizeOf, typeInfo, hi0, Builtin.lenOf, Builtin.firstCells, hnc, storeCells, hld]
    have hK' := hK _ _ (h v w (by simpa using hown) ⟨rfl, rfl, rfl, Nat.le_refl _, fun _ _ _ => rfl⟩)
    have hx' : a.eval x = .slice ad 0 c := hx
    unfold Oper.wp
    simp [execOp, ho, resolve, invoke, builtin, hs, hx', hrun, Result.andThen]
    exact hK'
  · have hpos : 0 < l.length := List.length_pos_iff.2 h0
    obtain ⟨t0, ht0⟩ : ∃ t0, l[0]? = some t0 := ⟨l[0], List.getElem?_eq_getElem hpos⟩
    obtain ⟨sb, off, rfl, _, _⟩ := hl 0 t0 ht0
    have hb : (ks.length + l.length) * bytes ≤ 90000 * 4096 := Nat.mul_le_mul hn hby
    refine wpList_append_lies _ hgd s x TS ho base T i0 z E.k bytes hund hi0 hz0 hz1 hz2 hzc hk v ks.length (flG E ks) hs hown ⟨sb, off, none⟩ l.length c (flG E l) hx (flG_len E l) (fun j u hu => ?_) (flG_one E l) hpos (by unfold maxLen; omega) (by omega) hbase w.heap.size rfl (fun g cap w' h1 h2 h3 h4 => ?_)
    · rw [Addr.add_mid]
      have hj : j < l.length * E.k := by have := (List.getElem?_eq_some_iff.1 hu).1; rw [flG_len] at this; exact this
      have hq : j / E.k < l.length := Nat.div_lt_of_lt_mul (by rw [Nat.mul_comm]; exact hj)
      obtain ⟨p, r, e1, e2⟩ := flG_at E l (List.getElem?_eq_getElem hq)
      have hm := Nat.mod_lt j hk
      have hd := Nat.div_add_mod j E.k
      rw [Nat.mul_comm] at hd
      rw [e1, List.getElem?_append_right (by omega), List.getElem?_append_left (by rw [E.len]; omega)] at hu
      obtain ⟨sb', off', e, _, hc⟩ := hl _ _ (List.getElem?_eq_getElem hq)
      cases e
      have := hc _ _ hu
      rw [show off + j / E.k * E.k + (j - p.length) = off + j by omega] at this
      exact this
    · exact h _ w' (by rw [List.length_append, flG_app]; exact h1) h2
theorem owns_one {α : Type} (E : Lay α) (w : World) (T : TypeId) (x : α) : (w.alloc (.cells (E.f x).toArray T)).ownsRow w.heap.size T E.k (.slice (some ⟨w.heap.size, 0, none⟩) 1 1) [x].length (flG E [x]) :=
  ⟨by rw [flG_len], Or.inr ⟨w.heap.size, 1, (E.f x).toArray, rfl, Nat.le_refl _, heap_alloc_new w _, Nat.le_refl _, by unfold maxLen; omega, by simp [E.len], by simp [flG, List.take_of_length_le, E.len]⟩⟩
/-- a summary and a list behind it -/
theorem wl_appH {ops : Array Oper} {rest : List Oper} {o : Oper} {a : Act} {w V : World} {Q : Exit → Act → World → Prop} (hgd : o.guard = none) (s x : Operand)
    (ho : o.op = .call { callee := .builtin .append, args := #[s, x], argTypes := #[22, 22] }) (g : HZ.H) (hs : a.eval s = .slice (some ⟨w.heap.size, 0, none⟩) 1 1)
    (ad : Option Addr) (l : List HZ.H) (c : Nat) (hx : a.eval x = .slice ad l.length c) (hl : RS lyH w ad l) (hn : l.length ≤ 60)
    (h : ∀ a' c' U, RS lyH U a' (g :: l) → Bl w U → wpList Try.prog ops Q rest (a.put o.dst (.slice a' (g :: l).length c')) U) (L : List Value) (hL : hC g = L) (hV : V = w.alloc (.cells L.toArray tH)) : wpList Try.prog ops Q (o :: rest) a V := by
  subst hV hL
  refine wl_appE lyH tH 22 (.agg zH) 64 undHs infoH3 zH_size (by decide) hgd s x ho w.heap.size [g] _ hs (owns_one lyH w tH g) ad l c hx (hl.bl ((Bl.refl w).alloc _)) (by simp) (by simp; omega) (fun v' w' h1 h2 => ?_)
  obtain ⟨a', c', rfl, hr⟩ := owns_rs lyH h1
  refine h a' c' w' hr (Below.grown ((Bl.refl w).alloc _) h2 (by simp) (fun k hk => ?_))
  have e : (some w.heap.size : Option Nat) = some k := hk
  have := Option.some.inj e; omega
/-- a row's load as a step of a region that draws its order -/
theorem so_mid {P : Program} {ops : Array Oper} {o : Oper} {a : Act} {w : World} {K : Act → World → Prop} {Q : Exit → Act → World → Prop} {E : Prop} (hw : Region.wanted o (yielded ops a.tmps) = true) (ty : TypeId) (x : Operand) (ho : o.op = .load ty x)
    (b q : Nat) (hx : a.eval x = .pointer (some ⟨b, q, none⟩)) (cs : List Value) (d : TypeDesc) (hc : w.rangeAt b q cs)
    (hu : P.underlying ty = some d) (hd : d.isRow = true) (hi : (P.info? ty).map (·.size) = some cs.length)
    (h : K (a.put o.dst (.agg cs.toArray)) w) : if Region.wanted o (yielded ops a.tmps) = true then Oper.wp P o a w K Q else E := by
  rw [if_pos hw]; exact wp_load_mid ty x ho b q hx cs d hc hu hd hi h
end Go.Proofs.Ytokicaacllaijaa
