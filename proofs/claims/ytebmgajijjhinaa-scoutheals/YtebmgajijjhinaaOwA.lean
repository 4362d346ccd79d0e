/- A whole slice appended to a row of one's own. -/
import Derived.Test.YtebmgajijjhinaaKB
namespace Go.Proofs.Ytebmgajijjhinaa
open Go.RowKit
set_option linter.unusedVariables false
set_option linter.unusedSimpArgs false

theorem own_empty9 (W : World) (T : TypeId) (k : Nat) : (W.alloc (.cells #[] T)).ownsRow W.heap.size T k (.slice (some ⟨W.heap.size, 0, none⟩) 0 0) 0 [] :=
  ⟨by simp, Or.inr ⟨W.heap.size, 0, #[], rfl, Nat.le_refl _, heap_alloc_new W _, Nat.le_refl _, by decide, by simp, by simp⟩⟩
/-- a slice of things is appended to a row of one's own -/
theorem wl_appG {α : Type} (E : Lay α) {ops : Array Oper} {rest : List Oper} {o : Oper} {a : Act} {W : World} {Q : Exit → Act → World → Prop} (T TS : TypeId) (z : Value) (bytes : Nat)
    (hund : Try.prog.underlying TS = some (.slice T)) (hinfo : (Try.prog.info? T).map (fun i => (i.zero, i.size, i.bytes)) = some (some z, E.k, bytes)) (hzc : z.cells.size = E.k) (hby : bytes ≤ 4096)
    (hgd : o.guard = none) (s x : Operand) (ho : o.op = .call { callee := .builtin .append, args := #[s, x], argTypes := #[TS, TS] }) (B : Nat) (ks : List α) (v : Value) (hs : a.eval s = v) (hB : B ≤ W.heap.size) (hown : W.ownsRow B T E.k v ks.length (flG E ks))
    (ad : Option Addr) (l : List α) (n c : Nat) (hn0 : n = l.length) (hx : a.eval x = .slice ad n c) (hl : RS E W ad l) (hn : ks.length + l.length ≤ 90000)
    (h : ∀ v' w', w'.ownsRow B T E.k v' (ks ++ l).length (flG E (ks ++ l)) → W.grownBy w' v.ownBlock → wpList Try.prog ops Q rest (a.put o.dst v') w') : wpList Try.prog ops Q (o :: rest) a W := by
  subst hn0
  have hk := E.pos
  obtain ⟨i0, hi0, hz0, hz1, hz2⟩ := info_partsT hinfo
  by_cases h0 : l = []
  · subst h0
    refine wpList_plain hgd fun K hK => ?_
    have hrun : (Builtin.append_ #[TS, TS] o.type #[v, .slice ad 0 c]).run Try.prog W = .ok v W := by
      have hld : ∀ a : Addr, (loadCells a 0).run Try.prog W = .ok #[] W := fun a => by simp [loadCells, loadCellsFrom]
      rcases hown.2 with ⟨rfl, hh⟩ | ⟨g, cap, cur, rfl, _, _, hnc, _⟩ <;> cases ad
      · simp [Builtin.append_, run_underlying hund, sizeOf, typeInfo, hi0, Builtin.lenOf, Builtin.firstCells, hh]
      · simp [Builtin.append_, run_underlying hund, sizeOf, typeInfo, hi0, Builtin.lenOf, Builtin.firstCells, hh, hld]
      · simp [Builtin.append_, run_underlying hund, sizeOf, typeInfo, hi0, Builtin.lenOf, Builtin.firstCells, hnc, storeCells]
      · simp [Builtin.append_, run_underlying hund, sizeOf, typeInfo, hi0, Builtin.lenOf, Builtin.firstCells, hnc, storeCells, hld]
    have hK' := hK _ _ (h v W (by simpa using hown) ⟨rfl, rfl, rfl, Nat.le_refl _, fun _ _ _ => rfl⟩)
    have hx' : a.eval x = .slice ad 0 c := hx
    unfold Oper.wp
    simp [execOp, ho, resolve, invoke, builtin, hs, hx', hrun, Result.andThen]
    exact hK'
  · have hpos : 0 < l.length := List.length_pos_iff.2 h0
    obtain ⟨t0, ht0⟩ : ∃ t0, l[0]? = some t0 := ⟨l[0], List.getElem?_eq_getElem hpos⟩
    obtain ⟨sb, off, rfl, _, _⟩ := hl 0 t0 ht0
    have hall : ∀ j u, (flG E l)[j]? = some u → W.cell? ⟨sb, off + j, none⟩ = some u := fun j u hu => by
      have hj := (List.getElem?_eq_some_iff.1 hu).1
      rw [flG_len] at hj
      obtain ⟨t, ht⟩ : ∃ t, l[j / E.k]? = some t := ⟨l[j / E.k]'(Nat.div_lt_of_lt_mul (by rw [Nat.mul_comm]; exact hj)), List.getElem?_eq_getElem _⟩
      obtain ⟨sb', off', e, _, hc⟩ := hl _ t ht
      cases e
      obtain ⟨p, q, e1, e2⟩ := flG_at E l ht
      have hm := Nat.mod_lt j hk
      have hd := Nat.div_add_mod' j E.k
      rw [e1, List.getElem?_append_right (by omega), e2, List.getElem?_append_left (by rw [E.len]; omega)] at hu
      have := hc _ _ hu
      rwa [show off + j / E.k * E.k + (j - j / E.k * E.k) = off + j by omega] at this
    refine wpList_append_lies _ hgd s x TS ho B T i0 z E.k bytes hund hi0 hz0 hz1 hz2 hzc hk v ks.length (flG E ks) hs hown ⟨sb, off, none⟩ l.length c (flG E l) hx (flG_len E l) (fun j u hu => by rw [Addr.add_mid]; exact hall j u hu) (flG_one E l) hpos (by unfold maxLen; omega) ?_ hB W.heap.size rfl (fun g cap w' h1 h2 h3 h4 => ?_)
    · have : (ks.length + l.length) * bytes ≤ 90000 * 4096 := Nat.mul_le_mul (by omega) hby
      omega
    · exact h _ w' (by rw [List.length_append, flG_app]; exact h1) h2
end Go.Proofs.Ytebmgajijjhinaa
