/- The texts SoQ SoC SoH SoR Fd0 Rt0 Rtn as one. -/
import Derived.Test.YtimlonpaahdcmaaSo2z
import Derived.Deep.AppendSrc
import Derived.Test.YtimlonpaahdcmaaPurA
/- A queue: a slice whose beginning is cut off and to whose end slices are appended. -/
namespace Go.Proofs.Ytimlonpaahdcmaa
open Go.RowKit Go.Maps
set_option linter.unusedVariables false
set_option linter.unusedSimpArgs false

/-- the block of a slice -/
abbrev qb (v : Value) : Option Nat := v.ownBlock
/-- a queue of things -/
def QN {α : Type} (E : Lay α) (T : TypeId) (U : World) (v : Value) (ks : List α) : Prop := (v = .slice none 0 0 ∧ ks = []) ∨ ∃ g off cap C, v = .slice (some ⟨g, off, none⟩) ks.length cap ∧ U.heap[g]? = some (.cells C T (0, 0)) ∧ ks.length ≤ cap ∧ cap ≤ maxLen ∧ off + cap * E.k ≤ C.size ∧ ∀ j u, (flG E ks)[j]? = some u → C[off + j]? = some u
theorem QN.nil {α : Type} (E : Lay α) (T : TypeId) (U : World) : QN E T U (.slice none 0 0) [] := Or.inl ⟨rfl, rfl⟩
theorem QN.keep {α : Type} {E : Lay α} {T : TypeId} {U U' : World} {v : Value} {ks : List α} (h : QN E T U v ks) (hk : ∀ g C, qb v = some g → U.heap[g]? = some (.cells C T (0, 0)) → U'.heap[g]? = U.heap[g]?) : QN E T U' v ks := by
  rcases h with h | ⟨g, off, cap, C, e1, e2, e3, e4, e5, e6⟩
  · exact Or.inl h
  · exact Or.inr ⟨g, off, cap, C, e1, (hk g C (by rw [e1]; rfl) e2).trans e2, e3, e4, e5, e6⟩
theorem QN.tag {α : Type} {E : Lay α} {T : TypeId} {U : World} {v : Value} {ks : List α} (h : QN E T U v ks) {g : Nat} (hg : qb v = some g) : ∃ C, U.heap[g]? = some (.cells C T (0, 0)) := by
  rcases h with ⟨rfl, _⟩ | ⟨g', off, cap, C, rfl, e2, _⟩
  · cases hg
  · cases hg; exact ⟨C, e2⟩
theorem QN.len {α : Type} {E : Lay α} {T : TypeId} {U : World} {v : Value} {ks : List α} (h : QN E T U v ks) : ∃ a cap, v = .slice a ks.length cap := by
  rcases h with ⟨rfl, rfl⟩ | ⟨g', off, cap, C, rfl, e2, _⟩
  · exact ⟨none, 0, rfl⟩
  · exact ⟨_, _, rfl⟩
/-- the first one, and what is left -/
theorem QN.tail {α : Type} {E : Lay α} {T : TypeId} {U : World} {v : Value} {x : α} {r : List α} (h : QN E T U v (x :: r)) : ∃ g off cap, v = .slice (some ⟨g, off, none⟩) (r.length + 1) cap ∧ r.length + 1 ≤ cap ∧ U.rangeAt g off (E.f x) ∧ QN E T U (.slice (if cap = 1 then some ⟨g, off, none⟩ else some ⟨g, off + E.k, none⟩) (r.length + 1 - 1) (cap - 1)) r := by
  rcases h with ⟨_, h⟩ | ⟨g, off, cap, C, e1, e2, e3, e4, e5, e6⟩
  · cases h
  · have hfl : flG E (x :: r) = E.f x ++ flG E r := by simp [flG]
    have hlx := E.len x
    simp only [List.length_cons] at e1 e3
    refine ⟨g, off, cap, e1, e3, fun j u hu => ?_, Or.inr ?_⟩
    · rw [Lib.cell_of_heap e2]
      refine e6 j u ?_
      rw [hfl, List.getElem?_append_left (List.getElem?_eq_some_iff.1 hu).1]; exact hu
    · by_cases hc : cap = 1
      · have hr : r = [] := List.length_eq_zero_iff.1 (by omega)
        subst hr
        refine ⟨g, off, cap - 1, C, by rw [if_pos hc]; rfl, e2, by simp, by omega, ?_, fun j u hu => by simp [flG] at hu⟩
        have : (cap - 1) * E.k ≤ cap * E.k := Nat.mul_le_mul_right _ (by omega)
        omega
      · refine ⟨g, off + E.k, cap - 1, C, by rw [if_neg hc]; rfl, e2, by omega, by omega, ?_, fun j u hu => ?_⟩
        · have : cap * E.k = (cap - 1) * E.k + E.k := by rw [← Nat.succ_mul, Nat.succ_eq_add_one, Nat.sub_add_cancel (by omega)]
          omega
        · rw [Nat.add_assoc]
          refine e6 (E.k + j) u ?_
          rw [hfl, List.getElem?_append_right (by omega), hlx, Nat.add_sub_cancel_left]; exact hu
theorem rs_all {α : Type} (E : Lay α) {W : World} {sb off : Nat} {l : List α} (hl : RS E W (some ⟨sb, off, none⟩) l) : ∀ j u, (flG E l)[j]? = some u → W.cell? ⟨sb, off + j, none⟩ = some u := fun j u hu => by
  have hk := E.pos
  have hj := (List.getElem?_eq_some_iff.1 hu).1
  rw [flG_len] at hj
  obtain ⟨t, ht⟩ : ∃ t, l[j / E.k]? = some t := ⟨l[j / E.k]'(Nat.div_lt_of_lt_mul (by rw [Nat.mul_comm]; exact hj)), List.getElem?_eq_getElem _⟩
  obtain ⟨sb', off', e, _, hc⟩ := hl _ t ht
  cases e
  obtain ⟨p, q, e1, e2⟩ := flG_at E l ht
  have hm := Nat.mod_lt j hk
  have hd := Nat.div_add_mod' j E.k
  rw [e1, List.getElem?_append_right (by omega), e2, List.getElem?_append_left (by rw [E.len]; omega)] at hu
  have := hc _ _ hu
  rwa [show off + j / E.k * E.k + (j - j / E.k * E.k) = off + j by omega] at this
theorem setL_at : ∀ (vs l : List Value) (o j : Nat), o + vs.length ≤ l.length → (setL l o vs)[j]? = if o ≤ j ∧ j < o + vs.length then vs[j - o]? else l[j]?
  | [], l, o, j, h => by rw [if_neg (by rintro ⟨h1, h2⟩; simp at h2; omega)]; rfl
  | v :: r, l, o, j, h => by
    simp only [List.length_cons] at h
    rw [setL, setL_at r (l.set o v) (o + 1) j (by simp; omega), List.getElem?_set, List.length_cons]
    by_cases h1 : o + 1 ≤ j ∧ j < o + 1 + r.length
    · rw [if_pos h1, if_pos (by omega), show j - o = (j - (o + 1)) + 1 by omega, List.getElem?_cons_succ]
    · rw [if_neg h1]
      by_cases h2 : o = j
      · subst h2
        rw [if_pos rfl, if_pos (by omega), if_pos (by omega), Nat.sub_self]; rfl
      · rw [if_neg h2, if_neg (by omega)]
/-- a slice is appended -/
theorem run_appQ {α : Type} (E : Lay α) {U : World} (T TS : TypeId) (z : Value) (bytes : Nat)
    (hund : Try.prog.underlying TS = some (.slice T)) (hinfo : (Try.prog.info? T).map (fun i => (i.zero, i.size, i.bytes)) = some (some z, E.k, bytes)) (hzc : z.cells.size = E.k) (hby : bytes ≤ 4096)
    (v : Value) (ks : List α) (hq : QN E T U v ks) (ad : Option Addr) (l : List α) (c : Nat) (hl : RS E U ad l) (hn : ks.length + l.length ≤ 90000) (ty : TypeId) :
    ∃ v' w', (Builtin.append_ #[TS, TS] ty #[v, .slice ad l.length c]).run Try.prog U = .ok v' w' ∧ QN E T w' v' (ks ++ l) ∧ U.grownBy w' (qb v) ∧ (qb v' = qb v ∨ qb v' = some U.heap.size) := by
  have hk := E.pos
  obtain ⟨i0, hi0, hz0, hz1, hz2⟩ := info_partsT hinfo
  by_cases h0 : l = []
  · subst h0
    refine ⟨v, U, ?_, by rw [List.append_nil]; exact hq, grown_refl _ _, Or.inl rfl⟩
    have hld : ∀ a : Addr, (loadCells a 0).run Try.prog U = .ok #[] U := fun a => by simp [loadCells, loadCellsFrom]
    rcases hq with ⟨rfl, rfl⟩ | ⟨g, off, cap, C, rfl, e2, e3, e4, e5, e6⟩ <;> cases ad
    · simp [Builtin.append_, run_underlying hund, sizeOf, typeInfo, hi0, Builtin.lenOf, Builtin.firstCells]
    · simp [Builtin.append_, run_underlying hund, sizeOf, typeInfo, hi0, Builtin.lenOf, Builtin.firstCells, hld]
    · simp [Builtin.append_, run_underlying hund, sizeOf, typeInfo, hi0, Builtin.lenOf, Builtin.firstCells, e3, storeCells]
    · simp [Builtin.append_, run_underlying hund, sizeOf, typeInfo, hi0, Builtin.lenOf, Builtin.firstCells, e3, storeCells, hld]
  · have hpos : 0 < l.length := List.length_pos_iff.2 h0
    obtain ⟨t0, ht0⟩ : ∃ t0, l[0]? = some t0 := ⟨l[0], List.getElem?_eq_getElem hpos⟩
    obtain ⟨sb, so, rfl, _, _⟩ := hl 0 t0 ht0
    have hall := rs_all E hl
    have hsrc : Src Try.prog i0.size TS (.slice (some ⟨sb, so, none⟩) l.length c) l.length (flG E l) U := by
      rw [hz1]
      exact Src.ofSlice U hund ⟨sb, so, none⟩ l.length c (flG E l) (flG_len E l) (fun j u hu => by rw [Addr.add_mid]; exact hall j u hu) (flG_one E l)
    have grow : ∀ (base : Option Addr) (n cap : Nat), n = ks.length → cap < n + l.length → cap ≤ maxLen → (Builtin.firstCells i0.size n (.slice base n cap)).run Try.prog U.drew = .ok (flG E ks).toArray U.drew → ∃ v' w', (Builtin.append_ #[TS, TS] ty #[.slice base n cap, .slice (some ⟨sb, so, none⟩) l.length c]).run Try.prog U = .ok v' w' ∧ QN E T w' v' (ks ++ l) ∧ U.grownBy w' (qb (.slice base n cap)) ∧ (qb v' = qb (.slice base n cap) ∨ qb v' = some U.heap.size) := fun base n cap hnn hc hcm hold => by
      subst hnn
      have hge := grownCap_ge U (ks.length + l.length) cap T
      have hle : grownCap U (ks.length + l.length) cap T ≤ maxLen := grownCap_le_maxLen U (ks.length + l.length) cap T (by unfold maxLen; omega)
      have hfit : Builtin.nextslicecap (ks.length + l.length) cap * i0.bytes ≤ 281474976710656 := by
        refine growslice_fits hc ?_
        rw [hz2]
        have : (ks.length + l.length) * bytes ≤ 90000 * 4096 := Nat.mul_le_mul hn hby
        omega
      refine ⟨_, _, run_append_grow_src U TS TS ty T i0 z hund hi0 hz0 base ks.length cap (flG E ks) hold _ l.length (flG E l) hsrc hc (by omega) hfit, Or.inr ⟨U.heap.size, 0, _, _, ?_, heap_alloc_new U.drew _, ?_, hle, ?_, fun j u hu => ?_⟩, ⟨rfl, rfl, rfl, by simp, fun k hk _ => heap_alloc_old U.drew _ hk⟩, Or.inr rfl⟩
      · rw [List.length_append]
      · rw [List.length_append]; exact hge
      · simp only [Array.size_append, List.size_toArray, size_zeroCells, hzc, List.length_append, flG_len, Nat.zero_add]
        rw [← Nat.add_mul, ← Nat.add_mul]
        exact Nat.mul_le_mul_right _ (by omega)
      · rw [flG_app] at hu
        have hj := (List.getElem?_eq_some_iff.1 hu).1
        rw [Nat.zero_add, Array.getElem?_append_left (by simpa using hj)]
        simpa using hu
    rcases hq with ⟨rfl, rfl⟩ | ⟨g, off, cap, C, rfl, e2, e3, e4, e5, e6⟩
    · exact grow none 0 0 rfl (by omega) (by simp) (by simp [Builtin.firstCells, flG])
    · by_cases hroom : ks.length + l.length ≤ cap
      · have hlen : (flG E l).length = l.length * E.k := flG_len E l
        have hcs : (ks.length + l.length) * E.k ≤ cap * E.k := Nat.mul_le_mul_right _ hroom
        rw [Nat.add_mul] at hcs
        have hfz : ∀ o, U.frozen? ⟨g, o, none⟩ = false := fun o => by simp [World.frozen?, e2]
        have hrun := run_append_room_src U TS TS ty T i0 hund hi0 g off ks.length cap (.slice (some ⟨sb, so, none⟩) l.length c) l.length (flG E l) hsrc hroom (fun j hj => by rw [Lib.cell_of_heap e2, Array.getElem?_eq_getElem (by rw [hz1]; omega)]; rfl) (fun j hj => hfz _)
        rw [hz1] at hrun
        refine ⟨_, _, hrun, Or.inr ⟨g, off, cap, _, by rw [List.length_append], heap_setCells _ e2, by rw [List.length_append]; exact hroom, e4, by rw [setA_size]; exact e5, fun j u hu => ?_⟩, grown_setCells _ _ _ _, Or.inl rfl⟩
        rw [← Array.getElem?_toList, setA_list, setL_at (flG E l) C.toList (off + ks.length * E.k) (off + j) (by have h9 : C.toList.length = C.size := Array.length_toList; rw [h9, hlen]; omega)]
        rw [flG_app] at hu
        by_cases hj : j < ks.length * E.k
        · rw [if_neg (by omega), Array.getElem?_toList]
          rw [List.getElem?_append_left (by rw [flG_len]; exact hj)] at hu
          exact e6 j u hu
        · have hj2 := (List.getElem?_eq_some_iff.1 hu).1
          rw [List.length_append, flG_len, flG_len] at hj2
          rw [List.getElem?_append_right (by rw [flG_len]; omega), flG_len] at hu
          rw [if_pos (by omega), show off + j - (off + ks.length * E.k) = j - ks.length * E.k by omega]
          exact hu
      · refine grow _ _ cap rfl (by omega) e4 ?_
        have := run_firstCells_some (P := Try.prog) U.drew i0.size ks.length ⟨g, off, none⟩ ks.length cap (flG E ks) (by rw [hz1]; exact flG_len E ks) (fun j u hu => by
          rw [Addr.add_mid]
          show U.cell? ⟨g, off + j, none⟩ = some u
          rw [Lib.cell_of_heap e2]; exact e6 j u hu)
        exact this
theorem stepo_appQ {α : Type} (E : Lay α) {ops : Array Oper} {o : Oper} {a : Act} {U : World} {K : Act → World → Prop} {Q : Exit → Act → World → Prop} {El : Prop} (T TS : TypeId) (z : Value) (bytes : Nat)
    (hund : Try.prog.underlying TS = some (.slice T)) (hinfo : (Try.prog.info? T).map (fun i => (i.zero, i.size, i.bytes)) = some (some z, E.k, bytes)) (hzc : z.cells.size = E.k) (hby : bytes ≤ 4096)
    (hgd : o.guard = none) (s x : Operand) (ho : o.op = .call { callee := .builtin .append, args := #[s, x], argTypes := #[TS, TS] }) (v : Value) (ks : List α) (hs : a.eval s = v) (hq : QN E T U v ks) (ad : Option Addr) (l : List α) (n c : Nat) (hnl : n = l.length) (hx : a.eval x = .slice ad n c) (hl : RS E U ad l) (hn : ks.length + l.length ≤ 90000)
    (h : ∀ v' w', QN E T w' v' (ks ++ l) → U.grownBy w' (qb v) → (qb v' = qb v ∨ qb v' = some U.heap.size) → K (a.put o.dst v') w') : if Region.wanted o (yielded ops a.tmps) = true then Oper.wp Try.prog o a U K Q else El := by
  subst hnl
  have hw : Region.wanted o (yielded ops a.tmps) = true := by simp [Region.wanted, hgd]
  rw [if_pos hw]
  obtain ⟨v', w', hrun, h1, h2, h3⟩ := run_appQ E T TS z bytes hund hinfo hzc hby v ks hq ad l c hl hn o.type
  have hK' := h v' w' h1 h2 h3
  unfold Oper.wp
  simp [execOp, ho, resolve, invoke, builtin, hs, hx, hrun, Result.andThen]
  exact hK'
end Go.Proofs.Ytimlonpaahdcmaa

/- A camp: scouts, and frames under way. -/
namespace Go.Proofs.Ytimlonpaahdcmaa
open Go.RowKit Go.Maps
set_option linter.unusedVariables false
set_option linter.unusedSimpArgs false

abbrev tCp : TypeId := 35
abbrev tPs : TypeId := 31
/-- where a frame's rumours may lie -/
def XG (Bs : Nat → Nat → Prop) (nv : Value) (cb sb : Nat) (g : Nat) : Prop := (∀ j, ¬ Bs j g) ∧ some g ≠ qb nv ∧ g ≠ cb ∧ g ≠ sb
/-- a camp in memory -/
structure CK (w : World) (cb n N : Nat) (ss : Nat → SO.Sc) (net : List SO.Fr) (ps : Nat → Nat) (sb : Nat) (sv nv rv : Value) (Bs : Nat → Nat → Prop) (ys : List Sn) (rs : List (Nat × Obj)) (U : World) : Prop where
  row : U.heap[cb]? = some (.cells #[sv, rv] tCp (0, 0))
  sl : ∃ CS, U.heap[sb]? = some (.cells CS tPs (0, 0)) ∧ ∀ i, 1 ≤ i → i ≤ n → CS[i]? = some (.pointer (some ⟨ps i, 0, none⟩))
  sc : ∀ i, 1 ≤ i → i ≤ n → SC w (ps i) (Bs i) N (ss i) U
  dj : ∀ i j k, Bs i k → Bs j k → i = j
  out : ∀ i k, Bs i k → (1 ≤ i ∧ i ≤ n) ∧ k ≠ cb ∧ k ≠ sb ∧ some k ≠ qb nv
  q : QN lyS tSn U nv ys
  len : ys.length = net.length
  each : ∀ (i : Nat) (y : Sn) (f : SO.Fr), ys[i]? = some y → net[i]? = some f → SN U (XG Bs nv cb sb) y f
  bl : Bl w U
  lo : w.heap.size ≤ cb ∧ w.heap.size ≤ sb ∧ ∀ g, qb nv = some g → w.heap.size ≤ g
  be : ∀ r ∈ rs, U.heap[r.1]? = some r.2 ∧ w.heap.size ≤ r.1 ∧ r.1 ≠ cb ∧ r.1 ≠ sb ∧ some r.1 ≠ qb nv ∧ ∀ i, ¬ Bs i r.1
theorem SC.keep' {w W W' : World} {p : Nat} {B : Nat → Prop} {N M : Nat} {s : SO.Sc} (x : SC w p B N s W) (hM : N ≤ M) (hs : W.heap.size ≤ W'.heap.size) (hb : Bl w W') (hk : ∀ k, B k → k < W.heap.size → W'.heap[k]? = W.heap[k]?) : SC w p B M s W' := by
  obtain ⟨P, x⟩ := x
  exact ⟨P, (x.keep hs hb (fun k h => hk k h (x.Bo k h).2)).more hM⟩
theorem SC.lt {w W : World} {p : Nat} {B : Nat → Prop} {N : Nat} {s : SO.Sc} (x : SC w p B N s W) {k : Nat} (h : B k) : k < W.heap.size := by
  obtain ⟨P, x⟩ := x
  exact (x.Bo k h).2
theorem CK.lt {w U : World} {cb n N sb : Nat} {ss : Nat → SO.Sc} {net : List SO.Fr} {ps : Nat → Nat} {sv nv rv : Value} {Bs : Nat → Nat → Prop} {ys : List Sn} {rs : List (Nat × Obj)} (x : CK w cb n N ss net ps sb sv nv rv Bs ys rs U) {i k : Nat} (h : Bs i k) : k < U.heap.size := by
  have := (x.out i k h).1
  exact (x.sc i this.1 this.2).lt h
theorem lt_obj {U : World} {k : Nat} {o : Obj} (h : U.heap[k]? = some o) : k < U.heap.size := (Array.getElem?_eq_some_iff.1 h).1
abbrev upd := SO.up
/-- a scout of the camp has answered -/
theorem CK.ans {w U w' : World} {cb n N M sb i : Nat} {ss : Nat → SO.Sc} {net fs : List SO.Fr} {ps : Nat → Nat} {sv nv rv : Value} {Bs : Nat → Nat → Prop} {ys : List Sn} {rs : List (Nat × Obj)} {s' : SO.Sc} {e : Ending} (x : CK w cb n N ss net ps sb sv nv rv Bs ys rs U) (h1 : 1 ≤ i) (h2 : i ≤ n) (hM : N ≤ M) (h : Ans w (ps i) (Bs i) U M s' fs e w') :
    ∃ a c ys' Bs', e = .returned (.slice a fs.length c) ∧ CK w cb n M (upd ss i s') net ps sb sv nv rv Bs' ys rs w' ∧ FRS w' (XG Bs' nv cb sb) a ys' fs := by
  obtain ⟨a, c, ys', B', rfl, sc', o, hf⟩ := h
  have hblk : ∀ k, k < U.heap.size → ¬ Bs i k → w'.heap[k]? = U.heap[k]? := o.block
  have hlo : ∀ k, Bs i k → w.heap.size ≤ k := fun k hk => by
    obtain ⟨P, y⟩ := x.sc i h1 h2
    exact (y.Bo k hk).1
  have hbl : Bl w w' := o.below x.bl hlo
  have hnc : ¬ Bs i cb := fun hB => (x.out i cb hB).2.1 rfl
  have hns : ¬ Bs i sb := fun hB => (x.out i sb hB).2.2.1 rfl
  have hB' : ∀ k, B' k → Bs i k ∨ U.heap.size ≤ k := o.own
  obtain ⟨CS, hCS, hptr⟩ := x.sl
  have hcl := lt_heap x.row
  have hsl := lt_heap hCS
  have hnl : ∀ g, qb nv = some g → g < U.heap.size := fun g hg => by
    obtain ⟨C, hC⟩ := x.q.tag hg
    exact lt_heap hC
  have hnb : ∀ g, qb nv = some g → ¬ Bs i g := fun g hg hB => (x.out i g hB).2.2.2 hg.symm
  have hX : ∀ g, XG Bs nv cb sb g → g < U.heap.size → w'.heap[g]? = U.heap[g]? ∧ XG (fun j => if j = i then B' else Bs j) nv cb sb g := fun g hg hl => by
    refine ⟨hblk g hl (hg.1 i), fun j hB => ?_, hg.2⟩
    by_cases hj : j = i
    · simp only [if_pos hj] at hB
      rcases hB' g hB with h | h
      · exact hg.1 i h
      · omega
    · simp only [if_neg hj] at hB
      exact hg.1 j hB
  refine ⟨a, c, ys', fun j => if j = i then B' else Bs j, rfl, ⟨(hblk cb hcl hnc).trans x.row, ⟨CS, (hblk sb hsl hns).trans hCS, hptr⟩, fun j j1 j2 => ?_, fun j1 j2 k k1 k2 => ?_, fun j k hB => ?_, x.q.keep (fun g C hg hC => hblk g (lt_heap hC) (hnb g hg)), x.len, fun j y f hy hf => (x.each j y f hy hf).keep o.size hX, hbl, x.lo, fun r hr => ?_⟩, ?_⟩
  · by_cases hj : j = i
    · subst hj
      simp only [if_pos rfl, upd, SO.up]
      exact sc'
    · simp only [if_neg hj, upd, SO.up]
      exact (x.sc j j1 j2).keep' hM o.size hbl (fun k hk hl => hblk k hl (fun hB => hj (x.dj j i k hk hB)))
  · by_cases e1 : j1 = i <;> by_cases e2 : j2 = i
    · rw [e1, e2]
    · simp only [if_pos e1] at k1
      simp only [if_neg e2] at k2
      rcases hB' k k1 with h | h
      · exact absurd (x.dj j2 i k k2 h) e2
      · have := x.lt k2; omega
    · simp only [if_neg e1] at k1
      simp only [if_pos e2] at k2
      rcases hB' k k2 with h | h
      · exact absurd (x.dj j1 i k k1 h) e1
      · have := x.lt k1; omega
    · simp only [if_neg e1] at k1
      simp only [if_neg e2] at k2
      exact x.dj j1 j2 k k1 k2
  · by_cases hj : j = i
    · subst hj
      simp only [if_pos rfl] at hB
      refine ⟨⟨h1, h2⟩, ?_⟩
      rcases hB' k hB with h | h
      · exact (x.out _ k h).2
      · refine ⟨by omega, by omega, fun e => ?_⟩
        have := hnl k e.symm
        omega
    · simp only [if_neg hj] at hB
      exact x.out j k hB
  · obtain ⟨b1, b2, b3, b4, b5, b6⟩ := x.be r hr
    refine ⟨(hblk r.1 (lt_obj b1) (b6 i)).trans b1, b2, b3, b4, b5, fun j hB => ?_⟩
    by_cases hj : j = i
    · simp only [if_pos hj] at hB
      rcases hB' _ hB with h | h
      · exact b6 i h
      · have := lt_obj b1; omega
    · simp only [if_neg hj] at hB
      exact b6 j hB
  · refine hf.keep (Nat.le_refl _) (fun g hg hl => ⟨rfl, fun j hB => ?_, fun e => ?_, ?_, ?_⟩)
    · by_cases hj : j = i
      · simp only [if_pos hj] at hB
        exact hg.2 hB
      · simp only [if_neg hj] at hB
        have := x.lt hB
        have := hg.1
        omega
    · have := hnl g e.symm
      have := hg.1
      omega
    · have := hg.1; omega
    · have := hg.1; omega
/-- what was answered is on its way -/
theorem CK.app {w U w' : World} {cb n N sb : Nat} {ss : Nat → SO.Sc} {net fs : List SO.Fr} {ps : Nat → Nat} {sv nv rv v' : Value} {Bs : Nat → Nat → Prop} {ys ys' : List Sn} {rs : List (Nat × Obj)} {a : Option Addr} (x : CK w cb n N ss net ps sb sv nv rv Bs ys rs U) (hf : FRS U (XG Bs nv cb sb) a ys' fs)
    (hq : QN lyS tSn w' v' (ys ++ ys')) (hg : U.grownBy w' (qb nv)) (hv : qb v' = qb nv ∨ qb v' = some U.heap.size) : CK w cb n N ss (net ++ fs) ps sb sv v' rv Bs (ys ++ ys') rs w' := by
  obtain ⟨CS, hCS, hptr⟩ := x.sl
  have hcl := lt_heap x.row
  have hsl := lt_heap hCS
  have ncb : some cb ≠ qb nv := fun e => by
    obtain ⟨C, hC⟩ := x.q.tag e.symm
    exact tags x.row hC (by decide) rfl
  have nsb : some sb ≠ qb nv := fun e => by
    obtain ⟨C, hC⟩ := x.q.tag e.symm
    exact tags hCS hC (by decide) rfl
  have hbl : Bl w w' := ⟨hg.os.trans x.bl.os, hg.tape.trans x.bl.tape, hg.output.trans x.bl.output, Nat.le_trans x.bl.size hg.size, fun k hk => (hg.block k (Nat.lt_of_lt_of_le hk x.bl.size) (fun e => by have := x.lo.2.2 k e.symm; omega)).trans (x.bl.block k hk)⟩
  have hX : ∀ g, XG Bs nv cb sb g → g < U.heap.size → w'.heap[g]? = U.heap[g]? ∧ XG Bs v' cb sb g := fun g h hl => by
    refine ⟨hg.block g hl h.2.1, h.1, fun e => ?_, h.2.2⟩
    rcases hv with h' | h'
    · rw [h'] at e; exact h.2.1 e
    · rw [h'] at e; cases e; omega
  refine ⟨(hg.block cb hcl ncb).trans x.row, ⟨CS, (hg.block sb hsl nsb).trans hCS, hptr⟩, fun i i1 i2 => (x.sc i i1 i2).keep' (Nat.le_refl _) hg.size hbl (fun k hk hl => hg.block k hl (x.out i k hk).2.2.2), x.dj, fun i k hB => ?_, hq, by rw [List.length_append, List.length_append, x.len, hf.len], fun i y f hy hff => ?_, hbl, ⟨x.lo.1, x.lo.2.1, fun g hg' => ?_⟩, fun r hr => ?_⟩
  · have h := x.out i k hB
    refine ⟨h.1, h.2.1, h.2.2.1, fun e => ?_⟩
    rcases hv with h' | h'
    · rw [h'] at e; exact h.2.2.2 e
    · rw [h'] at e; cases e; have := x.lt hB; omega
  · by_cases hi : i < ys.length
    · rw [List.getElem?_append_left hi] at hy
      rw [List.getElem?_append_left (by rw [← x.len]; exact hi)] at hff
      exact (x.each i y f hy hff).keep hg.size hX
    · rw [List.getElem?_append_right (by omega)] at hy
      rw [List.getElem?_append_right (by rw [← x.len]; omega), ← x.len] at hff
      exact (hf.each _ y f hy hff).keep hg.size hX
  · rcases hv with h' | h'
    · rw [h'] at hg'; exact x.lo.2.2 g hg'
    · rw [h'] at hg'; cases hg'; exact x.bl.size
  · obtain ⟨b1, b2, b3, b4, b5, b6⟩ := x.be r hr
    refine ⟨(hg.block r.1 (lt_obj b1) b5).trans b1, b2, b3, b4, fun e => ?_, b6⟩
    rcases hv with h' | h'
    · rw [h'] at e; exact b5 e
    · rw [h'] at e
      have := lt_obj b1
      have e2 := Option.some.inj e
      omega
/-- the camp's own list is written -/
theorem CK.store {w U V : World} {cb n N sb : Nat} {ss : Nat → SO.Sc} {net : List SO.Fr} {ps : Nat → Nat} {sv nv rv : Value} {Bs : Nat → Nat → Prop} {ys : List Sn} {rs : List (Nat × Obj)} (x : CK w cb n N ss net ps sb sv nv rv Bs ys rs U) (ho : Of1 cb U V) (hr : V.heap[cb]? = some (.cells #[sv, nv] tCp (0, 0))) : CK w cb n N ss net ps sb sv nv nv Bs ys rs V := by
  obtain ⟨CS, hCS, hptr⟩ := x.sl
  have nsb : sb ≠ cb := fun e => by subst e; exact tags hCS x.row (by decide) rfl
  have hbl : Bl w V := ho.bl x.bl x.lo.1
  exact ⟨hr, ⟨CS, (ho.block sb (lt_heap hCS) nsb).trans hCS, hptr⟩, fun i i1 i2 => (x.sc i i1 i2).keep' (Nat.le_refl _) ho.size hbl (fun k hk hl => ho.block k hl (x.out i k hk).2.1), x.dj, x.out, x.q.keep (fun g C hg hC => ho.block g (lt_heap hC) (fun e => by subst e; exact tags hC x.row (by decide) rfl)), x.len, fun i y f hy hf => (x.each i y f hy hf).keep ho.size (fun g hg hl => ⟨ho.block g hl hg.2.2.1, hg⟩), hbl, x.lo, fun r hr => ⟨(ho.block r.1 (lt_obj (x.be r hr).1) (x.be r hr).2.2.1).trans (x.be r hr).1, (x.be r hr).2⟩⟩
theorem CK.grow {w U V : World} {cb n N sb : Nat} {ss : Nat → SO.Sc} {net : List SO.Fr} {ps : Nat → Nat} {sv nv rv : Value} {Bs : Nat → Nat → Prop} {ys : List Sn} {rs : List (Nat × Obj)} (x : CK w cb n N ss net ps sb sv nv rv Bs ys rs U) (b : Bl U V) : CK w cb n N ss net ps sb sv nv rv Bs ys rs V := by
  obtain ⟨CS, hCS, hptr⟩ := x.sl
  have hbl := x.bl.step b
  exact ⟨(b.block _ (lt_heap x.row)).trans x.row, ⟨CS, (b.block _ (lt_heap hCS)).trans hCS, hptr⟩, fun i i1 i2 => (x.sc i i1 i2).keep' (Nat.le_refl _) b.size hbl (fun k hk hl => b.block k hl), x.dj, x.out, x.q.keep (fun g C hg hC => b.block g (lt_heap hC)), x.len, fun i y f hy hf => (x.each i y f hy hf).keep b.size (fun g hg hl => ⟨b.block g hl, hg⟩), hbl, x.lo, fun r hr => ⟨(b.block r.1 (lt_obj (x.be r hr).1)).trans (x.be r hr).1, (x.be r hr).2⟩⟩
theorem CK.more {w U : World} {cb n N M sb : Nat} {ss : Nat → SO.Sc} {net : List SO.Fr} {ps : Nat → Nat} {sv nv rv : Value} {Bs : Nat → Nat → Prop} {ys : List Sn} {rs : List (Nat × Obj)} (x : CK w cb n N ss net ps sb sv nv rv Bs ys rs U) (h : N ≤ M) : CK w cb n M ss net ps sb sv nv rv Bs ys rs U :=
  ⟨x.row, x.sl, fun i i1 i2 => (x.sc i i1 i2).keep' h (Nat.le_refl _) x.bl (fun _ _ _ => rfl), x.dj, x.out, x.q, x.len, x.each, x.bl, x.lo, x.be⟩
/-- the first frame is taken out -/
theorem CK.pop {w U : World} {cb n N sb : Nat} {ss : Nat → SO.Sc} {f : SO.Fr} {net : List SO.Fr} {ps : Nat → Nat} {sv nv rv : Value} {Bs : Nat → Nat → Prop} {ys : List Sn} {rs : List (Nat × Obj)} (x : CK w cb n N ss (f :: net) ps sb sv nv rv Bs ys rs U) :
    ∃ g off cap y ys', nv = .slice (some ⟨g, off, none⟩) (net.length + 1) cap ∧ net.length + 1 ≤ cap ∧ U.rangeAt g off (lyS.f y) ∧ SN U (XG Bs nv cb sb) y f ∧ CK w cb n N ss net ps sb sv (.slice (if cap = 1 then some ⟨g, off, none⟩ else some ⟨g, off + 238, none⟩) (net.length + 1 - 1) (cap - 1)) rv Bs ys' rs U := by
  have hl := x.len
  cases hys : ys with
  | nil => rw [hys] at hl; simp at hl
  | cons y ys' =>
    rw [hys] at hl
    have hl' : ys'.length = net.length := by simpa using hl
    have hq := x.q
    rw [hys] at hq
    obtain ⟨g, off, cap, e1, e2, e3, e4⟩ := hq.tail
    rw [hl'] at e1 e2 e4
    have hqb : qb (.slice (if cap = 1 then some ⟨g, off, none⟩ else some ⟨g, off + 238, none⟩) (net.length + 1 - 1) (cap - 1)) = qb nv := by
      rw [e1]
      split <;> rfl
    refine ⟨g, off, cap, y, ys', e1, e2, e3, x.each 0 y f (by rw [hys]; rfl) rfl, x.row, x.sl, x.sc, x.dj, fun i k hB => ?_, e4, hl', fun i y' f' hy hf => ?_, x.bl, ⟨x.lo.1, x.lo.2.1, fun g' hg' => ?_⟩, fun r hr => ?_⟩
    · rw [hqb]; exact x.out i k hB
    · have := x.each (i + 1) y' f' (by rw [hys]; exact hy) hf
      exact this.keep (Nat.le_refl _) (fun g' hg' _ => ⟨rfl, hg'.1, by rw [hqb]; exact hg'.2.1, hg'.2.2⟩)
    · rw [hqb] at hg'; exact x.lo.2.2 g' hg'
    · rw [hqb]; exact x.be r hr
/-- a row beside is new -/
theorem CK.box {w U : World} {cb n N sb : Nat} {ss : Nat → SO.Sc} {net : List SO.Fr} {ps : Nat → Nat} {sv nv rv : Value} {Bs : Nat → Nat → Prop} {ys : List Sn} {rs : List (Nat × Obj)} (x : CK w cb n N ss net ps sb sv nv rv Bs ys rs U) (C : Array Value) (T : TypeId) : CK w cb n N ss net ps sb sv nv rv Bs ys ((U.heap.size, .cells C T (0, 0)) :: rs) (U.alloc (.cells C T)) := by
  have y := x.grow ((Bl.refl U).alloc (.cells C T))
  obtain ⟨CS, hCS, hptr⟩ := x.sl
  refine ⟨y.row, y.sl, y.sc, y.dj, y.out, y.q, y.len, y.each, y.bl, y.lo, fun r hr => ?_⟩
  rcases List.mem_cons.1 hr with rfl | hr
  · refine ⟨heap_alloc_new _ _, x.bl.size, fun e => ?_, fun e => ?_, fun e => ?_, fun i hB => ?_⟩
    · have := lt_heap x.row
      simp only at e; omega
    · have := lt_heap hCS
      simp only at e; omega
    · obtain ⟨C', hC'⟩ := x.q.tag e.symm
      have := lt_heap hC'
      simp only at this; omega
    · have := x.lt hB
      simp only at this; omega
  · exact y.be r hr
/-- a row beside is written -/
theorem CK.set {w U V : World} {cb n N sb zb : Nat} {ss : Nat → SO.Sc} {net : List SO.Fr} {ps : Nat → Nat} {sv nv rv : Value} {Bs : Nat → Nat → Prop} {ys : List Sn} {rs : List (Nat × Obj)} {o1 o2 : Obj} (x : CK w cb n N ss net ps sb sv nv rv Bs ys ((zb, o1) :: rs) U) (hn : net = []) (ho : Of1 zb U V) (hr : V.heap[zb]? = some o2) (hd : ∀ r ∈ rs, r.1 ≠ zb) : CK w cb n N ss net ps sb sv nv rv Bs ys ((zb, o2) :: rs) V := by
  obtain ⟨CS, hCS, hptr⟩ := x.sl
  obtain ⟨b1, b2, b3, b4, b5, b6⟩ := x.be _ List.mem_cons_self
  simp only at b1 b2 b3 b4 b5 b6
  have hbl : Bl w V := ho.bl x.bl b2
  refine ⟨(ho.block _ (lt_heap x.row) (fun e => b3 e.symm)).trans x.row, ⟨CS, (ho.block _ (lt_heap hCS) (fun e => b4 e.symm)).trans hCS, hptr⟩, fun i i1 i2 => (x.sc i i1 i2).keep' (Nat.le_refl _) ho.size hbl (fun k hk hl => ho.block k hl (fun e => b6 i (e ▸ hk))), x.dj, x.out, x.q.keep (fun g C hg hC => ho.block g (lt_heap hC) (fun e => b5 (by rw [hg, e]))), x.len, fun i y f hy hf => by rw [hn] at hf; simp at hf, hbl, x.lo, fun r hr' => ?_⟩
  rcases List.mem_cons.1 hr' with rfl | hr'
  · exact ⟨hr, b2, b3, b4, b5, b6⟩
  · have h := x.be r (List.mem_cons_of_mem _ hr')
    exact ⟨(ho.block r.1 (lt_obj h.1) (hd r hr')).trans h.1, h.2⟩
end Go.Proofs.Ytimlonpaahdcmaa

/- A camp is pitched. -/
namespace Go.Proofs.Ytimlonpaahdcmaa
open Go.RowKit Go.Maps
set_option linter.unusedVariables false
set_option linter.unusedSimpArgs false

def ptv (p : Option Nat) : Value := .pointer (p.map fun p => ⟨p, 0, none⟩)
def lyP : Lay (Option Nat) := ⟨1, fun p => [ptv p], fun _ => rfl, fun p v hv => by simp at hv; subst hv; rfl, by decide⟩
def pl (ps : Nat → Nat) (k : Nat) : List (Option Nat) := none :: (List.range k).map fun i => some (ps (i + 1))
theorem pl_len (ps : Nat → Nat) (k : Nat) : (pl ps k).length = k + 1 := by simp [pl]
theorem pl_succ (ps : Nat → Nat) (k p : Nat) : pl (fun i => if i = k + 1 then p else ps i) (k + 1) = pl ps k ++ [some p] := by
  unfold pl
  rw [List.range_succ, List.map_append, List.cons_append]
  congr 1
  congr 1
  · apply List.map_congr_left
    intro i hi
    have := List.mem_range.1 hi
    show some (if i + 1 = k + 1 then p else ps (i + 1)) = _
    rw [if_neg (by omega)]
  · simp
theorem pl_old (ps : Nat → Nat) (k p : Nat) : pl (fun i => if i = k + 1 then p else ps i) k = pl ps k := by
  unfold pl
  congr 1
  apply List.map_congr_left
  intro i hi
  have := List.mem_range.1 hi
  show some (if i + 1 = k + 1 then p else ps (i + 1)) = _
  rw [if_neg (by omega)]
theorem pl_at (ps : Nat → Nat) {k i : Nat} (h1 : 1 ≤ i) (h2 : i ≤ k) : (flG lyP (pl ps k))[i]? = some (.pointer (some ⟨ps i, 0, none⟩)) := by
  have e : flG lyP (pl ps k) = (pl ps k).map ptv := by
    unfold flG lyP
    generalize pl ps k = l
    induction l with
    | nil => rfl
    | cons a r ih => rw [List.flatMap_cons, List.map_cons, ih]; rfl
  rw [e, List.getElem?_map]
  unfold pl
  rw [show i = (i - 1) + 1 by omega, List.getElem?_cons_succ, List.getElem?_map, List.getElem?_range (by omega)]
  rfl
/-- a camp that is being pitched -/
structure PK (W : World) (cb k m n : Nat) (ps : Nat → Nat) (sv rv : Value) (Bs : Nat → Nat → Prop) (U : World) : Prop where
  row : U.heap[cb]? = some (.cells #[rv, .slice none 0 0] tCp (0, 0))
  own : U.ownsRow W.heap.size tPs 1 sv (k + 1) (flG lyP (pl ps k))
  sc : ∀ i, 1 ≤ i → i ≤ m → SC W (ps i) (Bs i) 6 (SO.new i n) U
  dj : ∀ i j q, Bs i q → Bs j q → i = j
  out : ∀ i q, Bs i q → (1 ≤ i ∧ i ≤ m) ∧ q ≠ cb ∧ some q ≠ sv.ownBlock
  bl : Bl W U
  lo : W.heap.size ≤ cb
theorem PK.lt {W U : World} {cb k m n : Nat} {ps : Nat → Nat} {sv rv : Value} {Bs : Nat → Nat → Prop} (x : PK W cb k m n ps sv rv Bs U) {i q : Nat} (h : Bs i q) : q < U.heap.size := by
  have := (x.out i q h).1
  exact (x.sc i this.1 this.2).lt h
theorem PK.grow {W U V : World} {cb k m n : Nat} {ps : Nat → Nat} {sv rv : Value} {Bs : Nat → Nat → Prop} (x : PK W cb k m n ps sv rv Bs U) (b : Bl U V) : PK W cb k m n ps sv rv Bs V :=
  ⟨(b.block _ (lt_heap x.row)).trans x.row, ownsRow_bl x.own b, fun i i1 i2 => (x.sc i i1 i2).keep' (Nat.le_refl _) b.size (x.bl.step b) (fun q hq hl => b.block q hl), x.dj, x.out, x.bl.step b, x.lo⟩
theorem PK.drewN {W U : World} {cb k m n : Nat} {ps : Nat → Nat} {sv rv : Value} {Bs : Nat → Nat → Prop} (x : PK W cb k m n ps sv rv Bs U) (q : Nat) : PK W cb k m n ps sv rv Bs (U.drewN q) := x.grow ((Bl.refl U).drewN q)
theorem PK.alloc {W U : World} {cb k m n : Nat} {ps : Nat → Nat} {sv rv : Value} {Bs : Nat → Nat → Prop} (x : PK W cb k m n ps sv rv Bs U) (o : Obj) : PK W cb k m n ps sv rv Bs (U.alloc o) := x.grow ((Bl.refl U).alloc o)
theorem PK.c0 {W U : World} {cb k m n : Nat} {ps : Nat → Nat} {sv rv : Value} {Bs : Nat → Nat → Prop} (x : PK W cb k m n ps sv rv Bs U) : U.cell? ⟨cb, 0, none⟩ = some rv := by rw [Lib.cell_of_heap x.row]; rfl
/-- one more scout -/
theorem PK.new {W U : World} {cb k n : Nat} {ps : Nat → Nat} {sv rv : Value} {Bs : Nat → Nat → Prop} (x : PK W cb k k n ps sv rv Bs U) (hk : k + 1 ≤ n) (h6 : n ≤ 6) : Calls Try.prog 10 #[.int .i64 ((k : Int) + 1), .int .i64 (n : Int)] U fun e w' => ∃ p Bs', e = .returned (.pointer (some ⟨p, 0, none⟩)) ∧ PK W cb k (k + 1) n (fun i => if i = k + 1 then p else ps i) sv rv Bs' w' := by
  refine (New_yes ((k : Int) + 1) n (by omega) (by omega) (by omega) h6 U).mono ?_
  rintro e w' ⟨p, B, rfl, P, y⟩
  have hb : Bl U w' := y.bl
  have z := x.grow hb
  have hB : ∀ q, B q → U.heap.size ≤ q := fun q hq => (y.Bo q hq).1
  have hob : ∀ q, sv.ownBlock = some q → q < U.heap.size := fun q hq => own_lt x.own hq
  have hcl := lt_heap x.row
  have hpl : pl (fun i => if i = k + 1 then p else ps i) k = pl ps k := by
    unfold pl
    congr 1
    apply List.map_congr_left
    intro i hi
    have := List.mem_range.1 hi
    show some (if i + 1 = k + 1 then p else ps (i + 1)) = _
    rw [if_neg (by omega)]
  refine ⟨p, fun i => if i = k + 1 then B else Bs i, rfl, z.row, by rw [hpl]; exact z.own, fun i i1 i2 => ?_, fun i j q q1 q2 => ?_, fun i q q1 => ?_, z.bl, z.lo⟩
  · by_cases hi : i = k + 1
    · subst hi
      simp only [if_pos rfl]
      have e : ((k + 1 : Nat) : Int) = (k : Int) + 1 := by omega
      rw [e]
      exact ⟨P, y.base x.bl⟩
    · simp only [if_neg hi]
      exact z.sc i i1 (by omega)
  · by_cases e1 : i = k + 1 <;> by_cases e2 : j = k + 1
    · rw [e1, e2]
    · simp only [if_pos e1] at q1
      simp only [if_neg e2] at q2
      have := hB q q1
      have := x.lt q2
      omega
    · simp only [if_neg e1] at q1
      simp only [if_pos e2] at q2
      have := hB q q2
      have := x.lt q1
      omega
    · simp only [if_neg e1] at q1
      simp only [if_neg e2] at q2
      exact x.dj i j q q1 q2
  · by_cases hi : i = k + 1
    · simp only [if_pos hi] at q1
      have := hB q q1
      refine ⟨by omega, by omega, fun e => ?_⟩
      have := hob q e.symm
      omega
    · simp only [if_neg hi] at q1
      have h := x.out i q q1
      exact ⟨by omega, h.2⟩
theorem PK.app {W U w2 : World} {cb k n : Nat} {ps : Nat → Nat} {sv rv sv' : Value} {Bs : Nat → Nat → Prop} (x : PK W cb k (k + 1) n ps sv rv Bs U) (g : U.grownBy w2 sv.ownBlock) (ho : w2.ownsRow W.heap.size tPs 1 sv' (k + 1 + 1) (flG lyP (pl ps (k + 1)))) (hv : sv'.ownBlock = sv.ownBlock ∨ ∀ q, sv'.ownBlock = some q → U.heap.size ≤ q) : PK W cb (k + 1) (k + 1) n ps sv' rv Bs w2 := by
  have ncb : some cb ≠ sv.ownBlock := fun e => by
    obtain ⟨D, hD⟩ := own_tag x.own e.symm
    exact tags x.row hD (by decide) rfl
  have hbl : Bl W w2 := ⟨g.os.trans x.bl.os, g.tape.trans x.bl.tape, g.output.trans x.bl.output, Nat.le_trans x.bl.size g.size, fun q hq => (g.block q (Nat.lt_of_lt_of_le hq x.bl.size) (fun e => by have := (owns_ge x.own e.symm).1; omega)).trans (x.bl.block q hq)⟩
  refine ⟨(g.block cb (lt_heap x.row) ncb).trans x.row, ho, fun i i1 i2 => (x.sc i i1 i2).keep' (Nat.le_refl _) g.size hbl (fun q hq hl => g.block q hl (x.out i q hq).2.2), x.dj, fun i q hq => ?_, hbl, x.lo⟩
  have h := x.out i q hq
  refine ⟨h.1, h.2.1, fun e => ?_⟩
  rcases hv with h' | h'
  · rw [h'] at e; exact h.2.2 e
  · have := h' q e.symm
    have := x.lt hq
    omega
theorem PK.store {W U V : World} {cb k m n : Nat} {ps : Nat → Nat} {sv rv : Value} {Bs : Nat → Nat → Prop} (x : PK W cb k m n ps sv rv Bs U) (o : Of1 cb U V) (hr : V.heap[cb]? = some (.cells #[sv, .slice none 0 0] tCp (0, 0))) : PK W cb k m n ps sv sv Bs V := by
  have hbl : Bl W V := o.bl x.bl x.lo
  exact ⟨hr, own_keep x.own (fun g C e e2 => o.block g (lt_heap e2) (fun e3 => by subst e3; exact tags e2 x.row (by decide) rfl)), fun i i1 i2 => (x.sc i i1 i2).keep' (Nat.le_refl _) o.size hbl (fun q hq hl => o.block q hl (x.out i q hq).2.1), x.dj, x.out, hbl, x.lo⟩
/-- a camp stands -/
theorem PK.ck {W U : World} {cb n : Nat} {ps : Nat → Nat} {sv : Value} {Bs : Nat → Nat → Prop} (x : PK W cb n n n ps sv sv Bs U) : ∃ sb sc, sv = .slice (some ⟨sb, 0, none⟩) (n + 1) sc ∧ CK W cb n 6 (fun i => SO.new i n) [] ps sb sv (.slice none 0 0) (.slice none 0 0) Bs [] [] U := by
  obtain ⟨h0, ⟨h1, h2⟩ | ⟨g, cap, cur, h1, h2, h3, h4, h5, h6, h7⟩⟩ := id x.own
  · omega
  · refine ⟨g, cap, h1, x.row, ⟨cur, h3, fun i i1 i2 => ?_⟩, x.sc, x.dj, fun i q hq => ?_, QN.nil _ _ _, rfl, (fun i y f hy => by simp at hy), x.bl, ⟨x.lo, h2, fun g hg => by cases hg⟩, fun r hr => by cases hr⟩
    · have := pl_at ps i1 i2
      rw [← h7, List.getElem?_take, if_pos (by omega), Array.getElem?_toList] at this
      exact this
    · have h := x.out i q hq
      refine ⟨h.1, h.2.1, fun e => ?_, fun e => by cases e⟩
      have := h.2.2
      rw [h1, e] at this
      exact this rfl
theorem undPs : Try.prog.underlying 32 = some (.slice tPs) := Try.underlying32
theorem infoPs3 : (Try.prog.info? tPs).map (fun i => (i.zero, i.size, i.bytes)) = some (some (.pointer none), 1, 8) := by kernel_rfl
theorem infoPss : (Try.prog.info? 32).map (·.size) = some 1 := by kernel_rfl
set_option maxRecDepth 8000 in
set_option maxHeartbeats 4000000 in
theorem pitched_x (n : Nat) (h1 : 1 ≤ n) (h6 : n ≤ 6) (w : World) : Calls Try.prog 7 #[.int .i64 (n : Int)] w fun e w' => ∃ cb ps sb sc Bs, e = .returned (.pointer (some ⟨cb, 0, none⟩)) ∧ CK w cb n 6 (fun i => SO.new i n) [] ps sb (.slice (some ⟨sb, 0, none⟩) (n + 1) sc) (.slice none 0 0) (.slice none 0 0) Bs [] [] w' := by
  have hmk : ∀ W : World, (Instr.makeSlice 32 (.int .i64 1) (.int .i64 1)).run Try.prog W = .ok (.slice (some ⟨W.heap.size, 0, none⟩) 1 1) (W.alloc (.cells #[.pointer none] tPs)) := fun W => by kernel_rfl
  go_enter Try.func7, Try.ntmps7
  go_wp2_with fail
  have H0 : Hid (PK w (w.heap.size + 1) 0 0 n (fun _ => 0) (.slice (some ⟨w.heap.size, 0, none⟩) 1 1) (.slice (some ⟨w.heap.size, 0, none⟩) 1 1) (fun _ _ => False) ((w.alloc (.cells #[.pointer none] tPs)).alloc (.cells #[.slice (some ⟨w.heap.size, 0, none⟩) 1 1, .slice none 0 0] tCp))) := by
    have hb1 : Bl w (w.alloc (.cells #[.pointer none] tPs)) := (Bl.refl w).alloc _
    have hb2 := (Bl.refl (w.alloc (.cells #[.pointer none] tPs))).alloc (.cells #[.slice (some ⟨w.heap.size, 0, none⟩) 1 1, .slice none 0 0] tCp)
    have hs : (w.alloc (.cells #[.pointer none] tPs)).heap.size = w.heap.size + 1 := by simp
    have hr := heap_alloc_new (w.alloc (.cells #[.pointer none] tPs)) (.cells #[.slice (some ⟨w.heap.size, 0, none⟩) 1 1, .slice none 0 0] tCp)
    rw [hs] at hr
    refine ⟨hr, ⟨rfl, Or.inr ⟨w.heap.size, 1, #[.pointer none], rfl, Nat.le_refl _, (hb2.block _ (by rw [hs]; omega)).trans (heap_alloc_new w _), by omega, by decide, rfl, rfl⟩⟩, fun i i1 i2 => by omega, fun i j q h => h.elim, fun i q h => h.elim, hb1.step hb2, by omega⟩
  generalize w.heap.size + 1 = cb at *
  clear hmk
  go_loopw [4] (fun u4 wr => ∃ k : Nat, k ≤ n ∧ u4 = .int .i64 ((k : Int) + 1) ∧ ∃ ps sv Bs, PK w cb k k n ps sv sv Bs wr) (fun u4 _ => n + 1 - (intOf u4).toNat)
  case atStart => exact ⟨0, by omega, rfl, _, _, _, H0.out⟩
  case round =>
    obtain ⟨k, hk, rfl, ps, sv, Bs, HX⟩ := hrel
    clear H0
    by_cases hlt : k < n
    · have hle : (k : Int) + 1 ≤ (n : Int) := by omega
      have HOW : Hid (∀ (V : World) (p9 : Nat) (Bs9 : Nat → Nat → Prop), PK w cb k (k + 1) n (fun i => if i = k + 1 then p9 else ps i) sv sv Bs9 V → V.ownsRow w.heap.size tPs 1 sv (k + 1) (flG lyP (pl ps k))) := fun V p9 Bs9 h => by
        have := h.own
        rwa [pl_old] at this
      have HAP : Hid (∀ (V w2 : World) (p9 g c' : Nat) (Bs9 : Nat → Nat → Prop), PK w cb k (k + 1) n (fun i => if i = k + 1 then p9 else ps i) sv sv Bs9 V → w2.ownsRow w.heap.size tPs 1 (.slice (some ⟨g, 0, none⟩) (k + 1 + 1) c') (k + 1 + 1) (flG lyP (pl ps k ++ [some p9])) → V.grownBy w2 sv.ownBlock → (sv.ownBlock = some g ∨ V.heap.size ≤ g) → PK w cb (k + 1) (k + 1) n (fun i => if i = k + 1 then p9 else ps i) (.slice (some ⟨g, 0, none⟩) (k + 1 + 1) c') sv Bs9 w2) := fun V w2 p9 g c' Bs9 h g1 g2 g3 => by
        refine h.app g2 (by rw [pl_succ]; exact g1) ?_
        rcases g3 with h' | h'
        · exact Or.inl h'.symm
        · exact Or.inr (fun q hq => by cases hq; exact h')
      go_wp2_with fail
      refine wp_region_noPanic ?_
      refine wp_region_held_drew (S := fun _ => True) (by kernel_rfl) (trivial) (fun hHeld => ?_)
      refine wpAnyH_take (i := 0) rfl (by kernel_rfl) (by kernel_rfl) (by kernel_rfl) (fun _ _ _ h => h) (yi_move (by kernel_rfl) rfl rfl) (by assumption) ?_
      simp only [Act.put, List.getElem_toArray, List.getElem_cons_succ, List.getElem_cons_zero, List.setIfInBounds_toArray, List.set_cons_zero, List.set_cons_succ]
      refine wpAnyH_take (i := 1) rfl (by kernel_rfl) (by kernel_rfl) (by kernel_rfl) (fun _ _ _ h => h) (yi_move (by kernel_rfl) rfl rfl) (by assumption) ?_
      simp only [Act.put, List.getElem_toArray, List.getElem_cons_succ, List.getElem_cons_zero, List.setIfInBounds_toArray, List.set_cons_zero, List.set_cons_succ]
      refine wpAnyH_take (i := 2) (v := ?_) rfl (by kernel_rfl) (by kernel_rfl) (by kernel_rfl) (fun _ _ _ h => h) (Or.inl ⟨by kernel_rfl, ?_⟩) (by assumption) ?_
      rotate_left
      · (intro w hSw; (try dsimp only at hSw); go_simp; (try with_reducible rfl))
      simp only [Act.put, List.getElem_toArray, List.getElem_cons_succ, List.getElem_cons_zero, List.setIfInBounds_toArray, List.set_cons_zero, List.set_cons_succ]
      refine wpAnyH_take (i := 3) (v := ?_) rfl (by kernel_rfl) (by kernel_rfl) (by kernel_rfl) (fun _ _ _ h => h) (Or.inl ⟨by kernel_rfl, ?_⟩) (by assumption) ?_
      rotate_left
      · (intro w hSw; (try dsimp only at hSw); go_simp; (try with_reducible rfl))
      simp only [Act.put, List.getElem_toArray, List.getElem_cons_succ, List.getElem_cons_zero, List.setIfInBounds_toArray, List.set_cons_zero, List.set_cons_succ]
      refine wpAnyH_take (i := 5) rfl (by kernel_rfl) (by kernel_rfl) (by kernel_rfl) (fun _ _ _ h => h) (yi_move (by kernel_rfl) rfl rfl) (by assumption) ?_
      simp only [Act.put, List.getElem_toArray, List.getElem_cons_succ, List.getElem_cons_zero, List.setIfInBounds_toArray, List.set_cons_zero, List.set_cons_succ]
      refine wpAnyH_take (i := 6) rfl (by kernel_rfl) (by kernel_rfl) (by kernel_rfl) (fun _ _ _ h => h) (yi_move (by kernel_rfl) rfl rfl) (by assumption) ?_
      simp only [Act.put, List.getElem_toArray, List.getElem_cons_succ, List.getElem_cons_zero, List.setIfInBounds_toArray, List.set_cons_zero, List.set_cons_succ]
      refine wpAnyH_ready (rs := [4, 7]) (by kernel_rfl) (by simp) ?_
      refine AllReadyH.cons (o := _) rfl (fun K hK => ?_) ?_
      · refine stepo_load1 rfl 32 _ rfl cb 0 (by rfl) sv (PK.c0 (HX.drewN 1)) undPs (hK.out _ _ (trivial) (fun hHeld => ?_))
        clear hK K
        (try simp only [Act.put, List.getElem_toArray, List.getElem_cons_succ, List.getElem_cons_zero, List.setIfInBounds_toArray, List.set_cons_zero, List.set_cons_succ])
        refine wpAnyH_ready (rs := [7]) (by kernel_rfl) (by simp) ?_
        refine AllReadyH.cons (o := _) rfl (fun K hK => ?_) AllReadyH.nil
        go_simp
        go_at_call 10; refine (PK.new (HX.drewN 1) (by omega) (by omega)).mono ?_; rintro e V8 ⟨p9, Bs9, rfl, HB8⟩; have HBK := HB8
        refine hK.out _ _ (trivial) (fun hHeld => ?_)
        clear hK K
        (try simp only [Act.put, List.getElem_toArray, List.getElem_cons_succ, List.getElem_cons_zero, List.setIfInBounds_toArray, List.set_cons_zero, List.set_cons_succ])
        refine wpAnyH_ready (rs := [8]) (by kernel_rfl) (by simp) ?_
        refine AllReadyH.cons (o := _) rfl (fun K hK => ?_) AllReadyH.nil
        go_simp
        refine hK.out _ _ (trivial) (fun hHeld => ?_)
        clear hK K
        (try simp only [Act.put, List.getElem_toArray, List.getElem_cons_succ, List.getElem_cons_zero, List.setIfInBounds_toArray, List.set_cons_zero, List.set_cons_succ])
        refine wpAnyH_ready (rs := [9]) (by kernel_rfl) (by simp) ?_
        refine AllReadyH.cons (o := _) rfl (fun K hK => ?_) AllReadyH.nil
        refine stepo_app1X lyP tPs 32 (.pointer none) 8 undPs infoPs3 rfl (by omega) rfl _ _ rfl w.heap.size (k + 1) (pl ps k) (pl_len ps k).symm (some p9) sv (by rfl) HBK.bl.size (HOW.out _ _ _ HBK) _ rfl (by rfl) (by omega) ?_ _ rfl rfl
        intro g c' w2 g1 g2 g3 g4
        have HZ := HAP.out _ _ _ _ _ _ HBK g1 g2 g3
        refine hK.out _ _ trivial (fun hHeld => ?_)
        clear hK K
        (try simp only [Act.put, List.getElem_toArray, List.getElem_cons_succ, List.getElem_cons_zero, List.setIfInBounds_toArray, List.set_cons_zero, List.set_cons_succ])
        refine wpAnyH_take (i := 10) (v := ?_) rfl (by kernel_rfl) (by kernel_rfl) (by kernel_rfl) (fun _ _ _ h => h) (Or.inl ⟨by kernel_rfl, ?_⟩) (by assumption) ?_
        rotate_left
        · (intro w hSw; (try dsimp only at hSw); go_simp; (try with_reducible rfl))
        simp only [Act.put, List.getElem_toArray, List.getElem_cons_succ, List.getElem_cons_zero, List.setIfInBounds_toArray, List.set_cons_zero, List.set_cons_succ]
        refine wpAnyH_take (i := 11) (v := ?_) rfl (by kernel_rfl) (by kernel_rfl) (by kernel_rfl) (fun _ _ _ h => h) (Or.inl ⟨by kernel_rfl, ?_⟩) (by assumption) ?_
        rotate_left
        · (intro w hSw; (try dsimp only at hSw); go_simp; (try with_reducible rfl))
        simp only [Act.put, List.getElem_toArray, List.getElem_cons_succ, List.getElem_cons_zero, List.setIfInBounds_toArray, List.set_cons_zero, List.set_cons_succ]
        refine wpAnyH_ready (rs := [12]) (by kernel_rfl) (by simp) ?_
        refine AllReadyH.cons (o := _) rfl (fun K hK => ?_) AllReadyH.nil
        refine stepo_setU rfl 32 _ _ rfl cb 0 (.slice (some ⟨g, 0, none⟩) (k + 1 + 1) c') (by rfl) (by rfl) rfl infoPss [sv, .slice none 0 0] [.slice (some ⟨g, 0, none⟩) (k + 1 + 1) c', .slice none 0 0] tCp HZ.row (by simp) rfl ?_
        intro U3 R3 O3
        have HZ3 := HZ.store O3 R3
        refine hK.out _ _ trivial (fun hHeld => ?_)
        clear hK K
        (try simp only [Act.put, List.getElem_toArray, List.getElem_cons_succ, List.getElem_cons_zero, List.setIfInBounds_toArray, List.set_cons_zero, List.set_cons_succ])
        refine wpAnyH_done (by kernel_rfl) ?_ _
        refine NoPanic.normal ?_
        have HE := hidI HZ3
        clear HZ HZ3 O3 R3 g1 g2 g3 g4 hHeld HBK HX
        go_wp2_with fail
        go_roundw
        case rel => exact ⟨k + 1, by omega, by go_num, _, _, _, HE.out⟩
        case measure => simp [intOf]; omega
      refine AllReadyH.cons (o := _) rfl (fun K hK => ?_) ?_
      · go_simp
        go_at_call 10; refine (PK.new (HX.drewN 1) (by omega) (by omega)).mono ?_; rintro e V13 ⟨p9, Bs9, rfl, HB13⟩; have HBK := HB13
        refine hK.out _ _ (trivial) (fun hHeld => ?_)
        clear hK K
        (try simp only [Act.put, List.getElem_toArray, List.getElem_cons_succ, List.getElem_cons_zero, List.setIfInBounds_toArray, List.set_cons_zero, List.set_cons_succ])
        refine wpAnyH_ready (rs := [4, 8]) (by kernel_rfl) (by simp) ?_
        refine AllReadyH.cons (o := _) rfl (fun K hK => ?_) ?_
        · refine stepo_load1 rfl 32 _ rfl cb 0 (by rfl) sv (PK.c0 HB13) undPs (hK.out _ _ (trivial) (fun hHeld => ?_))
          clear hK K
          (try simp only [Act.put, List.getElem_toArray, List.getElem_cons_succ, List.getElem_cons_zero, List.setIfInBounds_toArray, List.set_cons_zero, List.set_cons_succ])
          refine wpAnyH_ready (rs := [8]) (by kernel_rfl) (by simp) ?_
          refine AllReadyH.cons (o := _) rfl (fun K hK => ?_) AllReadyH.nil
          go_simp
          refine hK.out _ _ (trivial) (fun hHeld => ?_)
          clear hK K
          (try simp only [Act.put, List.getElem_toArray, List.getElem_cons_succ, List.getElem_cons_zero, List.setIfInBounds_toArray, List.set_cons_zero, List.set_cons_succ])
          refine wpAnyH_ready (rs := [9]) (by kernel_rfl) (by simp) ?_
          refine AllReadyH.cons (o := _) rfl (fun K hK => ?_) AllReadyH.nil
          refine stepo_app1X lyP tPs 32 (.pointer none) 8 undPs infoPs3 rfl (by omega) rfl _ _ rfl w.heap.size (k + 1) (pl ps k) (pl_len ps k).symm (some p9) sv (by rfl) HBK.bl.size (HOW.out _ _ _ HBK) _ rfl (by rfl) (by omega) ?_ _ rfl rfl
          intro g c' w2 g1 g2 g3 g4
          have HZ := HAP.out _ _ _ _ _ _ HBK g1 g2 g3
          refine hK.out _ _ trivial (fun hHeld => ?_)
          clear hK K
          (try simp only [Act.put, List.getElem_toArray, List.getElem_cons_succ, List.getElem_cons_zero, List.setIfInBounds_toArray, List.set_cons_zero, List.set_cons_succ])
          refine wpAnyH_take (i := 10) (v := ?_) rfl (by kernel_rfl) (by kernel_rfl) (by kernel_rfl) (fun _ _ _ h => h) (Or.inl ⟨by kernel_rfl, ?_⟩) (by assumption) ?_
          rotate_left
          · (intro w hSw; (try dsimp only at hSw); go_simp; (try with_reducible rfl))
          simp only [Act.put, List.getElem_toArray, List.getElem_cons_succ, List.getElem_cons_zero, List.setIfInBounds_toArray, List.set_cons_zero, List.set_cons_succ]
          refine wpAnyH_take (i := 11) (v := ?_) rfl (by kernel_rfl) (by kernel_rfl) (by kernel_rfl) (fun _ _ _ h => h) (Or.inl ⟨by kernel_rfl, ?_⟩) (by assumption) ?_
          rotate_left
          · (intro w hSw; (try dsimp only at hSw); go_simp; (try with_reducible rfl))
          simp only [Act.put, List.getElem_toArray, List.getElem_cons_succ, List.getElem_cons_zero, List.setIfInBounds_toArray, List.set_cons_zero, List.set_cons_succ]
          refine wpAnyH_ready (rs := [12]) (by kernel_rfl) (by simp) ?_
          refine AllReadyH.cons (o := _) rfl (fun K hK => ?_) AllReadyH.nil
          refine stepo_setU rfl 32 _ _ rfl cb 0 (.slice (some ⟨g, 0, none⟩) (k + 1 + 1) c') (by rfl) (by rfl) rfl infoPss [sv, .slice none 0 0] [.slice (some ⟨g, 0, none⟩) (k + 1 + 1) c', .slice none 0 0] tCp HZ.row (by simp) rfl ?_
          intro U3 R3 O3
          have HZ3 := HZ.store O3 R3
          refine hK.out _ _ trivial (fun hHeld => ?_)
          clear hK K
          (try simp only [Act.put, List.getElem_toArray, List.getElem_cons_succ, List.getElem_cons_zero, List.setIfInBounds_toArray, List.set_cons_zero, List.set_cons_succ])
          refine wpAnyH_done (by kernel_rfl) ?_ _
          refine NoPanic.normal ?_
          have HE := hidI HZ3
          clear HZ HZ3 O3 R3 g1 g2 g3 g4 hHeld HBK HX
          go_wp2_with fail
          go_roundw
          case rel => exact ⟨k + 1, by omega, by go_num, _, _, _, HE.out⟩
          case measure => simp [intOf]; omega
        refine AllReadyH.cons (o := _) rfl (fun K hK => ?_) ?_
        · go_simp
          refine hK.out _ _ (trivial) (fun hHeld => ?_)
          clear hK K
          (try simp only [Act.put, List.getElem_toArray, List.getElem_cons_succ, List.getElem_cons_zero, List.setIfInBounds_toArray, List.set_cons_zero, List.set_cons_succ])
          refine wpAnyH_ready (rs := [4]) (by kernel_rfl) (by simp) ?_
          refine AllReadyH.cons (o := _) rfl (fun K hK => ?_) AllReadyH.nil
          refine stepo_load1 rfl 32 _ rfl cb 0 (by rfl) sv (PK.c0 ((HB13).alloc _)) undPs (hK.out _ _ (trivial) (fun hHeld => ?_))
          clear hK K
          (try simp only [Act.put, List.getElem_toArray, List.getElem_cons_succ, List.getElem_cons_zero, List.setIfInBounds_toArray, List.set_cons_zero, List.set_cons_succ])
          refine wpAnyH_ready (rs := [9]) (by kernel_rfl) (by simp) ?_
          refine AllReadyH.cons (o := _) rfl (fun K hK => ?_) AllReadyH.nil
          refine stepo_app1X lyP tPs 32 (.pointer none) 8 undPs infoPs3 rfl (by omega) rfl _ _ rfl w.heap.size (k + 1) (pl ps k) (pl_len ps k).symm (some p9) sv (by rfl) HBK.bl.size (HOW.out _ _ _ HBK) _ rfl (by rfl) (by omega) ?_ _ rfl rfl
          intro g c' w2 g1 g2 g3 g4
          have HZ := HAP.out _ _ _ _ _ _ HBK g1 g2 g3
          refine hK.out _ _ trivial (fun hHeld => ?_)
          clear hK K
          (try simp only [Act.put, List.getElem_toArray, List.getElem_cons_succ, List.getElem_cons_zero, List.setIfInBounds_toArray, List.set_cons_zero, List.set_cons_succ])
          refine wpAnyH_take (i := 10) (v := ?_) rfl (by kernel_rfl) (by kernel_rfl) (by kernel_rfl) (fun _ _ _ h => h) (Or.inl ⟨by kernel_rfl, ?_⟩) (by assumption) ?_
          rotate_left
          · (intro w hSw; (try dsimp only at hSw); go_simp; (try with_reducible rfl))
          simp only [Act.put, List.getElem_toArray, List.getElem_cons_succ, List.getElem_cons_zero, List.setIfInBounds_toArray, List.set_cons_zero, List.set_cons_succ]
          refine wpAnyH_take (i := 11) (v := ?_) rfl (by kernel_rfl) (by kernel_rfl) (by kernel_rfl) (fun _ _ _ h => h) (Or.inl ⟨by kernel_rfl, ?_⟩) (by assumption) ?_
          rotate_left
          · (intro w hSw; (try dsimp only at hSw); go_simp; (try with_reducible rfl))
          simp only [Act.put, List.getElem_toArray, List.getElem_cons_succ, List.getElem_cons_zero, List.setIfInBounds_toArray, List.set_cons_zero, List.set_cons_succ]
          refine wpAnyH_ready (rs := [12]) (by kernel_rfl) (by simp) ?_
          refine AllReadyH.cons (o := _) rfl (fun K hK => ?_) AllReadyH.nil
          refine stepo_setU rfl 32 _ _ rfl cb 0 (.slice (some ⟨g, 0, none⟩) (k + 1 + 1) c') (by rfl) (by rfl) rfl infoPss [sv, .slice none 0 0] [.slice (some ⟨g, 0, none⟩) (k + 1 + 1) c', .slice none 0 0] tCp HZ.row (by simp) rfl ?_
          intro U3 R3 O3
          have HZ3 := HZ.store O3 R3
          refine hK.out _ _ trivial (fun hHeld => ?_)
          clear hK K
          (try simp only [Act.put, List.getElem_toArray, List.getElem_cons_succ, List.getElem_cons_zero, List.setIfInBounds_toArray, List.set_cons_zero, List.set_cons_succ])
          refine wpAnyH_done (by kernel_rfl) ?_ _
          refine NoPanic.normal ?_
          have HE := hidI HZ3
          clear HZ HZ3 O3 R3 g1 g2 g3 g4 hHeld HBK HX
          go_wp2_with fail
          go_roundw
          case rel => exact ⟨k + 1, by omega, by go_num, _, _, _, HE.out⟩
          case measure => simp [intOf]; omega
        exact AllReadyH.nil
      exact AllReadyH.nil
    · have ekn : n = k := by omega
      subst ekn
      have hle : ¬ (n : Int) + 1 ≤ (n : Int) := by omega
      obtain ⟨sb, sc, e1, e2⟩ := HX.ck
      subst e1
      have HE := hidI e2
      clear HX e2
      go_wp2_with fail
      go_ret
      first | exact ⟨cb, ps, sb, sc, Bs, rfl, HE.out⟩ | exact ⟨cb, rfl, ps, sb, sc, Bs, HE.out⟩
end Go.Proofs.Ytimlonpaahdcmaa

/- A camp's round. -/
namespace Go.Proofs.Ytimlonpaahdcmaa
open Go.RowKit Go.Maps
set_option linter.unusedVariables false
set_option linter.unusedSimpArgs false

abbrev tBo : TypeId := 4
theorem infoSs : (Try.prog.info? 33).map (·.size) = some 1 := by kernel_rfl
/-- a camp; where its frames lie is hidden -/
def CH (w : World) (cb n N : Nat) (ss : Nat → SO.Sc) (net : List SO.Fr) (ps : Nat → Nat) (sb : Nat) (sv : Value) (rs : List (Nat × Obj)) (U : World) : Prop := ∃ nv Bs ys, CK w cb n N ss net ps sb sv nv nv Bs ys rs U
/-- a scout has answered: what it sends lies beside the camp -/
def CF (w : World) (cb n N : Nat) (ss : Nat → SO.Sc) (net fs : List SO.Fr) (ps : Nat → Nat) (sb : Nat) (sv nv : Value) (ys : List Sn) (rs : List (Nat × Obj)) (a : Option Addr) (U : World) : Prop := ∃ Bs ys', CK w cb n N ss net ps sb sv nv nv Bs ys rs U ∧ FRS U (XG Bs nv cb sb) a ys' fs
/-- what a round looks at -/
structure CL (cb sb n sc : Nat) (ps : Nat → Nat) (U : World) : Prop where
  c0 : U.cell? ⟨cb, 0, none⟩ = some (.slice (some ⟨sb, 0, none⟩) (n + 1) sc)
  p : ∀ i, 1 ≤ i → i ≤ n → U.cell? ⟨sb, i, none⟩ = some (.pointer (some ⟨ps i, 0, none⟩))
theorem CK.cl {w U : World} {cb n N sb sc : Nat} {ss : Nat → SO.Sc} {net : List SO.Fr} {ps : Nat → Nat} {nv rv : Value} {Bs : Nat → Nat → Prop} {ys : List Sn} {rs : List (Nat × Obj)} (x : CK w cb n N ss net ps sb (.slice (some ⟨sb, 0, none⟩) (n + 1) sc) nv rv Bs ys rs U) : CL cb sb n sc ps U := by
  obtain ⟨CS, hCS, hp⟩ := x.sl
  exact ⟨by rw [Lib.cell_of_heap x.row]; rfl, fun i i1 i2 => by rw [Lib.cell_of_heap hCS]; exact hp i i1 i2⟩
theorem CK.c1 {w U : World} {cb n N sb : Nat} {ss : Nat → SO.Sc} {net : List SO.Fr} {ps : Nat → Nat} {sv nv rv : Value} {Bs : Nat → Nat → Prop} {ys : List Sn} {rs : List (Nat × Obj)} (x : CK w cb n N ss net ps sb sv nv rv Bs ys rs U) : U.cell? ⟨cb, 1, none⟩ = some rv := by
  rw [Lib.cell_of_heap x.row]; rfl
theorem CK.drewN {w U : World} {cb n N sb : Nat} {ss : Nat → SO.Sc} {net : List SO.Fr} {ps : Nat → Nat} {sv nv rv : Value} {Bs : Nat → Nat → Prop} {ys : List Sn} {rs : List (Nat × Obj)} (x : CK w cb n N ss net ps sb sv nv rv Bs ys rs U) (k : Nat) : CK w cb n N ss net ps sb sv nv rv Bs ys rs (U.drewN k) := x.grow ((Bl.refl U).drewN k)
theorem CK.tick {w U : World} {cb n N sb i : Nat} {ss : Nat → SO.Sc} {net : List SO.Fr} {ps : Nat → Nat} {sv nv : Value} {Bs : Nat → Nat → Prop} {ys : List Sn} {rs : List (Nat × Obj)} (x : CK w cb n N ss net ps sb sv nv nv Bs ys rs U) (h1 : 1 ≤ i) (h2 : i ≤ n) (hN : N ≤ 1000000000) (d : Int) (hd : i64 d) : Calls Try.prog 11 #[.pointer (some ⟨ps i, 0, none⟩), .int .i64 d] U fun e w' => ∃ a c, e = .returned (.slice a (SO.tick (ss i) d).2.length c) ∧ CF w cb n (N + 10) (SO.up ss i (SO.tick (ss i) d).1) net (SO.tick (ss i) d).2 ps sb sv nv ys rs a w' := by
  obtain ⟨P, y⟩ := x.sc i h1 h2
  refine (Tick_x y hN d hd).mono fun e w' h => ?_
  obtain ⟨a, c, ys', Bs', e1, e2, e3⟩ := x.ans h1 h2 (Nat.le_add_right _ _) h
  exact ⟨a, c, e1, Bs', ys', e2, e3⟩
theorem CK.hear {w U : World} {cb n N sb i : Nat} {ss : Nat → SO.Sc} {net : List SO.Fr} {ps : Nat → Nat} {sv nv : Value} {Bs : Nat → Nat → Prop} {ys : List Sn} {rs : List (Nat × Obj)} (x : CK w cb n N ss net ps sb sv nv nv Bs ys rs U) (h1 : 1 ≤ i) (h2 : i ≤ n) (hN : N ≤ 10000000) (FL : List Value) (f : SO.Fr) (a : Option Addr) (c : Nat) (hf : FrC FL f a c) (hg : SO.GoodF n f) (hn6 : n ≤ 6) (hr : RS lyM U a f.rum) (ha : ∀ g off, a = some ⟨g, off, none⟩ → ∀ j, ¬ Bs j g) : Calls Try.prog 12 #[.pointer (some ⟨ps i, 0, none⟩), .agg FL.toArray] U fun e w' => ∃ a c, e = .returned (.slice a (SO.hear (ss i) f).2.length c) ∧ CF w cb n (N + 13) (SO.up ss i (SO.hear (ss i) f).1) net (SO.hear (ss i) f).2 ps sb sv nv ys rs a w' := by
  obtain ⟨P, y⟩ := x.sc i h1 h2
  have hr6 := hg.r6
  refine (Hear_y y (by omega) FL f a c hf ⟨by have := hg.f1; omega, by have := hg.f2; omega⟩ hr (fun g off e _ => ha g off e i) (fun m hm => ?_) (by omega)).mono fun e w' h => ?_
  · have := hg.rg m hm
    unfold K.Good at this
    exact ⟨⟨by omega, by omega⟩, ⟨by omega, by omega⟩⟩
  · obtain ⟨a, c, ys', Bs', e1, e2, e3⟩ := x.ans h1 h2 (M := N + 13) (by omega) (h.more (by omega))
    exact ⟨a, c, e1, Bs', ys', e2, e3⟩
theorem CK.sub {w U : World} {cb n N sb : Nat} {ss : Nat → SO.Sc} {net : List SO.Fr} {ps : Nat → Nat} {sv nv rv : Value} {Bs : Nat → Nat → Prop} {ys : List Sn} {rs rs' : List (Nat × Obj)} (x : CK w cb n N ss net ps sb sv nv rv Bs ys rs U) (h : ∀ r ∈ rs', r ∈ rs) : CK w cb n N ss net ps sb sv nv rv Bs ys rs' U :=
  ⟨x.row, x.sl, x.sc, x.dj, x.out, x.q, x.len, x.each, x.bl, x.lo, fun r hr => x.be r (h r hr)⟩
/-- a frame in a box -/
structure BF (xb : Nat) (dst frm : Int) (rv : Value) (FL : List Value) (U : World) : Prop where
  k0 : U.cell? ⟨xb, 0, none⟩ = some (.int .i64 dst)
  k2 : U.cell? ⟨xb, 2, none⟩ = some (.int .i64 frm)
  kr : U.cell? ⟨xb, 237, none⟩ = some rv
  rg : U.rangeAt xb 1 FL
theorem boxF {FL : List Value} {f : SO.Fr} {a : Option Addr} {c : Nat} (hf : FrC FL f a c) {U : World} {xb : Nat} (h : U.heap[xb]? = some (.cells (Value.int .i64 f.dst :: FL).toArray tSn (0, 0))) : BF xb f.dst f.frm (.slice a f.rum.length c) FL U := by
  have e : ∀ j v, FL[j]? = some v → (Value.int .i64 f.dst :: FL)[1 + j]? = some v := fun j v hv => by
    rw [show 1 + j = j + 1 by omega, List.getElem?_cons_succ]; exact hv
  exact ⟨cellL h rfl, cellL h (e 1 _ hf.k1), cellL h (e 236 _ hf.kr), fun j v hv => cellL h (e j v hv)⟩
theorem i64w (x : Int) : i64 (IntKind.i64.wrap x) := by
  simp only [IntKind.wrap, IntKind.bits, IntKind.signed]
  constructor <;> (simp; omega)
set_option maxRecDepth 8000 in
set_option maxHeartbeats 16000000 in
theorem round_x {w U : World} {cb n N sb sc zb zl zc : Nat} {ss ss' : Nat → SO.Sc} {ps : Nat → Nat} {rs : List (Nat × Obj)} {ZC : Array Value} {sil : Nat → Bool} (x : CH w cb n N ss [] ps sb (.slice (some ⟨sb, 0, none⟩) (n + 1) sc) rs U) (hz : (zb, .cells ZC tBo (0, 0)) ∈ rs) (hs : ∀ i, i ≤ n → ZC[i]? = some (.bool (sil i))) (hzl : n < zl) (hn1 : 1 ≤ n) (hn6 : n ≤ 6) (hN : N ≤ 9000000) (d : Int) (hd : i64 d) (hG : SO.GoodR n sil (fun i => IntKind.i64.wrap (d + (i : Int))) ss ss') :
    Calls Try.prog 8 #[.pointer (some ⟨cb, 0, none⟩), .slice (some ⟨zb, 0, none⟩) zl zc, .int .i64 d] U fun e w' => e = .returned (.bool true) ∧ CH w cb n (N + 7000) ss' [] ps sb (.slice (some ⟨sb, 0, none⟩) (n + 1) sc) rs w' := by
  obtain ⟨z, hz1, hz2⟩ := infoSn3
  obtain ⟨fsS, humS⟩ := undSn
  obtain ⟨fsF, humF⟩ := undFr
  have HZC : Hid (∀ {M : Nat} {st : Nat → SO.Sc} {net : List SO.Fr} {nv rv : Value} {Bs : Nat → Nat → Prop} {ys : List Sn} {rs' : List (Nat × Obj)} {V : World}, CK w cb n M st net ps sb (.slice (some ⟨sb, 0, none⟩) (n + 1) sc) nv rv Bs ys rs' V → (∀ r ∈ rs, r ∈ rs') → ∀ i, i ≤ n → V.cell? ⟨zb, i, none⟩ = some (.bool (sil i))) := fun h hr i hi => by
    have h1 := (h.be _ (hr _ hz)).1
    rw [Lib.cell_of_heap h1]; exact hs i hi
  have HX0 := hidI x
  have HGR := hidI hG
  obtain ⟨dr, hdr⟩ : ∃ dr : Nat → Int, (fun i : Nat => IntKind.i64.wrap (d + (i : Int))) = dr := ⟨_, rfl⟩
  have HDR : Hid (∀ i : Nat, dr i = IntKind.i64.wrap (d + (i : Int))) := fun i => by rw [← hdr]
  rw [hdr] at HGR
  clear x hz hs hG hdr
  obtain ⟨K, hK5, hKe, hKn⟩ := HGR.out.e
  go_enter Try.func8, Try.ntmps8
  go_wp2_with fail
  go_loopw [7] (fun u7 wr => ∃ k : Nat, k ≤ n ∧ u7 = .int .i64 ((k : Int) + 1) ∧ CH w cb n (N + 10 * k) (SO.rT sil dr (ss, []) k).1 (SO.rT sil dr (ss, []) k).2 ps sb (.slice (some ⟨sb, 0, none⟩) (n + 1) sc) rs wr) (fun u7 _ => n + 1 - (intOf u7).toNat)
  case atStart => exact ⟨0, by omega, rfl, HX0.out⟩
  case round =>
    obtain ⟨k, hk, rfl, hx⟩ := hrel
    clear HX0
    obtain ⟨nv, Bs, ys, HX⟩ := hx
    have kc0 := HX.cl.c0
    by_cases hlt : k < n
    · have kz := HZC.out HX (fun r h => h) (k + 1) (by omega)
      have kz' : wr.cell? ⟨zb, k + 1, none⟩ = some (.bool (sil (k + 1))) := kz
      have hkn : (k : Int) + 1 < (n : Int) + 1 := by omega
      have htn : ((k : Int) + 1).toNat = k + 1 := by omega
      have hk0 : (0 : Int) ≤ (k : Int) + 1 := by omega
      cases hsk : sil (k + 1) with
      | true =>
        rw [hsk] at kz kz'
        have HE : Hid (CH w cb n (N + 10 * (k + 1)) (SO.rT sil dr (ss, []) (k + 1)).1 (SO.rT sil dr (ss, []) (k + 1)).2 ps sb (.slice (some ⟨sb, 0, none⟩) (n + 1) sc) rs wr) := by
          have e : SO.rT sil dr (ss, []) (k + 1) = SO.rT sil dr (ss, []) k := by
            show (if sil (k + 1) = true then _ else _) = _
            rw [hsk]; rfl
          show CH _ _ _ _ _ _ _ _ _ _ _
          rw [e]
          exact ⟨nv, Bs, ys, HX.more (by omega)⟩
        clear HX
        go_wp2_with fail
        go_roundw
        case rel => exact ⟨k + 1, by omega, by go_num, HE.out⟩
        case measure => simp [intOf]; omega
      | false =>
        rw [hsk] at kz kz'
        have hrT : SO.rT sil dr (ss, []) (k + 1) = SO.tk1 dr (SO.rT sil dr (ss, []) k) (k + 1) := by
          show (if sil (k + 1) = true then _ else _) = _
          rw [hsk]; rfl
        have hlen := HGR.out.t (k + 1) (by omega)
        rw [hrT] at hlen
        have CT : Hid (∀ V, CK w cb n (N + 10 * k) (SO.rT sil dr (ss, []) k).1 (SO.rT sil dr (ss, []) k).2 ps sb (.slice (some ⟨sb, 0, none⟩) (n + 1) sc) nv nv Bs ys rs V → Calls Try.prog 11 #[.pointer (some ⟨ps (k + 1), 0, none⟩), .int .i64 (IntKind.i64.wrap (d + ((k : Int) + 1)))] V fun e w' => ∃ a c, e = .returned (.slice a (SO.tick ((SO.rT sil dr (ss, []) k).1 (k + 1)) (dr (k + 1))).2.length c) ∧ CF w cb n (N + 10 * k + 10) (SO.up (SO.rT sil dr (ss, []) k).1 (k + 1) (SO.tick ((SO.rT sil dr (ss, []) k).1 (k + 1)) (dr (k + 1))).1) (SO.rT sil dr (ss, []) k).2 (SO.tick ((SO.rT sil dr (ss, []) k).1 (k + 1)) (dr (k + 1))).2 ps sb (.slice (some ⟨sb, 0, none⟩) (n + 1) sc) nv ys rs a w') := fun V h => by
          have e : dr (k + 1) = IntKind.i64.wrap (d + ((k : Int) + 1)) := HDR.out (k + 1)
          rw [← e]
          exact h.tick (by omega) (by omega) (by omega) _ (by rw [e]; exact i64w _)
        have HF : Hid (∀ v9 Bs9 ys9 V, CK w cb n (N + 10 * k + 10) (SO.up (SO.rT sil dr (ss, []) k).1 (k + 1) (SO.tick ((SO.rT sil dr (ss, []) k).1 (k + 1)) (dr (k + 1))).1) ((SO.rT sil dr (ss, []) k).2 ++ (SO.tick ((SO.rT sil dr (ss, []) k).1 (k + 1)) (dr (k + 1))).2) ps sb (.slice (some ⟨sb, 0, none⟩) (n + 1) sc) v9 v9 Bs9 ys9 rs V → CH w cb n (N + 10 * (k + 1)) (SO.rT sil dr (ss, []) (k + 1)).1 (SO.rT sil dr (ss, []) (k + 1)).2 ps sb (.slice (some ⟨sb, 0, none⟩) (n + 1) sc) rs V) := fun v9 Bs9 ys9 V h => by
          rw [hrT]
          exact ⟨v9, Bs9, ys9, h⟩
        have hlen2 : (SO.rT sil dr (ss, []) k).2.length + (SO.tick ((SO.rT sil dr (ss, []) k).1 (k + 1)) (dr (k + 1))).2.length ≤ 1000 := by
          have e : (SO.tk1 dr (SO.rT sil dr (ss, []) k) (k + 1)).2 = (SO.rT sil dr (ss, []) k).2 ++ (SO.tick ((SO.rT sil dr (ss, []) k).1 (k + 1)) (dr (k + 1))).2 := rfl
          rw [e, List.length_append] at hlen
          exact hlen
        clear hlen hrT HGR HDR HZC hKe hKn
        generalize SO.tick ((SO.rT sil dr (ss, []) k).1 (k + 1)) (dr (k + 1)) = tk at *
        generalize SO.up (SO.rT sil dr (ss, []) k).1 (k + 1) tk.1 = ssn at *
        generalize SO.rT sil dr (ss, []) k = S0' at *
        have SK0 : Hid (∀ V, CK w cb n (N + 10 * k) S0'.1 S0'.2 ps sb (.slice (some ⟨sb, 0, none⟩) (n + 1) sc) nv nv Bs ys rs V → CL cb sb n sc ps V) := fun V h => h.cl
        have SK1 : Hid (∀ a V, CF w cb n (N + 10 * k + 10) ssn S0'.2 tk.2 ps sb (.slice (some ⟨sb, 0, none⟩) (n + 1) sc) nv ys rs a V → CL cb sb n sc ps V) := fun a V h => by
          obtain ⟨B9, y9, c9, _⟩ := h
          exact c9.cl
        have SC0 : Hid (∀ V, CK w cb n (N + 10 * k) S0'.1 S0'.2 ps sb (.slice (some ⟨sb, 0, none⟩) (n + 1) sc) nv nv Bs ys rs V → V.cell? ⟨cb, 1, none⟩ = some nv) := fun V h => h.c1
        have SC1 : Hid (∀ a V, CF w cb n (N + 10 * k + 10) ssn S0'.2 tk.2 ps sb (.slice (some ⟨sb, 0, none⟩) (n + 1) sc) nv ys rs a V → V.cell? ⟨cb, 1, none⟩ = some nv) := fun a V h => by
          obtain ⟨B9, y9, c9, _⟩ := h
          exact c9.c1
        go_wp2_with fail
        refine wp_region_noPanic ?_
        refine wp_region_held_drew (S := CL cb sb n sc ps) (by kernel_rfl) ((by first | exact SK0.out _ (HX.drewN 1) | exact SK1.out _ _ (HX.drewN 1))) (fun hHeld => ?_)
        refine wpAnyH_take (i := 0) rfl (by kernel_rfl) (by kernel_rfl) (by kernel_rfl) (fun _ _ _ h => h) (yi_move (by kernel_rfl) rfl rfl) (by assumption) ?_
        simp only [Act.put, List.getElem_toArray, List.getElem_cons_succ, List.getElem_cons_zero, List.setIfInBounds_toArray, List.set_cons_zero, List.set_cons_succ]
        refine wpAnyH_take (i := 1) rfl (by kernel_rfl) (by kernel_rfl) (by kernel_rfl) (fun _ _ _ h => h) (yi_move (by kernel_rfl) rfl rfl) (by assumption) ?_
        simp only [Act.put, List.getElem_toArray, List.getElem_cons_succ, List.getElem_cons_zero, List.setIfInBounds_toArray, List.set_cons_zero, List.set_cons_succ]
        refine wpAnyH_take (i := 2) (v := ?_) rfl (by kernel_rfl) (by kernel_rfl) (by kernel_rfl) (fun _ _ _ h => h) (Or.inl ⟨by kernel_rfl, ?_⟩) (by assumption) ?_
        rotate_left
        · (intro w hSw; (try dsimp only at hSw); go_simp; (try with_reducible rfl))
        simp only [Act.put, List.getElem_toArray, List.getElem_cons_succ, List.getElem_cons_zero, List.setIfInBounds_toArray, List.set_cons_zero, List.set_cons_succ]
        refine wpAnyH_take (i := 3) (v := ?_) rfl (by kernel_rfl) (by kernel_rfl) (by kernel_rfl) (fun _ _ _ h => h) (Or.inl ⟨by kernel_rfl, ?_⟩) (by assumption) ?_
        rotate_left
        · (intro w hSw; (try dsimp only at hSw); go_simp; (try with_reducible rfl))
        simp only [Act.put, List.getElem_toArray, List.getElem_cons_succ, List.getElem_cons_zero, List.setIfInBounds_toArray, List.set_cons_zero, List.set_cons_succ]
        refine wpAnyH_take (i := 5) rfl (by kernel_rfl) (by kernel_rfl) (by kernel_rfl) (fun _ _ _ h => h) (yi_move (by kernel_rfl) rfl rfl) (by assumption) ?_
        simp only [Act.put, List.getElem_toArray, List.getElem_cons_succ, List.getElem_cons_zero, List.setIfInBounds_toArray, List.set_cons_zero, List.set_cons_succ]
        refine wpAnyH_take (i := 6) (v := ?_) rfl (by kernel_rfl) (by kernel_rfl) (by kernel_rfl) (fun _ _ _ h => h) (Or.inl ⟨by kernel_rfl, ?_⟩) (by assumption) ?_
        rotate_left
        · (intro w hSw; (try dsimp only at hSw); go_simp; (try with_reducible rfl))
        simp only [Act.put, List.getElem_toArray, List.getElem_cons_succ, List.getElem_cons_zero, List.setIfInBounds_toArray, List.set_cons_zero, List.set_cons_succ]
        refine wpAnyH_take (i := 7) (v := ?_) rfl (by kernel_rfl) (by kernel_rfl) (by kernel_rfl) (fun _ _ _ h => h) (Or.inl ⟨by kernel_rfl, ?_⟩) (by assumption) ?_
        rotate_left
        · (intro w hSw; (try dsimp only at hSw); go_simp; (try with_reducible rfl))
        simp only [Act.put, List.getElem_toArray, List.getElem_cons_succ, List.getElem_cons_zero, List.setIfInBounds_toArray, List.set_cons_zero, List.set_cons_succ]
        refine wpAnyH_take (i := 8) (v := ?_) rfl (by kernel_rfl) (by kernel_rfl) (by kernel_rfl) (fun _ _ _ h => h) (Or.inl ⟨by kernel_rfl, ?_⟩) (by assumption) ?_
        rotate_left
        · (intro w hSw; have z1 := hSw.c0; go_simp; (try with_reducible rfl))
        simp only [Act.put, List.getElem_toArray, List.getElem_cons_succ, List.getElem_cons_zero, List.setIfInBounds_toArray, List.set_cons_zero, List.set_cons_succ]
        refine wpAnyH_take (i := 9) rfl (by kernel_rfl) (by kernel_rfl) (by kernel_rfl) (fun _ _ _ h => h) (yi_move (by kernel_rfl) rfl rfl) (by assumption) ?_
        simp only [Act.put, List.getElem_toArray, List.getElem_cons_succ, List.getElem_cons_zero, List.setIfInBounds_toArray, List.set_cons_zero, List.set_cons_succ]
        refine wpAnyH_take (i := 10) (v := ?_) rfl (by kernel_rfl) (by kernel_rfl) (by kernel_rfl) (fun _ _ _ h => h) (Or.inl ⟨by kernel_rfl, ?_⟩) (by assumption) ?_
        rotate_left
        · (intro w hSw; (try dsimp only at hSw); go_simp; (try with_reducible rfl))
        simp only [Act.put, List.getElem_toArray, List.getElem_cons_succ, List.getElem_cons_zero, List.setIfInBounds_toArray, List.set_cons_zero, List.set_cons_succ]
        refine wpAnyH_take (i := 11) (v := ?_) rfl (by kernel_rfl) (by kernel_rfl) (by kernel_rfl) (fun _ _ _ h => h) (Or.inl ⟨by kernel_rfl, ?_⟩) (by assumption) ?_
        rotate_left
        · (intro w hSw; have z1 := hSw.p (k + 1) (by omega) (by omega); go_simp; (try with_reducible rfl))
        simp only [Act.put, List.getElem_toArray, List.getElem_cons_succ, List.getElem_cons_zero, List.setIfInBounds_toArray, List.set_cons_zero, List.set_cons_succ]
        refine wpAnyH_take (i := 12) rfl (by kernel_rfl) (by kernel_rfl) (by kernel_rfl) (fun _ _ _ h => h) (yi_move (by kernel_rfl) rfl rfl) (by assumption) ?_
        simp only [Act.put, List.getElem_toArray, List.getElem_cons_succ, List.getElem_cons_zero, List.setIfInBounds_toArray, List.set_cons_zero, List.set_cons_succ]
        refine wpAnyH_take (i := 13) rfl (by kernel_rfl) (by kernel_rfl) (by kernel_rfl) (fun _ _ _ h => h) (yi_move (by kernel_rfl) rfl rfl) (by assumption) ?_
        simp only [Act.put, List.getElem_toArray, List.getElem_cons_succ, List.getElem_cons_zero, List.setIfInBounds_toArray, List.set_cons_zero, List.set_cons_succ]
        refine wpAnyH_take (i := 14) (v := ?_) rfl (by kernel_rfl) (by kernel_rfl) (by kernel_rfl) (fun _ _ _ h => h) (Or.inl ⟨by kernel_rfl, ?_⟩) (by assumption) ?_
        rotate_left
        · (intro w hSw; (try dsimp only at hSw); go_simp; (try with_reducible rfl))
        simp only [Act.put, List.getElem_toArray, List.getElem_cons_succ, List.getElem_cons_zero, List.setIfInBounds_toArray, List.set_cons_zero, List.set_cons_succ]
        refine wpAnyH_ready (rs := [4, 15]) (by kernel_rfl) (by simp) ?_
        refine AllReadyH.cons (o := _) rfl (fun K hK => ?_) ?_
        · refine stepo_load1 rfl 33 _ rfl cb 1 (by rfl) nv (by first | exact (SC0.out _ (HX.drewN 1)) | exact (SC1.out _ _ (HX.drewN 1))) undSs (hK.out _ _ ((by first | exact SK0.out _ (HX.drewN 1) | exact SK1.out _ _ (HX.drewN 1))) (fun hHeld => ?_))
          clear hK K
          (try simp only [Act.put, List.getElem_toArray, List.getElem_cons_succ, List.getElem_cons_zero, List.setIfInBounds_toArray, List.set_cons_zero, List.set_cons_succ])
          refine wpAnyH_ready (rs := [15]) (by kernel_rfl) (by simp) ?_
          refine AllReadyH.cons (o := _) rfl (fun K hK => ?_) AllReadyH.nil
          go_simp
          go_at_call 11; refine (CT.out _ (HX.drewN 1)).mono ?_; rintro e V16 ⟨a9, c9, rfl, HB16⟩
          refine hK.out _ _ ((by first | exact SK0.out _ HB16 | exact SK1.out _ _ HB16)) (fun hHeld => ?_)
          clear hK K
          (try simp only [Act.put, List.getElem_toArray, List.getElem_cons_succ, List.getElem_cons_zero, List.setIfInBounds_toArray, List.set_cons_zero, List.set_cons_succ])
          refine wpAnyH_ready (rs := [16]) (by kernel_rfl) (by simp) ?_
          refine AllReadyH.cons (o := _) rfl (fun K hK => ?_) AllReadyH.nil
          obtain ⟨Bs9, ys9, ck9, fr9⟩ := HB16
          refine stepo_appQ lyS tSn 33 (.agg z) 408 undSs hz1 hz2 (by omega) rfl _ _ rfl nv ys (by rfl) ck9.q a9 ys9 _ _ fr9.len.symm (by rfl) fr9.rs (by have h8 := ck9.len; have h9 := fr9.len; omega) ?_
          intro v9 w9 q1 q2 q3
          have HZ := ck9.app fr9 q1 q2 q3
          refine hK.out _ _ (HZ.cl) (fun hHeld => ?_)
          clear hK K
          (try simp only [Act.put, List.getElem_toArray, List.getElem_cons_succ, List.getElem_cons_zero, List.setIfInBounds_toArray, List.set_cons_zero, List.set_cons_succ])
          refine wpAnyH_take (i := 17) (v := ?_) rfl (by kernel_rfl) (by kernel_rfl) (by kernel_rfl) (fun _ _ _ h => h) (Or.inl ⟨by kernel_rfl, ?_⟩) (by assumption) ?_
          rotate_left
          · (intro w hSw; (try dsimp only at hSw); go_simp; (try with_reducible rfl))
          simp only [Act.put, List.getElem_toArray, List.getElem_cons_succ, List.getElem_cons_zero, List.setIfInBounds_toArray, List.set_cons_zero, List.set_cons_succ]
          refine wpAnyH_take (i := 18) (v := ?_) rfl (by kernel_rfl) (by kernel_rfl) (by kernel_rfl) (fun _ _ _ h => h) (Or.inl ⟨by kernel_rfl, ?_⟩) (by assumption) ?_
          rotate_left
          · (intro w hSw; (try dsimp only at hSw); go_simp; (try with_reducible rfl))
          simp only [Act.put, List.getElem_toArray, List.getElem_cons_succ, List.getElem_cons_zero, List.setIfInBounds_toArray, List.set_cons_zero, List.set_cons_succ]
          refine wpAnyH_ready (rs := [19]) (by kernel_rfl) (by simp) ?_
          refine AllReadyH.cons (o := _) rfl (fun K hK => ?_) AllReadyH.nil
          refine stepo_setU rfl 33 _ _ rfl cb 1 v9 (by rfl) (by rfl) (by obtain ⟨a8, c8, e8⟩ := HZ.q.len; rw [e8]; rfl) infoSs [.slice (some ⟨sb, 0, none⟩) (n + 1) sc, nv] [.slice (some ⟨sb, 0, none⟩) (n + 1) sc, v9] tCp HZ.row (by simp) rfl ?_
          intro U3 R3 O3
          have HZ3 := HZ.store O3 R3
          refine hK.out _ _ (HZ3.cl) (fun hHeld => ?_)
          clear hK K
          (try simp only [Act.put, List.getElem_toArray, List.getElem_cons_succ, List.getElem_cons_zero, List.setIfInBounds_toArray, List.set_cons_zero, List.set_cons_succ])
          refine wpAnyH_done (by kernel_rfl) ?_ _
          refine NoPanic.normal ?_
          have HE := hidI (HF.out _ _ _ _ HZ3)
          clear HZ HZ3 O3 R3 q1 q2 q3 ck9 fr9 hHeld
          go_wp2_with fail
          go_roundw
          case rel => exact ⟨k + 1, by omega, by go_num, HE.out⟩
          case measure => simp [intOf]; omega
        refine AllReadyH.cons (o := _) rfl (fun K hK => ?_) ?_
        · go_simp
          go_at_call 11; refine (CT.out _ (HX.drewN 1)).mono ?_; rintro e V20 ⟨a9, c9, rfl, HB20⟩
          refine hK.out _ _ ((by first | exact SK0.out _ HB20 | exact SK1.out _ _ HB20)) (fun hHeld => ?_)
          clear hK K
          (try simp only [Act.put, List.getElem_toArray, List.getElem_cons_succ, List.getElem_cons_zero, List.setIfInBounds_toArray, List.set_cons_zero, List.set_cons_succ])
          refine wpAnyH_ready (rs := [4]) (by kernel_rfl) (by simp) ?_
          refine AllReadyH.cons (o := _) rfl (fun K hK => ?_) AllReadyH.nil
          refine stepo_load1 rfl 33 _ rfl cb 1 (by rfl) nv (by first | exact (SC0.out _ HB20) | exact (SC1.out _ _ HB20)) undSs (hK.out _ _ ((by first | exact SK0.out _ HB20 | exact SK1.out _ _ HB20)) (fun hHeld => ?_))
          clear hK K
          (try simp only [Act.put, List.getElem_toArray, List.getElem_cons_succ, List.getElem_cons_zero, List.setIfInBounds_toArray, List.set_cons_zero, List.set_cons_succ])
          refine wpAnyH_ready (rs := [16]) (by kernel_rfl) (by simp) ?_
          refine AllReadyH.cons (o := _) rfl (fun K hK => ?_) AllReadyH.nil
          obtain ⟨Bs9, ys9, ck9, fr9⟩ := HB20
          refine stepo_appQ lyS tSn 33 (.agg z) 408 undSs hz1 hz2 (by omega) rfl _ _ rfl nv ys (by rfl) ck9.q a9 ys9 _ _ fr9.len.symm (by rfl) fr9.rs (by have h8 := ck9.len; have h9 := fr9.len; omega) ?_
          intro v9 w9 q1 q2 q3
          have HZ := ck9.app fr9 q1 q2 q3
          refine hK.out _ _ (HZ.cl) (fun hHeld => ?_)
          clear hK K
          (try simp only [Act.put, List.getElem_toArray, List.getElem_cons_succ, List.getElem_cons_zero, List.setIfInBounds_toArray, List.set_cons_zero, List.set_cons_succ])
          refine wpAnyH_take (i := 17) (v := ?_) rfl (by kernel_rfl) (by kernel_rfl) (by kernel_rfl) (fun _ _ _ h => h) (Or.inl ⟨by kernel_rfl, ?_⟩) (by assumption) ?_
          rotate_left
          · (intro w hSw; (try dsimp only at hSw); go_simp; (try with_reducible rfl))
          simp only [Act.put, List.getElem_toArray, List.getElem_cons_succ, List.getElem_cons_zero, List.setIfInBounds_toArray, List.set_cons_zero, List.set_cons_succ]
          refine wpAnyH_take (i := 18) (v := ?_) rfl (by kernel_rfl) (by kernel_rfl) (by kernel_rfl) (fun _ _ _ h => h) (Or.inl ⟨by kernel_rfl, ?_⟩) (by assumption) ?_
          rotate_left
          · (intro w hSw; (try dsimp only at hSw); go_simp; (try with_reducible rfl))
          simp only [Act.put, List.getElem_toArray, List.getElem_cons_succ, List.getElem_cons_zero, List.setIfInBounds_toArray, List.set_cons_zero, List.set_cons_succ]
          refine wpAnyH_ready (rs := [19]) (by kernel_rfl) (by simp) ?_
          refine AllReadyH.cons (o := _) rfl (fun K hK => ?_) AllReadyH.nil
          refine stepo_setU rfl 33 _ _ rfl cb 1 v9 (by rfl) (by rfl) (by obtain ⟨a8, c8, e8⟩ := HZ.q.len; rw [e8]; rfl) infoSs [.slice (some ⟨sb, 0, none⟩) (n + 1) sc, nv] [.slice (some ⟨sb, 0, none⟩) (n + 1) sc, v9] tCp HZ.row (by simp) rfl ?_
          intro U3 R3 O3
          have HZ3 := HZ.store O3 R3
          refine hK.out _ _ (HZ3.cl) (fun hHeld => ?_)
          clear hK K
          (try simp only [Act.put, List.getElem_toArray, List.getElem_cons_succ, List.getElem_cons_zero, List.setIfInBounds_toArray, List.set_cons_zero, List.set_cons_succ])
          refine wpAnyH_done (by kernel_rfl) ?_ _
          refine NoPanic.normal ?_
          have HE := hidI (HF.out _ _ _ _ HZ3)
          clear HZ HZ3 O3 R3 q1 q2 q3 ck9 fr9 hHeld
          go_wp2_with fail
          go_roundw
          case rel => exact ⟨k + 1, by omega, by go_num, HE.out⟩
          case measure => simp [intOf]; omega
        exact AllReadyH.nil
    · have ekn : n = k := by omega
      subst ekn
      have hkn : ¬ (n : Int) + 1 < (n : Int) + 1 := by omega
      obtain ⟨T, hT⟩ : ∃ T, SO.rT sil dr (ss, []) n = T := ⟨_, rfl⟩
      have HG2 : Hid (∀ k f r, (SO.rH sil T k).2 = f :: r → SO.GoodF n f ∧ r.length + (SO.hear ((SO.rH sil T k).1 f.dst.toNat) f).2.length ≤ 1000) := by rw [← hT]; exact HGR.out.g
      rw [hT] at hKe hKn HX
      have H2 : Hid (CH w cb n (N + 10 * n + 13 * 0) (SO.rH sil T 0).1 (SO.rH sil T 0).2 ps sb (.slice (some ⟨sb, 0, none⟩) (n + 1) sc) rs wr) := ⟨nv, Bs, ys, HX⟩
      have HKE := hidI hKe
      have HKN := hidI hKn
      clear HX hT HGR hKe hKn
      go_wp2_with fail
      clear kc0
      go_loopw [8, 9] (fun u8 _ wr => ∃ k : Nat, k ≤ K ∧ u8 = .int .i64 (k : Int) ∧ CH w cb n (N + 10 * n + 13 * k) (SO.rH sil T k).1 (SO.rH sil T k).2 ps sb (.slice (some ⟨sb, 0, none⟩) (n + 1) sc) rs wr) (fun u8 _ _ => K - (intOf u8).toNat)
      case atStart => exact ⟨0, by omega, rfl, H2.out⟩
      case round =>
        obtain ⟨k, hkK, rfl, hx⟩ := hrel
        clear H2
        obtain ⟨nv, Bs, ys, HX⟩ := hx
        by_cases hkk : k < K
        · have hk500 : (k : Int) < 500 := by omega
          obtain ⟨f, r, hfr⟩ : ∃ f r, (SO.rH sil T k).2 = f :: r := by
            cases hh : (SO.rH sil T k).2 with
            | nil => exact absurd hh (HKN.out k hkk)
            | cons f r => exact ⟨f, r, rfl⟩
          obtain ⟨hgf, hln⟩ := HG2.out k f r hfr
          rw [hfr] at HX
          have kc1 := HX.c1
          obtain ⟨g, off, cap, y, ys', env, hcap, hrg, hsn, HP⟩ := HX.pop
          obtain ⟨ad2, had2⟩ : ∃ ad : Option Addr, (if cap = 1 then some ⟨g, off, none⟩ else some ⟨g, off + 238, none⟩) = ad := ⟨_, rfl⟩
          rw [had2] at HP
          obtain ⟨nv2, hnv2⟩ : ∃ v, Value.slice ad2 r.length (cap - 1) = v := ⟨_, rfl⟩
          have HP' : CK w cb n (N + 10 * n + 13 * k) (SO.rH sil T k).1 r ps sb (.slice (some ⟨sb, 0, none⟩) (n + 1) sc) (Value.slice ad2 r.length (cap - 1)) nv Bs ys' rs wr := HP
          rw [hnv2] at HP'
          clear HP
          have HP := HP'
          clear HP'
          have hno : nv2.oneCell' = true := by rw [← hnv2]; rfl
          rw [env] at kc1
          have HRG := hidI hrg
          have hYl : (lyS.f y).length = 238 := lyS.len y
          have hiY : (Try.prog.info? tSn).map (·.size) = some (lyS.f y).length := by rw [hYl]; exact infoSn
          have HYO : Hid ((lyS.f y).toArray.all (·.oneCell') = true) := all_one (lyS.one y)
          have hYs : (lyS.f y).toArray.size = 238 := by simp [hYl]
          have hYE : lyS.f y = Value.int .i64 f.dst :: frL f.kind f.frm f.seq f.node zM (.slice y.ra f.rum.length y.rc) := by
            show snL y.dst y.kind y.frm y.seq y.node zM (.slice y.ra y.rn y.rc) = _
            rw [hsn.d, hsn.k, hsn.f, hsn.s, hsn.n, hsn.l]; rfl
          have hF0 : FrC (frL f.kind f.frm f.seq f.node zM (.slice y.ra f.rum.length y.rc)) f y.ra y.rc := frC f.dst f.kind f.frm f.seq f.node y.ra y.rc f.rum
          obtain ⟨FL, hFL⟩ : ∃ FL, frL f.kind f.frm f.seq f.node zM (.slice y.ra f.rum.length y.rc) = FL := ⟨_, rfl⟩
          rw [hFL] at hYE hF0
          have hFl : FL.length = 237 := hF0.len
          have hiF : (Try.prog.info? tFr).map (·.size) = some FL.length := by rw [hFl]; exact infoFr
          rw [hYE] at HRG hYl hiY HYO hYs
          have HPB : Hid (∀ V, V = wr.alloc (.cells (Value.int .i64 f.dst :: FL).toArray tSn) → CK w cb n (N + 10 * n + 13 * k) (SO.rH sil T k).1 r ps sb (.slice (some ⟨sb, 0, none⟩) (n + 1) sc) nv2 nv Bs ys' ((wr.heap.size, .cells (Value.int .i64 f.dst :: FL).toArray tSn (0, 0)) :: rs) V ∧ SN V (XG Bs nv cb sb) y f) := fun V hV => by
            subst hV
            exact ⟨HP.box _ _, hsn.keep ((Bl.refl wr).alloc _).size (fun g hg hl => ⟨((Bl.refl wr).alloc _).block g hl, hg⟩)⟩
          have hd1 := hgf.d1
          have hd2 := hgf.d2
          have hf1 := hgf.f1
          have hf2 := hgf.f2
          have hr6 := hgf.r6
          have HGF := hidI hgf
          have HLN := hidI hln
          have HHR : Hid (SO.rH sil T (k + 1) = if (!sil f.dst.toNat && !sil f.frm.toNat) = true then (SO.up (SO.rH sil T k).1 f.dst.toNat (SO.hear ((SO.rH sil T k).1 f.dst.toNat) f).1, r ++ (SO.hear ((SO.rH sil T k).1 f.dst.toNat) f).2) else ((SO.rH sil T k).1, r)) := by
            show SO.hr1 sil (SO.rH sil T k) = _
            unfold SO.hr1
            rw [hfr]
          have HF0 := hidI hF0
          have HBF : Hid (∀ (V : World) (xb : Nat), V.heap[xb]? = some (.cells (Value.int .i64 f.dst :: FL).toArray tSn (0, 0)) → BF xb f.dst f.frm (.slice y.ra f.rum.length y.rc) FL V) := fun V xb h => boxF hF0 h
          clear HX HP hrg hsn hYE hFL hF0 hgf hln hfr
          generalize Value.int .i64 f.dst :: FL = YL at *
          have hcap1 : (1 : Int) ≤ (r.length : Int) + 1 := by omega
          go_upto_region 11 with (first
            | (refine wpList_load_mid rfl tSn _ rfl g off rfl YL _ HRG.out humS rfl hiY ?_; clear HRG)
            | (refine wpList_store_row rfl tSn _ _ rfl wr.heap.size YL.toArray rfl rfl tSn zSn (heap_alloc_new wr _) (by rw [hYs]; exact infoSn) (by rw [hYs, zSn_size]) HYO.out ?_; rw [World.setRow_alloc_new]; clear HYO; obtain ⟨V, hV⟩ : ∃ V, V = wr.alloc (.cells YL.toArray tSn) := ⟨_, rfl⟩; rw [← hV]; have hpb := HPB.out V hV; have kc1V := hpb.1.c1; rw [env] at kc1V; have CKV := hidI hpb; clear hV hpb kc1)
            | (refine wl_setU rfl 33 _ _ rfl cb 1 nv2 rfl rfl hno infoSs [.slice (some ⟨sb, 0, none⟩) (n + 1) sc, nv] [.slice (some ⟨sb, 0, none⟩) (n + 1) sc, nv2] tCp CKV.out.1.row (by simp) rfl ?_; intro V2 R2 O2; have CK2 := hidI (CKV.out.1.store O2 R2); have SN2 := hidI (CKV.out.2.keep O2.size (fun g hg hl => ⟨O2.block g hl hg.2.2.1, hg⟩)); clear R2 O2 CKV kc1V))
          generalize wr.heap.size = xb at *
          have HC := CK2.out
          have l1 : ¬ f.dst < 1 := by omega
          have l2 : ¬ (n : Int) + 1 ≤ f.dst := by omega
          have l3 : ¬ (6 : Int) < (f.rum.length : Int) := by omega
          have SKX : Hid (∀ V, CK w cb n (N + 10 * n + 13 * k) (SO.rH sil T k).1 r ps sb (.slice (some ⟨sb, 0, none⟩) (n + 1) sc) nv2 nv2 Bs ys' ((xb, .cells YL.toArray tSn (0, 0)) :: rs) V → CL cb sb n sc ps V ∧ BF xb f.dst f.frm (.slice y.ra f.rum.length y.rc) FL V) := fun V h => ⟨h.cl, HBF.out V xb (h.be _ List.mem_cons_self).1⟩
          refine wp_region_noPanic ?_
          refine wp_region_held_drew (S := fun V => CL cb sb n sc ps V ∧ BF xb f.dst f.frm (.slice y.ra f.rum.length y.rc) FL V) (by kernel_rfl) ((SKX.out _ (HC.drewN 1))) (fun hHeld => ?_)
          refine wpAnyH_take (i := 0) (v := ?_) rfl (by kernel_rfl) (by kernel_rfl) (by kernel_rfl) (fun _ _ _ h => h) (Or.inl ⟨by kernel_rfl, ?_⟩) (by assumption) ?_
          rotate_left
          · (intro w hSw; (try dsimp only at hSw); go_simp; (try with_reducible rfl))
          simp only [Act.put, List.getElem_toArray, List.getElem_cons_succ, List.getElem_cons_zero, List.setIfInBounds_toArray, List.set_cons_zero, List.set_cons_succ]
          refine wpAnyH_take (i := 1) (v := ?_) rfl (by kernel_rfl) (by kernel_rfl) (by kernel_rfl) (fun _ _ _ h => h) (Or.inl ⟨by kernel_rfl, ?_⟩) (by assumption) ?_
          rotate_left
          · (intro w hSw; have z1 := hSw.2.k0; go_simp; (try with_reducible rfl))
          simp only [Act.put, List.getElem_toArray, List.getElem_cons_succ, List.getElem_cons_zero, List.setIfInBounds_toArray, List.set_cons_zero, List.set_cons_succ]
          refine wpAnyH_take (i := 2) (v := ?_) rfl (by kernel_rfl) (by kernel_rfl) (by kernel_rfl) (fun _ _ _ h => h) (Or.inl ⟨by kernel_rfl, ?_⟩) (by assumption) ?_
          rotate_left
          · (intro w hSw; (try dsimp only at hSw); go_simp; (try with_reducible rfl))
          simp only [Act.put, List.getElem_toArray, List.getElem_cons_succ, List.getElem_cons_zero, List.setIfInBounds_toArray, List.set_cons_zero, List.set_cons_succ]
          refine wpAnyH_take (i := 3) rfl (by kernel_rfl) (by kernel_rfl) (by kernel_rfl) (fun _ _ _ h => h) (yi_move (by kernel_rfl) rfl rfl) (by assumption) ?_
          simp only [Act.put, List.getElem_toArray, List.getElem_cons_succ, List.getElem_cons_zero, List.setIfInBounds_toArray, List.set_cons_zero, List.set_cons_succ]
          refine wpAnyH_take (i := 4) (v := ?_) rfl (by kernel_rfl) (by kernel_rfl) (by kernel_rfl) (fun _ _ _ h => h) (Or.inl ⟨by kernel_rfl, ?_⟩) (by assumption) ?_
          rotate_left
          · (intro w hSw; (try dsimp only at hSw); go_simp; (try with_reducible rfl))
          simp only [Act.put, List.getElem_toArray, List.getElem_cons_succ, List.getElem_cons_zero, List.setIfInBounds_toArray, List.set_cons_zero, List.set_cons_succ]
          refine wpAnyH_take (i := 5) (v := ?_) rfl (by kernel_rfl) (by kernel_rfl) (by kernel_rfl) (fun _ _ _ h => h) (Or.inl ⟨by kernel_rfl, ?_⟩) (by assumption) ?_
          rotate_left
          · (intro w hSw; have z1 := hSw.2.k0; go_simp; (try with_reducible rfl))
          simp only [Act.put, List.getElem_toArray, List.getElem_cons_succ, List.getElem_cons_zero, List.setIfInBounds_toArray, List.set_cons_zero, List.set_cons_succ]
          refine wpAnyH_take (i := 6) rfl (by kernel_rfl) (by kernel_rfl) (by kernel_rfl) (fun _ _ _ h => h) (yi_move (by kernel_rfl) rfl rfl) (by assumption) ?_
          simp only [Act.put, List.getElem_toArray, List.getElem_cons_succ, List.getElem_cons_zero, List.setIfInBounds_toArray, List.set_cons_zero, List.set_cons_succ]
          refine wpAnyH_take (i := 7) (v := ?_) rfl (by kernel_rfl) (by kernel_rfl) (by kernel_rfl) (fun _ _ _ h => h) (Or.inl ⟨by kernel_rfl, ?_⟩) (by assumption) ?_
          rotate_left
          · (intro w hSw; (try dsimp only at hSw); go_simp; (try with_reducible rfl))
          simp only [Act.put, List.getElem_toArray, List.getElem_cons_succ, List.getElem_cons_zero, List.setIfInBounds_toArray, List.set_cons_zero, List.set_cons_succ]
          refine wpAnyH_take (i := 8) (v := ?_) rfl (by kernel_rfl) (by kernel_rfl) (by kernel_rfl) (fun _ _ _ h => h) (Or.inl ⟨by kernel_rfl, ?_⟩) (by assumption) ?_
          rotate_left
          · (intro w hSw; (try dsimp only at hSw); go_simp; (try with_reducible rfl))
          simp only [Act.put, List.getElem_toArray, List.getElem_cons_succ, List.getElem_cons_zero, List.setIfInBounds_toArray, List.set_cons_zero, List.set_cons_succ]
          refine wpAnyH_take (i := 9) (v := ?_) rfl (by kernel_rfl) (by kernel_rfl) (by kernel_rfl) (fun _ _ _ h => h) (Or.inl ⟨by kernel_rfl, ?_⟩) (by assumption) ?_
          rotate_left
          · (intro w hSw; have z1 := hSw.1.c0; go_simp; (try with_reducible rfl))
          simp only [Act.put, List.getElem_toArray, List.getElem_cons_succ, List.getElem_cons_zero, List.setIfInBounds_toArray, List.set_cons_zero, List.set_cons_succ]
          refine wpAnyH_take (i := 10) (v := ?_) rfl (by kernel_rfl) (by kernel_rfl) (by kernel_rfl) (fun _ _ _ h => h) (Or.inl ⟨by kernel_rfl, ?_⟩) (by assumption) ?_
          rotate_left
          · (intro w hSw; (try dsimp only at hSw); go_simp; (try with_reducible rfl))
          simp only [Act.put, List.getElem_toArray, List.getElem_cons_succ, List.getElem_cons_zero, List.setIfInBounds_toArray, List.set_cons_zero, List.set_cons_succ]
          refine wpAnyH_take (i := 11) (v := ?_) rfl (by kernel_rfl) (by kernel_rfl) (by kernel_rfl) (fun _ _ _ h => h) (Or.inl ⟨by kernel_rfl, ?_⟩) (by assumption) ?_
          rotate_left
          · (intro w hSw; (try dsimp only at hSw); go_simp; (try with_reducible rfl))
          simp only [Act.put, List.getElem_toArray, List.getElem_cons_succ, List.getElem_cons_zero, List.setIfInBounds_toArray, List.set_cons_zero, List.set_cons_succ]
          refine wpAnyH_take (i := 12) (v := ?_) rfl (by kernel_rfl) (by kernel_rfl) (by kernel_rfl) (fun _ _ _ h => h) (Or.inl ⟨by kernel_rfl, ?_⟩) (by assumption) ?_
          rotate_left
          · (intro w hSw; (try dsimp only at hSw); go_simp; (try with_reducible rfl))
          simp only [Act.put, List.getElem_toArray, List.getElem_cons_succ, List.getElem_cons_zero, List.setIfInBounds_toArray, List.set_cons_zero, List.set_cons_succ]
          refine wpAnyH_take (i := 13) rfl (by kernel_rfl) (by kernel_rfl) (by kernel_rfl) (fun _ _ _ h => h) (yi_move (by kernel_rfl) rfl rfl) (by assumption) ?_
          simp only [Act.put, List.getElem_toArray, List.getElem_cons_succ, List.getElem_cons_zero, List.setIfInBounds_toArray, List.set_cons_zero, List.set_cons_succ]
          refine wpAnyH_take (i := 14) (v := ?_) rfl (by kernel_rfl) (by kernel_rfl) (by kernel_rfl) (fun _ _ _ h => h) (Or.inl ⟨by kernel_rfl, ?_⟩) (by assumption) ?_
          rotate_left
          · (intro w hSw; (try dsimp only at hSw); go_simp; (try with_reducible rfl))
          simp only [Act.put, List.getElem_toArray, List.getElem_cons_succ, List.getElem_cons_zero, List.setIfInBounds_toArray, List.set_cons_zero, List.set_cons_succ]
          refine wpAnyH_take (i := 15) (v := ?_) rfl (by kernel_rfl) (by kernel_rfl) (by kernel_rfl) (fun _ _ _ h => h) (Or.inl ⟨by kernel_rfl, ?_⟩) (by assumption) ?_
          rotate_left
          · (intro w hSw; (try dsimp only at hSw); go_simp; (try with_reducible rfl))
          simp only [Act.put, List.getElem_toArray, List.getElem_cons_succ, List.getElem_cons_zero, List.setIfInBounds_toArray, List.set_cons_zero, List.set_cons_succ]
          refine wpAnyH_take (i := 16) (v := ?_) rfl (by kernel_rfl) (by kernel_rfl) (by kernel_rfl) (fun _ _ _ h => h) (Or.inl ⟨by kernel_rfl, ?_⟩) (by assumption) ?_
          rotate_left
          · (intro w hSw; have z1 := hSw.2.kr; go_simp; (try with_reducible rfl))
          simp only [Act.put, List.getElem_toArray, List.getElem_cons_succ, List.getElem_cons_zero, List.setIfInBounds_toArray, List.set_cons_zero, List.set_cons_succ]
          refine wpAnyH_take (i := 17) (v := ?_) rfl (by kernel_rfl) (by kernel_rfl) (by kernel_rfl) (fun _ _ _ h => h) (Or.inl ⟨by kernel_rfl, ?_⟩) (by assumption) ?_
          rotate_left
          · (intro w hSw; (try dsimp only at hSw); go_simp; (try with_reducible rfl))
          simp only [Act.put, List.getElem_toArray, List.getElem_cons_succ, List.getElem_cons_zero, List.setIfInBounds_toArray, List.set_cons_zero, List.set_cons_succ]
          refine wpAnyH_take (i := 18) (v := ?_) rfl (by kernel_rfl) (by kernel_rfl) (by kernel_rfl) (fun _ _ _ h => h) (Or.inl ⟨by kernel_rfl, ?_⟩) (by assumption) ?_
          rotate_left
          · (intro w hSw; (try dsimp only at hSw); go_simp; (try with_reducible rfl))
          simp only [Act.put, List.getElem_toArray, List.getElem_cons_succ, List.getElem_cons_zero, List.setIfInBounds_toArray, List.set_cons_zero, List.set_cons_succ]
          refine wpAnyH_take (i := 19) (v := ?_) rfl (by kernel_rfl) (by kernel_rfl) (by kernel_rfl) (fun _ _ _ h => h) (Or.inl ⟨by kernel_rfl, ?_⟩) (by assumption) ?_
          rotate_left
          · (intro w hSw; (try dsimp only at hSw); go_simp; (try with_reducible rfl))
          simp only [Act.put, List.getElem_toArray, List.getElem_cons_succ, List.getElem_cons_zero, List.setIfInBounds_toArray, List.set_cons_zero, List.set_cons_succ]
          refine wpAnyH_done (by kernel_rfl) ?_ _
          refine NoPanic.normal ?_
          have CK3 := hidI ((HC.drewN 1))
          have SN3 := hidI (SN2.out.keep ((Bl.refl V2).drewN 1).size (fun g hg hl => ⟨((Bl.refl V2).drewN 1).block g hl, hg⟩))
          clear hHeld HC CK2 SN2
          have eX : V2.drewN 1 = V2.drew := rfl
          rw [eX] at CK3 SN3
          clear eX
          generalize V2.drew = X3 at *
          have bx3 := (SKX.out _ CK3.out).2
          have kx0 := bx3.k0
          have kx2 := bx3.k2
          have kzD := HZC.out CK3.out (fun r h => List.mem_cons_of_mem _ h) f.dst.toNat (by omega)
          have kzF := HZC.out CK3.out (fun r h => List.mem_cons_of_mem _ h) f.frm.toNat (by omega)
          have hd0 : 0 ≤ f.dst := by omega
          have hf0 : 0 ≤ f.frm := by omega
          have hdz : f.dst < (zl : Int) := by omega
          have hfz : f.frm < (zl : Int) := by omega
          clear bx3
          have HSKIP : Hid ((sil f.dst.toNat = true ∨ sil f.frm.toNat = true) → CH w cb n (N + 10 * n + 13 * (k + 1)) (SO.rH sil T (k + 1)).1 (SO.rH sil T (k + 1)).2 ps sb (.slice (some ⟨sb, 0, none⟩) (n + 1) sc) rs X3) := fun ho => by
            have e : SO.rH sil T (k + 1) = ((SO.rH sil T k).1, r) := by
              rw [HHR.out, if_neg]
              rcases ho with h | h <;> simp [h]
            rw [e]
            exact ⟨nv2, Bs, ys', (CK3.out.sub (fun r h => List.mem_cons_of_mem _ h)).more (by omega)⟩
          cases hsD : sil f.dst.toNat with
          | true =>
            rw [hsD] at kzD
            have HE := hidI (HSKIP.out (Or.inl hsD))
            clear HSKIP
            go_wp2_with fail
            go_roundw
            case rel => exact ⟨k + 1, by omega, by go_num, HE.out⟩
            case measure => simp [intOf]; omega
          | false =>
            rw [hsD] at kzD
            cases hsF : sil f.frm.toNat with
            | true =>
              rw [hsF] at kzF
              have HE := hidI (HSKIP.out (Or.inr hsF))
              clear HSKIP
              go_wp2_with fail
              go_roundw
              case rel => exact ⟨k + 1, by omega, by go_num, HE.out⟩
              case measure => simp [intOf]; omega
            | false =>
              rw [hsF] at kzF
              clear HSKIP
              have HC3 := CK3.out
              have hln2 := HLN.out
              have CH1 : Hid (Calls Try.prog 12 #[.pointer (some ⟨ps f.dst.toNat, 0, none⟩), .agg FL.toArray] (X3.drewN 1) fun e w' => ∃ a c, e = .returned (.slice a (SO.hear ((SO.rH sil T k).1 f.dst.toNat) f).2.length c) ∧ CF w cb n (N + 10 * n + 13 * k + 13) (SO.up (SO.rH sil T k).1 f.dst.toNat (SO.hear ((SO.rH sil T k).1 f.dst.toNat) f).1) r (SO.hear ((SO.rH sil T k).1 f.dst.toNat) f).2 ps sb (.slice (some ⟨sb, 0, none⟩) (n + 1) sc) nv2 ys' ((xb, .cells YL.toArray tSn (0, 0)) :: rs) a w') := (HC3.drewN 1).hear (by omega) (by omega) (by omega) FL f y.ra y.rc HF0.out HGF.out hn6 (SN3.out.r.bl ((Bl.refl X3).drewN 1)) (fun g off e j => (SN3.out.x g off e).1.1 j)
              have HF2 : Hid (∀ v9 Bs9 ys9 V, CK w cb n (N + 10 * n + 13 * k + 13) (SO.up (SO.rH sil T k).1 f.dst.toNat (SO.hear ((SO.rH sil T k).1 f.dst.toNat) f).1) (r ++ (SO.hear ((SO.rH sil T k).1 f.dst.toNat) f).2) ps sb (.slice (some ⟨sb, 0, none⟩) (n + 1) sc) v9 v9 Bs9 ys9 ((xb, .cells YL.toArray tSn (0, 0)) :: rs) V → CH w cb n (N + 10 * n + 13 * (k + 1)) (SO.rH sil T (k + 1)).1 (SO.rH sil T (k + 1)).2 ps sb (.slice (some ⟨sb, 0, none⟩) (n + 1) sc) rs V) := fun v9 Bs9 ys9 V h => by
                rw [HHR.out, if_pos (by rw [hsD, hsF]; rfl)]
                exact ⟨v9, Bs9, ys9, (h.sub (fun r h => List.mem_cons_of_mem _ h)).more (by omega)⟩
              clear HHR HLN HGF HF0 SN3 CK3 HZC HKE HKN HG2 hsD hsF
              generalize SO.hear ((SO.rH sil T k).1 f.dst.toNat) f = hh at *
              generalize SO.up (SO.rH sil T k).1 f.dst.toNat hh.1 = ssn at *
              have SKY : Hid (∀ a V, CF w cb n (N + 10 * n + 13 * k + 13) ssn r hh.2 ps sb (.slice (some ⟨sb, 0, none⟩) (n + 1) sc) nv2 ys' ((xb, .cells YL.toArray tSn (0, 0)) :: rs) a V → CL cb sb n sc ps V ∧ BF xb f.dst f.frm (.slice y.ra f.rum.length y.rc) FL V) := fun a V h => by
                obtain ⟨B9, y9, c9, _⟩ := h
                exact ⟨c9.cl, HBF.out V xb (c9.be _ List.mem_cons_self).1⟩
              have SC0 : Hid (∀ V, CK w cb n (N + 10 * n + 13 * k) (SO.rH sil T k).1 r ps sb (.slice (some ⟨sb, 0, none⟩) (n + 1) sc) nv2 nv2 Bs ys' ((xb, .cells YL.toArray tSn (0, 0)) :: rs) V → V.cell? ⟨cb, 1, none⟩ = some nv2) := fun V h => h.c1
              have SC1 : Hid (∀ a V, CF w cb n (N + 10 * n + 13 * k + 13) ssn r hh.2 ps sb (.slice (some ⟨sb, 0, none⟩) (n + 1) sc) nv2 ys' ((xb, .cells YL.toArray tSn (0, 0)) :: rs) a V → V.cell? ⟨cb, 1, none⟩ = some nv2) := fun a V h => by
                obtain ⟨B9, y9, c9, _⟩ := h
                exact c9.c1
              have SKZ : Hid (∀ M st net v r9 B9 y9 V, CK w cb n M st net ps sb (.slice (some ⟨sb, 0, none⟩) (n + 1) sc) v r9 B9 y9 ((xb, .cells YL.toArray tSn (0, 0)) :: rs) V → CL cb sb n sc ps V ∧ BF xb f.dst f.frm (.slice y.ra f.rum.length y.rc) FL V) := fun M st net v r9 B9 y9 V h => ⟨h.cl, HBF.out V xb (h.be _ List.mem_cons_self).1⟩
              go_wp2_with fail
              refine wp_region_noPanic ?_
              refine wp_region_held_drew (S := fun V => CL cb sb n sc ps V ∧ BF xb f.dst f.frm (.slice y.ra f.rum.length y.rc) FL V) (by kernel_rfl) ((by first | exact SKX.out _ (HC3.drewN 1) | exact SKY.out _ _ (HC3.drewN 1))) (fun hHeld => ?_)
              refine wpAnyH_take (i := 0) rfl (by kernel_rfl) (by kernel_rfl) (by kernel_rfl) (fun _ _ _ h => h) (yi_move (by kernel_rfl) rfl rfl) (by assumption) ?_
              simp only [Act.put, List.getElem_toArray, List.getElem_cons_succ, List.getElem_cons_zero, List.setIfInBounds_toArray, List.set_cons_zero, List.set_cons_succ]
              refine wpAnyH_take (i := 1) rfl (by kernel_rfl) (by kernel_rfl) (by kernel_rfl) (fun _ _ _ h => h) (yi_move (by kernel_rfl) rfl rfl) (by assumption) ?_
              simp only [Act.put, List.getElem_toArray, List.getElem_cons_succ, List.getElem_cons_zero, List.setIfInBounds_toArray, List.set_cons_zero, List.set_cons_succ]
              refine wpAnyH_take (i := 2) (v := ?_) rfl (by kernel_rfl) (by kernel_rfl) (by kernel_rfl) (fun _ _ _ h => h) (Or.inl ⟨by kernel_rfl, ?_⟩) (by assumption) ?_
              rotate_left
              · (intro w hSw; (try dsimp only at hSw); go_simp; (try with_reducible rfl))
              simp only [Act.put, List.getElem_toArray, List.getElem_cons_succ, List.getElem_cons_zero, List.setIfInBounds_toArray, List.set_cons_zero, List.set_cons_succ]
              refine wpAnyH_take (i := 3) (v := ?_) rfl (by kernel_rfl) (by kernel_rfl) (by kernel_rfl) (fun _ _ _ h => h) (Or.inl ⟨by kernel_rfl, ?_⟩) (by assumption) ?_
              rotate_left
              · (intro w hSw; (try dsimp only at hSw); go_simp; (try with_reducible rfl))
              simp only [Act.put, List.getElem_toArray, List.getElem_cons_succ, List.getElem_cons_zero, List.setIfInBounds_toArray, List.set_cons_zero, List.set_cons_succ]
              refine wpAnyH_take (i := 5) rfl (by kernel_rfl) (by kernel_rfl) (by kernel_rfl) (fun _ _ _ h => h) (yi_move (by kernel_rfl) rfl rfl) (by assumption) ?_
              simp only [Act.put, List.getElem_toArray, List.getElem_cons_succ, List.getElem_cons_zero, List.setIfInBounds_toArray, List.set_cons_zero, List.set_cons_succ]
              refine wpAnyH_take (i := 6) (v := ?_) rfl (by kernel_rfl) (by kernel_rfl) (by kernel_rfl) (fun _ _ _ h => h) (Or.inl ⟨by kernel_rfl, ?_⟩) (by assumption) ?_
              rotate_left
              · (intro w hSw; (try dsimp only at hSw); go_simp; (try with_reducible rfl))
              simp only [Act.put, List.getElem_toArray, List.getElem_cons_succ, List.getElem_cons_zero, List.setIfInBounds_toArray, List.set_cons_zero, List.set_cons_succ]
              refine wpAnyH_take (i := 7) (v := ?_) rfl (by kernel_rfl) (by kernel_rfl) (by kernel_rfl) (fun _ _ _ h => h) (Or.inl ⟨by kernel_rfl, ?_⟩) (by assumption) ?_
              rotate_left
              · (intro w hSw; (try dsimp only at hSw); go_simp; (try with_reducible rfl))
              simp only [Act.put, List.getElem_toArray, List.getElem_cons_succ, List.getElem_cons_zero, List.setIfInBounds_toArray, List.set_cons_zero, List.set_cons_succ]
              refine wpAnyH_take (i := 8) (v := ?_) rfl (by kernel_rfl) (by kernel_rfl) (by kernel_rfl) (fun _ _ _ h => h) (Or.inl ⟨by kernel_rfl, ?_⟩) (by assumption) ?_
              rotate_left
              · (intro w hSw; have z1 := hSw.1.c0; go_simp; (try with_reducible rfl))
              simp only [Act.put, List.getElem_toArray, List.getElem_cons_succ, List.getElem_cons_zero, List.setIfInBounds_toArray, List.set_cons_zero, List.set_cons_succ]
              refine wpAnyH_take (i := 9) (v := ?_) rfl (by kernel_rfl) (by kernel_rfl) (by kernel_rfl) (fun _ _ _ h => h) (Or.inl ⟨by kernel_rfl, ?_⟩) (by assumption) ?_
              rotate_left
              · (intro w hSw; (try dsimp only at hSw); go_simp; (try with_reducible rfl))
              simp only [Act.put, List.getElem_toArray, List.getElem_cons_succ, List.getElem_cons_zero, List.setIfInBounds_toArray, List.set_cons_zero, List.set_cons_succ]
              refine wpAnyH_take (i := 10) (v := ?_) rfl (by kernel_rfl) (by kernel_rfl) (by kernel_rfl) (fun _ _ _ h => h) (Or.inl ⟨by kernel_rfl, ?_⟩) (by assumption) ?_
              rotate_left
              · (intro w hSw; have z1 := hSw.2.k0; go_simp; (try with_reducible rfl))
              simp only [Act.put, List.getElem_toArray, List.getElem_cons_succ, List.getElem_cons_zero, List.setIfInBounds_toArray, List.set_cons_zero, List.set_cons_succ]
              refine wpAnyH_take (i := 11) (v := ?_) rfl (by kernel_rfl) (by kernel_rfl) (by kernel_rfl) (fun _ _ _ h => h) (Or.inl ⟨by kernel_rfl, ?_⟩) (by assumption) ?_
              rotate_left
              · (intro w hSw; (try dsimp only at hSw); go_simp; (try with_reducible rfl))
              simp only [Act.put, List.getElem_toArray, List.getElem_cons_succ, List.getElem_cons_zero, List.setIfInBounds_toArray, List.set_cons_zero, List.set_cons_succ]
              refine wpAnyH_take (i := 12) (v := ?_) rfl (by kernel_rfl) (by kernel_rfl) (by kernel_rfl) (fun _ _ _ h => h) (Or.inl ⟨by kernel_rfl, ?_⟩) (by assumption) ?_
              rotate_left
              · (intro w hSw; have z1 := hSw.1.p f.dst.toNat (by omega) (by omega); go_simp; (try with_reducible rfl))
              simp only [Act.put, List.getElem_toArray, List.getElem_cons_succ, List.getElem_cons_zero, List.setIfInBounds_toArray, List.set_cons_zero, List.set_cons_succ]
              refine wpAnyH_take (i := 13) (v := ?_) rfl (by kernel_rfl) (by kernel_rfl) (by kernel_rfl) (fun _ _ _ h => h) (Or.inl ⟨by kernel_rfl, ?_⟩) (by assumption) ?_
              rotate_left
              · (intro w hSw; (try dsimp only at hSw); go_simp; (try with_reducible rfl))
              simp only [Act.put, List.getElem_toArray, List.getElem_cons_succ, List.getElem_cons_zero, List.setIfInBounds_toArray, List.set_cons_zero, List.set_cons_succ]
              refine wpAnyH_take (i := 14) (v := .agg (List.toArray FL)) rfl (by kernel_rfl) (by kernel_rfl) (by kernel_rfl) (fun _ _ _ h => h) (yieldsIf_load_mid (by kernel_rfl) _ (.tmp 117) (by kernel_rfl) xb 1 (by kernel_rfl) FL _ (fun W hW => hW.2.rg) humF rfl hiF) (by assumption) ?_
              simp only [Act.put, List.getElem_toArray, List.getElem_cons_succ, List.getElem_cons_zero, List.setIfInBounds_toArray, List.set_cons_zero, List.set_cons_succ]
              refine wpAnyH_ready (rs := [4, 15]) (by kernel_rfl) (by simp) ?_
              refine AllReadyH.cons (o := _) rfl (fun K hK => ?_) ?_
              · refine stepo_load1 rfl 33 _ rfl cb 1 (by rfl) nv2 (by first | exact (SC0.out _ (HC3.drewN 1)) | exact (SC1.out _ _ (HC3.drewN 1))) undSs (hK.out _ _ ((by first | exact SKX.out _ (HC3.drewN 1) | exact SKY.out _ _ (HC3.drewN 1))) (fun hHeld => ?_))
                clear hK K
                (try simp only [Act.put, List.getElem_toArray, List.getElem_cons_succ, List.getElem_cons_zero, List.setIfInBounds_toArray, List.set_cons_zero, List.set_cons_succ])
                refine wpAnyH_ready (rs := [15]) (by kernel_rfl) (by simp) ?_
                refine AllReadyH.cons (o := _) rfl (fun K hK => ?_) AllReadyH.nil
                go_simp
                go_at_call 12; refine (CH1.out).mono ?_; rintro e V16 ⟨a9, c9, rfl, HB16⟩
                refine hK.out _ _ ((by first | exact SKX.out _ HB16 | exact SKY.out _ _ HB16)) (fun hHeld => ?_)
                clear hK K
                (try simp only [Act.put, List.getElem_toArray, List.getElem_cons_succ, List.getElem_cons_zero, List.setIfInBounds_toArray, List.set_cons_zero, List.set_cons_succ])
                refine wpAnyH_ready (rs := [16]) (by kernel_rfl) (by simp) ?_
                refine AllReadyH.cons (o := _) rfl (fun K hK => ?_) AllReadyH.nil
                obtain ⟨Bs9, ys9, ck9, fr9⟩ := HB16
                refine stepo_appQ lyS tSn 33 (.agg z) 408 undSs hz1 hz2 (by omega) rfl _ _ rfl nv2 ys' (by rfl) ck9.q a9 ys9 _ _ fr9.len.symm (by rfl) fr9.rs (by have h8 := ck9.len; have h9 := fr9.len; omega) ?_
                intro v9 w9 q1 q2 q3
                have HZ := ck9.app fr9 q1 q2 q3
                refine hK.out _ _ (SKZ.out _ _ _ _ _ _ _ _ HZ) (fun hHeld => ?_)
                clear hK K
                (try simp only [Act.put, List.getElem_toArray, List.getElem_cons_succ, List.getElem_cons_zero, List.setIfInBounds_toArray, List.set_cons_zero, List.set_cons_succ])
                refine wpAnyH_take (i := 17) (v := ?_) rfl (by kernel_rfl) (by kernel_rfl) (by kernel_rfl) (fun _ _ _ h => h) (Or.inl ⟨by kernel_rfl, ?_⟩) (by assumption) ?_
                rotate_left
                · (intro w hSw; (try dsimp only at hSw); go_simp; (try with_reducible rfl))
                simp only [Act.put, List.getElem_toArray, List.getElem_cons_succ, List.getElem_cons_zero, List.setIfInBounds_toArray, List.set_cons_zero, List.set_cons_succ]
                refine wpAnyH_take (i := 18) (v := ?_) rfl (by kernel_rfl) (by kernel_rfl) (by kernel_rfl) (fun _ _ _ h => h) (Or.inl ⟨by kernel_rfl, ?_⟩) (by assumption) ?_
                rotate_left
                · (intro w hSw; (try dsimp only at hSw); go_simp; (try with_reducible rfl))
                simp only [Act.put, List.getElem_toArray, List.getElem_cons_succ, List.getElem_cons_zero, List.setIfInBounds_toArray, List.set_cons_zero, List.set_cons_succ]
                refine wpAnyH_ready (rs := [19]) (by kernel_rfl) (by simp) ?_
                refine AllReadyH.cons (o := _) rfl (fun K hK => ?_) AllReadyH.nil
                refine stepo_setU rfl 33 _ _ rfl cb 1 v9 (by rfl) (by rfl) (by obtain ⟨a8, c8, e8⟩ := HZ.q.len; rw [e8]; rfl) infoSs [.slice (some ⟨sb, 0, none⟩) (n + 1) sc, nv2] [.slice (some ⟨sb, 0, none⟩) (n + 1) sc, v9] tCp HZ.row (by simp) rfl ?_
                intro U3 R3 O3
                have HZ3 := HZ.store O3 R3
                refine hK.out _ _ (SKZ.out _ _ _ _ _ _ _ _ HZ3) (fun hHeld => ?_)
                clear hK K
                (try simp only [Act.put, List.getElem_toArray, List.getElem_cons_succ, List.getElem_cons_zero, List.setIfInBounds_toArray, List.set_cons_zero, List.set_cons_succ])
                refine wpAnyH_done (by kernel_rfl) ?_ _
                refine NoPanic.normal ?_
                have HE := hidI (HF2.out _ _ _ _ HZ3)
                clear HZ HZ3 O3 R3 q1 q2 q3 ck9 fr9 hHeld
                go_wp2_with fail
                go_roundw
                case rel => exact ⟨k + 1, by omega, by go_num, HE.out⟩
                case measure => simp [intOf]; omega
              refine AllReadyH.cons (o := _) rfl (fun K hK => ?_) ?_
              · go_simp
                go_at_call 12; refine (CH1.out).mono ?_; rintro e V20 ⟨a9, c9, rfl, HB20⟩
                refine hK.out _ _ ((by first | exact SKX.out _ HB20 | exact SKY.out _ _ HB20)) (fun hHeld => ?_)
                clear hK K
                (try simp only [Act.put, List.getElem_toArray, List.getElem_cons_succ, List.getElem_cons_zero, List.setIfInBounds_toArray, List.set_cons_zero, List.set_cons_succ])
                refine wpAnyH_ready (rs := [4]) (by kernel_rfl) (by simp) ?_
                refine AllReadyH.cons (o := _) rfl (fun K hK => ?_) AllReadyH.nil
                refine stepo_load1 rfl 33 _ rfl cb 1 (by rfl) nv2 (by first | exact (SC0.out _ HB20) | exact (SC1.out _ _ HB20)) undSs (hK.out _ _ ((by first | exact SKX.out _ HB20 | exact SKY.out _ _ HB20)) (fun hHeld => ?_))
                clear hK K
                (try simp only [Act.put, List.getElem_toArray, List.getElem_cons_succ, List.getElem_cons_zero, List.setIfInBounds_toArray, List.set_cons_zero, List.set_cons_succ])
                refine wpAnyH_ready (rs := [16]) (by kernel_rfl) (by simp) ?_
                refine AllReadyH.cons (o := _) rfl (fun K hK => ?_) AllReadyH.nil
                obtain ⟨Bs9, ys9, ck9, fr9⟩ := HB20
                refine stepo_appQ lyS tSn 33 (.agg z) 408 undSs hz1 hz2 (by omega) rfl _ _ rfl nv2 ys' (by rfl) ck9.q a9 ys9 _ _ fr9.len.symm (by rfl) fr9.rs (by have h8 := ck9.len; have h9 := fr9.len; omega) ?_
                intro v9 w9 q1 q2 q3
                have HZ := ck9.app fr9 q1 q2 q3
                refine hK.out _ _ (SKZ.out _ _ _ _ _ _ _ _ HZ) (fun hHeld => ?_)
                clear hK K
                (try simp only [Act.put, List.getElem_toArray, List.getElem_cons_succ, List.getElem_cons_zero, List.setIfInBounds_toArray, List.set_cons_zero, List.set_cons_succ])
                refine wpAnyH_take (i := 17) (v := ?_) rfl (by kernel_rfl) (by kernel_rfl) (by kernel_rfl) (fun _ _ _ h => h) (Or.inl ⟨by kernel_rfl, ?_⟩) (by assumption) ?_
                rotate_left
                · (intro w hSw; (try dsimp only at hSw); go_simp; (try with_reducible rfl))
                simp only [Act.put, List.getElem_toArray, List.getElem_cons_succ, List.getElem_cons_zero, List.setIfInBounds_toArray, List.set_cons_zero, List.set_cons_succ]
                refine wpAnyH_take (i := 18) (v := ?_) rfl (by kernel_rfl) (by kernel_rfl) (by kernel_rfl) (fun _ _ _ h => h) (Or.inl ⟨by kernel_rfl, ?_⟩) (by assumption) ?_
                rotate_left
                · (intro w hSw; (try dsimp only at hSw); go_simp; (try with_reducible rfl))
                simp only [Act.put, List.getElem_toArray, List.getElem_cons_succ, List.getElem_cons_zero, List.setIfInBounds_toArray, List.set_cons_zero, List.set_cons_succ]
                refine wpAnyH_ready (rs := [19]) (by kernel_rfl) (by simp) ?_
                refine AllReadyH.cons (o := _) rfl (fun K hK => ?_) AllReadyH.nil
                refine stepo_setU rfl 33 _ _ rfl cb 1 v9 (by rfl) (by rfl) (by obtain ⟨a8, c8, e8⟩ := HZ.q.len; rw [e8]; rfl) infoSs [.slice (some ⟨sb, 0, none⟩) (n + 1) sc, nv2] [.slice (some ⟨sb, 0, none⟩) (n + 1) sc, v9] tCp HZ.row (by simp) rfl ?_
                intro U3 R3 O3
                have HZ3 := HZ.store O3 R3
                refine hK.out _ _ (SKZ.out _ _ _ _ _ _ _ _ HZ3) (fun hHeld => ?_)
                clear hK K
                (try simp only [Act.put, List.getElem_toArray, List.getElem_cons_succ, List.getElem_cons_zero, List.setIfInBounds_toArray, List.set_cons_zero, List.set_cons_succ])
                refine wpAnyH_done (by kernel_rfl) ?_ _
                refine NoPanic.normal ?_
                have HE := hidI (HF2.out _ _ _ _ HZ3)
                clear HZ HZ3 O3 R3 q1 q2 q3 ck9 fr9 hHeld
                go_wp2_with fail
                go_roundw
                case rel => exact ⟨k + 1, by omega, by go_num, HE.out⟩
                case measure => simp [intOf]; omega
              exact AllReadyH.nil
        · have ekk : K = k := by omega
          subst ekk
          have hnet := HKE.out
          rw [hnet] at HX
          obtain ⟨a7, c7, e7⟩ := HX.q.len
          have hy0 : ys.length = 0 := by rw [HX.len]; rfl
          rw [hy0] at e7
          have kc1 := HX.c1
          rw [e7] at kc1
          have HE : Hid (CH w cb n (N + 7000) ss' [] ps sb (.slice (some ⟨sb, 0, none⟩) (n + 1) sc) rs wr) := ⟨nv, Bs, ys, HX.more (by omega)⟩
          clear HX e7 hnet HKE HKN HG2 HZC
          by_cases hk5 : (K : Int) < 500
          · go_wp2_with fail
            go_ret
            exact ⟨rfl, HE.out⟩
          · go_wp2_with fail
            go_ret
            exact ⟨rfl, HE.out⟩
end Go.Proofs.Ytimlonpaahdcmaa

/- A camp between rounds, with the law's flags beside it. -/
namespace Go.Proofs.Ytimlonpaahdcmaa
open Go.RowKit Go.Maps
set_option linter.unusedVariables false
set_option linter.unusedSimpArgs false

theorem CK.ch {w U : World} {cb n N sb : Nat} {ss : Nat → SO.Sc} {net : List SO.Fr} {ps : Nat → Nat} {sv nv : Value} {Bs : Nat → Nat → Prop} {ys : List Sn} {rs : List (Nat × Obj)} (x : CK w cb n N ss net ps sb sv nv nv Bs ys rs U) : CH w cb n N ss net ps sb sv rs U := ⟨nv, Bs, ys, x⟩
theorem CH.box {w U : World} {cb n N sb : Nat} {ss : Nat → SO.Sc} {net : List SO.Fr} {ps : Nat → Nat} {sv : Value} {rs : List (Nat × Obj)} (x : CH w cb n N ss net ps sb sv rs U) (C : Array Value) (T : TypeId) : CH w cb n N ss net ps sb sv ((U.heap.size, .cells C T (0, 0)) :: rs) (U.alloc (.cells C T)) := by
  obtain ⟨nv, Bs, ys, h⟩ := x
  exact ⟨nv, Bs, ys, h.box C T⟩
theorem CH.set {w U V : World} {cb n N sb zb : Nat} {ss : Nat → SO.Sc} {ps : Nat → Nat} {sv : Value} {o1 o2 : Obj} (x : CH w cb n N ss [] ps sb sv [(zb, o1)] U) (ho : Of1 zb U V) (hr : V.heap[zb]? = some o2) : CH w cb n N ss [] ps sb sv [(zb, o2)] V := by
  obtain ⟨nv, Bs, ys, h⟩ := x
  exact ⟨nv, Bs, ys, h.set rfl ho hr (fun r hr => by cases hr)⟩
theorem CH.grow {w U V : World} {cb n N sb : Nat} {ss : Nat → SO.Sc} {net : List SO.Fr} {ps : Nat → Nat} {sv : Value} {rs : List (Nat × Obj)} (x : CH w cb n N ss net ps sb sv rs U) (b : Bl U V) : CH w cb n N ss net ps sb sv rs V := by
  obtain ⟨nv, Bs, ys, h⟩ := x
  exact ⟨nv, Bs, ys, h.grow b⟩
theorem CH.bl {w U : World} {cb n N sb : Nat} {ss : Nat → SO.Sc} {net : List SO.Fr} {ps : Nat → Nat} {sv : Value} {rs : List (Nat × Obj)} (x : CH w cb n N ss net ps sb sv rs U) : Bl w U := by
  obtain ⟨nv, Bs, ys, h⟩ := x
  exact h.bl
theorem CH.cl {w U : World} {cb n N sb sc : Nat} {ss : Nat → SO.Sc} {net : List SO.Fr} {ps : Nat → Nat} {rs : List (Nat × Obj)} (x : CH w cb n N ss net ps sb (.slice (some ⟨sb, 0, none⟩) (n + 1) sc) rs U) : CL cb sb n sc ps U := by
  obtain ⟨nv, Bs, ys, h⟩ := x
  exact h.cl
theorem CH.at1 {w U : World} {cb n N sb zb : Nat} {ss : Nat → SO.Sc} {net : List SO.Fr} {ps : Nat → Nat} {sv : Value} {o : Obj} {rs : List (Nat × Obj)} (x : CH w cb n N ss net ps sb sv ((zb, o) :: rs) U) : U.heap[zb]? = some o := by
  obtain ⟨nv, Bs, ys, h⟩ := x
  exact (h.be _ List.mem_cons_self).1
theorem CH.more {w U : World} {cb n N M sb : Nat} {ss : Nat → SO.Sc} {net : List SO.Fr} {ps : Nat → Nat} {sv : Value} {rs : List (Nat × Obj)} (x : CH w cb n N ss net ps sb sv rs U) (h : N ≤ M) : CH w cb n M ss net ps sb sv rs U := by
  obtain ⟨nv, Bs, ys, k⟩ := x
  exact ⟨nv, Bs, ys, k.more h⟩
theorem CH.all {w U : World} {cb n N sb i : Nat} {ss : Nat → SO.Sc} {net : List SO.Fr} {ps : Nat → Nat} {sv : Value} {rs : List (Nat × Obj)} (x : CH w cb n N ss net ps sb sv rs U) (h1 : 1 ≤ i) (h2 : i ≤ n) : Calls Try.prog 9 #[.pointer (some ⟨ps i, 0, none⟩)] U fun e w' => ∃ a c, e = .returned (.slice a (K.all (ss i).f).length c) ∧ RS lyM w' a (K.all (ss i).f) ∧ Bl U w' := by
  obtain ⟨nv, Bs, ys, k⟩ := x
  obtain ⟨P, y⟩ := k.sc i h1 h2
  exact All_x y
/-- the law's flags -/
def sQ (Q : Nat → Bool) : List Value := (List.range 7).map fun j => .bool (Q j)
theorem sQ_len (Q : Nat → Bool) : (sQ Q).length = 7 := by simp [sQ]
theorem sQ_at (Q : Nat → Bool) {j : Nat} (h : j < 7) : (sQ Q)[j]? = some (.bool (Q j)) := by simp [sQ, List.getElem?_range, h]
theorem sQ_set (Q : Nat → Bool) (i : Nat) (b : Bool) : (sQ Q).set i (.bool b) = sQ (fun j => if j = i then b else Q j) := by
  apply List.ext_getElem?
  intro j
  unfold sQ
  rw [List.getElem?_set, List.getElem?_map, List.getElem?_map, List.length_map, List.length_range]
  by_cases h : j < 7
  · rw [List.getElem?_range h]
    by_cases e : i = j
    · subst e; simp [h]
    · rw [if_neg e]; simp [Ne.symm e]
  · rw [List.getElem?_eq_none (by simp; omega)]
    by_cases e : i = j
    · subst e; simp [h]
    · rw [if_neg e]; rfl
theorem makeQ (W : World) : (Instr.makeSlice 28 (.int .i64 7) (.int .i64 7)).run Try.prog W = .ok (.slice (some ⟨W.heap.size, 0, none⟩) 7 7) (W.alloc (.cells (sQ fun _ => false).toArray tBo)) := by kernel_rfl
theorem infoBo1 : (Try.prog.info? 4).map (·.size) = some 1 := by kernel_rfl
/-- a draw of the law's -/
def drwF (ds : List Int) (k : Nat) : Int := if 0 < ds.length then ds.getD (k % ds.length) 0 else k
theorem drwF_i64 {ds : List Int} (h : ∀ x ∈ ds, i64 x) {k : Nat} (hk : k < 1000) : i64 (drwF ds k) := by
  unfold drwF
  split
  · rename_i hl
    have hlt : k % ds.length < ds.length := Nat.mod_lt _ hl
    rw [List.getD_eq_getElem?_getD, List.getElem?_eq_getElem hlt]
    exact h _ (List.getElem_mem hlt)
  · exact ⟨by omega, by omega⟩
/-- the camp, and its flags -/
def CZ (w : World) (cb n N : Nat) (ss : Nat → SO.Sc) (ps : Nat → Nat) (sb sc zb : Nat) (Q : Nat → Bool) (U : World) : Prop := CH w cb n N ss [] ps sb (.slice (some ⟨sb, 0, none⟩) (n + 1) sc) [(zb, .cells (sQ Q).toArray tBo (0, 0))] U
theorem CZ.round {w U : World} {cb n N sb sc zb r : Nat} {ss : Nat → SO.Sc} {ps : Nat → Nat} {Q : Nat → Bool} (x : CZ w cb n N ss ps sb sc zb Q U) (hn1 : 1 ≤ n) (hn6 : n ≤ 6) (hN : N ≤ 9000000) (j : SO.CJ n Q r ss) (d : Int) (hd : i64 d) :
    Calls Try.prog 8 #[.pointer (some ⟨cb, 0, none⟩), .slice (some ⟨zb, 0, none⟩) 7 7, .int .i64 d] U fun e w' => e = .returned (.bool true) ∧ ∃ ss', CZ w cb n (N + 7000) ss' ps sb sc zb Q w' ∧ SO.CJ n Q (r + 1) ss' ∧ ∀ i j b, 1 ≤ i → i ≤ n → Q i = false → 1 ≤ j → j ≤ n → Q j = true → SO.Fin r (b + 1) (ss i) j → SO.Fin (r + 1) b (ss' i) j := by
  obtain ⟨ss', g, j', hf⟩ := j.step hn6 (fun i => IntKind.i64.wrap (d + (i : Int)))
  refine (round_x (ZC := (sQ Q).toArray) (sil := Q) x List.mem_cons_self (fun i hi => ?_) (by omega) hn1 hn6 hN d hd g).mono ?_
  · rw [List.getElem?_toArray]; exact sQ_at Q (by omega)
  · rintro e w' ⟨rfl, h⟩
    exact ⟨rfl, ss', h, j', hf⟩
end Go.Proofs.Ytimlonpaahdcmaa

/- A scout of the camp begins anew. -/
namespace Go.Proofs.Ytimlonpaahdcmaa
open Go.RowKit Go.Maps
set_option linter.unusedVariables false
set_option linter.unusedSimpArgs false

abbrev swp1 (ps : Nat → Nat) (i p : Nat) : Nat → Nat := fun j => if j = i then p else ps j
theorem CK.renew {w0 U V V' : World} {cb n N sb i p : Nat} {ss : Nat → SO.Sc} {ps : Nat → Nat} {sv nv rv : Value} {Bs : Nat → Nat → Prop} {B : Nat → Prop} {ys : List Sn} {rs : List (Nat × Obj)} {s : SO.Sc} {CS : Array Value}
    (x : CK w0 cb n N ss [] ps sb sv nv rv Bs ys rs U) (h1 : 1 ≤ i) (h2 : i ≤ n) (hs : SC U p B 6 s V) (hN : 6 ≤ N) (ho : Of1 sb V V') (hr : V'.heap[sb]? = some (.cells CS tPs (0, 0))) (hp : ∀ j, 1 ≤ j → j ≤ n → CS[j]? = some (.pointer (some ⟨swp1 ps i p j, 0, none⟩))) :
    CK w0 cb n N (SO.up ss i s) [] (swp1 ps i p) sb sv nv rv (fun j => if j = i then B else Bs j) ys rs V' := by
  obtain ⟨P, y⟩ := hs
  have hB : ∀ k, B k → U.heap.size ≤ k ∧ k < V.heap.size := y.Bo
  have z := x.grow y.bl
  obtain ⟨CS0, hCS, _⟩ := x.sl
  have hsl : sb < U.heap.size := lt_heap hCS
  have hcl : cb < U.heap.size := lt_heap x.row
  have ncb : cb ≠ sb := fun e => by subst e; exact tags x.row hCS (by decide) rfl
  have hlo := x.lo
  have hbl : Bl w0 V' := ho.bl z.bl hlo.2.1
  refine ⟨(ho.block cb (lt_heap z.row) ncb).trans z.row, ⟨CS, hr, hp⟩, fun j j1 j2 => ?_, fun a b k ka kb => ?_, fun j k hk => ?_, z.q.keep (fun g C hg hC => ho.block g (lt_heap hC) (fun e => ?_)), z.len, fun q y' f hy hf => (by simp at hf), hbl, hlo, fun r hr' => ?_⟩
  · by_cases hj : j = i
    · subst hj
      simp only [SO.up, swp1, if_pos rfl]
      have y0 : SC w0 p B 6 s V := ⟨P, y.base x.bl⟩
      exact y0.keep' hN ho.size hbl (fun k hk hl => ho.block k hl (fun e => by have := (hB k hk).1; omega))
    · simp only [SO.up, swp1, if_neg hj]
      exact (z.sc j j1 j2).keep' (Nat.le_refl _) ho.size hbl (fun k hk hl => ho.block k hl (x.out j k hk).2.2.1)
  · by_cases ea : a = i <;> by_cases eb : b = i
    · rw [ea, eb]
    · simp only [if_pos ea] at ka
      simp only [if_neg eb] at kb
      have := (hB k ka).1
      have := x.lt kb
      omega
    · simp only [if_neg ea] at ka
      simp only [if_pos eb] at kb
      have := (hB k kb).1
      have := x.lt ka
      omega
    · simp only [if_neg ea] at ka
      simp only [if_neg eb] at kb
      exact x.dj a b k ka kb
  · by_cases hj : j = i
    · subst hj
      simp only [if_pos rfl] at hk
      have := (hB k hk).1
      refine ⟨⟨h1, h2⟩, by omega, by omega, fun e => ?_⟩
      obtain ⟨C, hC⟩ := x.q.tag e.symm
      have := lt_heap hC
      omega
    · simp only [if_neg hj] at hk
      exact x.out j k hk
  · subst e
    have hv : V.heap[g]? = some (.cells CS0 tPs (0, 0)) := (y.bl.block g hsl).trans hCS
    exact tags hv hC (by decide) rfl
  · obtain ⟨b1, b2, b3, b4, b5, b6⟩ := z.be r hr'
    have hru : r.1 < U.heap.size := lt_obj (x.be r hr').1
    refine ⟨(ho.block r.1 (lt_obj b1) b4).trans b1, b2, b3, b4, b5, fun j hk => ?_⟩
    by_cases hj : j = i
    · simp only [if_pos hj] at hk
      have := (hB _ hk).1
      omega
    · simp only [if_neg hj] at hk
      exact b6 j hk
/-- a new scout beside the camp -/
def NW (w0 : World) (cb n N : Nat) (ss : Nat → SO.Sc) (ps : Nat → Nat) (sb sc zb : Nat) (Q : Nat → Bool) (i p : Nat) (V : World) : Prop := ∃ U B, CZ w0 cb n N ss ps sb sc zb Q U ∧ SC U p B 6 (SO.new i n) V
theorem NW.grow {w0 V V' : World} {cb n N sb sc zb i p : Nat} {ss : Nat → SO.Sc} {ps : Nat → Nat} {Q : Nat → Bool} (x : NW w0 cb n N ss ps sb sc zb Q i p V) (b : Bl V V') : NW w0 cb n N ss ps sb sc zb Q i p V' := by
  obtain ⟨U, B, h1, P, h2⟩ := x
  exact ⟨U, B, h1, P, h2.keep b.size (h2.bl.step b) (fun k hk => b.block k (h2.Bo k hk).2)⟩
theorem NW.cz {w0 V : World} {cb n N sb sc zb i p : Nat} {ss : Nat → SO.Sc} {ps : Nat → Nat} {Q : Nat → Bool} (x : NW w0 cb n N ss ps sb sc zb Q i p V) : CZ w0 cb n N ss ps sb sc zb Q V := by
  obtain ⟨U, B, h1, P, h2⟩ := x
  exact CH.grow h1 h2.bl
theorem NW.sl {w0 V : World} {cb n N sb sc zb i p : Nat} {ss : Nat → SO.Sc} {ps : Nat → Nat} {Q : Nat → Bool} (x : NW w0 cb n N ss ps sb sc zb Q i p V) : ∃ L : List Value, V.heap[sb]? = some (.cells L.toArray tPs (0, 0)) ∧ ∀ j, 1 ≤ j → j ≤ n → L[j]? = some (.pointer (some ⟨ps j, 0, none⟩)) := by
  obtain ⟨nv, Bs, ys, k⟩ := x.cz
  obtain ⟨CS, h1, h2⟩ := k.sl
  exact ⟨CS.toList, by rw [h1], fun j j1 j2 => by simpa using h2 j j1 j2⟩
theorem NW.set {w0 V V' : World} {cb n N sb sc zb i p : Nat} {ss : Nat → SO.Sc} {ps : Nat → Nat} {Q : Nat → Bool} {L L' : List Value} (x : NW w0 cb n N ss ps sb sc zb Q i p V) (h1 : 1 ≤ i) (h2 : i ≤ n) (hN : 6 ≤ N) (ho : Of1 sb V V') (hL : ∀ j, 1 ≤ j → j ≤ n → L[j]? = some (.pointer (some ⟨ps j, 0, none⟩))) (hr : V'.heap[sb]? = some (.cells L'.toArray tPs (0, 0))) (hL' : L.set i (.pointer (some ⟨p, 0, none⟩)) = L') :
    CZ w0 cb n N (SO.up ss i (SO.new i n)) (swp1 ps i p) sb sc zb Q V' := by
  obtain ⟨U, B, ⟨nv, Bs, ys, k⟩, hs⟩ := x
  refine ⟨nv, _, ys, k.renew h1 h2 hs hN ho hr (fun j j1 j2 => ?_)⟩
  rw [List.getElem?_toArray, ← hL', List.getElem?_set]
  have hj := hL j j1 j2
  have hlen : j < L.length := (List.getElem?_eq_some_iff.1 hj).1
  by_cases e : i = j
  · subst e
    have : swp1 ps i p i = p := if_pos rfl
    rw [if_pos rfl, if_pos hlen, this]
  · have : swp1 ps i p j = ps j := if_neg (Ne.symm e)
    rw [if_neg e, hj, this]
/-- a camp where one is silent: a round -/
theorem CZ.roundS {w U : World} {cb n N sb sc zb r v : Nat} {ss : Nat → SO.Sc} {ps : Nat → Nat} (x : CZ w cb n N ss ps sb sc zb (fun k => k == v) U) (hn1 : 1 ≤ n) (hn6 : n ≤ 6) (hN : N ≤ 9000000) (v1 : 1 ≤ v) (v2 : v ≤ n) (hr : r < 120) (j : SO.CS n v r ss) (d : Int) (hd : i64 d) :
    Calls Try.prog 8 #[.pointer (some ⟨cb, 0, none⟩), .slice (some ⟨zb, 0, none⟩) 7 7, .int .i64 d] U fun e w' => e = .returned (.bool true) ∧ ∃ ss', CZ w cb n (N + 7000) ss' ps sb sc zb (fun k => k == v) w' ∧ SO.CS n v (r + 1) ss' := by
  obtain ⟨ss', g, j'⟩ := j.step hn6 v1 v2 hr (fun i => IntKind.i64.wrap (d + (i : Int)))
  refine (round_x (ZC := (sQ fun k => k == v).toArray) (sil := fun k => k == v) x List.mem_cons_self (fun i hi => ?_) (by omega) hn1 hn6 hN d hd g).mono ?_
  · rw [List.getElem?_toArray]; exact sQ_at _ (by omega)
  · rintro e w' ⟨rfl, h⟩
    exact ⟨rfl, ss', h, j'⟩
/-- one has returned: a round -/
theorem CZ.roundR {w U : World} {cb n N sb sc zb t v : Nat} {ss : Nat → SO.Sc} {ps : Nat → Nat} (x : CZ w cb n N ss ps sb sc zb (fun _ => false) U) (hn1 : 1 ≤ n) (hn6 : n ≤ 6) (hN : N ≤ 9000000) (v1 : 1 ≤ v) (v2 : v ≤ n) (j : SO.Ret n v t ss) (d : Int) (hd : i64 d) :
    Calls Try.prog 8 #[.pointer (some ⟨cb, 0, none⟩), .slice (some ⟨zb, 0, none⟩) 7 7, .int .i64 d] U fun e w' => e = .returned (.bool true) ∧ ∃ ss', CZ w cb n (N + 7000) ss' ps sb sc zb (fun _ => false) w' ∧ SO.Ret n v (t + 1) ss' := by
  obtain ⟨ss', g, j'⟩ := j.step hn6 v1 v2 (fun i => IntKind.i64.wrap (d + (i : Int)))
  refine (round_x (ZC := (sQ fun _ => false).toArray) (sil := fun _ => false) x List.mem_cons_self (fun i hi => ?_) (by omega) hn1 hn6 hN d hd g).mono ?_
  · rw [List.getElem?_toArray]; exact sQ_at _ (by omega)
  · rintro e w' ⟨rfl, h⟩
    exact ⟨rfl, ss', h, j'⟩
end Go.Proofs.Ytimlonpaahdcmaa

/- Who is heard of again is there again: the walk. -/
namespace Go.Proofs.Ytimlonpaahdcmaa
open Go.RowKit Go.Maps
set_option linter.unusedVariables false
set_option linter.unusedSimpArgs false

theorem infoPs1 : (Try.prog.info? 31).map (·.size) = some 1 := by kernel_rfl
theorem qset_on (v : Nat) : (fun j : Nat => if j = v then true else false) = fun k => k == v := by funext j; by_cases e : j = v <;> simp [e]
theorem qset_off (v : Nat) : (fun j : Nat => if j = v then false else (j == v)) = fun _ => false := by funext j; by_cases e : j = v <;> simp [e]
set_option maxRecDepth 8000 in
set_option maxHeartbeats 16000000 in
theorem returns_walk (w0 : World) (n0 : Int) (hn0 : i64 n0) (v0 : Int) (hv0 : i64 v0) (ds : List Int) (da : Option Addr) (dc : Nat) (hds : RS lyI w0 da ds) (hdl : ds.length ≤ 9223372036854775807) (hdi : ∀ x ∈ ds, i64 x) :
    Calls Try.prog 4 #[.int .i64 n0, .int .i64 v0, .slice da ds.length dc] w0 fun e w' => e = .returned (.bool true) ∧ Bl w0 w' := by
  have KF : Hid (∀ U, Bl w0 U → RS lyI U da ds) := fun U hU => hds.bl hU
  have CA : Hid (Calls Try.prog 6 #[] w0 fun e w' => e = .returned (.bool true) ∧ Bl w0 w') := awake_12 (Bl.refl _)
  have hx1 : Int.tmod (IntKind.u64.wrap n0) 5 = (um12 n0 5 : Int) := um12_wrap n0 5
  have hx2 := um12_lt n0 5 (by omega)
  obtain ⟨n, hn⟩ : ∃ n, n = 2 + um12 n0 5 := ⟨_, rfl⟩
  have hy1 : Int.tmod (IntKind.u64.wrap v0) (2 + (um12 n0 5 : Int)) = (um12 v0 n : Int) := by
    have := um12_wrap v0 n
    rw [hn] at this ⊢
    exact this
  have hy2 := um12_lt v0 n (by omega)
  generalize um12 n0 5 = u at *
  generalize um12 v0 n = v at *
  obtain ⟨w, hw⟩ : ∃ w, w = 1 + v := ⟨_, rfl⟩
  have hn6 : n ≤ 6 := by omega
  have hn2 : 2 ≤ n := by omega
  have hn1 : 1 ≤ n := by omega
  have hw1 : 1 ≤ w := by omega
  have hwn : w ≤ n := by omega
  have HN : Hid (2 + (u : Int) = (n : Int)) := by show _ = _; omega
  have HW : Hid (1 + (v : Int) = (w : Int)) := by show _ = _; omega
  have CP : Hid (∀ U, Calls Try.prog 7 #[.int .i64 (2 + (u : Int))] U fun e w' => ∃ cb ps sb sc, e = .returned (.pointer (some ⟨cb, 0, none⟩)) ∧ CH U cb n 6 (fun i => SO.new i n) [] ps sb (.slice (some ⟨sb, 0, none⟩) (n + 1) sc) [] w') := fun U => by
    rw [HN.out]
    refine (pitched_x n hn1 hn6 U).mono ?_
    rintro e w' ⟨cb, ps, sb, sc, Bs, h1, h2⟩
    exact ⟨cb, ps, sb, sc, h1, h2.ch⟩
  have hmk := makeQ
  have hDR : Hid (∀ k, k < 1000 → i64 (drwF ds k)) := fun k hk => drwF_i64 hdi hk
  have hw0' : IntKind.u64.wrap (2 + (u : Int)) = 2 + (u : Int) := by simp only [IntKind.wrap, IntKind.bits, IntKind.signed]; simp; omega
  have hvu : (v : Int) < 2 + (u : Int) := by omega
  clear hds hdi hn hw hn0 hv0
  go_enter Try.func4, Try.ntmps4
  go_upto_region 7 with (first
    | go_skip
    | (go_at_call 6; refine (CA.out).mono ?_; clear CA; rintro e w1 ⟨rfl, HB1⟩)
    | (go_at_call 7; refine (CP.out _).mono ?_; clear CP; rintro e w2 ⟨cb, ps, sb, sc, rfl, HC⟩))
  rw [HN.out, HW.out]
  have HC1 := HC.box (sQ fun _ => false).toArray tBo
  have hzb : w2.heap.size = w2.heap.size := rfl
  generalize hz : w2.heap.size = zb at *
  generalize hw3 : w2.alloc (.cells (sQ fun _ => false).toArray tBo) = w3 at *
  have HZ : Hid (CZ w1 cb n 6 (fun i => SO.new i n) ps sb sc zb (fun _ => false) w3) := HC1
  have HBW : Hid (Bl w0 w1) := HB1
  have HJ : SO.CS n w 0 (fun i => SO.new i n) := SO.cs_new hn6 hw1 hwn
  have hw7 : (w : Int) < 7 := by omega
  have hw0i : 0 ≤ (w : Int) := by omega
  have HLs : Hid (∀ Q, w < (sQ Q).length) := fun Q => by rw [sQ_len]; omega
  clear HC HC1 HB1 hw3 hz hzb hmk hx1 hy1 hw0' hvu hx2 hy2
  go_upto_region 8 with (first
    | go_skip
    | (refine wl_setU rfl 4 _ _ rfl zb w (.bool true) rfl rfl rfl infoBo1 (sQ fun _ => false) (sQ fun k => k == w) tBo HZ.out.at1 (HLs.out _) (by rw [sQ_set, qset_on]) ?_; intro w4 g1 g2; have HZ4 : CZ w1 cb n 6 (fun i => SO.new i n) ps sb sc zb (fun k => k == w) w4 := CH.set HZ.out g2 g1; clear HZ g1 g2))
  go_wp2_with fail
  go_loopw [10] (fun u10 wr => ∃ (k : Nat) (ss : Nat → SO.Sc), k ≤ 120 ∧ u10 = .int .i64 (k : Int) ∧ CZ w1 cb n (6 + 7000 * k) ss ps sb sc zb (fun k => k == w) wr ∧ SO.CS n w k ss) (fun u10 _ => 120 - (intOf u10).toNat)
  case atStart => exact ⟨0, _, by omega, rfl, HZ4, HJ⟩
  case round =>
    clear HZ4 HJ
    obtain ⟨k, ss, hk, rfl, HZ, HJ⟩ := hrel
    have HZh : Hid (CZ w1 cb n (6 + 7000 * k) ss ps sb sc zb (fun k => k == w) wr) := HZ
    have HJh : Hid (SO.CS n w k ss) := HJ
    clear HZ HJ
    by_cases hk2 : k < 120
    · have CR : Hid (Calls Try.prog 8 #[.pointer (some ⟨cb, 0, none⟩), .slice (some ⟨zb, 0, none⟩) 7 7, .int .i64 (k : Int)] wr fun e w' => e = .returned (.bool true) ∧ ∃ ss', CZ w1 cb n (6 + 7000 * k + 7000) ss' ps sb sc zb (fun k => k == w) w' ∧ SO.CS n w (k + 1) ss') := HZh.out.roundS hn1 hn6 (by omega) hw1 hwn hk2 HJh.out (k : Int) ⟨by omega, by omega⟩
      have HNk : Hid (6 + 7000 * (k + 1) = 6 + 7000 * k + 7000) := by show _ = _; omega
      clear HZh HJh
      go_wp2_with (first
        | go_skip
        | (go_at_call 8; refine (CR.out).mono ?_; clear CR; rintro e w5 ⟨rfl, ss', HZ5, HJ5⟩))
      go_roundw
      case rel => exact ⟨k + 1, ss', by omega, by go_num, by rw [HNk.out]; exact HZ5, HJ5⟩
      case measure => simp [intOf] <;> omega
    · obtain rfl : k = 120 := by omega
      rw [show ((120 : Nat) : Int) = 120 from rfl]
      have hNN : 6 + 7000 * 120 = 840006 := by omega
      rw [hNN] at HZh
      have HRT := hidI (HJh.out.ret hn6 hw1 hwn)
      have KD : Hid (∀ U, Bl wr U → U.cell? ⟨cb, 0, none⟩ = some (.slice (some ⟨sb, 0, none⟩) (n + 1) sc)) := fun U hU => (CH.cl (CH.grow HZh.out hU)).c0
      have CN : Hid (∀ U, Bl wr U → Calls Try.prog 10 #[.int .i64 (w : Int), .int .i64 (n : Int)] U fun e w' => ∃ p, e = .returned (.pointer (some ⟨p, 0, none⟩)) ∧ Bl wr w' ∧ NW w1 cb n 840006 ss ps sb sc zb (fun k => k == w) w p w') := fun U hU => (New_yes (w : Int) n (by omega) (by omega) (by omega) (by omega) U).mono fun e w' ⟨p, B, h1, h2⟩ => ⟨p, h1, hU.step (by obtain ⟨P, y⟩ := h2; exact y.bl), U, B, CH.grow HZh.out hU, h2⟩
      have hwi : (w : Int) < (n : Int) + 1 := by omega
      clear hNN hk hk2 HJh
      go_upto_region 13 with fail
      refine wp_region_noPanic ?_
      refine wp_region_held_drew (S := fun U => U.cell? ⟨cb, 0, none⟩ = some (.slice (some ⟨sb, 0, none⟩) (n + 1) sc)) (by kernel_rfl) (KD.out _ ((Bl.refl wr).drewN 1)) (fun hHeld => ?_)
      refine wpAnyH_take (i := 0) rfl (by kernel_rfl) (by kernel_rfl) (by kernel_rfl) (fun _ _ _ h => h) (yi_move (by kernel_rfl) rfl rfl) (by assumption) ?_
      simp only [Act.put, List.getElem_toArray, List.getElem_cons_succ, List.getElem_cons_zero, List.setIfInBounds_toArray, List.set_cons_zero, List.set_cons_succ]
      refine wpAnyH_take (i := 1) (v := ?_) rfl (by kernel_rfl) (by kernel_rfl) (by kernel_rfl) (fun _ _ _ h => h) (Or.inl ⟨by kernel_rfl, ?_⟩) (by assumption) ?_
      rotate_left
      · (intro w hSw; (try dsimp only at hSw); go_simp; (try with_reducible rfl))
      simp only [Act.put, List.getElem_toArray, List.getElem_cons_succ, List.getElem_cons_zero, List.setIfInBounds_toArray, List.set_cons_zero, List.set_cons_succ]
      refine wpAnyH_take (i := 2) (v := ?_) rfl (by kernel_rfl) (by kernel_rfl) (by kernel_rfl) (fun _ _ _ h => h) (Or.inl ⟨by kernel_rfl, ?_⟩) (by assumption) ?_
      rotate_left
      · (intro w hSw; (try dsimp only at hSw); go_simp; (try with_reducible rfl))
      simp only [Act.put, List.getElem_toArray, List.getElem_cons_succ, List.getElem_cons_zero, List.setIfInBounds_toArray, List.set_cons_zero, List.set_cons_succ]
      refine wpAnyH_take (i := 3) (v := ?_) rfl (by kernel_rfl) (by kernel_rfl) (by kernel_rfl) (fun _ _ _ h => h) (Or.inl ⟨by kernel_rfl, ?_⟩) (by assumption) ?_
      rotate_left
      · (intro w hSw; (try dsimp only at hSw); go_simp; (try with_reducible rfl))
      simp only [Act.put, List.getElem_toArray, List.getElem_cons_succ, List.getElem_cons_zero, List.setIfInBounds_toArray, List.set_cons_zero, List.set_cons_succ]
      refine wpAnyH_take (i := 4) rfl (by kernel_rfl) (by kernel_rfl) (by kernel_rfl) (fun _ _ _ h => h) (yi_move (by kernel_rfl) rfl rfl) (by assumption) ?_
      simp only [Act.put, List.getElem_toArray, List.getElem_cons_succ, List.getElem_cons_zero, List.setIfInBounds_toArray, List.set_cons_zero, List.set_cons_succ]
      refine wpAnyH_take (i := 5) rfl (by kernel_rfl) (by kernel_rfl) (by kernel_rfl) (fun _ _ _ h => h) (yi_move (by kernel_rfl) rfl rfl) (by assumption) ?_
      simp only [Act.put, List.getElem_toArray, List.getElem_cons_succ, List.getElem_cons_zero, List.setIfInBounds_toArray, List.set_cons_zero, List.set_cons_succ]
      refine wpAnyH_take (i := 6) rfl (by kernel_rfl) (by kernel_rfl) (by kernel_rfl) (fun _ _ _ h => h) (yi_move (by kernel_rfl) rfl rfl) (by assumption) ?_
      simp only [Act.put, List.getElem_toArray, List.getElem_cons_succ, List.getElem_cons_zero, List.setIfInBounds_toArray, List.set_cons_zero, List.set_cons_succ]
      refine wpAnyH_ready (rs := [7]) (by kernel_rfl) (by simp) ?_
      refine AllReadyH.cons (o := _) rfl (fun K hK => ?_) AllReadyH.nil
      go_simp
      go_at_call 10; refine (CN.out _ ((Bl.refl wr).drewN 1)).mono ?_; rintro e V8 ⟨p, rfl, HB8, HNW⟩
      refine hK.out _ _ (KD.out _ HB8) (fun hHeld => ?_)
      clear hK K
      (try simp only [Act.put, List.getElem_toArray, List.getElem_cons_succ, List.getElem_cons_zero, List.setIfInBounds_toArray, List.set_cons_zero, List.set_cons_succ])
      refine wpAnyH_take (i := 8) (v := ?_) rfl (by kernel_rfl) (by kernel_rfl) (by kernel_rfl) (fun _ _ _ h => h) (Or.inl ⟨by kernel_rfl, ?_⟩) (by assumption) ?_
      rotate_left
      · (intro w hSw; (try dsimp only at hSw); go_simp; (try with_reducible rfl))
      simp only [Act.put, List.getElem_toArray, List.getElem_cons_succ, List.getElem_cons_zero, List.setIfInBounds_toArray, List.set_cons_zero, List.set_cons_succ]
      refine wpAnyH_ready (rs := [9]) (by kernel_rfl) (by simp) ?_
      refine AllReadyH.cons (o := _) rfl (fun K hK => ?_) AllReadyH.nil
      obtain ⟨LS, hLS, hLp⟩ := HNW.sl
      have hLw : w < LS.length := (List.getElem?_eq_some_iff.1 (hLp w hw1 hwn)).1
      refine stepo_setU rfl 31 _ _ rfl sb w (.pointer (some ⟨p, 0, none⟩)) rfl rfl rfl infoPs1 LS (LS.set w (.pointer (some ⟨p, 0, none⟩))) tPs hLS hLw rfl (fun V9 g1 g2 => ?_)
      have HZ9 := hidI (HNW.set hw1 hwn (by omega) g2 hLp g1 rfl)
      have HC9 : Hid (CL cb sb n sc (swp1 ps w p) V9) := CH.cl HZ9.out
      refine hK.out _ _ (HC9.out.c0) (fun hHeld => ?_)
      clear hK K
      (try simp only [Act.put, List.getElem_toArray, List.getElem_cons_succ, List.getElem_cons_zero, List.setIfInBounds_toArray, List.set_cons_zero, List.set_cons_succ])
      refine wpAnyH_done (by kernel_rfl) ?_ _
      refine NoPanic.normal ?_
      clear hLS hLp hLw g1 g2 hHeld HNW
      have HR0 := HRT
      clear HC9 KD CN HRT
      obtain ⟨ps', hps⟩ : ∃ ps', ps' = swp1 ps w p := ⟨_, rfl⟩
      rw [← hps] at HZ9
      obtain ⟨ss2, hss⟩ : ∃ ss2, ss2 = SO.up ss w (SO.new w n) := ⟨_, rfl⟩
      rw [← hss] at HZ9 HR0
      have HZA : Hid (CZ w1 cb n 840006 ss2 ps' sb sc zb (fun k => k == w) V9) := HZ9.out
      clear HZ9 hps hss HZh
      go_upto_region 15 with (first
        | go_skip
        | (refine wl_setU rfl 4 _ _ rfl zb w (.bool false) rfl rfl rfl infoBo1 (sQ fun k => k == w) (sQ fun _ => false) tBo HZA.out.at1 (HLs.out _) (by rw [sQ_set, qset_off]) ?_; intro w6 g1 g2; have HZB : CZ w1 cb n 840006 ss2 ps' sb sc zb (fun _ => false) w6 := CH.set HZA.out g2 g1; clear HZA g1 g2))
      have HR1 := HR0.out
      go_wp2_with fail
      go_loopw [11, 12] (fun u11 _ wr => ∃ (t : Nat) (sq : Nat → SO.Sc), t ≤ 160 ∧ u11 = .int .i64 (t : Int) ∧ CZ w1 cb n (840006 + 7000 * t) sq ps' sb sc zb (fun _ => false) wr ∧ SO.Ret n w t sq) (fun u11 _ _ => 160 - (intOf u11).toNat)
      case atStart => exact ⟨0, ss2, by omega, rfl, HZB, HR1⟩
      case round =>
        clear HZB HR0 HR1
        obtain ⟨t, sq, ht, rfl, HZ, HJ⟩ := hrel
        have HZh : Hid (CZ w1 cb n (840006 + 7000 * t) sq ps' sb sc zb (fun _ => false) wr) := HZ
        have HJh : Hid (SO.Ret n w t sq) := HJ
        clear HZ HJ
        by_cases ht2 : t < 160
        · have hdi := hDR.out t (by omega)
          have CR : Hid (∀ x, x = drwF ds t → Calls Try.prog 8 #[.pointer (some ⟨cb, 0, none⟩), .slice (some ⟨zb, 0, none⟩) 7 7, .int .i64 x] wr fun e w' => e = .returned (.bool true) ∧ ∃ ss', CZ w1 cb n (840006 + 7000 * t + 7000) ss' ps' sb sc zb (fun _ => false) w' ∧ SO.Ret n w (t + 1) ss') := fun x hx => by
            subst hx
            exact HZh.out.roundR hn1 hn6 (by omega) hw1 hwn HJh.out _ hdi
          have HNt : Hid (840006 + 7000 * (t + 1) = 840006 + 7000 * t + 7000) := by show _ = _; omega
          by_cases hl0 : 0 < ds.length
          · have hl0' : 0 < (ds.length : Int) := by omega
            have hmod : t % ds.length < ds.length := Nat.mod_lt _ hl0
            obtain ⟨x, hx⟩ : ∃ x, ds[t % ds.length]? = some x := ⟨ds[t % ds.length], List.getElem?_eq_getElem hmod⟩
            obtain ⟨b, off, hae, hb, hrg⟩ := (KF.out wr (HBW.out.step HZh.out.bl)) _ x hx
            have hcell := hrg 0 _ rfl
            rw [Nat.add_zero, show lyI.k = 1 from rfl, Nat.mul_one] at hcell
            have hxd : x = drwF ds t := by
              unfold drwF
              rw [if_pos hl0, List.getD_eq_getElem?_getD, hx]; rfl
            have CR2 := hidI (CR.out x hxd)
            have htm : Int.tmod (t : Int) (ds.length : Int) = ((t % ds.length : Nat) : Int) := by rw [Int.tmod_eq_emod_of_nonneg (by omega)]; omega
            have hl1 : ¬ (ds.length : Int) = 0 := by omega
            have hml : ((t % ds.length : Nat) : Int) < (ds.length : Int) := by omega
            clear hx hrg hb HZh HJh hdi CR hxd hmod hl0
            generalize t % ds.length = tm at *
            subst hae
            go_wp2_with (first
              | go_skip
              | (go_at_call 8; refine (CR2.out).mono ?_; clear CR2 hcell; rintro e w5 ⟨rfl, ss', HZ5, HJ5⟩))
            go_roundw
            case rel => exact ⟨t + 1, ss', by omega, by go_num, by rw [HNt.out]; exact HZ5, HJ5⟩
            case measure => simp [intOf] <;> omega
          · have hl0' : ¬ 0 < (ds.length : Int) := by omega
            have CR2 := hidI (CR.out (t : Int) (by unfold drwF; rw [if_neg hl0]))
            clear HZh HJh hdi CR hl0
            go_wp2_with (first
              | go_skip
              | (go_at_call 8; refine (CR2.out).mono ?_; clear CR2; rintro e w5 ⟨rfl, ss', HZ5, HJ5⟩))
            go_roundw
            case rel => exact ⟨t + 1, ss', by omega, by go_num, by rw [HNt.out]; exact HZ5, HJ5⟩
            case measure => simp [intOf] <;> omega
        · obtain rfl : t = 160 := by omega
          rw [show ((160 : Nat) : Int) = 160 from rfl]
          have HTL : Hid (∀ i, 1 ≤ i → i ≤ n → ∀ m ∈ K.all (sq i).f, ∃ (j : Nat) (inc : Int), 1 ≤ j ∧ j ≤ n ∧ m = ((j : Int), inc, 0) ∧ (j = w → inc = 1)) := fun i i1 i2 m hm => HJh.out.done hn2 hw1 hwn (by omega) i1 i2 hm
          have HAL : Hid (∀ U i, Bl wr U → 1 ≤ i → i ≤ n → Calls Try.prog 9 #[.pointer (some ⟨ps' i, 0, none⟩)] U fun e w' => ∃ a c, e = .returned (.slice a (K.all (sq i).f).length c) ∧ RS lyM w' a (K.all (sq i).f) ∧ Bl U w') := fun U i hU i1 i2 => (CH.grow HZh.out hU).all i1 i2
          have HCL : Hid (∀ U, Bl wr U → CL cb sb n sc ps' U) := fun U hU => CH.cl (CH.grow HZh.out hU)
          have HEND : Hid (∀ U, Bl wr U → Bl w0 U) := fun U hU => (HBW.out.step HZh.out.bl).step hU
          clear HZh HJh ht2 ht KF hDR HBW
          generalize hwz : wr = wz at *
          clear hwz
          have hB0 := Bl.refl wz
          go_wp2_with fail
          go_loopw [13, 14, 15] (fun u13 _ _ wr => ∃ i : Nat, i ≤ n ∧ u13 = .int .i64 ((i : Int) + 1) ∧ Bl wz wr) (fun u13 _ _ _ => n + 1 - (intOf u13).toNat)
          case atStart => exact ⟨0, by omega, rfl, hB0⟩
          case round =>
            clear hB0
            obtain ⟨i, hi, rfl, HB⟩ := hrel
            have HBh : Hid (Bl wz wr) := HB
            clear HB
            by_cases hij : i < n
            · have hi1 : (i : Int) + 1 ≤ (n : Int) := by omega
              have htn : ((i : Int) + 1).toNat = i + 1 := by omega
              have hi0 : 0 ≤ (i : Int) + 1 := by omega
              have hin : (i : Int) + 1 < (n : Int) + 1 := by omega
              have kc0 := (HCL.out wr HBh.out).c0
              have kp := (HCL.out wr HBh.out).p (i + 1) (by omega) (by omega)
              have CAL := hidI (HAL.out wr (i + 1) HBh.out (by omega) (by omega))
              have HT := hidI (HTL.out (i + 1) (by omega) (by omega))
              have hL6 := SO.all_len6 (sq (i + 1)).f
              generalize K.all (sq (i + 1)).f = L at *
              go_upto_region 27 with (first
                | go_skip
                | (go_at_call 9; refine (CAL.out).mono ?_; clear CAL kc0 kp; rintro e w6 ⟨a6, c6, rfl, hr6, hb6⟩))
              have HB6 : Hid (Bl wz w6) := HBh.out.step hb6
              have HR6 : Hid (RS lyM w6 a6 L) := hr6
              clear hr6 hb6 htn hi0 hin
              have hB0 := Bl.refl w6
              go_wp2_with fail
              go_loopw [15] (fun u15 wr => ∃ kk : Nat, kk ≤ L.length ∧ u15 = .int .i64 (kk : Int) ∧ Bl w6 wr) (fun u15 _ => L.length - (intOf u15).toNat)
              case atStart => exact ⟨0, by omega, rfl, hB0⟩
              case round =>
                clear hB0
                obtain ⟨kk, hkk, rfl, hBx⟩ := hrel
                have HBx : Hid (Bl w6 wr) := hBx
                clear hBx
                by_cases hkl : kk < L.length
                · obtain ⟨m, hm⟩ : ∃ m, L[kk]? = some m := ⟨L[kk], List.getElem?_eq_getElem hkl⟩
                  obtain ⟨jn, inc, j1, j2, hme, hjw⟩ := HT.out m (List.mem_of_getElem? hm)
                  obtain ⟨b2, o2, hae, hb2, hrg⟩ := HR6.out kk m hm
                  have hc0 := hrg 0 _ rfl
                  have hc1 := hrg 1 _ rfl
                  have hc2 := hrg 2 _ rfl
                  rw [hme] at hc0 hc1 hc2
                  rw [Nat.add_zero, show lyM.k = 3 from rfl] at hc0
                  rw [show lyM.k = 3 from rfl] at hc1 hc2
                  rw [← HBx.out.cell hb2] at hc0 hc1 hc2
                  have hkl' : (kk : Int) < (L.length : Int) := by omega
                  have HJW : Hid (jn = w → inc = 1) := hjw
                  clear hm hrg hme HT HTL HAL hjw
                  subst hae
                  by_cases hjw : jn = w
                  · have hinc := HJW.out hjw
                    subst hinc
                    have hjw' : (jn : Int) = (w : Int) := by omega
                    clear HJW
                    go_wp2_with go_skip
                    go_roundw
                    case rel => exact ⟨kk + 1, by omega, by go_num, HBx.out⟩
                    case measure => simp [intOf] <;> omega
                  · have hjw' : ¬ (jn : Int) = (w : Int) := by omega
                    clear HJW
                    go_wp2_with go_skip
                    go_roundw
                    case rel => exact ⟨kk + 1, by omega, by go_num, HBx.out⟩
                    case measure => simp [intOf] <;> omega
                · obtain rfl : kk = L.length := by omega
                  have HB9 : Hid (Bl wz wr) := HB6.out.step HBx.out
                  clear HBx hkl hkk
                  go_wp2_with fail
                  go_roundw
                  case rel => exact ⟨i + 1, by omega, by go_num, HB9.out⟩
                  case measure => simp [intOf] <;> omega
            · obtain rfl : i = n := by omega
              go_wp2_with fail
              go_ret
              exact ⟨rfl, HEND.out _ HBh.out⟩
end Go.Proofs.Ytimlonpaahdcmaa
