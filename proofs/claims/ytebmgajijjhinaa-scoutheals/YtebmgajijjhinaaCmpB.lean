/- The texts OpK OpL OpB SoQ SoC SoH SoR Fd0 as one. -/
import Derived.Test.YtebmgajijjhinaaKn4
import Derived.Test.YtebmgajijjhinaaRows
import Derived.ProofKit
import Derived.OpenShut
import Derived.SliceStrings
import Derived.Test.YtebmgajijjhinaaSo2z
import Derived.Deep.AppendSrc
import Derived.Test.YtebmgajijjhinaaPurA
/- Members that came in, opened. -/
namespace Go.Proofs.Ytebmgajijjhinaa
open Go.ChangeShapes Go.WideShapes Go.ChangeAt Go.RowKit
set_option linter.unusedVariables false

theorem own : ownKnob Try.prog.godebug = none := by kernel_rfl
theorem laidOut : laidOutB Try.prog = true := by kernel_rfl
theorem block_lt {w : World} {b o : Nat} {v : Value} (h : w.cell? ⟨b, o, none⟩ = some v) : b < w.heap.size := by
  rcases Nat.lt_or_ge b w.heap.size with h' | h'
  · exact h'
  · unfold World.cell? at h
    rw [Array.getElem?_eq_none h'] at h
    simp at h
theorem wf_i64 {x : Int} (h : (Lit.int .i64 x).wf = true) : -9223372036854775808 ≤ x ∧ x ≤ 9223372036854775807 := by
  simpa [Lit.wf, IntKind.min, IntKind.max, IntKind.signed, IntKind.bits] using h
theorem list_ofG {α : Type} {P : Nat → α → Prop} : ∀ n : Nat, (∀ i, i < n → ∃ d, P i d) → ∃ l : List α, l.length = n ∧ ∀ i d, l[i]? = some d → P i d
  | 0, _ => ⟨[], rfl, fun i d h => by simp at h⟩
  | n + 1, h => by
    obtain ⟨l, hl, hp⟩ := list_ofG n (fun i hi => h i (by omega))
    obtain ⟨d, hd⟩ := h n (by omega)
    refine ⟨l ++ [d], by simp [hl], fun i x hx => ?_⟩
    by_cases hi : i < n
    · rw [List.getElem?_append_left (by omega)] at hx; exact hp i x hx
    · rw [List.getElem?_append_right (by omega)] at hx
      have hin : i = n := by
        have := (List.getElem?_eq_some_iff.1 hx).1
        simp at this; omega
      subst hin
      simp [hl] at hx; subst hx; exact hd
theorem cMe : Try.prog.cellsOf 54 = 3 := by kernel_rfl
theorem open_rows {α : Type} (E : Lay α) (ok : α → Prop) {T TS : TypeId} (hund : Try.prog.underlying TS = some (.slice T)) (hc : Try.prog.cellsOf T = E.k) {H : Type} {enc : TypeId × Value → H} {W : World}
    (one : ∀ (n : Nat) (cs : List Value) (d : DataW H) (p : List MemPlace), DataW.trod enc Try.prog W 0 (fun _ => true) true n T cs = some (d, p) → ∃ x, cs = E.f x ∧ ok x) {fuel : Nat} {v : Value} {d : DataW H} {p : List MemPlace}
    (hf : DataW.trod enc Try.prog W 0 (fun _ => true) true fuel TS [v] = some (d, p)) :
    ∃ (a : Option Addr) (c : Nat) (l : List α), v = .slice a l.length c ∧ RS E W a l ∧ l.length ≤ maxLen ∧ ∀ t ∈ l, ok t := by
  have hk := E.pos
  rcases DataW.trod_slice hund hf with ⟨hcs, hx⟩ | ⟨a, len, cap, elems, rest, n, _, hcs, hx, hb, hl, hm, hlen, hel, _, _⟩
  · simp only [List.cons.injEq, and_true] at hcs
    subst hcs
    exact ⟨none, 0, [], rfl, fun i d h => by simp at h, by simp, fun t ht => by simp at ht⟩
  · simp only [List.cons.injEq, and_true] at hcs
    subst hcs
    have key : ∀ i, i < len → ∃ y : α, W.cells? 0 (a.add (i * E.k)) E.k = some (E.f y) ∧ ok y := fun i hi => by
      have h := hel i hi
      rw [hc, List.getElem?_eq_getElem (by omega)] at h
      cases hcc : W.cells? 0 (a.add (i * E.k)) E.k with
      | none => rw [hcc] at h; simp at h
      | some cs =>
        rw [hcc] at h
        simp only [Option.bind_some] at h
        obtain ⟨x, hx⟩ : ∃ x, elems[i] = x := ⟨_, rfl⟩
        rw [hx] at h
        obtain ⟨d, p⟩ := x
        obtain ⟨t, y1, y2⟩ := one _ _ _ _ h
        exact ⟨t, by rw [y1], y2⟩
    obtain ⟨l, hll, hlp⟩ := list_ofG len key
    refine ⟨some a, cap, l, by simp [hll], fun i t hi => ?_, by omega, fun t ht => ?_⟩
    · obtain ⟨h1, h2⟩ := hlp i t hi
      have hspot : a.spot = none := by
        have hil : i < l.length := (List.getElem?_eq_some_iff.1 hi).1
        obtain ⟨g1, g2⟩ := hlp 0 _ (List.getElem?_eq_getElem (by omega : 0 < l.length))
        obtain ⟨_, _, gce⟩ := World.cells?_some g1
        have g0 := gce 0 (by omega)
        rw [List.getElem?_eq_getElem (by rw [E.len]; omega)] at g0
        have := World.cell?_spot g0
        simpa [Addr.add] using this
      obtain ⟨_, hcl, hce⟩ := World.cells?_some h1
      obtain ⟨b, off, spot⟩ := a
      subst hspot
      have c0 := hce 0 (by omega)
      rw [Addr.add_mid, Addr.add_mid, List.getElem?_eq_getElem (by rw [E.len]; omega)] at c0
      refine ⟨b, off, rfl, block_lt c0, fun j v hv => ?_⟩
      have hj : j < E.k := by have := (List.getElem?_eq_some_iff.1 hv).1; rw [E.len] at this; exact this
      have := hce j hj
      rw [Addr.add_mid, Addr.add_mid, hv] at this
      exact this
    · obtain ⟨i, hi, rfl⟩ := List.getElem_of_mem ht
      exact (hlp i _ (List.getElem?_eq_getElem hi)).2
/-- each of its numbers is one that an int holds -/
def okM (m : K.Me) : Prop := i64 m.1 ∧ i64 m.2.1 ∧ i64 m.2.2
set_option maxRecDepth 8000 in
theorem me_of {H : Type} {enc : TypeId × Value → H} {W : World} {fuel : Nat} {cs : List Value} {d : DataW H} {p : List MemPlace}
    (h : DataW.trod enc Try.prog W 0 (fun _ => true) true fuel 54 cs = some (d, p)) : ∃ t : K.Me, cs = lyM.f t ∧ okM t := by
  obtain ⟨xs, n, _, hx, hcl, hxl, hfi⟩ := DataW.trod_struct Try.underlying54 h
  rw [cMe] at hcl
  have g : ∀ (i : Nat), i < 3 → ∃ x, xs[i]? = some x := fun i hi => ⟨xs[i]'(by rw [hxl]; exact hi), List.getElem?_eq_getElem _⟩
  obtain ⟨⟨d0, p0⟩, e0⟩ := g 0 (by omega)
  obtain ⟨⟨d1, p1⟩, e1⟩ := g 1 (by omega)
  obtain ⟨⟨d2, p2⟩, e2⟩ := g 2 (by omega)
  have f0 := hfi 0 _ rfl
  have f1 := hfi 1 _ rfl
  have f2 := hfi 2 _ rfl
  rw [e0] at f0
  rw [e1] at f1
  rw [e2] at f2
  have f0' : DataW.trod enc Try.prog W 0 (fun _ => true) true n 3 ((cs.drop 0).take 1) = some (d0, p0) := f0
  have f1' : DataW.trod enc Try.prog W 0 (fun _ => true) true n 3 ((cs.drop 1).take 1) = some (d1, p1) := f1
  have f2' : DataW.trod enc Try.prog W 0 (fun _ => true) true n 3 ((cs.drop 2).take 1) = some (d2, p2) := f2
  match cs, hcl with
  | [c0, c1, c2], _ =>
    simp only [List.drop_zero, List.drop_succ_cons, List.take_succ_cons, List.take_zero] at f0' f1' f2'
    obtain ⟨x, i1, i2, i3⟩ := DataW.trod_int Try.underlying3 f0'
    obtain ⟨y, j1, j2, j3⟩ := DataW.trod_int Try.underlying3 f1'
    obtain ⟨z, k1, k2, k3⟩ := DataW.trod_int Try.underlying3 f2'
    simp only [List.cons.injEq, and_true] at i1 j1 k1
    subst i1 j1 k1
    exact ⟨(x, y, z), rfl, wf_i64 i3, wf_i64 j3, wf_i64 k3⟩
set_option maxRecDepth 100000 in
/-- MEMBERS THAT CAME IN -/
theorem open_members {H : Type} {enc : TypeId × Value → H} {W : World} {base : Nat} {v : Value} {d : DataW H} {p : List MemPlace}
    (hok : Value.okWide Try.prog W .any base 46 v) (h : DataW.Trod enc Try.prog W 0 (fun _ => true) true 46 v d p) :
    ∃ (a : Option Addr) (c : Nat) (l : List K.Me), v = .slice a l.length c ∧ RS lyM W a l ∧ l.length ≤ maxLen ∧ ∀ t ∈ l, okM t := by
  obtain ⟨a0, len0, cap0, rfl⟩ := okWide_slice Try.underlying46 hok
  obtain ⟨fuel, hf0⟩ := h
  have hf : DataW.trod enc Try.prog W 0 (fun _ => true) true fuel 46 [.slice a0 len0 cap0] = some (d, p) := by simpa [Value.cells] using hf0
  exact open_rows lyM okM Try.underlying46 cMe (fun n cs d p h => me_of h) hf
set_option maxRecDepth 100000 in
/-- A MEMBER THAT CAME IN -/
theorem open_member {H : Type} {enc : TypeId × Value → H} {W : World} {base : Nat} {v : Value} {d : DataW H} {p : List MemPlace}
    (hok : Value.okWide Try.prog W .any base 54 v) (h : DataW.Trod enc Try.prog W 0 (fun _ => true) true 54 v d p) :
    ∃ t : K.Me, v = .agg (meV t) ∧ okM t := by
  obtain ⟨fuel, hf⟩ := h
  obtain ⟨t, h1, h2⟩ := me_of hf
  refine ⟨t, ?_, h2⟩
  have hlen : v.cells.size = 3 := by rw [← Array.length_toList, h1]; rfl
  have hv : ∃ cs, v = .agg cs := by
    cases v <;> simp [Value.cells] at hlen
    exact ⟨_, rfl⟩
  obtain ⟨cs, rfl⟩ := hv
  congr 1
  apply Array.toList_inj.1
  exact h1
end Go.Proofs.Ytebmgajijjhinaa

/- Numbers that came in, opened. -/
namespace Go.Proofs.Ytebmgajijjhinaa
open Go.ChangeShapes Go.WideShapes Go.ChangeAt Go.RowKit
set_option linter.unusedVariables false

theorem cIn : Try.prog.cellsOf 3 = 1 := by kernel_rfl
set_option maxRecDepth 100000 in
/-- NUMBERS THAT CAME IN -/
theorem open_ints {H : Type} {enc : TypeId × Value → H} {W : World} {base : Nat} {v : Value} {d : DataW H} {p : List MemPlace}
    (hok : Value.okWide Try.prog W .any base 23 v) (h : DataW.Trod enc Try.prog W 0 (fun _ => true) true 23 v d p) :
    ∃ (a : Option Addr) (c : Nat) (l : List Int), v = .slice a l.length c ∧ RS lyI W a l ∧ l.length ≤ maxLen ∧ ∀ t ∈ l, i64 t := by
  obtain ⟨a0, len0, cap0, rfl⟩ := okWide_slice Try.underlying23 hok
  obtain ⟨fuel, hf0⟩ := h
  have hf : DataW.trod enc Try.prog W 0 (fun _ => true) true fuel 23 [.slice a0 len0 cap0] = some (d, p) := by simpa [Value.cells] using hf0
  exact open_rows lyI i64 Try.underlying23 cIn (fun n cs d p h => by
    obtain ⟨z, z1, z2, z3⟩ := DataW.trod_int Try.underlying3 h
    exact ⟨z, z1, wf_i64 z3⟩) hf
end Go.Proofs.Ytebmgajijjhinaa

/- Flags that came in, opened. -/
namespace Go.Proofs.Ytebmgajijjhinaa
open Go.ChangeShapes Go.WideShapes Go.ChangeAt Go.RowKit
set_option linter.unusedVariables false

theorem trod_boolG {H : Type} {enc : TypeId × Value → H} {W : World} {base : Nat} {spare : Nat → Bool} {held : Bool} {fuel : Nat} {t : TypeId} {cs : List Value} {d : DataW H} {p : List MemPlace} (ht : Try.prog.underlying t = some .bool) (h : DataW.trod enc Try.prog W base spare held fuel t cs = some (d, p)) : ∃ b : Bool, cs = [.bool b] := by
  obtain ⟨b', h1, _⟩ := DataW.trod_bool ht h
  exact ⟨b', h1⟩
set_option maxRecDepth 8000 in
theorem open_bools {H : Type} {enc : TypeId × Value → H} {W : World} {base : Nat} {v : Value} {d : DataW H} {p : List MemPlace} {n : Nat} {t e : TypeId} (ht : Try.prog.underlying t = some (.array n e)) (he : Try.prog.underlying e = some .bool) (h1 : Try.prog.cellsOf e = 1) (hn : Try.prog.cellsOf t = n) (h0 : n ≠ 1)
    (hok : Value.okWide Try.prog W .any base t v) (h : DataW.Trod enc Try.prog W 0 (fun _ => true) true t v d p) : ∃ zs : List Bool, zs.length = n ∧ v = .agg (zs.map Value.bool).toArray := by
  obtain ⟨fuel, hf⟩ := h
  obtain ⟨xs, m, _, hx, hlen, hxn, hel⟩ := DataW.trod_array ht hf
  rw [hn] at hlen
  have key : ∀ i, i < n → ∃ z, v.cells.toList[i]? = some (.bool z) := fun i hi => by
    have hi' := hel i hi
    rw [h1, Nat.mul_one] at hi'
    have hxi : xs[i]? = some xs[i] := List.getElem?_eq_getElem (by omega)
    rw [hxi] at hi'
    obtain ⟨z, e1⟩ := trod_boolG he hi'
    refine ⟨z, ?_⟩
    have : ((v.cells.toList.drop i).take 1)[0]? = some (.bool z) := by rw [e1]; rfl
    simpa [List.getElem?_take, List.getElem?_drop] using this
  have hv : ∃ cs, v = .agg cs := by
    cases v <;> simp [Value.cells] at hlen <;> first | exact ⟨_, rfl⟩ | exact absurd hlen.symm h0 | exact absurd hlen h0
  obtain ⟨cs, rfl⟩ := hv
  have hcl : (Value.agg cs).cells = cs := rfl
  rw [hcl] at hlen key
  obtain ⟨zs, z1, z2⟩ := list_ofG n key
  refine ⟨zs, z1, ?_⟩
  have : cs.toList = zs.map Value.bool := by
    apply List.ext_getElem?
    intro i
    by_cases hi : i < n
    · have hzi : zs[i]? = some zs[i] := List.getElem?_eq_getElem (by omega)
      rw [z2 i _ hzi, List.getElem?_map, hzi]; rfl
    · rw [List.getElem?_eq_none (by omega), List.getElem?_eq_none (by simp; omega)]
  rw [← this]
end Go.Proofs.Ytebmgajijjhinaa

/- A queue: a slice whose beginning is cut off and to whose end slices are appended. -/
namespace Go.Proofs.Ytebmgajijjhinaa
open Go.RowKit Go.Maps
set_option linter.unusedVariables false
set_option linter.unusedSimpArgs false

/-- the block of a slice -/
abbrev qb (v : Value) : Option Nat := v.ownBlock
/-- a queue of things -/
def QN {α : Type} (E : Lay α) (T : TypeId) (U : World) (v : Value) (ks : List α) : Prop := (v = .slice none 0 0 ∧ ks = []) ∨ ∃ g off cap C, v = .slice (some ⟨g, off, none⟩) ks.length cap ∧ U.heap[g]? = some (.cells C T (0, 0)) ∧ ks.length ≤ cap ∧ cap ≤ maxLen ∧ off + cap * E.k ≤ C.size ∧ ∀ j u, (flG E ks)[j]? = some u → C[off + j]? = some u
theorem QN.nil {α : Type} (E : Lay α) (T : TypeId) (U : World) : QN E T U (.slice none 0 0) [] := Or.inl ⟨rfl, rfl⟩
theorem QN.keep {α : Type} {E : Lay α} {T : TypeId} {U U' : World} {v : Value} {ks : List α} (h : QN E T U v ks) (hk : ∀ g C, qb v = some g → U.heap[g]? = some (.cells C T (0, 0)) → U'.heap[g]? = U.heap[g]?) : QN E T U' v ks := by
  rcases h with h | ⟨g, off, cap, C, e1, e2, e3, e4, e5, e6⟩
  · exact Or.inl h
  · exact Or.inr ⟨g, off, cap, C, e1, (hk g C (by rw [e1]; rfl) e2).trans e2, e3, e4, e5, e6⟩
theorem QN.tag {α : Type} {E : Lay α} {T : TypeId} {U : World} {v : Value} {ks : List α} (h : QN E T U v ks) {g : Nat} (hg : qb v = some g) : ∃ C, U.heap[g]? = some (.cells C T (0, 0)) := by
  rcases h with ⟨rfl, _⟩ | ⟨g', off, cap, C, rfl, e2, _⟩
  · cases hg
  · cases hg; exact ⟨C, e2⟩
theorem QN.len {α : Type} {E : Lay α} {T : TypeId} {U : World} {v : Value} {ks : List α} (h : QN E T U v ks) : ∃ a cap, v = .slice a ks.length cap := by
  rcases h with ⟨rfl, rfl⟩ | ⟨g', off, cap, C, rfl, e2, _⟩
  · exact ⟨none, 0, rfl⟩
  · exact ⟨_, _, rfl⟩
/-- the first one, and what is left -/
theorem QN.tail {α : Type} {E : Lay α} {T : TypeId} {U : World} {v : Value} {x : α} {r : List α} (h : QN E T U v (x :: r)) : ∃ g off cap, v = .slice (some ⟨g, off, none⟩) (r.length + 1) cap ∧ r.length + 1 ≤ cap ∧ U.rangeAt g off (E.f x) ∧ QN E T U (.slice (if cap = 1 then some ⟨g, off, none⟩ else some ⟨g, off + E.k, none⟩) (r.length + 1 - 1) (cap - 1)) r := by
  rcases h with ⟨_, h⟩ | ⟨g, off, cap, C, e1, e2, e3, e4, e5, e6⟩
  · cases h
  · have hfl : flG E (x :: r) = E.f x ++ flG E r := by simp [flG]
    have hlx := E.len x
    simp only [List.length_cons] at e1 e3
    refine ⟨g, off, cap, e1, e3, fun j u hu => ?_, Or.inr ?_⟩
    · rw [Lib.cell_of_heap e2]
      refine e6 j u ?_
      rw [hfl, List.getElem?_append_left (List.getElem?_eq_some_iff.1 hu).1]; exact hu
    · by_cases hc : cap = 1
      · have hr : r = [] := List.length_eq_zero_iff.1 (by omega)
        subst hr
        refine ⟨g, off, cap - 1, C, by rw [if_pos hc]; rfl, e2, by simp, by omega, ?_, fun j u hu => by simp [flG] at hu⟩
        have : (cap - 1) * E.k ≤ cap * E.k := Nat.mul_le_mul_right _ (by omega)
        omega
      · refine ⟨g, off + E.k, cap - 1, C, by rw [if_neg hc]; rfl, e2, by omega, by omega, ?_, fun j u hu => ?_⟩
        · have : cap * E.k = (cap - 1) * E.k + E.k := by rw [← Nat.succ_mul, Nat.succ_eq_add_one, Nat.sub_add_cancel (by omega)]
          omega
        · rw [Nat.add_assoc]
          refine e6 (E.k + j) u ?_
          rw [hfl, List.getElem?_append_right (by omega), hlx, Nat.add_sub_cancel_left]; exact hu
theorem rs_all {α : Type} (E : Lay α) {W : World} {sb off : Nat} {l : List α} (hl : RS E W (some ⟨sb, off, none⟩) l) : ∀ j u, (flG E l)[j]? = some u → W.cell? ⟨sb, off + j, none⟩ = some u := fun j u hu => by
  have hk := E.pos
  have hj := (List.getElem?_eq_some_iff.1 hu).1
  rw [flG_len] at hj
  obtain ⟨t, ht⟩ : ∃ t, l[j / E.k]? = some t := ⟨l[j / E.k]'(Nat.div_lt_of_lt_mul (by rw [Nat.mul_comm]; exact hj)), List.getElem?_eq_getElem _⟩
  obtain ⟨sb', off', e, _, hc⟩ := hl _ t ht
  cases e
  obtain ⟨p, q, e1, e2⟩ := flG_at E l ht
  have hm := Nat.mod_lt j hk
  have hd := Nat.div_add_mod' j E.k
  rw [e1, List.getElem?_append_right (by omega), e2, List.getElem?_append_left (by rw [E.len]; omega)] at hu
  have := hc _ _ hu
  rwa [show off + j / E.k * E.k + (j - j / E.k * E.k) = off + j by omega] at this
theorem setL_at : ∀ (vs l : List Value) (o j : Nat), o + vs.length ≤ l.length → (setL l o vs)[j]? = if o ≤ j ∧ j < o + vs.length then vs[j - o]? else l[j]?
  | [], l, o, j, h => by rw [if_neg (by rintro ⟨h1, h2⟩; simp at h2; omega)]; rfl
  | v :: r, l, o, j, h => by
    simp only [List.length_cons] at h
    rw [setL, setL_at r (l.set o v) (o + 1) j (by simp; omega), List.getElem?_set, List.length_cons]
    by_cases h1 : o + 1 ≤ j ∧ j < o + 1 + r.length
    · rw [if_pos h1, if_pos (by omega), show j - o = (j - (o + 1)) + 1 by omega, List.getElem?_cons_succ]
    · rw [if_neg h1]
      by_cases h2 : o = j
      · subst h2
        rw [if_pos rfl, if_pos (by omega), if_pos (by omega), Nat.sub_self]; rfl
      · rw [if_neg h2, if_neg (by omega)]
/-- a slice is appended -/
theorem run_appQ {α : Type} (E : Lay α) {U : World} (T TS : TypeId) (z : Value) (bytes : Nat)
    (hund : Try.prog.underlying TS = some (.slice T)) (hinfo : (Try.prog.info? T).map (fun i => (i.zero, i.size, i.bytes)) = some (some z, E.k, bytes)) (hzc : z.cells.size = E.k) (hby : bytes ≤ 4096)
    (v : Value) (ks : List α) (hq : QN E T U v ks) (ad : Option Addr) (l : List α) (c : Nat) (hl : RS E U ad l) (hn : ks.length + l.length ≤ 90000) (ty : TypeId) :
    ∃ v' w', (Builtin.append_ #[TS, TS] ty #[v, .slice ad l.length c]).run Try.prog U = .ok v' w' ∧ QN E T w' v' (ks ++ l) ∧ U.grownBy w' (qb v) ∧ (qb v' = qb v ∨ qb v' = some U.heap.size) := by
  have hk := E.pos
  obtain ⟨i0, hi0, hz0, hz1, hz2⟩ := info_partsT hinfo
  by_cases h0 : l = []
  · subst h0
    refine ⟨v, U, ?_, by rw [List.append_nil]; exact hq, grown_refl _ _, Or.inl rfl⟩
    have hld : ∀ a : Addr, (loadCells a 0).run Try.prog U = .ok #[] U := fun a => by simp [loadCells, loadCellsFrom]
    rcases hq with ⟨rfl, rfl⟩ | ⟨g, off, cap, C, rfl, e2, e3, e4, e5, e6⟩ <;> cases ad
    · simp [Builtin.append_, run_underlying hund, sizeOf, typeInfo, hi0, Builtin.lenOf, Builtin.firstCells]
    · simp [Builtin.append_, run_underlying hund, sizeOf, typeInfo, hi0, Builtin.lenOf, Builtin.firstCells, hld]
    · simp [Builtin.append_, run_underlying hund, sizeOf, typeInfo, hi0, Builtin.lenOf, Builtin.firstCells, e3, storeCells]
    · simp [Builtin.append_, run_underlying hund, sizeOf, typeInfo, hi0, Builtin.lenOf, Builtin.firstCells, e3, storeCells, hld]
  · have hpos : 0 < l.length := List.length_pos_iff.2 h0
    obtain ⟨t0, ht0⟩ : ∃ t0, l[0]? = some t0 := ⟨l[0], List.getElem?_eq_getElem hpos⟩
    obtain ⟨sb, so, rfl, _, _⟩ := hl 0 t0 ht0
    have hall := rs_all E hl
    have hsrc : Src Try.prog i0.size TS (.slice (some ⟨sb, so, none⟩) l.length c) l.length (flG E l) U := by
      rw [hz1]
      exact Src.ofSlice U hund ⟨sb, so, none⟩ l.length c (flG E l) (flG_len E l) (fun j u hu => by rw [Addr.add_mid]; exact hall j u hu) (flG_one E l)
    have grow : ∀ (base : Option Addr) (n cap : Nat), n = ks.length → cap < n + l.length → cap ≤ maxLen → (Builtin.firstCells i0.size n (.slice base n cap)).run Try.prog U.drew = .ok (flG E ks).toArray U.drew → ∃ v' w', (Builtin.append_ #[TS, TS] ty #[.slice base n cap, .slice (some ⟨sb, so, none⟩) l.length c]).run Try.prog U = .ok v' w' ∧ QN E T w' v' (ks ++ l) ∧ U.grownBy w' (qb (.slice base n cap)) ∧ (qb v' = qb (.slice base n cap) ∨ qb v' = some U.heap.size) := fun base n cap hnn hc hcm hold => by
      subst hnn
      have hge := grownCap_ge U (ks.length + l.length) cap T
      have hle : grownCap U (ks.length + l.length) cap T ≤ maxLen := grownCap_le_maxLen U (ks.length + l.length) cap T (by unfold maxLen; omega)
      have hfit : Builtin.nextslicecap (ks.length + l.length) cap * i0.bytes ≤ 281474976710656 := by
        refine growslice_fits hc ?_
        rw [hz2]
        have : (ks.length + l.length) * bytes ≤ 90000 * 4096 := Nat.mul_le_mul hn hby
        omega
      refine ⟨_, _, run_append_grow_src U TS TS ty T i0 z hund hi0 hz0 base ks.length cap (flG E ks) hold _ l.length (flG E l) hsrc hc (by omega) hfit, Or.inr ⟨U.heap.size, 0, _, _, ?_, heap_alloc_new U.drew _, ?_, hle, ?_, fun j u hu => ?_⟩, ⟨rfl, rfl, rfl, by simp, fun k hk _ => heap_alloc_old U.drew _ hk⟩, Or.inr rfl⟩
      · rw [List.length_append]
      · rw [List.length_append]; exact hge
      · simp only [Array.size_append, List.size_toArray, size_zeroCells, hzc, List.length_append, flG_len, Nat.zero_add]
        rw [← Nat.add_mul, ← Nat.add_mul]
        exact Nat.mul_le_mul_right _ (by omega)
      · rw [flG_app] at hu
        have hj := (List.getElem?_eq_some_iff.1 hu).1
        rw [Nat.zero_add, Array.getElem?_append_left (by simpa using hj)]
        simpa using hu
    rcases hq with ⟨rfl, rfl⟩ | ⟨g, off, cap, C, rfl, e2, e3, e4, e5, e6⟩
    · exact grow none 0 0 rfl (by omega) (by simp) (by simp [Builtin.firstCells, flG])
    · by_cases hroom : ks.length + l.length ≤ cap
      · have hlen : (flG E l).length = l.length * E.k := flG_len E l
        have hcs : (ks.length + l.length) * E.k ≤ cap * E.k := Nat.mul_le_mul_right _ hroom
        rw [Nat.add_mul] at hcs
        have hfz : ∀ o, U.frozen? ⟨g, o, none⟩ = false := fun o => by simp [World.frozen?, e2]
        have hrun := run_append_room_src U TS TS ty T i0 hund hi0 g off ks.length cap (.slice (some ⟨sb, so, none⟩) l.length c) l.length (flG E l) hsrc hroom (fun j hj => by rw [Lib.cell_of_heap e2, Array.getElem?_eq_getElem (by rw [hz1]; omega)]; rfl) (fun j hj => hfz _)
        rw [hz1] at hrun
        refine ⟨_, _, hrun, Or.inr ⟨g, off, cap, _, by rw [List.length_append], heap_setCells _ e2, by rw [List.length_append]; exact hroom, e4, by rw [setA_size]; exact e5, fun j u hu => ?_⟩, grown_setCells _ _ _ _, Or.inl rfl⟩
        rw [← Array.getElem?_toList, setA_list, setL_at (flG E l) C.toList (off + ks.length * E.k) (off + j) (by have h9 : C.toList.length = C.size := Array.length_toList; rw [h9, hlen]; omega)]
        rw [flG_app] at hu
        by_cases hj : j < ks.length * E.k
        · rw [if_neg (by omega), Array.getElem?_toList]
          rw [List.getElem?_append_left (by rw [flG_len]; exact hj)] at hu
          exact e6 j u hu
        · have hj2 := (List.getElem?_eq_some_iff.1 hu).1
          rw [List.length_append, flG_len, flG_len] at hj2
          rw [List.getElem?_append_right (by rw [flG_len]; omega), flG_len] at hu
          rw [if_pos (by omega), show off + j - (off + ks.length * E.k) = j - ks.length * E.k by omega]
          exact hu
      · refine grow _ _ cap rfl (by omega) e4 ?_
        have := run_firstCells_some (P := Try.prog) U.drew i0.size ks.length ⟨g, off, none⟩ ks.length cap (flG E ks) (by rw [hz1]; exact flG_len E ks) (fun j u hu => by
          rw [Addr.add_mid]
          show U.cell? ⟨g, off + j, none⟩ = some u
          rw [Lib.cell_of_heap e2]; exact e6 j u hu)
        exact this
theorem stepo_appQ {α : Type} (E : Lay α) {ops : Array Oper} {o : Oper} {a : Act} {U : World} {K : Act → World → Prop} {Q : Exit → Act → World → Prop} {El : Prop} (T TS : TypeId) (z : Value) (bytes : Nat)
    (hund : Try.prog.underlying TS = some (.slice T)) (hinfo : (Try.prog.info? T).map (fun i => (i.zero, i.size, i.bytes)) = some (some z, E.k, bytes)) (hzc : z.cells.size = E.k) (hby : bytes ≤ 4096)
    (hgd : o.guard = none) (s x : Operand) (ho : o.op = .call { callee := .builtin .append, args := #[s, x], argTypes := #[TS, TS] }) (v : Value) (ks : List α) (hs : a.eval s = v) (hq : QN E T U v ks) (ad : Option Addr) (l : List α) (n c : Nat) (hnl : n = l.length) (hx : a.eval x = .slice ad n c) (hl : RS E U ad l) (hn : ks.length + l.length ≤ 90000)
    (h : ∀ v' w', QN E T w' v' (ks ++ l) → U.grownBy w' (qb v) → (qb v' = qb v ∨ qb v' = some U.heap.size) → K (a.put o.dst v') w') : if Region.wanted o (yielded ops a.tmps) = true then Oper.wp Try.prog o a U K Q else El := by
  subst hnl
  have hw : Region.wanted o (yielded ops a.tmps) = true := by simp [Region.wanted, hgd]
  rw [if_pos hw]
  obtain ⟨v', w', hrun, h1, h2, h3⟩ := run_appQ E T TS z bytes hund hinfo hzc hby v ks hq ad l c hl hn o.type
  have hK' := h v' w' h1 h2 h3
  unfold Oper.wp
  simp [execOp, ho, resolve, invoke, builtin, hs, hx, hrun, Result.andThen]
  exact hK'
end Go.Proofs.Ytebmgajijjhinaa

/- A camp: scouts, and frames under way. -/
namespace Go.Proofs.Ytebmgajijjhinaa
open Go.RowKit Go.Maps
set_option linter.unusedVariables false
set_option linter.unusedSimpArgs false

abbrev tCp : TypeId := 31
abbrev tPs : TypeId := 32
/-- where a frame's rumours may lie -/
def XG (Bs : Nat → Nat → Prop) (nv : Value) (cb sb : Nat) (g : Nat) : Prop := (∀ j, ¬ Bs j g) ∧ some g ≠ qb nv ∧ g ≠ cb ∧ g ≠ sb
/-- a camp in memory -/
structure CK (w : World) (cb n N : Nat) (ss : Nat → SO.Sc) (net : List SO.Fr) (ps : Nat → Nat) (sb : Nat) (sv nv rv : Value) (Bs : Nat → Nat → Prop) (ys : List Sn) (rs : List (Nat × Obj)) (U : World) : Prop where
  row : U.heap[cb]? = some (.cells #[sv, rv] tCp (0, 0))
  sl : ∃ CS, U.heap[sb]? = some (.cells CS tPs (0, 0)) ∧ ∀ i, 1 ≤ i → i ≤ n → CS[i]? = some (.pointer (some ⟨ps i, 0, none⟩))
  sc : ∀ i, 1 ≤ i → i ≤ n → SC w (ps i) (Bs i) N (ss i) U
  dj : ∀ i j k, Bs i k → Bs j k → i = j
  out : ∀ i k, Bs i k → (1 ≤ i ∧ i ≤ n) ∧ k ≠ cb ∧ k ≠ sb ∧ some k ≠ qb nv
  q : QN lyS tSn U nv ys
  len : ys.length = net.length
  each : ∀ (i : Nat) (y : Sn) (f : SO.Fr), ys[i]? = some y → net[i]? = some f → SN U (XG Bs nv cb sb) y f
  bl : Bl w U
  lo : w.heap.size ≤ cb ∧ w.heap.size ≤ sb ∧ ∀ g, qb nv = some g → w.heap.size ≤ g
  be : ∀ r ∈ rs, U.heap[r.1]? = some r.2 ∧ w.heap.size ≤ r.1 ∧ r.1 ≠ cb ∧ r.1 ≠ sb ∧ some r.1 ≠ qb nv ∧ ∀ i, ¬ Bs i r.1
theorem SC.keep' {w W W' : World} {p : Nat} {B : Nat → Prop} {N M : Nat} {s : SO.Sc} (x : SC w p B N s W) (hM : N ≤ M) (hs : W.heap.size ≤ W'.heap.size) (hb : Bl w W') (hk : ∀ k, B k → k < W.heap.size → W'.heap[k]? = W.heap[k]?) : SC w p B M s W' := by
  obtain ⟨P, x⟩ := x
  exact ⟨P, (x.keep hs hb (fun k h => hk k h (x.Bo k h).2)).more hM⟩
theorem SC.lt {w W : World} {p : Nat} {B : Nat → Prop} {N : Nat} {s : SO.Sc} (x : SC w p B N s W) {k : Nat} (h : B k) : k < W.heap.size := by
  obtain ⟨P, x⟩ := x
  exact (x.Bo k h).2
theorem CK.lt {w U : World} {cb n N sb : Nat} {ss : Nat → SO.Sc} {net : List SO.Fr} {ps : Nat → Nat} {sv nv rv : Value} {Bs : Nat → Nat → Prop} {ys : List Sn} {rs : List (Nat × Obj)} (x : CK w cb n N ss net ps sb sv nv rv Bs ys rs U) {i k : Nat} (h : Bs i k) : k < U.heap.size := by
  have := (x.out i k h).1
  exact (x.sc i this.1 this.2).lt h
theorem lt_obj {U : World} {k : Nat} {o : Obj} (h : U.heap[k]? = some o) : k < U.heap.size := (Array.getElem?_eq_some_iff.1 h).1
abbrev upd := SO.up
/-- a scout of the camp has answered -/
theorem CK.ans {w U w' : World} {cb n N M sb i : Nat} {ss : Nat → SO.Sc} {net fs : List SO.Fr} {ps : Nat → Nat} {sv nv rv : Value} {Bs : Nat → Nat → Prop} {ys : List Sn} {rs : List (Nat × Obj)} {s' : SO.Sc} {e : Ending} (x : CK w cb n N ss net ps sb sv nv rv Bs ys rs U) (h1 : 1 ≤ i) (h2 : i ≤ n) (hM : N ≤ M) (h : Ans w (ps i) (Bs i) U M s' fs e w') :
    ∃ a c ys' Bs', e = .returned (.slice a fs.length c) ∧ CK w cb n M (upd ss i s') net ps sb sv nv rv Bs' ys rs w' ∧ FRS w' (XG Bs' nv cb sb) a ys' fs := by
  obtain ⟨a, c, ys', B', rfl, sc', o, hf⟩ := h
  have hblk : ∀ k, k < U.heap.size → ¬ Bs i k → w'.heap[k]? = U.heap[k]? := o.block
  have hlo : ∀ k, Bs i k → w.heap.size ≤ k := fun k hk => by
    obtain ⟨P, y⟩ := x.sc i h1 h2
    exact (y.Bo k hk).1
  have hbl : Bl w w' := o.below x.bl hlo
  have hnc : ¬ Bs i cb := fun hB => (x.out i cb hB).2.1 rfl
  have hns : ¬ Bs i sb := fun hB => (x.out i sb hB).2.2.1 rfl
  have hB' : ∀ k, B' k → Bs i k ∨ U.heap.size ≤ k := o.own
  obtain ⟨CS, hCS, hptr⟩ := x.sl
  have hcl := lt_heap x.row
  have hsl := lt_heap hCS
  have hnl : ∀ g, qb nv = some g → g < U.heap.size := fun g hg => by
    obtain ⟨C, hC⟩ := x.q.tag hg
    exact lt_heap hC
  have hnb : ∀ g, qb nv = some g → ¬ Bs i g := fun g hg hB => (x.out i g hB).2.2.2 hg.symm
  have hX : ∀ g, XG Bs nv cb sb g → g < U.heap.size → w'.heap[g]? = U.heap[g]? ∧ XG (fun j => if j = i then B' else Bs j) nv cb sb g := fun g hg hl => by
    refine ⟨hblk g hl (hg.1 i), fun j hB => ?_, hg.2⟩
    by_cases hj : j = i
    · simp only [if_pos hj] at hB
      rcases hB' g hB with h | h
      · exact hg.1 i h
      · omega
    · simp only [if_neg hj] at hB
      exact hg.1 j hB
  refine ⟨a, c, ys', fun j => if j = i then B' else Bs j, rfl, ⟨(hblk cb hcl hnc).trans x.row, ⟨CS, (hblk sb hsl hns).trans hCS, hptr⟩, fun j j1 j2 => ?_, fun j1 j2 k k1 k2 => ?_, fun j k hB => ?_, x.q.keep (fun g C hg hC => hblk g (lt_heap hC) (hnb g hg)), x.len, fun j y f hy hf => (x.each j y f hy hf).keep o.size hX, hbl, x.lo, fun r hr => ?_⟩, ?_⟩
  · by_cases hj : j = i
    · subst hj
      simp only [if_pos rfl, upd, SO.up]
      exact sc'
    · simp only [if_neg hj, upd, SO.up]
      exact (x.sc j j1 j2).keep' hM o.size hbl (fun k hk hl => hblk k hl (fun hB => hj (x.dj j i k hk hB)))
  · by_cases e1 : j1 = i <;> by_cases e2 : j2 = i
    · rw [e1, e2]
    · simp only [if_pos e1] at k1
      simp only [if_neg e2] at k2
      rcases hB' k k1 with h | h
      · exact absurd (x.dj j2 i k k2 h) e2
      · have := x.lt k2; omega
    · simp only [if_neg e1] at k1
      simp only [if_pos e2] at k2
      rcases hB' k k2 with h | h
      · exact absurd (x.dj j1 i k k1 h) e1
      · have := x.lt k1; omega
    · simp only [if_neg e1] at k1
      simp only [if_neg e2] at k2
      exact x.dj j1 j2 k k1 k2
  · by_cases hj : j = i
    · subst hj
      simp only [if_pos rfl] at hB
      refine ⟨⟨h1, h2⟩, ?_⟩
      rcases hB' k hB with h | h
      · exact (x.out _ k h).2
      · refine ⟨by omega, by omega, fun e => ?_⟩
        have := hnl k e.symm
        omega
    · simp only [if_neg hj] at hB
      exact x.out j k hB
  · obtain ⟨b1, b2, b3, b4, b5, b6⟩ := x.be r hr
    refine ⟨(hblk r.1 (lt_obj b1) (b6 i)).trans b1, b2, b3, b4, b5, fun j hB => ?_⟩
    by_cases hj : j = i
    · simp only [if_pos hj] at hB
      rcases hB' _ hB with h | h
      · exact b6 i h
      · have := lt_obj b1; omega
    · simp only [if_neg hj] at hB
      exact b6 j hB
  · refine hf.keep (Nat.le_refl _) (fun g hg hl => ⟨rfl, fun j hB => ?_, fun e => ?_, ?_, ?_⟩)
    · by_cases hj : j = i
      · simp only [if_pos hj] at hB
        exact hg.2 hB
      · simp only [if_neg hj] at hB
        have := x.lt hB
        have := hg.1
        omega
    · have := hnl g e.symm
      have := hg.1
      omega
    · have := hg.1; omega
    · have := hg.1; omega
/-- what was answered is on its way -/
theorem CK.app {w U w' : World} {cb n N sb : Nat} {ss : Nat → SO.Sc} {net fs : List SO.Fr} {ps : Nat → Nat} {sv nv rv v' : Value} {Bs : Nat → Nat → Prop} {ys ys' : List Sn} {rs : List (Nat × Obj)} {a : Option Addr} (x : CK w cb n N ss net ps sb sv nv rv Bs ys rs U) (hf : FRS U (XG Bs nv cb sb) a ys' fs)
    (hq : QN lyS tSn w' v' (ys ++ ys')) (hg : U.grownBy w' (qb nv)) (hv : qb v' = qb nv ∨ qb v' = some U.heap.size) : CK w cb n N ss (net ++ fs) ps sb sv v' rv Bs (ys ++ ys') rs w' := by
  obtain ⟨CS, hCS, hptr⟩ := x.sl
  have hcl := lt_heap x.row
  have hsl := lt_heap hCS
  have ncb : some cb ≠ qb nv := fun e => by
    obtain ⟨C, hC⟩ := x.q.tag e.symm
    exact tags x.row hC (by decide) rfl
  have nsb : some sb ≠ qb nv := fun e => by
    obtain ⟨C, hC⟩ := x.q.tag e.symm
    exact tags hCS hC (by decide) rfl
  have hbl : Bl w w' := ⟨hg.os.trans x.bl.os, hg.tape.trans x.bl.tape, hg.output.trans x.bl.output, Nat.le_trans x.bl.size hg.size, fun k hk => (hg.block k (Nat.lt_of_lt_of_le hk x.bl.size) (fun e => by have := x.lo.2.2 k e.symm; omega)).trans (x.bl.block k hk)⟩
  have hX : ∀ g, XG Bs nv cb sb g → g < U.heap.size → w'.heap[g]? = U.heap[g]? ∧ XG Bs v' cb sb g := fun g h hl => by
    refine ⟨hg.block g hl h.2.1, h.1, fun e => ?_, h.2.2⟩
    rcases hv with h' | h'
    · rw [h'] at e; exact h.2.1 e
    · rw [h'] at e; cases e; omega
  refine ⟨(hg.block cb hcl ncb).trans x.row, ⟨CS, (hg.block sb hsl nsb).trans hCS, hptr⟩, fun i i1 i2 => (x.sc i i1 i2).keep' (Nat.le_refl _) hg.size hbl (fun k hk hl => hg.block k hl (x.out i k hk).2.2.2), x.dj, fun i k hB => ?_, hq, by rw [List.length_append, List.length_append, x.len, hf.len], fun i y f hy hff => ?_, hbl, ⟨x.lo.1, x.lo.2.1, fun g hg' => ?_⟩, fun r hr => ?_⟩
  · have h := x.out i k hB
    refine ⟨h.1, h.2.1, h.2.2.1, fun e => ?_⟩
    rcases hv with h' | h'
    · rw [h'] at e; exact h.2.2.2 e
    · rw [h'] at e; cases e; have := x.lt hB; omega
  · by_cases hi : i < ys.length
    · rw [List.getElem?_append_left hi] at hy
      rw [List.getElem?_append_left (by rw [← x.len]; exact hi)] at hff
      exact (x.each i y f hy hff).keep hg.size hX
    · rw [List.getElem?_append_right (by omega)] at hy
      rw [List.getElem?_append_right (by rw [← x.len]; omega), ← x.len] at hff
      exact (hf.each _ y f hy hff).keep hg.size hX
  · rcases hv with h' | h'
    · rw [h'] at hg'; exact x.lo.2.2 g hg'
    · rw [h'] at hg'; cases hg'; exact x.bl.size
  · obtain ⟨b1, b2, b3, b4, b5, b6⟩ := x.be r hr
    refine ⟨(hg.block r.1 (lt_obj b1) b5).trans b1, b2, b3, b4, fun e => ?_, b6⟩
    rcases hv with h' | h'
    · rw [h'] at e; exact b5 e
    · rw [h'] at e
      have := lt_obj b1
      have e2 := Option.some.inj e
      omega
/-- the camp's own list is written -/
theorem CK.store {w U V : World} {cb n N sb : Nat} {ss : Nat → SO.Sc} {net : List SO.Fr} {ps : Nat → Nat} {sv nv rv : Value} {Bs : Nat → Nat → Prop} {ys : List Sn} {rs : List (Nat × Obj)} (x : CK w cb n N ss net ps sb sv nv rv Bs ys rs U) (ho : Of1 cb U V) (hr : V.heap[cb]? = some (.cells #[sv, nv] tCp (0, 0))) : CK w cb n N ss net ps sb sv nv nv Bs ys rs V := by
  obtain ⟨CS, hCS, hptr⟩ := x.sl
  have nsb : sb ≠ cb := fun e => by subst e; exact tags hCS x.row (by decide) rfl
  have hbl : Bl w V := ho.bl x.bl x.lo.1
  exact ⟨hr, ⟨CS, (ho.block sb (lt_heap hCS) nsb).trans hCS, hptr⟩, fun i i1 i2 => (x.sc i i1 i2).keep' (Nat.le_refl _) ho.size hbl (fun k hk hl => ho.block k hl (x.out i k hk).2.1), x.dj, x.out, x.q.keep (fun g C hg hC => ho.block g (lt_heap hC) (fun e => by subst e; exact tags hC x.row (by decide) rfl)), x.len, fun i y f hy hf => (x.each i y f hy hf).keep ho.size (fun g hg hl => ⟨ho.block g hl hg.2.2.1, hg⟩), hbl, x.lo, fun r hr => ⟨(ho.block r.1 (lt_obj (x.be r hr).1) (x.be r hr).2.2.1).trans (x.be r hr).1, (x.be r hr).2⟩⟩
theorem CK.grow {w U V : World} {cb n N sb : Nat} {ss : Nat → SO.Sc} {net : List SO.Fr} {ps : Nat → Nat} {sv nv rv : Value} {Bs : Nat → Nat → Prop} {ys : List Sn} {rs : List (Nat × Obj)} (x : CK w cb n N ss net ps sb sv nv rv Bs ys rs U) (b : Bl U V) : CK w cb n N ss net ps sb sv nv rv Bs ys rs V := by
  obtain ⟨CS, hCS, hptr⟩ := x.sl
  have hbl := x.bl.step b
  exact ⟨(b.block _ (lt_heap x.row)).trans x.row, ⟨CS, (b.block _ (lt_heap hCS)).trans hCS, hptr⟩, fun i i1 i2 => (x.sc i i1 i2).keep' (Nat.le_refl _) b.size hbl (fun k hk hl => b.block k hl), x.dj, x.out, x.q.keep (fun g C hg hC => b.block g (lt_heap hC)), x.len, fun i y f hy hf => (x.each i y f hy hf).keep b.size (fun g hg hl => ⟨b.block g hl, hg⟩), hbl, x.lo, fun r hr => ⟨(b.block r.1 (lt_obj (x.be r hr).1)).trans (x.be r hr).1, (x.be r hr).2⟩⟩
theorem CK.more {w U : World} {cb n N M sb : Nat} {ss : Nat → SO.Sc} {net : List SO.Fr} {ps : Nat → Nat} {sv nv rv : Value} {Bs : Nat → Nat → Prop} {ys : List Sn} {rs : List (Nat × Obj)} (x : CK w cb n N ss net ps sb sv nv rv Bs ys rs U) (h : N ≤ M) : CK w cb n M ss net ps sb sv nv rv Bs ys rs U :=
  ⟨x.row, x.sl, fun i i1 i2 => (x.sc i i1 i2).keep' h (Nat.le_refl _) x.bl (fun _ _ _ => rfl), x.dj, x.out, x.q, x.len, x.each, x.bl, x.lo, x.be⟩
/-- the first frame is taken out -/
theorem CK.pop {w U : World} {cb n N sb : Nat} {ss : Nat → SO.Sc} {f : SO.Fr} {net : List SO.Fr} {ps : Nat → Nat} {sv nv rv : Value} {Bs : Nat → Nat → Prop} {ys : List Sn} {rs : List (Nat × Obj)} (x : CK w cb n N ss (f :: net) ps sb sv nv rv Bs ys rs U) :
    ∃ g off cap y ys', nv = .slice (some ⟨g, off, none⟩) (net.length + 1) cap ∧ net.length + 1 ≤ cap ∧ U.rangeAt g off (lyS.f y) ∧ SN U (XG Bs nv cb sb) y f ∧ CK w cb n N ss net ps sb sv (.slice (if cap = 1 then some ⟨g, off, none⟩ else some ⟨g, off + 238, none⟩) (net.length + 1 - 1) (cap - 1)) rv Bs ys' rs U := by
  have hl := x.len
  cases hys : ys with
  | nil => rw [hys] at hl; simp at hl
  | cons y ys' =>
    rw [hys] at hl
    have hl' : ys'.length = net.length := by simpa using hl
    have hq := x.q
    rw [hys] at hq
    obtain ⟨g, off, cap, e1, e2, e3, e4⟩ := hq.tail
    rw [hl'] at e1 e2 e4
    have hqb : qb (.slice (if cap = 1 then some ⟨g, off, none⟩ else some ⟨g, off + 238, none⟩) (net.length + 1 - 1) (cap - 1)) = qb nv := by
      rw [e1]
      split <;> rfl
    refine ⟨g, off, cap, y, ys', e1, e2, e3, x.each 0 y f (by rw [hys]; rfl) rfl, x.row, x.sl, x.sc, x.dj, fun i k hB => ?_, e4, hl', fun i y' f' hy hf => ?_, x.bl, ⟨x.lo.1, x.lo.2.1, fun g' hg' => ?_⟩, fun r hr => ?_⟩
    · rw [hqb]; exact x.out i k hB
    · have := x.each (i + 1) y' f' (by rw [hys]; exact hy) hf
      exact this.keep (Nat.le_refl _) (fun g' hg' _ => ⟨rfl, hg'.1, by rw [hqb]; exact hg'.2.1, hg'.2.2⟩)
    · rw [hqb] at hg'; exact x.lo.2.2 g' hg'
    · rw [hqb]; exact x.be r hr
/-- a row beside is new -/
theorem CK.box {w U : World} {cb n N sb : Nat} {ss : Nat → SO.Sc} {net : List SO.Fr} {ps : Nat → Nat} {sv nv rv : Value} {Bs : Nat → Nat → Prop} {ys : List Sn} {rs : List (Nat × Obj)} (x : CK w cb n N ss net ps sb sv nv rv Bs ys rs U) (C : Array Value) (T : TypeId) : CK w cb n N ss net ps sb sv nv rv Bs ys ((U.heap.size, .cells C T (0, 0)) :: rs) (U.alloc (.cells C T)) := by
  have y := x.grow ((Bl.refl U).alloc (.cells C T))
  obtain ⟨CS, hCS, hptr⟩ := x.sl
  refine ⟨y.row, y.sl, y.sc, y.dj, y.out, y.q, y.len, y.each, y.bl, y.lo, fun r hr => ?_⟩
  rcases List.mem_cons.1 hr with rfl | hr
  · refine ⟨heap_alloc_new _ _, x.bl.size, fun e => ?_, fun e => ?_, fun e => ?_, fun i hB => ?_⟩
    · have := lt_heap x.row
      simp only at e; omega
    · have := lt_heap hCS
      simp only at e; omega
    · obtain ⟨C', hC'⟩ := x.q.tag e.symm
      have := lt_heap hC'
      simp only at this; omega
    · have := x.lt hB
      simp only at this; omega
  · exact y.be r hr
/-- a row beside is written -/
theorem CK.set {w U V : World} {cb n N sb zb : Nat} {ss : Nat → SO.Sc} {net : List SO.Fr} {ps : Nat → Nat} {sv nv rv : Value} {Bs : Nat → Nat → Prop} {ys : List Sn} {rs : List (Nat × Obj)} {o1 o2 : Obj} (x : CK w cb n N ss net ps sb sv nv rv Bs ys ((zb, o1) :: rs) U) (hn : net = []) (ho : Of1 zb U V) (hr : V.heap[zb]? = some o2) (hd : ∀ r ∈ rs, r.1 ≠ zb) : CK w cb n N ss net ps sb sv nv rv Bs ys ((zb, o2) :: rs) V := by
  obtain ⟨CS, hCS, hptr⟩ := x.sl
  obtain ⟨b1, b2, b3, b4, b5, b6⟩ := x.be _ List.mem_cons_self
  simp only at b1 b2 b3 b4 b5 b6
  have hbl : Bl w V := ho.bl x.bl b2
  refine ⟨(ho.block _ (lt_heap x.row) (fun e => b3 e.symm)).trans x.row, ⟨CS, (ho.block _ (lt_heap hCS) (fun e => b4 e.symm)).trans hCS, hptr⟩, fun i i1 i2 => (x.sc i i1 i2).keep' (Nat.le_refl _) ho.size hbl (fun k hk hl => ho.block k hl (fun e => b6 i (e ▸ hk))), x.dj, x.out, x.q.keep (fun g C hg hC => ho.block g (lt_heap hC) (fun e => b5 (by rw [hg, e]))), x.len, fun i y f hy hf => by rw [hn] at hf; simp at hf, hbl, x.lo, fun r hr' => ?_⟩
  rcases List.mem_cons.1 hr' with rfl | hr'
  · exact ⟨hr, b2, b3, b4, b5, b6⟩
  · have h := x.be r (List.mem_cons_of_mem _ hr')
    exact ⟨(ho.block r.1 (lt_obj h.1) (hd r hr')).trans h.1, h.2⟩
end Go.Proofs.Ytebmgajijjhinaa

/- A camp is pitched. -/
namespace Go.Proofs.Ytebmgajijjhinaa
open Go.RowKit Go.Maps
set_option linter.unusedVariables false
set_option linter.unusedSimpArgs false

def ptv (p : Option Nat) : Value := .pointer (p.map fun p => ⟨p, 0, none⟩)
def lyP : Lay (Option Nat) := ⟨1, fun p => [ptv p], fun _ => rfl, fun p v hv => by simp at hv; subst hv; rfl, by decide⟩
def pl (ps : Nat → Nat) (k : Nat) : List (Option Nat) := none :: (List.range k).map fun i => some (ps (i + 1))
theorem pl_len (ps : Nat → Nat) (k : Nat) : (pl ps k).length = k + 1 := by simp [pl]
theorem pl_succ (ps : Nat → Nat) (k p : Nat) : pl (fun i => if i = k + 1 then p else ps i) (k + 1) = pl ps k ++ [some p] := by
  unfold pl
  rw [List.range_succ, List.map_append, List.cons_append]
  congr 1
  congr 1
  · apply List.map_congr_left
    intro i hi
    have := List.mem_range.1 hi
    show some (if i + 1 = k + 1 then p else ps (i + 1)) = _
    rw [if_neg (by omega)]
  · simp
theorem pl_old (ps : Nat → Nat) (k p : Nat) : pl (fun i => if i = k + 1 then p else ps i) k = pl ps k := by
  unfold pl
  congr 1
  apply List.map_congr_left
  intro i hi
  have := List.mem_range.1 hi
  show some (if i + 1 = k + 1 then p else ps (i + 1)) = _
  rw [if_neg (by omega)]
theorem pl_at (ps : Nat → Nat) {k i : Nat} (h1 : 1 ≤ i) (h2 : i ≤ k) : (flG lyP (pl ps k))[i]? = some (.pointer (some ⟨ps i, 0, none⟩)) := by
  have e : flG lyP (pl ps k) = (pl ps k).map ptv := by
    unfold flG lyP
    generalize pl ps k = l
    induction l with
    | nil => rfl
    | cons a r ih => rw [List.flatMap_cons, List.map_cons, ih]; rfl
  rw [e, List.getElem?_map]
  unfold pl
  rw [show i = (i - 1) + 1 by omega, List.getElem?_cons_succ, List.getElem?_map, List.getElem?_range (by omega)]
  rfl
/-- a camp that is being pitched -/
structure PK (W : World) (cb k m n : Nat) (ps : Nat → Nat) (sv rv : Value) (Bs : Nat → Nat → Prop) (U : World) : Prop where
  row : U.heap[cb]? = some (.cells #[rv, .slice none 0 0] tCp (0, 0))
  own : U.ownsRow W.heap.size tPs 1 sv (k + 1) (flG lyP (pl ps k))
  sc : ∀ i, 1 ≤ i → i ≤ m → SC W (ps i) (Bs i) 6 (SO.new i n) U
  dj : ∀ i j q, Bs i q → Bs j q → i = j
  out : ∀ i q, Bs i q → (1 ≤ i ∧ i ≤ m) ∧ q ≠ cb ∧ some q ≠ sv.ownBlock
  bl : Bl W U
  lo : W.heap.size ≤ cb
theorem PK.lt {W U : World} {cb k m n : Nat} {ps : Nat → Nat} {sv rv : Value} {Bs : Nat → Nat → Prop} (x : PK W cb k m n ps sv rv Bs U) {i q : Nat} (h : Bs i q) : q < U.heap.size := by
  have := (x.out i q h).1
  exact (x.sc i this.1 this.2).lt h
theorem PK.grow {W U V : World} {cb k m n : Nat} {ps : Nat → Nat} {sv rv : Value} {Bs : Nat → Nat → Prop} (x : PK W cb k m n ps sv rv Bs U) (b : Bl U V) : PK W cb k m n ps sv rv Bs V :=
  ⟨(b.block _ (lt_heap x.row)).trans x.row, ownsRow_bl x.own b, fun i i1 i2 => (x.sc i i1 i2).keep' (Nat.le_refl _) b.size (x.bl.step b) (fun q hq hl => b.block q hl), x.dj, x.out, x.bl.step b, x.lo⟩
theorem PK.drewN {W U : World} {cb k m n : Nat} {ps : Nat → Nat} {sv rv : Value} {Bs : Nat → Nat → Prop} (x : PK W cb k m n ps sv rv Bs U) (q : Nat) : PK W cb k m n ps sv rv Bs (U.drewN q) := x.grow ((Bl.refl U).drewN q)
theorem PK.alloc {W U : World} {cb k m n : Nat} {ps : Nat → Nat} {sv rv : Value} {Bs : Nat → Nat → Prop} (x : PK W cb k m n ps sv rv Bs U) (o : Obj) : PK W cb k m n ps sv rv Bs (U.alloc o) := x.grow ((Bl.refl U).alloc o)
theorem PK.c0 {W U : World} {cb k m n : Nat} {ps : Nat → Nat} {sv rv : Value} {Bs : Nat → Nat → Prop} (x : PK W cb k m n ps sv rv Bs U) : U.cell? ⟨cb, 0, none⟩ = some rv := by rw [Lib.cell_of_heap x.row]; rfl
/-- one more scout -/
theorem PK.new {W U : World} {cb k n : Nat} {ps : Nat → Nat} {sv rv : Value} {Bs : Nat → Nat → Prop} (x : PK W cb k k n ps sv rv Bs U) (hk : k + 1 ≤ n) (h6 : n ≤ 6) : Calls Try.prog 10 #[.int .i64 ((k : Int) + 1), .int .i64 (n : Int)] U fun e w' => ∃ p Bs', e = .returned (.pointer (some ⟨p, 0, none⟩)) ∧ PK W cb k (k + 1) n (fun i => if i = k + 1 then p else ps i) sv rv Bs' w' := by
  refine (New_yes ((k : Int) + 1) n (by omega) (by omega) (by omega) h6 U).mono ?_
  rintro e w' ⟨p, B, rfl, P, y⟩
  have hb : Bl U w' := y.bl
  have z := x.grow hb
  have hB : ∀ q, B q → U.heap.size ≤ q := fun q hq => (y.Bo q hq).1
  have hob : ∀ q, sv.ownBlock = some q → q < U.heap.size := fun q hq => own_lt x.own hq
  have hcl := lt_heap x.row
  have hpl : pl (fun i => if i = k + 1 then p else ps i) k = pl ps k := by
    unfold pl
    congr 1
    apply List.map_congr_left
    intro i hi
    have := List.mem_range.1 hi
    show some (if i + 1 = k + 1 then p else ps (i + 1)) = _
    rw [if_neg (by omega)]
  refine ⟨p, fun i => if i = k + 1 then B else Bs i, rfl, z.row, by rw [hpl]; exact z.own, fun i i1 i2 => ?_, fun i j q q1 q2 => ?_, fun i q q1 => ?_, z.bl, z.lo⟩
  · by_cases hi : i = k + 1
    · subst hi
      simp only [if_pos rfl]
      have e : ((k + 1 : Nat) : Int) = (k : Int) + 1 := by omega
      rw [e]
      exact ⟨P, y.base x.bl⟩
    · simp only [if_neg hi]
      exact z.sc i i1 (by omega)
  · by_cases e1 : i = k + 1 <;> by_cases e2 : j = k + 1
    · rw [e1, e2]
    · simp only [if_pos e1] at q1
      simp only [if_neg e2] at q2
      have := hB q q1
      have := x.lt q2
      omega
    · simp only [if_neg e1] at q1
      simp only [if_pos e2] at q2
      have := hB q q2
      have := x.lt q1
      omega
    · simp only [if_neg e1] at q1
      simp only [if_neg e2] at q2
      exact x.dj i j q q1 q2
  · by_cases hi : i = k + 1
    · simp only [if_pos hi] at q1
      have := hB q q1
      refine ⟨by omega, by omega, fun e => ?_⟩
      have := hob q e.symm
      omega
    · simp only [if_neg hi] at q1
      have h := x.out i q q1
      exact ⟨by omega, h.2⟩
theorem PK.app {W U w2 : World} {cb k n : Nat} {ps : Nat → Nat} {sv rv sv' : Value} {Bs : Nat → Nat → Prop} (x : PK W cb k (k + 1) n ps sv rv Bs U) (g : U.grownBy w2 sv.ownBlock) (ho : w2.ownsRow W.heap.size tPs 1 sv' (k + 1 + 1) (flG lyP (pl ps (k + 1)))) (hv : sv'.ownBlock = sv.ownBlock ∨ ∀ q, sv'.ownBlock = some q → U.heap.size ≤ q) : PK W cb (k + 1) (k + 1) n ps sv' rv Bs w2 := by
  have ncb : some cb ≠ sv.ownBlock := fun e => by
    obtain ⟨D, hD⟩ := own_tag x.own e.symm
    exact tags x.row hD (by decide) rfl
  have hbl : Bl W w2 := ⟨g.os.trans x.bl.os, g.tape.trans x.bl.tape, g.output.trans x.bl.output, Nat.le_trans x.bl.size g.size, fun q hq => (g.block q (Nat.lt_of_lt_of_le hq x.bl.size) (fun e => by have := (owns_ge x.own e.symm).1; omega)).trans (x.bl.block q hq)⟩
  refine ⟨(g.block cb (lt_heap x.row) ncb).trans x.row, ho, fun i i1 i2 => (x.sc i i1 i2).keep' (Nat.le_refl _) g.size hbl (fun q hq hl => g.block q hl (x.out i q hq).2.2), x.dj, fun i q hq => ?_, hbl, x.lo⟩
  have h := x.out i q hq
  refine ⟨h.1, h.2.1, fun e => ?_⟩
  rcases hv with h' | h'
  · rw [h'] at e; exact h.2.2 e
  · have := h' q e.symm
    have := x.lt hq
    omega
theorem PK.store {W U V : World} {cb k m n : Nat} {ps : Nat → Nat} {sv rv : Value} {Bs : Nat → Nat → Prop} (x : PK W cb k m n ps sv rv Bs U) (o : Of1 cb U V) (hr : V.heap[cb]? = some (.cells #[sv, .slice none 0 0] tCp (0, 0))) : PK W cb k m n ps sv sv Bs V := by
  have hbl : Bl W V := o.bl x.bl x.lo
  exact ⟨hr, own_keep x.own (fun g C e e2 => o.block g (lt_heap e2) (fun e3 => by subst e3; exact tags e2 x.row (by decide) rfl)), fun i i1 i2 => (x.sc i i1 i2).keep' (Nat.le_refl _) o.size hbl (fun q hq hl => o.block q hl (x.out i q hq).2.1), x.dj, x.out, hbl, x.lo⟩
/-- a camp stands -/
theorem PK.ck {W U : World} {cb n : Nat} {ps : Nat → Nat} {sv : Value} {Bs : Nat → Nat → Prop} (x : PK W cb n n n ps sv sv Bs U) : ∃ sb sc, sv = .slice (some ⟨sb, 0, none⟩) (n + 1) sc ∧ CK W cb n 6 (fun i => SO.new i n) [] ps sb sv (.slice none 0 0) (.slice none 0 0) Bs [] [] U := by
  obtain ⟨h0, ⟨h1, h2⟩ | ⟨g, cap, cur, h1, h2, h3, h4, h5, h6, h7⟩⟩ := id x.own
  · omega
  · refine ⟨g, cap, h1, x.row, ⟨cur, h3, fun i i1 i2 => ?_⟩, x.sc, x.dj, fun i q hq => ?_, QN.nil _ _ _, rfl, (fun i y f hy => by simp at hy), x.bl, ⟨x.lo, h2, fun g hg => by cases hg⟩, fun r hr => by cases hr⟩
    · have := pl_at ps i1 i2
      rw [← h7, List.getElem?_take, if_pos (by omega), Array.getElem?_toList] at this
      exact this
    · have h := x.out i q hq
      refine ⟨h.1, h.2.1, fun e => ?_, fun e => by cases e⟩
      have := h.2.2
      rw [h1, e] at this
      exact this rfl
theorem undPs : Try.prog.underlying 29 = some (.slice tPs) := Try.underlying29
theorem infoPs3 : (Try.prog.info? tPs).map (fun i => (i.zero, i.size, i.bytes)) = some (some (.pointer none), 1, 8) := by kernel_rfl
theorem infoPss : (Try.prog.info? 29).map (·.size) = some 1 := by kernel_rfl
set_option maxRecDepth 8000 in
set_option maxHeartbeats 4000000 in
theorem pitched_x (n : Nat) (h1 : 1 ≤ n) (h6 : n ≤ 6) (w : World) : Calls Try.prog 5 #[.int .i64 (n : Int)] w fun e w' => ∃ cb ps sb sc Bs, e = .returned (.pointer (some ⟨cb, 0, none⟩)) ∧ CK w cb n 6 (fun i => SO.new i n) [] ps sb (.slice (some ⟨sb, 0, none⟩) (n + 1) sc) (.slice none 0 0) (.slice none 0 0) Bs [] [] w' := by
  have hmk : ∀ W : World, (Instr.makeSlice 29 (.int .i64 1) (.int .i64 1)).run Try.prog W = .ok (.slice (some ⟨W.heap.size, 0, none⟩) 1 1) (W.alloc (.cells #[.pointer none] tPs)) := fun W => by kernel_rfl
  go_enter Try.func5, Try.ntmps5
  go_wp2_with fail
  have H0 : Hid (PK w (w.heap.size + 1) 0 0 n (fun _ => 0) (.slice (some ⟨w.heap.size, 0, none⟩) 1 1) (.slice (some ⟨w.heap.size, 0, none⟩) 1 1) (fun _ _ => False) ((w.alloc (.cells #[.pointer none] tPs)).alloc (.cells #[.slice (some ⟨w.heap.size, 0, none⟩) 1 1, .slice none 0 0] tCp))) := by
    have hb1 : Bl w (w.alloc (.cells #[.pointer none] tPs)) := (Bl.refl w).alloc _
    have hb2 := (Bl.refl (w.alloc (.cells #[.pointer none] tPs))).alloc (.cells #[.slice (some ⟨w.heap.size, 0, none⟩) 1 1, .slice none 0 0] tCp)
    have hs : (w.alloc (.cells #[.pointer none] tPs)).heap.size = w.heap.size + 1 := by simp
    have hr := heap_alloc_new (w.alloc (.cells #[.pointer none] tPs)) (.cells #[.slice (some ⟨w.heap.size, 0, none⟩) 1 1, .slice none 0 0] tCp)
    rw [hs] at hr
    refine ⟨hr, ⟨rfl, Or.inr ⟨w.heap.size, 1, #[.pointer none], rfl, Nat.le_refl _, (hb2.block _ (by rw [hs]; omega)).trans (heap_alloc_new w _), by omega, by decide, rfl, rfl⟩⟩, fun i i1 i2 => by omega, fun i j q h => h.elim, fun i q h => h.elim, hb1.step hb2, by omega⟩
  generalize w.heap.size + 1 = cb at *
  clear hmk
  go_loopw [4] (fun u4 wr => ∃ k : Nat, k ≤ n ∧ u4 = .int .i64 ((k : Int) + 1) ∧ ∃ ps sv Bs, PK w cb k k n ps sv sv Bs wr) (fun u4 _ => n + 1 - (intOf u4).toNat)
  case atStart => exact ⟨0, by omega, rfl, _, _, _, H0.out⟩
  case round =>
    obtain ⟨k, hk, rfl, ps, sv, Bs, HX⟩ := hrel
    clear H0
    by_cases hlt : k < n
    · have hle : (k : Int) + 1 ≤ (n : Int) := by omega
      have HOW : Hid (∀ (V : World) (p9 : Nat) (Bs9 : Nat → Nat → Prop), PK w cb k (k + 1) n (fun i => if i = k + 1 then p9 else ps i) sv sv Bs9 V → V.ownsRow w.heap.size tPs 1 sv (k + 1) (flG lyP (pl ps k))) := fun V p9 Bs9 h => by
        have := h.own
        rwa [pl_old] at this
      have HAP : Hid (∀ (V w2 : World) (p9 g c' : Nat) (Bs9 : Nat → Nat → Prop), PK w cb k (k + 1) n (fun i => if i = k + 1 then p9 else ps i) sv sv Bs9 V → w2.ownsRow w.heap.size tPs 1 (.slice (some ⟨g, 0, none⟩) (k + 1 + 1) c') (k + 1 + 1) (flG lyP (pl ps k ++ [some p9])) → V.grownBy w2 sv.ownBlock → (sv.ownBlock = some g ∨ V.heap.size ≤ g) → PK w cb (k + 1) (k + 1) n (fun i => if i = k + 1 then p9 else ps i) (.slice (some ⟨g, 0, none⟩) (k + 1 + 1) c') sv Bs9 w2) := fun V w2 p9 g c' Bs9 h g1 g2 g3 => by
        refine h.app g2 (by rw [pl_succ]; exact g1) ?_
        rcases g3 with h' | h'
        · exact Or.inl h'.symm
        · exact Or.inr (fun q hq => by cases hq; exact h')
      go_wp2_with fail
      refine wp_region_noPanic ?_
      refine wp_region_held_drew (S := fun _ => True) (by kernel_rfl) (trivial) (fun hHeld => ?_)
      refine wpAnyH_take (i := 0) rfl (by kernel_rfl) (by kernel_rfl) (by kernel_rfl) (fun _ _ _ h => h) (yi_move (by kernel_rfl) rfl rfl) (by assumption) ?_
      simp only [Act.put, List.getElem_toArray, List.getElem_cons_succ, List.getElem_cons_zero, List.setIfInBounds_toArray, List.set_cons_zero, List.set_cons_succ]
      refine wpAnyH_take (i := 1) rfl (by kernel_rfl) (by kernel_rfl) (by kernel_rfl) (fun _ _ _ h => h) (yi_move (by kernel_rfl) rfl rfl) (by assumption) ?_
      simp only [Act.put, List.getElem_toArray, List.getElem_cons_succ, List.getElem_cons_zero, List.setIfInBounds_toArray, List.set_cons_zero, List.set_cons_succ]
      refine wpAnyH_take (i := 2) (v := ?_) rfl (by kernel_rfl) (by kernel_rfl) (by kernel_rfl) (fun _ _ _ h => h) (Or.inl ⟨by kernel_rfl, ?_⟩) (by assumption) ?_
      rotate_left
      · (intro w hSw; (try dsimp only at hSw); go_simp; (try with_reducible rfl))
      simp only [Act.put, List.getElem_toArray, List.getElem_cons_succ, List.getElem_cons_zero, List.setIfInBounds_toArray, List.set_cons_zero, List.set_cons_succ]
      refine wpAnyH_take (i := 3) (v := ?_) rfl (by kernel_rfl) (by kernel_rfl) (by kernel_rfl) (fun _ _ _ h => h) (Or.inl ⟨by kernel_rfl, ?_⟩) (by assumption) ?_
      rotate_left
      · (intro w hSw; (try dsimp only at hSw); go_simp; (try with_reducible rfl))
      simp only [Act.put, List.getElem_toArray, List.getElem_cons_succ, List.getElem_cons_zero, List.setIfInBounds_toArray, List.set_cons_zero, List.set_cons_succ]
      refine wpAnyH_take (i := 5) rfl (by kernel_rfl) (by kernel_rfl) (by kernel_rfl) (fun _ _ _ h => h) (yi_move (by kernel_rfl) rfl rfl) (by assumption) ?_
      simp only [Act.put, List.getElem_toArray, List.getElem_cons_succ, List.getElem_cons_zero, List.setIfInBounds_toArray, List.set_cons_zero, List.set_cons_succ]
      refine wpAnyH_take (i := 6) rfl (by kernel_rfl) (by kernel_rfl) (by kernel_rfl) (fun _ _ _ h => h) (yi_move (by kernel_rfl) rfl rfl) (by assumption) ?_
      simp only [Act.put, List.getElem_toArray, List.getElem_cons_succ, List.getElem_cons_zero, List.setIfInBounds_toArray, List.set_cons_zero, List.set_cons_succ]
      refine wpAnyH_ready (rs := [4, 7]) (by kernel_rfl) (by simp) ?_
      refine AllReadyH.cons (o := _) rfl (fun K hK => ?_) ?_
      · refine stepo_load1 rfl 29 _ rfl cb 0 (by rfl) sv (PK.c0 (HX.drewN 1)) undPs (hK.out _ _ (trivial) (fun hHeld => ?_))
        clear hK K
        (try simp only [Act.put, List.getElem_toArray, List.getElem_cons_succ, List.getElem_cons_zero, List.setIfInBounds_toArray, List.set_cons_zero, List.set_cons_succ])
        refine wpAnyH_ready (rs := [7]) (by kernel_rfl) (by simp) ?_
        refine AllReadyH.cons (o := _) rfl (fun K hK => ?_) AllReadyH.nil
        go_simp
        go_at_call 10; refine (PK.new (HX.drewN 1) (by omega) (by omega)).mono ?_; rintro e V8 ⟨p9, Bs9, rfl, HB8⟩; have HBK := HB8
        refine hK.out _ _ (trivial) (fun hHeld => ?_)
        clear hK K
        (try simp only [Act.put, List.getElem_toArray, List.getElem_cons_succ, List.getElem_cons_zero, List.setIfInBounds_toArray, List.set_cons_zero, List.set_cons_succ])
        refine wpAnyH_ready (rs := [8]) (by kernel_rfl) (by simp) ?_
        refine AllReadyH.cons (o := _) rfl (fun K hK => ?_) AllReadyH.nil
        go_simp
        refine hK.out _ _ (trivial) (fun hHeld => ?_)
        clear hK K
        (try simp only [Act.put, List.getElem_toArray, List.getElem_cons_succ, List.getElem_cons_zero, List.setIfInBounds_toArray, List.set_cons_zero, List.set_cons_succ])
        refine wpAnyH_ready (rs := [9]) (by kernel_rfl) (by simp) ?_
        refine AllReadyH.cons (o := _) rfl (fun K hK => ?_) AllReadyH.nil
        refine stepo_app1X lyP tPs 29 (.pointer none) 8 undPs infoPs3 rfl (by omega) rfl _ _ rfl w.heap.size (k + 1) (pl ps k) (pl_len ps k).symm (some p9) sv (by rfl) HBK.bl.size (HOW.out _ _ _ HBK) _ rfl (by rfl) (by omega) ?_ _ rfl rfl
        intro g c' w2 g1 g2 g3 g4
        have HZ := HAP.out _ _ _ _ _ _ HBK g1 g2 g3
        refine hK.out _ _ trivial (fun hHeld => ?_)
        clear hK K
        (try simp only [Act.put, List.getElem_toArray, List.getElem_cons_succ, List.getElem_cons_zero, List.setIfInBounds_toArray, List.set_cons_zero, List.set_cons_succ])
        refine wpAnyH_take (i := 10) (v := ?_) rfl (by kernel_rfl) (by kernel_rfl) (by kernel_rfl) (fun _ _ _ h => h) (Or.inl ⟨by kernel_rfl, ?_⟩) (by assumption) ?_
        rotate_left
        · (intro w hSw; (try dsimp only at hSw); go_simp; (try with_reducible rfl))
        simp only [Act.put, List.getElem_toArray, List.getElem_cons_succ, List.getElem_cons_zero, List.setIfInBounds_toArray, List.set_cons_zero, List.set_cons_succ]
        refine wpAnyH_take (i := 11) (v := ?_) rfl (by kernel_rfl) (by kernel_rfl) (by kernel_rfl) (fun _ _ _ h => h) (Or.inl ⟨by kernel_rfl, ?_⟩) (by assumption) ?_
        rotate_left
        · (intro w hSw; (try dsimp only at hSw); go_simp; (try with_reducible rfl))
        simp only [Act.put, List.getElem_toArray, List.getElem_cons_succ, List.getElem_cons_zero, List.setIfInBounds_toArray, List.set_cons_zero, List.set_cons_succ]
        refine wpAnyH_ready (rs := [12]) (by kernel_rfl) (by simp) ?_
        refine AllReadyH.cons (o := _) rfl (fun K hK => ?_) AllReadyH.nil
        refine stepo_setU rfl 29 _ _ rfl cb 0 (.slice (some ⟨g, 0, none⟩) (k + 1 + 1) c') (by rfl) (by rfl) rfl infoPss [sv, .slice none 0 0] [.slice (some ⟨g, 0, none⟩) (k + 1 + 1) c', .slice none 0 0] tCp HZ.row (by simp) rfl ?_
        intro U3 R3 O3
        have HZ3 := HZ.store O3 R3
        refine hK.out _ _ trivial (fun hHeld => ?_)
        clear hK K
        (try simp only [Act.put, List.getElem_toArray, List.getElem_cons_succ, List.getElem_cons_zero, List.setIfInBounds_toArray, List.set_cons_zero, List.set_cons_succ])
        refine wpAnyH_done (by kernel_rfl) ?_ _
        refine NoPanic.normal ?_
        have HE := hidI HZ3
        clear HZ HZ3 O3 R3 g1 g2 g3 g4 hHeld HBK HX
        go_wp2_with fail
        go_roundw
        case rel => exact ⟨k + 1, by omega, by go_num, _, _, _, HE.out⟩
        case measure => simp [intOf]; omega
      refine AllReadyH.cons (o := _) rfl (fun K hK => ?_) ?_
      · go_simp
        go_at_call 10; refine (PK.new (HX.drewN 1) (by omega) (by omega)).mono ?_; rintro e V13 ⟨p9, Bs9, rfl, HB13⟩; have HBK := HB13
        refine hK.out _ _ (trivial) (fun hHeld => ?_)
        clear hK K
        (try simp only [Act.put, List.getElem_toArray, List.getElem_cons_succ, List.getElem_cons_zero, List.setIfInBounds_toArray, List.set_cons_zero, List.set_cons_succ])
        refine wpAnyH_ready (rs := [4, 8]) (by kernel_rfl) (by simp) ?_
        refine AllReadyH.cons (o := _) rfl (fun K hK => ?_) ?_
        · refine stepo_load1 rfl 29 _ rfl cb 0 (by rfl) sv (PK.c0 HB13) undPs (hK.out _ _ (trivial) (fun hHeld => ?_))
          clear hK K
          (try simp only [Act.put, List.getElem_toArray, List.getElem_cons_succ, List.getElem_cons_zero, List.setIfInBounds_toArray, List.set_cons_zero, List.set_cons_succ])
          refine wpAnyH_ready (rs := [8]) (by kernel_rfl) (by simp) ?_
          refine AllReadyH.cons (o := _) rfl (fun K hK => ?_) AllReadyH.nil
          go_simp
          refine hK.out _ _ (trivial) (fun hHeld => ?_)
          clear hK K
          (try simp only [Act.put, List.getElem_toArray, List.getElem_cons_succ, List.getElem_cons_zero, List.setIfInBounds_toArray, List.set_cons_zero, List.set_cons_succ])
          refine wpAnyH_ready (rs := [9]) (by kernel_rfl) (by simp) ?_
          refine AllReadyH.cons (o := _) rfl (fun K hK => ?_) AllReadyH.nil
          refine stepo_app1X lyP tPs 29 (.pointer none) 8 undPs infoPs3 rfl (by omega) rfl _ _ rfl w.heap.size (k + 1) (pl ps k) (pl_len ps k).symm (some p9) sv (by rfl) HBK.bl.size (HOW.out _ _ _ HBK) _ rfl (by rfl) (by omega) ?_ _ rfl rfl
          intro g c' w2 g1 g2 g3 g4
          have HZ := HAP.out _ _ _ _ _ _ HBK g1 g2 g3
          refine hK.out _ _ trivial (fun hHeld => ?_)
          clear hK K
          (try simp only [Act.put, List.getElem_toArray, List.getElem_cons_succ, List.getElem_cons_zero, List.setIfInBounds_toArray, List.set_cons_zero, List.set_cons_succ])
          refine wpAnyH_take (i := 10) (v := ?_) rfl (by kernel_rfl) (by kernel_rfl) (by kernel_rfl) (fun _ _ _ h => h) (Or.inl ⟨by kernel_rfl, ?_⟩) (by assumption) ?_
          rotate_left
          · (intro w hSw; (try dsimp only at hSw); go_simp; (try with_reducible rfl))
          simp only [Act.put, List.getElem_toArray, List.getElem_cons_succ, List.getElem_cons_zero, List.setIfInBounds_toArray, List.set_cons_zero, List.set_cons_succ]
          refine wpAnyH_take (i := 11) (v := ?_) rfl (by kernel_rfl) (by kernel_rfl) (by kernel_rfl) (fun _ _ _ h => h) (Or.inl ⟨by kernel_rfl, ?_⟩) (by assumption) ?_
          rotate_left
          · (intro w hSw; (try dsimp only at hSw); go_simp; (try with_reducible rfl))
          simp only [Act.put, List.getElem_toArray, List.getElem_cons_succ, List.getElem_cons_zero, List.setIfInBounds_toArray, List.set_cons_zero, List.set_cons_succ]
          refine wpAnyH_ready (rs := [12]) (by kernel_rfl) (by simp) ?_
          refine AllReadyH.cons (o := _) rfl (fun K hK => ?_) AllReadyH.nil
          refine stepo_setU rfl 29 _ _ rfl cb 0 (.slice (some ⟨g, 0, none⟩) (k + 1 + 1) c') (by rfl) (by rfl) rfl infoPss [sv, .slice none 0 0] [.slice (some ⟨g, 0, none⟩) (k + 1 + 1) c', .slice none 0 0] tCp HZ.row (by simp) rfl ?_
          intro U3 R3 O3
          have HZ3 := HZ.store O3 R3
          refine hK.out _ _ trivial (fun hHeld => ?_)
          clear hK K
          (try simp only [Act.put, List.getElem_toArray, List.getElem_cons_succ, List.getElem_cons_zero, List.setIfInBounds_toArray, List.set_cons_zero, List.set_cons_succ])
          refine wpAnyH_done (by kernel_rfl) ?_ _
          refine NoPanic.normal ?_
          have HE := hidI HZ3
          clear HZ HZ3 O3 R3 g1 g2 g3 g4 hHeld HBK HX
          go_wp2_with fail
          go_roundw
          case rel => exact ⟨k + 1, by omega, by go_num, _, _, _, HE.out⟩
          case measure => simp [intOf]; omega
        refine AllReadyH.cons (o := _) rfl (fun K hK => ?_) ?_
        · go_simp
          refine hK.out _ _ (trivial) (fun hHeld => ?_)
          clear hK K
          (try simp only [Act.put, List.getElem_toArray, List.getElem_cons_succ, List.getElem_cons_zero, List.setIfInBounds_toArray, List.set_cons_zero, List.set_cons_succ])
          refine wpAnyH_ready (rs := [4]) (by kernel_rfl) (by simp) ?_
          refine AllReadyH.cons (o := _) rfl (fun K hK => ?_) AllReadyH.nil
          refine stepo_load1 rfl 29 _ rfl cb 0 (by rfl) sv (PK.c0 ((HB13).alloc _)) undPs (hK.out _ _ (trivial) (fun hHeld => ?_))
          clear hK K
          (try simp only [Act.put, List.getElem_toArray, List.getElem_cons_succ, List.getElem_cons_zero, List.setIfInBounds_toArray, List.set_cons_zero, List.set_cons_succ])
          refine wpAnyH_ready (rs := [9]) (by kernel_rfl) (by simp) ?_
          refine AllReadyH.cons (o := _) rfl (fun K hK => ?_) AllReadyH.nil
          refine stepo_app1X lyP tPs 29 (.pointer none) 8 undPs infoPs3 rfl (by omega) rfl _ _ rfl w.heap.size (k + 1) (pl ps k) (pl_len ps k).symm (some p9) sv (by rfl) HBK.bl.size (HOW.out _ _ _ HBK) _ rfl (by rfl) (by omega) ?_ _ rfl rfl
          intro g c' w2 g1 g2 g3 g4
          have HZ := HAP.out _ _ _ _ _ _ HBK g1 g2 g3
          refine hK.out _ _ trivial (fun hHeld => ?_)
          clear hK K
          (try simp only [Act.put, List.getElem_toArray, List.getElem_cons_succ, List.getElem_cons_zero, List.setIfInBounds_toArray, List.set_cons_zero, List.set_cons_succ])
          refine wpAnyH_take (i := 10) (v := ?_) rfl (by kernel_rfl) (by kernel_rfl) (by kernel_rfl) (fun _ _ _ h => h) (Or.inl ⟨by kernel_rfl, ?_⟩) (by assumption) ?_
          rotate_left
          · (intro w hSw; (try dsimp only at hSw); go_simp; (try with_reducible rfl))
          simp only [Act.put, List.getElem_toArray, List.getElem_cons_succ, List.getElem_cons_zero, List.setIfInBounds_toArray, List.set_cons_zero, List.set_cons_succ]
          refine wpAnyH_take (i := 11) (v := ?_) rfl (by kernel_rfl) (by kernel_rfl) (by kernel_rfl) (fun _ _ _ h => h) (Or.inl ⟨by kernel_rfl, ?_⟩) (by assumption) ?_
          rotate_left
          · (intro w hSw; (try dsimp only at hSw); go_simp; (try with_reducible rfl))
          simp only [Act.put, List.getElem_toArray, List.getElem_cons_succ, List.getElem_cons_zero, List.setIfInBounds_toArray, List.set_cons_zero, List.set_cons_succ]
          refine wpAnyH_ready (rs := [12]) (by kernel_rfl) (by simp) ?_
          refine AllReadyH.cons (o := _) rfl (fun K hK => ?_) AllReadyH.nil
          refine stepo_setU rfl 29 _ _ rfl cb 0 (.slice (some ⟨g, 0, none⟩) (k + 1 + 1) c') (by rfl) (by rfl) rfl infoPss [sv, .slice none 0 0] [.slice (some ⟨g, 0, none⟩) (k + 1 + 1) c', .slice none 0 0] tCp HZ.row (by simp) rfl ?_
          intro U3 R3 O3
          have HZ3 := HZ.store O3 R3
          refine hK.out _ _ trivial (fun hHeld => ?_)
          clear hK K
          (try simp only [Act.put, List.getElem_toArray, List.getElem_cons_succ, List.getElem_cons_zero, List.setIfInBounds_toArray, List.set_cons_zero, List.set_cons_succ])
          refine wpAnyH_done (by kernel_rfl) ?_ _
          refine NoPanic.normal ?_
          have HE := hidI HZ3
          clear HZ HZ3 O3 R3 g1 g2 g3 g4 hHeld HBK HX
          go_wp2_with fail
          go_roundw
          case rel => exact ⟨k + 1, by omega, by go_num, _, _, _, HE.out⟩
          case measure => simp [intOf]; omega
        exact AllReadyH.nil
      exact AllReadyH.nil
    · have ekn : n = k := by omega
      subst ekn
      have hle : ¬ (n : Int) + 1 ≤ (n : Int) := by omega
      obtain ⟨sb, sc, e1, e2⟩ := HX.ck
      subst e1
      have HE := hidI e2
      clear HX e2
      go_wp2_with fail
      go_ret
      first | exact ⟨cb, ps, sb, sc, Bs, rfl, HE.out⟩ | exact ⟨cb, rfl, ps, sb, sc, Bs, HE.out⟩
end Go.Proofs.Ytebmgajijjhinaa

/- A camp's round. -/
namespace Go.Proofs.Ytebmgajijjhinaa
open Go.RowKit Go.Maps
set_option linter.unusedVariables false
set_option linter.unusedSimpArgs false

abbrev tBo : TypeId := 4
theorem infoSs : (Try.prog.info? 28).map (·.size) = some 1 := by kernel_rfl
/-- a camp; where its frames lie is hidden -/
def CH (w : World) (cb n N : Nat) (ss : Nat → SO.Sc) (net : List SO.Fr) (ps : Nat → Nat) (sb : Nat) (sv : Value) (rs : List (Nat × Obj)) (U : World) : Prop := ∃ nv Bs ys, CK w cb n N ss net ps sb sv nv nv Bs ys rs U
/-- a scout has answered: what it sends lies beside the camp -/
def CF (w : World) (cb n N : Nat) (ss : Nat → SO.Sc) (net fs : List SO.Fr) (ps : Nat → Nat) (sb : Nat) (sv nv : Value) (ys : List Sn) (rs : List (Nat × Obj)) (a : Option Addr) (U : World) : Prop := ∃ Bs ys', CK w cb n N ss net ps sb sv nv nv Bs ys rs U ∧ FRS U (XG Bs nv cb sb) a ys' fs
/-- what a round looks at -/
structure CL (cb sb n sc : Nat) (ps : Nat → Nat) (U : World) : Prop where
  c0 : U.cell? ⟨cb, 0, none⟩ = some (.slice (some ⟨sb, 0, none⟩) (n + 1) sc)
  p : ∀ i, 1 ≤ i → i ≤ n → U.cell? ⟨sb, i, none⟩ = some (.pointer (some ⟨ps i, 0, none⟩))
theorem CK.cl {w U : World} {cb n N sb sc : Nat} {ss : Nat → SO.Sc} {net : List SO.Fr} {ps : Nat → Nat} {nv rv : Value} {Bs : Nat → Nat → Prop} {ys : List Sn} {rs : List (Nat × Obj)} (x : CK w cb n N ss net ps sb (.slice (some ⟨sb, 0, none⟩) (n + 1) sc) nv rv Bs ys rs U) : CL cb sb n sc ps U := by
  obtain ⟨CS, hCS, hp⟩ := x.sl
  exact ⟨by rw [Lib.cell_of_heap x.row]; rfl, fun i i1 i2 => by rw [Lib.cell_of_heap hCS]; exact hp i i1 i2⟩
theorem CK.c1 {w U : World} {cb n N sb : Nat} {ss : Nat → SO.Sc} {net : List SO.Fr} {ps : Nat → Nat} {sv nv rv : Value} {Bs : Nat → Nat → Prop} {ys : List Sn} {rs : List (Nat × Obj)} (x : CK w cb n N ss net ps sb sv nv rv Bs ys rs U) : U.cell? ⟨cb, 1, none⟩ = some rv := by
  rw [Lib.cell_of_heap x.row]; rfl
theorem CK.drewN {w U : World} {cb n N sb : Nat} {ss : Nat → SO.Sc} {net : List SO.Fr} {ps : Nat → Nat} {sv nv rv : Value} {Bs : Nat → Nat → Prop} {ys : List Sn} {rs : List (Nat × Obj)} (x : CK w cb n N ss net ps sb sv nv rv Bs ys rs U) (k : Nat) : CK w cb n N ss net ps sb sv nv rv Bs ys rs (U.drewN k) := x.grow ((Bl.refl U).drewN k)
theorem CK.tick {w U : World} {cb n N sb i : Nat} {ss : Nat → SO.Sc} {net : List SO.Fr} {ps : Nat → Nat} {sv nv : Value} {Bs : Nat → Nat → Prop} {ys : List Sn} {rs : List (Nat × Obj)} (x : CK w cb n N ss net ps sb sv nv nv Bs ys rs U) (h1 : 1 ≤ i) (h2 : i ≤ n) (hN : N ≤ 1000000000) (d : Int) (hd : i64 d) : Calls Try.prog 6 #[.pointer (some ⟨ps i, 0, none⟩), .int .i64 d] U fun e w' => ∃ a c, e = .returned (.slice a (SO.tick (ss i) d).2.length c) ∧ CF w cb n (N + 10) (SO.up ss i (SO.tick (ss i) d).1) net (SO.tick (ss i) d).2 ps sb sv nv ys rs a w' := by
  obtain ⟨P, y⟩ := x.sc i h1 h2
  refine (Tick_x y hN d hd).mono fun e w' h => ?_
  obtain ⟨a, c, ys', Bs', e1, e2, e3⟩ := x.ans h1 h2 (Nat.le_add_right _ _) h
  exact ⟨a, c, e1, Bs', ys', e2, e3⟩
theorem CK.hear {w U : World} {cb n N sb i : Nat} {ss : Nat → SO.Sc} {net : List SO.Fr} {ps : Nat → Nat} {sv nv : Value} {Bs : Nat → Nat → Prop} {ys : List Sn} {rs : List (Nat × Obj)} (x : CK w cb n N ss net ps sb sv nv nv Bs ys rs U) (h1 : 1 ≤ i) (h2 : i ≤ n) (hN : N ≤ 10000000) (FL : List Value) (f : SO.Fr) (a : Option Addr) (c : Nat) (hf : FrC FL f a c) (hg : SO.GoodF n f) (hn6 : n ≤ 6) (hr : RS lyM U a f.rum) (ha : ∀ g off, a = some ⟨g, off, none⟩ → ∀ j, ¬ Bs j g) : Calls Try.prog 7 #[.pointer (some ⟨ps i, 0, none⟩), .agg FL.toArray] U fun e w' => ∃ a c, e = .returned (.slice a (SO.hear (ss i) f).2.length c) ∧ CF w cb n (N + 13) (SO.up ss i (SO.hear (ss i) f).1) net (SO.hear (ss i) f).2 ps sb sv nv ys rs a w' := by
  obtain ⟨P, y⟩ := x.sc i h1 h2
  have hr6 := hg.r6
  refine (Hear_y y (by omega) FL f a c hf ⟨by have := hg.f1; omega, by have := hg.f2; omega⟩ hr (fun g off e _ => ha g off e i) (fun m hm => ?_) (by omega)).mono fun e w' h => ?_
  · have := hg.rg m hm
    unfold K.Good at this
    exact ⟨⟨by omega, by omega⟩, ⟨by omega, by omega⟩⟩
  · obtain ⟨a, c, ys', Bs', e1, e2, e3⟩ := x.ans h1 h2 (M := N + 13) (by omega) (h.more (by omega))
    exact ⟨a, c, e1, Bs', ys', e2, e3⟩
theorem CK.sub {w U : World} {cb n N sb : Nat} {ss : Nat → SO.Sc} {net : List SO.Fr} {ps : Nat → Nat} {sv nv rv : Value} {Bs : Nat → Nat → Prop} {ys : List Sn} {rs rs' : List (Nat × Obj)} (x : CK w cb n N ss net ps sb sv nv rv Bs ys rs U) (h : ∀ r ∈ rs', r ∈ rs) : CK w cb n N ss net ps sb sv nv rv Bs ys rs' U :=
  ⟨x.row, x.sl, x.sc, x.dj, x.out, x.q, x.len, x.each, x.bl, x.lo, fun r hr => x.be r (h r hr)⟩
/-- a frame in a box -/
structure BF (xb : Nat) (dst frm : Int) (rv : Value) (FL : List Value) (U : World) : Prop where
  k0 : U.cell? ⟨xb, 0, none⟩ = some (.int .i64 dst)
  k2 : U.cell? ⟨xb, 2, none⟩ = some (.int .i64 frm)
  kr : U.cell? ⟨xb, 237, none⟩ = some rv
  rg : U.rangeAt xb 1 FL
theorem boxF {FL : List Value} {f : SO.Fr} {a : Option Addr} {c : Nat} (hf : FrC FL f a c) {U : World} {xb : Nat} (h : U.heap[xb]? = some (.cells (Value.int .i64 f.dst :: FL).toArray tSn (0, 0))) : BF xb f.dst f.frm (.slice a f.rum.length c) FL U := by
  have e : ∀ j v, FL[j]? = some v → (Value.int .i64 f.dst :: FL)[1 + j]? = some v := fun j v hv => by
    rw [show 1 + j = j + 1 by omega, List.getElem?_cons_succ]; exact hv
  exact ⟨cellL h rfl, cellL h (e 1 _ hf.k1), cellL h (e 236 _ hf.kr), fun j v hv => cellL h (e j v hv)⟩
theorem i64w (x : Int) : i64 (IntKind.i64.wrap x) := by
  simp only [IntKind.wrap, IntKind.bits, IntKind.signed]
  constructor <;> (simp; omega)
end Go.Proofs.Ytebmgajijjhinaa

/- A camp between rounds, with the law's flags beside it. -/
namespace Go.Proofs.Ytebmgajijjhinaa
open Go.RowKit Go.Maps
set_option linter.unusedVariables false
set_option linter.unusedSimpArgs false

theorem CK.ch {w U : World} {cb n N sb : Nat} {ss : Nat → SO.Sc} {net : List SO.Fr} {ps : Nat → Nat} {sv nv : Value} {Bs : Nat → Nat → Prop} {ys : List Sn} {rs : List (Nat × Obj)} (x : CK w cb n N ss net ps sb sv nv nv Bs ys rs U) : CH w cb n N ss net ps sb sv rs U := ⟨nv, Bs, ys, x⟩
theorem CH.box {w U : World} {cb n N sb : Nat} {ss : Nat → SO.Sc} {net : List SO.Fr} {ps : Nat → Nat} {sv : Value} {rs : List (Nat × Obj)} (x : CH w cb n N ss net ps sb sv rs U) (C : Array Value) (T : TypeId) : CH w cb n N ss net ps sb sv ((U.heap.size, .cells C T (0, 0)) :: rs) (U.alloc (.cells C T)) := by
  obtain ⟨nv, Bs, ys, h⟩ := x
  exact ⟨nv, Bs, ys, h.box C T⟩
theorem CH.set {w U V : World} {cb n N sb zb : Nat} {ss : Nat → SO.Sc} {ps : Nat → Nat} {sv : Value} {o1 o2 : Obj} (x : CH w cb n N ss [] ps sb sv [(zb, o1)] U) (ho : Of1 zb U V) (hr : V.heap[zb]? = some o2) : CH w cb n N ss [] ps sb sv [(zb, o2)] V := by
  obtain ⟨nv, Bs, ys, h⟩ := x
  exact ⟨nv, Bs, ys, h.set rfl ho hr (fun r hr => by cases hr)⟩
theorem CH.grow {w U V : World} {cb n N sb : Nat} {ss : Nat → SO.Sc} {net : List SO.Fr} {ps : Nat → Nat} {sv : Value} {rs : List (Nat × Obj)} (x : CH w cb n N ss net ps sb sv rs U) (b : Bl U V) : CH w cb n N ss net ps sb sv rs V := by
  obtain ⟨nv, Bs, ys, h⟩ := x
  exact ⟨nv, Bs, ys, h.grow b⟩
theorem CH.bl {w U : World} {cb n N sb : Nat} {ss : Nat → SO.Sc} {net : List SO.Fr} {ps : Nat → Nat} {sv : Value} {rs : List (Nat × Obj)} (x : CH w cb n N ss net ps sb sv rs U) : Bl w U := by
  obtain ⟨nv, Bs, ys, h⟩ := x
  exact h.bl
theorem CH.cl {w U : World} {cb n N sb sc : Nat} {ss : Nat → SO.Sc} {net : List SO.Fr} {ps : Nat → Nat} {rs : List (Nat × Obj)} (x : CH w cb n N ss net ps sb (.slice (some ⟨sb, 0, none⟩) (n + 1) sc) rs U) : CL cb sb n sc ps U := by
  obtain ⟨nv, Bs, ys, h⟩ := x
  exact h.cl
theorem CH.at1 {w U : World} {cb n N sb zb : Nat} {ss : Nat → SO.Sc} {net : List SO.Fr} {ps : Nat → Nat} {sv : Value} {o : Obj} {rs : List (Nat × Obj)} (x : CH w cb n N ss net ps sb sv ((zb, o) :: rs) U) : U.heap[zb]? = some o := by
  obtain ⟨nv, Bs, ys, h⟩ := x
  exact (h.be _ List.mem_cons_self).1
theorem CH.more {w U : World} {cb n N M sb : Nat} {ss : Nat → SO.Sc} {net : List SO.Fr} {ps : Nat → Nat} {sv : Value} {rs : List (Nat × Obj)} (x : CH w cb n N ss net ps sb sv rs U) (h : N ≤ M) : CH w cb n M ss net ps sb sv rs U := by
  obtain ⟨nv, Bs, ys, k⟩ := x
  exact ⟨nv, Bs, ys, k.more h⟩
theorem CH.all {w U : World} {cb n N sb i : Nat} {ss : Nat → SO.Sc} {net : List SO.Fr} {ps : Nat → Nat} {sv : Value} {rs : List (Nat × Obj)} (x : CH w cb n N ss net ps sb sv rs U) (h1 : 1 ≤ i) (h2 : i ≤ n) : Calls Try.prog 8 #[.pointer (some ⟨ps i, 0, none⟩)] U fun e w' => ∃ a c, e = .returned (.slice a (K.all (ss i).f).length c) ∧ RS lyM w' a (K.all (ss i).f) ∧ Bl U w' := by
  obtain ⟨nv, Bs, ys, k⟩ := x
  obtain ⟨P, y⟩ := k.sc i h1 h2
  exact All_x y
/-- the law's flags -/
def sQ (Q : Nat → Bool) : List Value := (List.range 7).map fun j => .bool (Q j)
theorem sQ_len (Q : Nat → Bool) : (sQ Q).length = 7 := by simp [sQ]
theorem sQ_at (Q : Nat → Bool) {j : Nat} (h : j < 7) : (sQ Q)[j]? = some (.bool (Q j)) := by simp [sQ, List.getElem?_range, h]
theorem sQ_set (Q : Nat → Bool) (i : Nat) (b : Bool) : (sQ Q).set i (.bool b) = sQ (fun j => if j = i then b else Q j) := by
  apply List.ext_getElem?
  intro j
  unfold sQ
  rw [List.getElem?_set, List.getElem?_map, List.getElem?_map, List.length_map, List.length_range]
  by_cases h : j < 7
  · rw [List.getElem?_range h]
    by_cases e : i = j
    · subst e; simp [h]
    · rw [if_neg e]; simp [Ne.symm e]
  · rw [List.getElem?_eq_none (by simp; omega)]
    by_cases e : i = j
    · subst e; simp [h]
    · rw [if_neg e]; rfl
theorem makeQ (W : World) : (Instr.makeSlice 172 (.int .i64 7) (.int .i64 7)).run Try.prog W = .ok (.slice (some ⟨W.heap.size, 0, none⟩) 7 7) (W.alloc (.cells (sQ fun _ => false).toArray tBo)) := by kernel_rfl
theorem infoBo1 : (Try.prog.info? 4).map (·.size) = some 1 := by kernel_rfl
/-- a draw of the law's -/
def drwF (ds : List Int) (k : Nat) : Int := if 0 < ds.length then ds.getD (k % ds.length) 0 else k
theorem drwF_i64 {ds : List Int} (h : ∀ x ∈ ds, i64 x) {k : Nat} (hk : k < 1000) : i64 (drwF ds k) := by
  unfold drwF
  split
  · rename_i hl
    have hlt : k % ds.length < ds.length := Nat.mod_lt _ hl
    rw [List.getD_eq_getElem?_getD, List.getElem?_eq_getElem hlt]
    exact h _ (List.getElem_mem hlt)
  · exact ⟨by omega, by omega⟩
/-- the camp, and its flags -/
def CZ (w : World) (cb n N : Nat) (ss : Nat → SO.Sc) (ps : Nat → Nat) (sb sc zb : Nat) (Q : Nat → Bool) (U : World) : Prop := CH w cb n N ss [] ps sb (.slice (some ⟨sb, 0, none⟩) (n + 1) sc) [(zb, .cells (sQ Q).toArray tBo (0, 0))] U
end Go.Proofs.Ytebmgajijjhinaa
