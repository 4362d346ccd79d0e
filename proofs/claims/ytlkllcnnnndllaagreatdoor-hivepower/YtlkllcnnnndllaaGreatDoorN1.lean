/- A store's map of places and its set of pinned digests, in memory. -/
import Derived.Test.YtlkllcnnnndllaaGreatDoorGE
import Derived.Test.YtlkllcnnnndllaaGreatDoorE9
namespace Go.Proofs.YtlkllcnnnndllaaGreatDoor
open Go.RowKit Go.Maps
set_option linter.unusedVariables false
set_option linter.unusedSimpArgs false

abbrev tMap : TypeId := 67
theorem undMap : Tryz.prog.underlying tMap = some (.map 72 3) := by kernel_rfl
abbrev tPin : TypeId := 68
theorem undPin : Tryz.prog.underlying tPin = some (.map 39 99) := by kernel_rfl

/-- a map that reads as the places of entries -/
structure PlD (D : DataW Unit) (es : List V.En) : Prop where
  some' : ∀ k d i, k.length ≤ 1 → d.length = 32 → V.findN es k d = some i → has D (klN k d) = true ∧ D.atKey (klN k d) (.lit (.int .i64 0)) = .lit (.int .i64 (i : Int))
  none' : ∀ k d, k.length ≤ 1 → d.length = 32 → V.findN es k d = none → has D (klN k d) = false
  size : Maps.size D = V.cntN es
def PW (W : World) (b : Nat) (es : List V.En) : Prop := ∃ D : DataW Unit, W.ownsMap Tryz.prog 72 (plainElem Tryz.prog 3) b (V.cntN es) D ∧ PlD D es

theorem own_block {k : TypeId} {R : Value → Option (DataW Unit × List MemPlace)} {b n : Nat} {D : DataW Unit} {W W' : World} (h : W.ownsMap Tryz.prog k R b n D) (hb : W'.heap[b]? = W.heap[b]?) : W'.ownsMap Tryz.prog k R b n D := by
  obtain ⟨es, clock, h1, h2⟩ := h
  exact ⟨es, clock, by rw [hb]; exact h1, h2⟩
theorem own_tight {k : TypeId} {R : Value → Option (DataW Unit × List MemPlace)} {b n m : Nat} {D : DataW Unit} {W : World} (h : W.ownsMap Tryz.prog k R b n D) (hm : Maps.size D = m) : W.ownsMap Tryz.prog k R b m D := by
  obtain ⟨es, clock, h1, h2, h3, rfl⟩ := h
  refine ⟨es, clock, h1, h2, ?_, rfl⟩
  rw [← hm, Maps.size_eq, length_read]
  exact Nat.le_refl _
theorem PW.block {W W' : World} {b : Nat} {es : List V.En} (h : PW W b es) (hb : W'.heap[b]? = W.heap[b]?) : PW W' b es := by
  obtain ⟨D, h1, h2⟩ := h
  exact ⟨D, own_block h1 hb, h2⟩
theorem kind_le {k : List UInt8} (h : k.length ≤ 1) : k.length ≤ maxLen := by have : (1 : Nat) ≤ maxLen := by decide
                                                                              omega
theorem isKey (k d : List UInt8) : WideAt.IsKeyLit (klN k d) := trivial
theorem isKeyD (d : List UInt8) : WideAt.IsKeyLit (klD d) := trivial

theorem PW.look {W : World} {b : Nat} {es : List V.En} (h : PW W b es) (k d : List UInt8) (hk : k.length ≤ 1) (hd : d.length = 32) :
    (Instr.lookup tMap (.map (some b)) (.agg (nmv k d)) true).run Tryz.prog W = .ok (.tuple #[.int .i64 (((V.findN es k d).getD 0 : Nat) : Int), .bool (V.findN es k d).isSome]) W := by
  obtain ⟨D, h1, h2⟩ := h
  obtain ⟨v, ps, hrun, hR⟩ := h1.look_ok lawNm undMap (z := .int .i64 0) (zd := .lit (.int .i64 0)) (zp := []) (by kernel_rfl) (plainElem_int Tryz.underlying3 (by decide)) (key_nm k d (kind_le hk) hd)
  rw [hrun]
  obtain ⟨a, rfl, hz, _⟩ := plainElem_int_inv Tryz.underlying3 hR
  simp only [Prod.mk.injEq] at hz
  cases hf : V.findN es k d with
  | none =>
    have hn := h2.none' k d hk hd hf
    rw [atKey_of_not_has hn] at hz
    have ha : a = 0 := by have := hz.1; simp only [DataW.lit.injEq, Lit.int.injEq, true_and] at this; exact this.symm
    rw [hn, ha]; rfl
  | some i =>
    obtain ⟨hs, hat⟩ := h2.some' k d i hk hd hf
    rw [hat] at hz
    have ha : a = (i : Int) := by have := hz.1; simp only [DataW.lit.injEq, Lit.int.injEq, true_and] at this; exact this.symm
    rw [hs, ha]; rfl
theorem PW.len {W : World} {b : Nat} {es : List V.En} (h : PW W b es) (ty : TypeId) : (Builtin.len_ #[tMap] ty #[.map (some b)]).run Tryz.prog W = .ok (.int .i64 ((V.cntN es : Nat) : Int)) W := by
  obtain ⟨D, h1, h2⟩ := h
  rw [h1.len undMap ty, h2.size]
theorem find_fill_same {es : List V.En} {i : Nat} {f e : V.En} (hU : V.Uq (es.set i e)) (hf : es[i]? = some f) (he : e.kind ≠ []) : V.findN (es.set i e) e.kind e.dig = some i := by
  have hi : i < es.length := (List.getElem?_eq_some_iff.1 hf).1
  exact V.findN_of hU (List.getElem?_set_self hi) he
theorem PW.fill {W : World} {b : Nat} {es : List V.En} (h : PW W b es) (hU : V.Uq es) {i : Nat} {f e : V.En} (hf : es[i]? = some f) (hf0 : f.kind = []) (he : e.kind ≠ []) (hk : e.kind.length ≤ 1) (hd : e.dig.length = 32) (hn : V.findN es e.kind e.dig = none) (hl : es.length ≤ 128) :
    ∃ W', (Instr.mapUpdate tMap (.map (some b)) (.agg (nmv e.kind e.dig)) (.int .i64 (i : Int))).run Tryz.prog W = .ok () W' ∧ PW W' b (es.set i e) ∧ W.mapTurned W' b ∧ V.Uq (es.set i e) := by
  have hU' : V.Uq (es.set i e) := V.Uq.fill hU i e (fun j x hx hj h1 h2 h3 => V.findN_none hn j x hx h1 h2 h3)
  have hi : i < es.length := (List.getElem?_eq_some_iff.1 hf).1
  obtain ⟨D, h1, h2⟩ := h
  have hc := V.cntN_le es
  obtain ⟨W', hrun, hown, ht⟩ := h1.store lawNm undMap (by unfold maxLen; omega) (key_nm e.kind e.dig (kind_le hk) hd) (plainElem_int (a := (i : Int)) Tryz.underlying3 (WalkArith.wf_i64 (by omega)))
  have hcs := V.cntN_set es i f e hf
  rw [if_pos hf0, if_neg he] at hcs
  have hsz : Maps.size (D.put (klN e.kind e.dig) (.lit (.int .i64 (i : Int)))) = V.cntN (es.set i e) := by
    rw [size_put (h1.tidy lawNm), h2.none' _ _ hk hd hn, h2.size]
    simp only [Bool.false_eq_true, if_false]; omega
  refine ⟨W', hrun, ⟨_, own_tight hown hsz, ?_⟩, ht, hU'⟩
  have hne : ∀ k d, k.length ≤ 1 → d.length = 32 → ¬ (e.kind = k ∧ e.dig = d) → klN k d ≠ klN e.kind e.dig := fun k d hk' hd' hne' e' => hne' (by obtain ⟨a, b⟩ := klN_inj (kind_le hk') (kind_le hk) hd' hd e'; exact ⟨a.symm, b.symm⟩)
  have hoth : ∀ k d, ¬ (e.kind = k ∧ e.dig = d) → k ≠ [] → V.findN (es.set i e) k d = V.findN es k d := fun k d h' hk0 => V.findN_set_other hU i f e hf hU' k d (fun hh => hk0 (by rw [← hh.1]; exact hf0)) h'
  refine ⟨fun k d j hk' hd' hfind => ?_, fun k d hk' hd' hfind => ?_, hsz⟩
  · by_cases hs : e.kind = k ∧ e.dig = d
    · obtain ⟨rfl, rfl⟩ := hs
      rw [find_fill_same hU' hf he] at hfind
      cases hfind
      exact ⟨has_put_same h1.isMap (isKey _ _) _, atKey_put_same h1.isMap (isKey _ _) _ _⟩
    · have hk0 : k ≠ [] := fun e' => by subst e'; rw [V.findN_free] at hfind; cases hfind
      rw [hoth k d hs hk0] at hfind
      obtain ⟨g1, g2⟩ := h2.some' k d j hk' hd' hfind
      rw [has_put_other (hne k d hk' hd' hs), atKey_put_other (hne k d hk' hd' hs)]
      exact ⟨g1, g2⟩
  · by_cases hs : e.kind = k ∧ e.dig = d
    · obtain ⟨rfl, rfl⟩ := hs
      rw [find_fill_same hU' hf he] at hfind
      cases hfind
    · rw [has_put_other (hne k d hk' hd' hs)]
      by_cases hk0 : k = []
      · subst hk0; exact h2.none' _ _ hk' hd' (V.findN_free _ _)
      · rw [hoth k d hs hk0] at hfind
        exact h2.none' k d hk' hd' hfind
theorem PW.drop {W : World} {b : Nat} {es : List V.En} (h : PW W b es) (hU : V.Uq es) {i : Nat} {a : V.En} (ha : es[i]? = some a) (hk : a.kind.length ≤ 1) (hd : a.dig.length = 32) (ty : TypeId) :
    ∃ W', (Builtin.delete_ #[tMap, 72] ty #[.map (some b), .agg (nmv a.kind a.dig)]).run Tryz.prog W = .ok (.tuple #[]) W' ∧ PW W' b (es.set i V.en0) ∧ W.mapTurned W' b ∧ V.Uq (es.set i V.en0) := by
  have hU' : V.Uq (es.set i V.en0) := hU.free i V.en0 rfl
  obtain ⟨D, h1, h2⟩ := h
  obtain ⟨W', hrun, hown, ht⟩ := h1.drop lawNm undMap (key_nm a.kind a.dig (kind_le hk) hd) ty
  have hcs := V.cntN_set es i a V.en0 ha
  rw [if_pos (show V.en0.kind = [] from rfl)] at hcs
  have hsz : Maps.size (D.del (klN a.kind a.dig)) = V.cntN (es.set i V.en0) := by
    have := size_del (k := klN a.kind a.dig) (h1.tidy lawNm)
    rw [h2.size] at this
    by_cases hk0 : a.kind = []
    · rw [if_pos hk0] at hcs
      have hn : has D (klN a.kind a.dig) = false := h2.none' _ _ hk hd (by rw [hk0]; exact V.findN_free _ _)
      rw [hn] at this
      simp only [Bool.false_eq_true, if_false] at this; omega
    · rw [if_neg hk0] at hcs
      have hs := (h2.some' _ _ i hk hd (V.findN_of hU ha hk0)).1
      rw [hs] at this
      simp only [if_true] at this; omega
  refine ⟨W', hrun, ⟨_, own_tight hown hsz, ?_⟩, ht, hU'⟩
  have hne : ∀ k d, k.length ≤ 1 → d.length = 32 → ¬ (a.kind = k ∧ a.dig = d) → klN k d ≠ klN a.kind a.dig := fun k d hk' hd' hne' e' => hne' (by obtain ⟨x, y⟩ := klN_inj (kind_le hk') (kind_le hk) hd' hd e'; exact ⟨x.symm, y.symm⟩)
  have hoth : ∀ k d, ¬ (a.kind = k ∧ a.dig = d) → k ≠ [] → V.findN (es.set i V.en0) k d = V.findN es k d := fun k d h' hk0 => V.findN_set_other hU i a V.en0 ha hU' k d h' (fun hh => hk0 hh.1.symm)
  refine ⟨fun k d j hk' hd' hfind => ?_, fun k d hk' hd' hfind => ?_, hsz⟩
  · have hk0 : k ≠ [] := fun e' => by subst e'; rw [V.findN_free] at hfind; cases hfind
    by_cases hs : a.kind = k ∧ a.dig = d
    · obtain ⟨rfl, rfl⟩ := hs
      rw [V.findN_set_gone hU i a V.en0 ha rfl hk0] at hfind
      cases hfind
    · rw [hoth k d hs hk0] at hfind
      obtain ⟨g1, g2⟩ := h2.some' k d j hk' hd' hfind
      rw [has_del_other (hne k d hk' hd' hs), atKey_del_other (hne k d hk' hd' hs)]
      exact ⟨g1, g2⟩
  · by_cases hs : a.kind = k ∧ a.dig = d
    · obtain ⟨rfl, rfl⟩ := hs
      exact has_del_same
    · rw [has_del_other (hne k d hk' hd' hs)]
      by_cases hk0 : k = []
      · subst hk0; exact h2.none' _ _ hk' hd' (V.findN_free _ _)
      · rw [hoth k d hs hk0] at hfind
        exact h2.none' k d hk' hd' hfind
/-- an entry is used: its name stays -/
theorem find_used {es : List V.En} {i : Nat} {e : V.En} (he : es[i]? = some e) (u : Nat) (k d : List UInt8) : V.findN (es.set i { e with used := u }) k d = V.findN es k d := by
  unfold V.findN
  have : ∀ (l : List V.En) (i : Nat), l[i]? = some e → (l.set i { e with used := u }).findIdx? (fun e => decide (e.kind ≠ [] ∧ e.kind = k ∧ e.dig = d)) = l.findIdx? (fun e => decide (e.kind ≠ [] ∧ e.kind = k ∧ e.dig = d)) := by
    intro l
    induction l with
    | nil => intro i h; simp at h
    | cons x r ih =>
      intro i h
      cases i with
      | zero =>
        simp at h; subst h
        simp only [List.set_cons_zero, List.findIdx?_cons]
      | succ i =>
        have h' : r[i]? = some e := by simpa using h
        simp only [List.set_cons_succ, List.findIdx?_cons, ih i h']
  exact this es i he
theorem Uq_used {es : List V.En} (hU : V.Uq es) {i : Nat} {e : V.En} (he : es[i]? = some e) (u : Nat) : V.Uq (es.set i { e with used := u }) := by
  have hi : i < es.length := (List.getElem?_eq_some_iff.1 he).1
  intro a b x y hx hy h1 h2 h3
  rcases V.set_at _ hi a x hx with ⟨rfl, rfl⟩ | ⟨ha, hx'⟩
  · rcases V.set_at _ hi b y hy with ⟨rfl, rfl⟩ | ⟨hb, hy'⟩
    · rfl
    · exact hU _ b e y he hy' h1 h2 h3
  · rcases V.set_at _ hi b y hy with ⟨rfl, rfl⟩ | ⟨hb, hy'⟩
    · exact hU a _ x e hx' he h1 h2 h3
    · exact hU a b x y hx' hy' h1 h2 h3
theorem PW.used {W : World} {b : Nat} {es : List V.En} (h : PW W b es) {i : Nat} {e : V.En} (he : es[i]? = some e) (u : Nat) : PW W b (es.set i { e with used := u }) := by
  obtain ⟨D, h1, h2⟩ := h
  have hc : V.cntN (es.set i { e with used := u }) = V.cntN es := by have := V.cntN_set es i e { e with used := u } he; simp only at this; omega
  refine ⟨D, by rw [hc]; exact h1, ⟨fun k d j hk hd hf => h2.some' k d j hk hd (by rw [← find_used he u k d]; exact hf), fun k d hk hd hf => h2.none' k d hk hd (by rw [← find_used he u k d]; exact hf), by rw [hc]; exact h2.size⟩⟩

/-- the set of what is pinned -/
def PS (W : World) (p : Option Nat) (l : List (List UInt8)) : Prop :=
  match p with
  | none => l = []
  | some b => ∃ (n : Nat) (D : DataW Unit), n ≤ l.length ∧ W.ownsMap Tryz.prog 39 (unitElem (H := Unit)) b n D ∧ ∀ d, d.length = 32 → has D (klD d) = decide (d ∈ l)
theorem PS.block {W W' : World} {p : Option Nat} {l : List (List UInt8)} (h : PS W p l) (hb : ∀ b, p = some b → W'.heap[b]? = W.heap[b]?) : PS W' p l := by
  cases p with
  | none => exact h
  | some b =>
    obtain ⟨n, D, h0, h1, h2⟩ := h
    exact ⟨n, D, h0, own_block h1 (hb b rfl), h2⟩
theorem PS.look {W : World} {p : Option Nat} {l : List (List UInt8)} (h : PS W p l) (d : List UInt8) (hd : d.length = 32) :
    (Instr.lookup tPin (.map p) (.agg (dg d)) true).run Tryz.prog W = .ok (.tuple #[.agg #[], .bool (decide (d ∈ l))]) W := by
  cases p with
  | none =>
    have hl : l = [] := h
    rw [Maps.look_nil true lawDg undPin (z := .agg #[]) (by kernel_rfl) (key_dg d hd), hl]
    simp
  | some b =>
    obtain ⟨n, D, h0, h1, h2⟩ := h
    obtain ⟨v, ps, hrun, hR⟩ := h1.look_ok lawDg undPin (z := .agg #[]) (zd := .agg []) (zp := []) (by kernel_rfl) unitElem_mk (key_dg d hd)
    rw [hrun, h2 d hd, (unitElem_inv hR).1]
theorem PS.put {W : World} {b : Nat} {l : List (List UInt8)} (h : PS W (some b) l) (d : List UInt8) (hd : d.length = 32) (hl : l.length < 1000000) :
    ∃ W', (Instr.mapUpdate tPin (.map (some b)) (.agg (dg d)) (.agg #[])).run Tryz.prog W = .ok () W' ∧ PS W' (some b) (d :: l) ∧ W.mapTurned W' b := by
  obtain ⟨n, D, hn, h1, h2⟩ := h
  obtain ⟨W', hrun, hown, ht⟩ := h1.store lawDg undPin (by unfold maxLen; omega) (key_dg d hd) unitElem_mk
  refine ⟨W', hrun, ⟨n + 1, _, by simp; exact hn, hown, fun x hx => ?_⟩, ht⟩
  by_cases he : x = d
  · subst he
    rw [has_put_same h1.isMap (isKeyD _)]; simp
  · rw [has_put_other (fun e' => he (klD_inj hx hd e')), h2 x hx]
    simp [he]
theorem PS.made (W : World) : PS (W.alloc (.map #[] 0)) (some W.heap.size) [] :=
  ⟨0, .map [], Nat.le_refl _, World.ownsMap_made W _ _ _, fun d _ => by simp [Maps.has]⟩
end Go.Proofs.YtlkllcnnnndllaaGreatDoor
