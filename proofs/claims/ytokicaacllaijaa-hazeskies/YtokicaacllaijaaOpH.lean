/- What came in, opened: summaries, keys, a law's acts. -/
import Derived.Test.YtokicaacllaijaaHzB
import Derived.Test.YtokicaacllaijaaRows
import Derived.ProofKit
import Derived.OpenShut
import Derived.SliceStrings
import Derived.Stop.Joined
namespace Go.Proofs.Ytokicaacllaijaa
open Go.ChangeShapes Go.WideShapes Go.ChangeAt Go.WideMaps Go.WideElems Go.RowKit
set_option linter.unusedVariables false

theorem own : ownKnob Try.prog.godebug = none := by kernel_rfl
theorem laidOut : laidOutB Try.prog = true := by kernel_rfl
theorem block_lt {w : World} {b o : Nat} {v : Value} (h : w.cell? ⟨b, o, none⟩ = some v) : b < w.heap.size := by
  rcases Nat.lt_or_ge b w.heap.size with h' | h'
  · exact h'
  · unfold World.cell? at h
    rw [Array.getElem?_eq_none h'] at h
    simp at h
theorem wf_i64 {x : Int} (h : (Lit.int .i64 x).wf = true) : -9223372036854775808 ≤ x ∧ x ≤ 9223372036854775807 := by
  simpa [Lit.wf, IntKind.min, IntKind.max, IntKind.signed, IntKind.bits] using h
theorem list_ofG {α : Type} {P : Nat → α → Prop} : ∀ n : Nat, (∀ i, i < n → ∃ d, P i d) → ∃ l : List α, l.length = n ∧ ∀ i d, l[i]? = some d → P i d
  | 0, _ => ⟨[], rfl, fun i d h => by simp at h⟩
  | n + 1, h => by
    obtain ⟨l, hl, hp⟩ := list_ofG n (fun i hi => h i (by omega))
    obtain ⟨d, hd⟩ := h n (by omega)
    refine ⟨l ++ [d], by simp [hl], fun i x hx => ?_⟩
    by_cases hi : i < n
    · rw [List.getElem?_append_left (by omega)] at hx; exact hp i x hx
    · rw [List.getElem?_append_right (by omega)] at hx
      have hin : i = n := by
        have := (List.getElem?_eq_some_iff.1 hx).1
        simp at this; omega
      subst hin
      simp [hl] at hx; subst hx; exact hd
/-- an array of integers, opened -/
theorem open_arr {H : Type} {enc : TypeId × Value → H} {W : World} {base : Nat} {spare : Nat → Bool} {held : Bool} {fuel n : Nat} {t e : TypeId} {k : IntKind} {cs : List Value} {d : DataW H} {p : List MemPlace}
    (ht : Try.prog.underlying t = some (.array n e)) (he : Try.prog.underlying e = some (.int k)) (h1 : Try.prog.cellsOf e = 1) (hn : Try.prog.cellsOf t = n) (h : DataW.trod enc Try.prog W base spare held fuel t cs = some (d, p)) :
    ∃ zs : List Int, zs.length = n ∧ cs = zs.map (Value.int k) ∧ d = .agg (zs.map fun z => .lit (.int k z)) ∧ p = [] ∧ ∀ z ∈ zs, (Lit.int k z).wf = true := by
  obtain ⟨xs, m, rfl, hx, hlen, hxn, hel⟩ := DataW.trod_array ht h
  rw [hn] at hlen
  have key : ∀ i, i < n → ∃ z, cs[i]? = some (.int k z) ∧ xs[i]? = some (.lit (.int k z), []) ∧ (Lit.int k z).wf = true := fun i hi => by
    have hi' := hel i hi
    rw [h1, Nat.mul_one] at hi'
    have hxi : xs[i]? = some xs[i] := List.getElem?_eq_getElem (by omega)
    rw [hxi] at hi'
    obtain ⟨z, e1, e2, e3⟩ := DataW.trod_int he hi'
    refine ⟨z, ?_, by rw [hxi, e2], e3⟩
    have : ((cs.drop i).take 1)[0]? = some (.int k z) := by rw [e1]; rfl
    simpa [List.getElem?_take, List.getElem?_drop] using this
  simp only [Prod.mk.injEq] at hx
  obtain ⟨rfl, rfl⟩ := hx
  let f : Value → Int := fun v => match v with | .int _ z => z | _ => 0
  refine ⟨cs.map f, by simp [hlen], ?_, ?_, ?_, ?_⟩
  · apply List.ext_getElem?
    intro i
    by_cases hi : i < n
    · obtain ⟨z, e1, _, _⟩ := key i hi
      simp [e1, f]
    · rw [List.getElem?_eq_none (by omega), List.getElem?_eq_none (by simp; omega)]
  · congr 1
    apply List.ext_getElem?
    intro i
    by_cases hi : i < n
    · obtain ⟨z, e1, e2, _⟩ := key i hi
      simp [e1, e2, f]
    · rw [List.getElem?_eq_none (by simp; omega), List.getElem?_eq_none (by simp; omega)]
  · rw [List.flatMap_eq_nil_iff]
    intro x hx
    obtain ⟨i, hi, rfl⟩ := List.getElem_of_mem hx
    obtain ⟨z, _, e2, _⟩ := key i (by omega)
    rw [List.getElem?_eq_getElem hi] at e2
    rw [Option.some.inj e2]
  · intro z hz
    obtain ⟨v, hv, rfl⟩ := List.mem_map.1 hz
    obtain ⟨i, hi, rfl⟩ := List.getElem_of_mem hv
    obtain ⟨z, e1, _, e3⟩ := key i (by omega)
    rw [List.getElem?_eq_getElem hi] at e1
    rw [Option.some.inj e1]; exact e3

theorem open_rows {α : Type} (E : Lay α) (ok : α → Prop) {T TS : TypeId} (hund : Try.prog.underlying TS = some (.slice T)) (hc : Try.prog.cellsOf T = E.k) {H : Type} {enc : TypeId × Value → H} {W : World}
    (one : ∀ (n : Nat) (cs : List Value) (d : DataW H) (p : List MemPlace), DataW.trod enc Try.prog W 0 (fun _ => true) true n T cs = some (d, p) → ∃ x, cs = E.f x ∧ ok x) {fuel : Nat} {v : Value} {d : DataW H} {p : List MemPlace}
    (hf : DataW.trod enc Try.prog W 0 (fun _ => true) true fuel TS [v] = some (d, p)) :
    ∃ (a : Option Addr) (c : Nat) (l : List α), v = .slice a l.length c ∧ RS E W a l ∧ l.length ≤ maxLen ∧ ∀ t ∈ l, ok t := by
  have hk := E.pos
  rcases DataW.trod_slice hund hf with ⟨hcs, hx⟩ | ⟨a, len, cap, elems, rest, n, _, hcs, hx, hb, hl, hm, hlen, hel, _, _⟩
  · simp only [List.cons.injEq, and_true] at hcs
    subst hcs
    exact ⟨none, 0, [], rfl, fun i d h => by simp at h, by simp, fun t ht => by simp at ht⟩
  · simp only [List.cons.injEq, and_true] at hcs
    subst hcs
    have key : ∀ i, i < len → ∃ y : α, W.cells? 0 (a.add (i * E.k)) E.k = some (E.f y) ∧ ok y := fun i hi => by
      have h := hel i hi
      rw [hc, List.getElem?_eq_getElem (by omega)] at h
      cases hcc : W.cells? 0 (a.add (i * E.k)) E.k with
      | none => rw [hcc] at h; simp at h
      | some cs =>
        rw [hcc] at h
        simp only [Option.bind_some] at h
        obtain ⟨x, hx⟩ : ∃ x, elems[i] = x := ⟨_, rfl⟩
        rw [hx] at h
        obtain ⟨d, p⟩ := x
        obtain ⟨t, y1, y2⟩ := one _ _ _ _ h
        exact ⟨t, by rw [y1], y2⟩
    obtain ⟨l, hll, hlp⟩ := list_ofG len key
    refine ⟨some a, cap, l, by simp [hll], fun i t hi => ?_, by omega, fun t ht => ?_⟩
    · obtain ⟨h1, h2⟩ := hlp i t hi
      have hspot : a.spot = none := by
        have hil : i < l.length := (List.getElem?_eq_some_iff.1 hi).1
        obtain ⟨g1, g2⟩ := hlp 0 _ (List.getElem?_eq_getElem (by omega : 0 < l.length))
        obtain ⟨_, _, gce⟩ := World.cells?_some g1
        have g0 := gce 0 (by omega)
        rw [List.getElem?_eq_getElem (by rw [E.len]; omega)] at g0
        have := World.cell?_spot g0
        simpa [Addr.add] using this
      obtain ⟨_, hcl, hce⟩ := World.cells?_some h1
      obtain ⟨b, off, spot⟩ := a
      subst hspot
      have c0 := hce 0 (by omega)
      rw [Addr.add_mid, Addr.add_mid, List.getElem?_eq_getElem (by rw [E.len]; omega)] at c0
      refine ⟨b, off, rfl, block_lt c0, fun j v hv => ?_⟩
      have hj : j < E.k := by have := (List.getElem?_eq_some_iff.1 hv).1; rw [E.len] at this; exact this
      have := hce j hj
      rw [Addr.add_mid, Addr.add_mid, hv] at this
      exact this
    · obtain ⟨i, hi, rfl⟩ := List.getElem_of_mem ht
      exact (hlp i _ (List.getElem?_eq_getElem hi)).2

theorem cH : Try.prog.cellsOf tH = 64 := by kernel_rfl
theorem cD : Try.prog.cellsOf tD = 32 := by kernel_rfl
theorem cU8 : Try.prog.cellsOf 5 = 1 := by kernel_rfl
theorem bytes_of {zs : List Int} (h : ∀ z ∈ zs, (Lit.int .u8 z).wf = true) : zs.map (Value.int .u8) = (zs.map fun z => UInt8.ofNat z.toNat).map vb := by
  rw [List.map_map]
  apply List.map_congr_left
  intro z hz
  have hb := h z hz
  simp [Lit.wf, IntKind.min, IntKind.max, IntKind.signed, IntKind.bits] at hb
  show Value.int .u8 z = Value.int .u8 ((UInt8.ofNat z.toNat).toNat : Int)
  rw [UInt8.toNat_ofNat_of_lt' (by show z.toNat < 256; omega)]
  congr 1; omega
theorem h_of {H : Type} {enc : TypeId × Value → H} {W : World} {fuel : Nat} {cs : List Value} {d : DataW H} {p : List MemPlace}
    (h : DataW.trod enc Try.prog W 0 (fun _ => true) true fuel tH cs = some (d, p)) : ∃ t : HZ.H, cs = hC t ∧ True := by
  obtain ⟨zs, hz0, hz1, _, _, hw⟩ := open_arr undH Try.underlying5 cU8 cH h
  exact ⟨⟨zs.map fun z => UInt8.ofNat z.toNat, by simp [hz0]⟩, by rw [hz1, bytes_of hw]; rfl, trivial⟩
theorem d_of {H : Type} {enc : TypeId × Value → H} {W : World} {fuel : Nat} {cs : List Value} {d : DataW H} {p : List MemPlace}
    (h : DataW.trod enc Try.prog W 0 (fun _ => true) true fuel tD cs = some (d, p)) : ∃ t : HZ.D, cs = dC t ∧ True := by
  obtain ⟨zs, hz0, hz1, _, _, hw⟩ := open_arr undD Try.underlying5 cU8 cD h
  exact ⟨⟨zs.map fun z => UInt8.ofNat z.toNat, by simp [hz0]⟩, by rw [hz1, bytes_of hw]; rfl, trivial⟩
theorem agg_of {v : Value} {L : List Value} (h : v.cells.toList = L) (hn : L.length ≠ 1) : v = .agg L.toArray := by
  subst h
  cases v <;> simp [Value.cells] at hn ⊢
/-- A SUMMARY THAT CAME IN -/
theorem open_haze {H : Type} {enc : TypeId × Value → H} {W : World} {v : Value} {d : DataW H} {p : List MemPlace}
    (h : DataW.Trod enc Try.prog W 0 (fun _ => true) true tH v d p) : ∃ t : HZ.H, v = .agg (hC t).toArray := by
  obtain ⟨fuel, hf⟩ := h
  obtain ⟨t, e, _⟩ := h_of hf
  exact ⟨t, agg_of e (by rw [hC_len]; omega)⟩
/-- A KEY THAT CAME IN -/
theorem open_dig {H : Type} {enc : TypeId × Value → H} {W : World} {v : Value} {d : DataW H} {p : List MemPlace}
    (h : DataW.Trod enc Try.prog W 0 (fun _ => true) true tD v d p) : ∃ t : HZ.D, v = .agg (dC t).toArray := by
  obtain ⟨fuel, hf⟩ := h
  obtain ⟨t, e, _⟩ := d_of hf
  exact ⟨t, agg_of e (by rw [dC_len]; omega)⟩
/-- SUMMARIES THAT CAME IN -/
theorem open_hazes {H : Type} {enc : TypeId × Value → H} {W : World} {base : Nat} {v : Value} {d : DataW H} {p : List MemPlace}
    (hok : Value.okWide Try.prog W .any base 22 v) (h : DataW.Trod enc Try.prog W 0 (fun _ => true) true 22 v d p) :
    ∃ (a : Option Addr) (c : Nat) (l : List HZ.H), v = .slice a l.length c ∧ RS lyH W a l ∧ l.length ≤ maxLen ∧ ∀ t ∈ l, True := by
  obtain ⟨a0, len0, cap0, rfl⟩ := okWide_slice Try.underlying22 hok
  obtain ⟨fuel, hf0⟩ := h
  have hf : DataW.trod enc Try.prog W 0 (fun _ => true) true fuel 22 [.slice a0 len0 cap0] = some (d, p) := by simpa [Value.cells] using hf0
  exact open_rows lyH (fun _ => True) Try.underlying22 cH (fun n cs d p h => h_of h) hf
/-- KEYS THAT CAME IN -/
theorem open_keys {H : Type} {enc : TypeId × Value → H} {W : World} {base : Nat} {v : Value} {d : DataW H} {p : List MemPlace}
    (hok : Value.okWide Try.prog W .any base 23 v) (h : DataW.Trod enc Try.prog W 0 (fun _ => true) true 23 v d p) :
    ∃ (a : Option Addr) (c : Nat) (l : List HZ.D), v = .slice a l.length c ∧ RS lyD W a l ∧ l.length ≤ maxLen ∧ ∀ t ∈ l, True := by
  obtain ⟨a0, len0, cap0, rfl⟩ := okWide_slice Try.underlying23 hok
  obtain ⟨fuel, hf0⟩ := h
  have hf : DataW.trod enc Try.prog W 0 (fun _ => true) true fuel 23 [.slice a0 len0 cap0] = some (d, p) := by simpa [Value.cells] using hf0
  exact open_rows lyD (fun _ => True) Try.underlying23 cD (fun n cs d p h => d_of h) hf
/-- an act that came in -/
structure Az where
  kind : Int
  node : Int
  h : HZ.H
  k : HZ.D
  now : Int
def azC (x : Az) : List Value := [.int .i64 x.kind, .int .i64 x.node] ++ hC x.h ++ dC x.k ++ [.int .i64 x.now]
theorem azC_len (x : Az) : (azC x).length = 99 := by unfold azC; simp only [List.length_append, hC_len, dC_len]; rfl
theorem azC_one (x : Az) : ∀ u ∈ azC x, u.oneCell' = true := fun u hu => by
  unfold azC at hu
  simp only [List.mem_append, List.mem_cons, List.not_mem_nil, or_false] at hu
  rcases hu with ((((rfl | rfl) | h) | h) | rfl)
  · rfl
  · rfl
  · exact hC_one _ u h
  · exact dC_one _ u h
  · rfl
def lyA : Lay Az := ⟨99, azC, azC_len, azC_one, by decide⟩
def okA (x : Az) : Prop := i64 x.kind ∧ i64 x.node ∧ i64 x.now
theorem cAz : Try.prog.cellsOf 47 = 99 := by kernel_rfl
theorem one_at {l : List Value} {o : Nat} {v : Value} (h : (l.drop o).take 1 = [v]) : l[o]? = some v := by
  have := congrArg (fun l : List Value => l[0]?) h
  simpa using this
set_option maxRecDepth 100000 in
theorem az_of {H : Type} {enc : TypeId × Value → H} {W : World} {fuel : Nat} {cs : List Value} {d : DataW H} {p : List MemPlace}
    (h : DataW.trod enc Try.prog W 0 (fun _ => true) true fuel 47 cs = some (d, p)) : ∃ t : Az, cs = azC t ∧ okA t := by
  obtain ⟨xs, n, _, hx, hcl, hxl, hfi⟩ := DataW.trod_struct Try.underlying47 h
  rw [cAz] at hcl
  have g : ∀ (i : Nat), i < 5 → ∃ x, xs[i]? = some x := fun i hi => ⟨xs[i]'(by rw [hxl]; exact hi), List.getElem?_eq_getElem _⟩
  obtain ⟨x0, e0⟩ := g 0 (by omega)
  obtain ⟨x1, e1⟩ := g 1 (by omega)
  obtain ⟨⟨d2, p2⟩, e2⟩ := g 2 (by omega)
  obtain ⟨⟨d3, p3⟩, e3⟩ := g 3 (by omega)
  obtain ⟨x4, e4⟩ := g 4 (by omega)
  have f0 := hfi 0 _ rfl
  have f1 := hfi 1 _ rfl
  have f2 := hfi 2 _ rfl
  have f3 := hfi 3 _ rfl
  have f4 := hfi 4 _ rfl
  rw [e0] at f0
  rw [e1] at f1
  rw [e2] at f2
  rw [e3] at f3
  rw [e4] at f4
  have f0' : DataW.trod enc Try.prog W 0 (fun _ => true) true n 3 ((cs.drop 0).take 1) = some x0 := f0
  have f1' : DataW.trod enc Try.prog W 0 (fun _ => true) true n 3 ((cs.drop 1).take 1) = some x1 := f1
  have f2' : DataW.trod enc Try.prog W 0 (fun _ => true) true n tH ((cs.drop 2).take (Try.prog.cellsOf tH)) = some (d2, p2) := f2
  have f3' : DataW.trod enc Try.prog W 0 (fun _ => true) true n tD ((cs.drop 66).take (Try.prog.cellsOf tD)) = some (d3, p3) := f3
  have f4' : DataW.trod enc Try.prog W 0 (fun _ => true) true n 3 ((cs.drop 98).take 1) = some x4 := f4
  rw [cH] at f2'
  rw [cD] at f3'
  obtain ⟨k0, i0, _, w0⟩ := DataW.trod_int Try.underlying3 f0'
  obtain ⟨k1, i1, _, w1⟩ := DataW.trod_int Try.underlying3 f1'
  obtain ⟨hh, i2, _⟩ := h_of f2'
  obtain ⟨kk, i3, _⟩ := d_of f3'
  obtain ⟨k4, i4, _, w4⟩ := DataW.trod_int Try.underlying3 f4'
  refine ⟨⟨k0, k1, hh, kk, k4⟩, ?_, wf_i64 w0, wf_i64 w1, wf_i64 w4⟩
  show cs = [.int .i64 k0, .int .i64 k1] ++ hC hh ++ dC kk ++ [.int .i64 k4]
  rw [← i2, ← i3, ← i4]
  have a1 : [Value.int .i64 k0, .int .i64 k1] = cs.take 2 := by
    match cs, hcl with
    | c0 :: c1 :: r, hcl =>
      simp only [List.drop_zero, List.drop_succ_cons, List.take_succ_cons, List.take_zero, List.cons.injEq, and_true] at i0 i1
      subst i0 i1; rfl
  rw [a1]
  have b1 : cs.take 2 ++ (cs.drop 2).take 64 = cs.take 66 := by rw [← List.take_add]
  have b2 : cs.take 66 ++ (cs.drop 66).take 32 = cs.take 98 := by rw [← List.take_add]
  have b3 : cs.take 98 ++ (cs.drop 98).take 1 = cs.take 99 := by rw [← List.take_add]
  rw [b1, b2, b3, List.take_of_length_le (by omega)]
set_option maxRecDepth 100000 in
/-- ACTS THAT CAME IN -/
theorem open_acts14 {H : Type} {enc : TypeId × Value → H} {W : World} {base : Nat} {v : Value} {d : DataW H} {p : List MemPlace}
    (hok : Value.okWide Try.prog W .any base 37 v) (h : DataW.Trod enc Try.prog W 0 (fun _ => true) true 37 v d p) :
    ∃ (a : Option Addr) (c : Nat) (l : List Az), v = .slice a l.length c ∧ RS lyA W a l ∧ l.length ≤ maxLen ∧ ∀ t ∈ l, okA t := by
  obtain ⟨a0, len0, cap0, rfl⟩ := okWide_slice Try.underlying37 hok
  obtain ⟨fuel, hf0⟩ := h
  have hf : DataW.trod enc Try.prog W 0 (fun _ => true) true fuel 37 [.slice a0 len0 cap0] = some (d, p) := by simpa [Value.cells] using hf0
  exact open_rows lyA okA Try.underlying37 cAz (fun n cs d p h => az_of h) hf
end Go.Proofs.Ytokicaacllaijaa
