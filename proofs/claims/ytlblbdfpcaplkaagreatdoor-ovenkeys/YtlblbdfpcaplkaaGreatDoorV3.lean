/- Appends of texts to a row of one's own; what the reference's step answers. -/
import Derived.Test.YtlblbdfpcaplkaaGreatDoorV2
namespace Go.Proofs.YtlblbdfpcaplkaaGreatDoor
open Go.RowKit
set_option linter.unusedVariables false
set_option linter.unusedSimpArgs false

theorem wl_appB {ops : Array Oper} {rest : List Oper} {o : Oper} {a : Act} {w : World} {Q : Exit → Act → World → Prop} (hgd : o.guard = none) (s x : Operand)
    (ho : o.op = .call { callee := .builtin .append, args := #[s, x], argTypes := #[22, 22] }) (base : Nat) (ks : List (List UInt8)) (g0 n0 c0 : Nat) (hs : a.eval s = .slice (some ⟨g0, 0, none⟩) n0 c0) (hown : w.ownsRow base 9 1 (.slice (some ⟨g0, 0, none⟩) n0 c0) ks.length (ks.map encS))
    (ad : Option Addr) (l : List (List UInt8)) (c m N : Nat) (hm : l.length = m) (hN : ks.length + m = N) (hx : a.eval x = .slice ad m c) (hl : TX w ad l) (hbase : base ≤ w.heap.size) (hn : N ≤ 100000)
    (h : ∀ g' c' w', w'.ownsRow base 9 1 (.slice (some ⟨g', 0, none⟩) N c') (ks ++ l).length ((ks ++ l).map encS) → Below base w w' → wpList Tryz.prog ops Q rest (a.put o.dst (.slice (some ⟨g', 0, none⟩) N c')) w') : wpList Tryz.prog ops Q (o :: rest) a w := by
  subst hm
  refine wl_appM hgd s x ho base ks _ hs hown ad l c hx hl hbase (by omega) fun v' w' h1 h2 h3 => ?_
  have hb : Below base w w' := (Below.refl base w).grown h2 hbase (fun q hq => (hown.lt q hq).1)
  have h1' := h1
  have e : (ks ++ l).length = N := by rw [List.length_append]; exact hN
  obtain ⟨_, ⟨h4, _⟩ | ⟨g', c', cur, h4, _⟩⟩ := h1
  · subst h4
    rcases h3 with h3 | h3 <;> cases h3
  · subst h4
    rw [e] at h1'
    have := h g' c' w'
    rw [e] at this ⊢
    exact this h1' hb
/-- a stack (the top first) as the reference has it -/
structure LS (W : World) (g c : Nat) (st : List (List UInt8)) : Prop where
  b : g < W.heap.size
  c : st.length ≤ c
  t : TX W (some ⟨g, 0, none⟩) st.reverse
theorem LS.of {W : World} {N g c n : Nat} {l st : List (List UInt8)} (h : W.ownsRow N 9 1 (.slice (some ⟨g, 0, none⟩) n c) l.length (l.map encS)) (hst : l = st.reverse) (hn : n = st.length) : LS W g c st := by
  subst hst
  have hn' : n = st.reverse.length := by rw [hn, List.length_reverse]
  clear hn
  subst hn'
  have h' := h
  obtain ⟨_, ⟨h4, _⟩ | ⟨g', c', cur, h4, h5, h6, h7, _⟩⟩ := h
  · cases h4
  · simp only [Value.slice.injEq, Option.some.injEq, Addr.mk.injEq] at h4
    obtain ⟨⟨rfl, _⟩, _, rfl⟩ := h4
    exact ⟨lt_of_heapM h6, by simpa using h7, strs_at (strs_of_owns h')⟩
theorem LS.below {W W' : World} {g c : Nat} {st : List (List UInt8)} (h : LS W g c st) (hb : Below W.heap.size W W') : LS W' g c st :=
  ⟨Nat.lt_of_lt_of_le h.b hb.size, h.c, fun i t ht => by
    obtain ⟨sb, off, h1, h2, h3⟩ := h.t i t ht
    exact ⟨sb, off, h1, by have := hb.size; omega, by rw [hb.cell (p := ⟨sb, off + i, none⟩) h2]; exact h3⟩⟩
theorem LS.at {W : World} {g c : Nat} {st : List (List UInt8)} (h : LS W g c st) {i : Nat} {t : List UInt8} (ht : st.reverse[i]? = some t) : W.cell? ⟨g, i, none⟩ = some (.string (M.bs t)) := by
  obtain ⟨sb, off, h1, h2, h3⟩ := h.t i t ht
  simp only [Option.some.injEq, Addr.mk.injEq] at h1
  obtain ⟨rfl, rfl, _⟩ := h1
  simpa using h3
theorem TX.belowM {W W' : World} {a : Option Addr} {l : List (List UInt8)} (h : TX W a l) (hb : Below W.heap.size W W') : TX W' a l := fun i t ht => by
  obtain ⟨sb, off, h1, h2, h3⟩ := h i t ht
  exact ⟨sb, off, h1, by have := hb.size; omega, by rw [hb.cell (p := ⟨sb, off + i, none⟩) h2]; exact h3⟩
theorem TX.pre {W : World} {a : Option Addr} {l m : List (List UInt8)} (h : TX W a (l ++ m)) : TX W a l := fun i t ht => h i t (by rw [List.getElem?_append_left (List.getElem?_eq_some_iff.1 ht).1]; exact ht)
/-- what the reference's step answers -/
def RP (R : Nat × List (List UInt8)) (to : Int) (W : World) (e : Ending) (w' : World) : Prop :=
  (R.1 = 0 → ∃ g c, e = .returned (.tuple #[.slice (some ⟨g, 0, none⟩) R.2.length c, .int .i64 to, .int .i64 0]) ∧ LS w' g c R.2) ∧ (R.1 ≠ 0 → e = .returned (.tuple #[.slice none 0 0, .int .i64 (-1), .int .i64 (R.1 : Int)])) ∧ Below W.heap.size W w'
theorem RP.err {R : Nat × List (List UInt8)} {to : Int} {W w' : World} {k : Nat} (h : R.1 = k) (hk : k ≠ 0) (hb : Below W.heap.size W w') : RP R to W (.returned (.tuple #[.slice none 0 0, .int .i64 (-1), .int .i64 (k : Int)])) w' :=
  ⟨fun h0 => absurd (h.symm.trans h0) hk, fun _ => by rw [h], hb⟩
theorem RP.ok {R : Nat × List (List UInt8)} {to : Int} {W w' : World} {g c : Nat} {st : List (List UInt8)} (h : R = (0, st)) (hl : LS w' g c st) (hb : Below W.heap.size W w') : RP R to W (.returned (.tuple #[.slice (some ⟨g, 0, none⟩) st.length c, .int .i64 to, .int .i64 0])) w' :=
  ⟨fun _ => ⟨g, c, by rw [h], by rw [h]; exact hl⟩, fun h0 => absurd (by rw [h]) h0, hb⟩
theorem own0 (W : World) : (W.alloc (.cells #[] 9)).ownsRow W.heap.size 9 1 (.slice (some ⟨W.heap.size, 0, none⟩) 0 0) ([] : List (List UInt8)).length (([] : List (List UInt8)).map encS) := World.ownsRow_made W #[] 0 (Nat.le_refl _) (Nat.zero_le _) rfl
theorem len_is (t : List UInt8) : Q.len t = Lib.decDigits t.length := by
  unfold Q.len Lib.itoa
  rw [if_neg (by omega)]; rfl
theorem len_512 (t : List UInt8) (h : t.length ≤ 512) : (Q.len t).length ≤ 512 := by
  rw [len_is, Lib.decDigits_length]
  generalize t.length = u at *
  by_cases h1 : u < 10
  · rw [Lib.nDigits_small h1]; omega
  · rw [Lib.nDigits_big h1]
    by_cases h2 : u / 10 < 10
    · rw [Lib.nDigits_small h2]; omega
    · rw [Lib.nDigits_big h2, Lib.nDigits_small (by omega)]; omega
theorem put0 {st : List (List UInt8)} {t : List UInt8} (h : st.length < 8) (h2 : t.length ≤ 512) : Q.put st t = (0, t :: st) := by unfold Q.put; rw [if_neg (by omega), if_neg (by omega)]
theorem put31 {st : List (List UInt8)} {t : List UInt8} (h : 8 ≤ st.length) : (Q.put st t).1 = 31 := by unfold Q.put; rw [if_pos h]
theorem put33 {st : List (List UInt8)} {t : List UInt8} (h : st.length < 8) (h2 : 512 < t.length) : (Q.put st t).1 = 33 := by unfold Q.put; rw [if_neg (by omega), if_pos h2]
theorem rev_succ (a : List UInt8) (k : Nat) (x : UInt8) (h : a[k]? = some x) : (a.take (k + 1)).reverse = [x] ++ (a.take k).reverse := by
  rw [List.take_add_one, h]; simp
theorem cut_one (a : List UInt8) (k : Nat) (x : UInt8) (h : a[k]? = some x) : (M.bs a).extract k (k + 1) = M.bs [x] := by
  rw [cut_bs, show k + 1 - k = 1 by omega]
  congr 1
  have hk : k < a.length := (List.getElem?_eq_some_iff.1 h).1
  rw [List.drop_eq_getElem_cons hk]
  rw [List.getElem?_eq_getElem hk] at h
  simp [Option.some.inj h]
theorem tx_one (W : World) (t : List UInt8) (T : TypeId) : TX (W.alloc (.cells #[.string (M.bs t)] T)) (some ⟨W.heap.size, 0, none⟩) [t] := fun i u hu => by
  refine ⟨W.heap.size, 0, rfl, by simp, ?_⟩
  rcases i with _ | i
  · simp at hu; subst hu; exact cell_new1 _ _ _
  · simp at hu
end Go.Proofs.YtlblbdfpcaplkaaGreatDoor
