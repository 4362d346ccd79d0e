/- Memory: what lay there when a call began lies there still; rows of things of k cells each, as slices and as rows of one's own. For walks that need no text. -/
import Derived.Test.YtokicaacllaijaaProg
import Derived.WalkKit
import Derived.WalkSpells
import Derived.WalkLawsBesides
import Derived.BigQuiet
import Derived.Below
import Derived.Deep.QuietTactic
import Derived.Lib.Strings
import Derived.Deep.RegionWith
import Derived.Laws.AppendOwnNone
import Derived.Deep.AppendLies
import Derived.Deep.MidRow
namespace Go.Proofs.Ytokicaacllaijaa
open Go.RowKit
set_option linter.unusedVariables false
set_option linter.unusedSimpArgs false

/-- what lay in memory when the call began lies there still -/
def Bl (w0 w : World) : Prop := Below w0.heap.size w0 w
theorem Bl.refl (w : World) : Bl w w := Below.refl _ _
theorem Bl.step {w0 w w' : World} (h : Bl w0 w) (hb : Below w.heap.size w w') : Bl w0 w' := Below.trans h (hb.mono (Below.size h))
theorem Bl.drewN {w0 w : World} (h : Bl w0 w) (n : Nat) : Bl w0 (w.drewN n) := ⟨h.os, h.tape, h.output, h.size, h.block⟩
theorem Bl.drew {w0 w : World} (h : Bl w0 w) : Bl w0 w.drew := ⟨h.os, h.tape, h.output, h.size, h.block⟩
theorem Bl.alloc {w0 w : World} (h : Bl w0 w) (o : Obj) : Bl w0 (w.alloc o) := Below.alloc h (Below.size h) o
theorem Bl.cell {w0 w : World} (h : Bl w0 w) {b o : Nat} (hb : b < w0.heap.size) : w.cell? ⟨b, o, none⟩ = w0.cell? ⟨b, o, none⟩ := Below.cell (p := ⟨b, o, none⟩) h hb
theorem lt_heap {W : World} {b : Nat} {o : Obj} (h : W.heap[b]? = some o) : b < W.heap.size := by
  rcases Nat.lt_or_ge b W.heap.size with h' | h'
  · exact h'
  · rw [Array.getElem?_eq_none h'] at h; simp at h
theorem owns_ge {N n : Nat} {W : World} {e : TypeId} {k : Nat} {v : Value} {xs : List Value} (h : W.ownsRow N e k v n xs) {g : Nat} (hg : v.ownBlock = some g) : N ≤ g ∧ g < W.heap.size := by
  obtain ⟨h0, ⟨h1, _⟩ | ⟨g', cap, cur, h1, h2, h3, h4⟩⟩ := h
  · subst h1; cases hg
  · subst h1
    cases hg
    exact ⟨h2, lt_heap h3⟩
theorem info_partsT {o : Option TypeInfo} {z : Option Value} {s b : Nat} (h : o.map (fun i => (i.zero, i.size, i.bytes)) = some (z, s, b)) : ∃ i, o = some i ∧ i.zero = z ∧ i.size = s ∧ i.bytes = b := by
  cases o with
  | none => simp at h
  | some i => simp at h; exact ⟨i, rfl, h.1, h.2.1, h.2.2⟩
/-- all memory that there was is as it was, but for the block b -/
structure Of1 (b : Nat) (w w' : World) : Prop where
  os : w'.os = w.os
  tape : w'.tape = w.tape
  output : w'.output = w.output
  size : w.heap.size ≤ w'.heap.size
  block : ∀ k, k < w.heap.size → k ≠ b → w'.heap[k]? = w.heap[k]?
theorem Of1.refl (b : Nat) (w : World) : Of1 b w w := ⟨rfl, rfl, rfl, Nat.le_refl _, fun _ _ _ => rfl⟩
theorem Of1.trans {b : Nat} {w w' w'' : World} (h : Of1 b w w') (k : Of1 b w' w'') : Of1 b w w'' :=
  ⟨k.os.trans h.os, k.tape.trans h.tape, k.output.trans h.output, Nat.le_trans h.size k.size, fun i hi hb => (k.block i (Nat.lt_of_lt_of_le hi h.size) hb).trans (h.block i hi hb)⟩
theorem Of1.of_bl {b : Nat} {w w' : World} (h : Bl w w') : Of1 b w w' := ⟨h.os, h.tape, h.output, h.size, fun k hk _ => h.block k hk⟩
theorem Of1.of_grown {b : Nat} {w w' : World} (h : w.grownBy w' (some b)) : Of1 b w w' := ⟨h.os, h.tape, h.output, h.size, fun k hk hb => h.block k hk (fun e => hb (Option.some.inj e))⟩
theorem Of1.bl {b : Nat} {w w' W : World} (h : Of1 b w w') (hb : Bl W w) (hB : W.heap.size ≤ b) : Bl W w' :=
  ⟨h.os.trans hb.os, h.tape.trans hb.tape, h.output.trans hb.output, Nat.le_trans hb.size h.size, fun k hk => (h.block k (Nat.lt_of_lt_of_le hk hb.size) (by omega)).trans (hb.block k hk)⟩

/-- how a thing lies in cells -/
structure Lay (α : Type) where
  k : Nat
  f : α → List Value
  len : ∀ x, (f x).length = k
  one : ∀ x, ∀ u ∈ f x, u.oneCell' = true
  pos : 0 < k
/-- things as a slice -/
def RS {α : Type} (E : Lay α) (W : World) (a : Option Addr) (l : List α) : Prop := ∀ (i : Nat) (x : α), l[i]? = some x → ∃ b off, a = some ⟨b, off, none⟩ ∧ b < W.heap.size ∧ W.rangeAt b (off + i * E.k) (E.f x)
theorem RS.bl {α : Type} {E : Lay α} {w W : World} {a : Option Addr} {l : List α} (h : RS E w a l) (hb : Bl w W) : RS E W a l := fun i x hx => by
  obtain ⟨b, off, h1, h2, h3⟩ := h i x hx
  exact ⟨b, off, h1, by have := Below.size hb; omega, fun j v hv => by rw [Bl.cell hb h2]; exact h3 j v hv⟩
/-- a row of cells lies where it lay, though another block turned -/
theorem RS.offs {α : Type} {E : Lay α} {w W : World} {a : Option Addr} {l : List α} {b : Nat} (h : RS E w a l) (hb : Of1 b w W) (hn : ∀ off, l ≠ [] → a ≠ some ⟨b, off, none⟩) : RS E W a l := fun i x hx => by
  obtain ⟨b', off, h1, h2, h3⟩ := h i x hx
  have hne : b' ≠ b := fun e => by
    subst e
    exact hn off (by intro e; subst e; simp at hx) h1
  exact ⟨b', off, h1, by have := hb.size; omega, fun j v hv => by rw [World.cell?_of_block (w := w) (hb.block b' h2 hne)]; exact h3 j v hv⟩
theorem RS.off {α : Type} {E : Lay α} {w W : World} {a : Option Addr} {l : List α} {b : Nat} (h : RS E w a l) (hb : Of1 b w W) {es : Array MapEntry} {c : Nat} (hn : w.heap[b]? = some (.map es c)) : RS E W a l := h.offs hb (fun off hl e => by
  obtain ⟨x, r, rfl⟩ := List.exists_cons_of_ne_nil hl
  obtain ⟨b', off', h1, h2, h3⟩ := h 0 x rfl
  rw [e] at h1
  have e2 : b' = b := by simp only [Option.some.injEq, Addr.mk.injEq] at h1; exact h1.1.symm
  subst e2
  have hl := E.len x
  have hk := E.pos
  have h0 := h3 0 ((E.f x)[0]'(by omega)) (List.getElem?_eq_getElem _)
  unfold World.cell? at h0
  simp [hn] at h0)
theorem RS.take {α : Type} {E : Lay α} {w : World} {a : Option Addr} {l : List α} (h : RS E w a l) (k : Nat) : RS E w a (l.take k) := fun i x hx => by
  refine h i x ?_
  rw [List.getElem?_take] at hx
  split at hx
  · exact hx
  · cases hx
theorem RS.one {α : Type} (E : Lay α) (W : World) (t : TypeId) (x : α) : RS E (W.alloc (.cells (E.f x).toArray t)) (some ⟨W.heap.size, 0, none⟩) [x] := fun i y hy => by
  cases i with
  | zero =>
    simp at hy; subst hy
    exact ⟨W.heap.size, 0, rfl, by simp, fun j v hv => by rw [Lib.cell_of_heap (heap_alloc_new W _)]; simpa using hv⟩
  | succ i => simp at hy
theorem RS.nil {α : Type} (E : Lay α) (W : World) (a : Option Addr) : RS E W a [] := fun i x hx => by simp at hx
def flG {α : Type} (E : Lay α) (L : List α) : List Value := L.flatMap E.f
theorem flG_app {α : Type} (E : Lay α) (A B : List α) : flG E (A ++ B) = flG E A ++ flG E B := by simp [flG]
theorem flG_len {α : Type} (E : Lay α) : ∀ L : List α, (flG E L).length = L.length * E.k
  | [] => by simp [flG]
  | d :: r => by
    have hr := flG_len E r
    unfold flG at hr ⊢
    rw [List.flatMap_cons, List.length_append, E.len, hr, List.length_cons, Nat.add_mul]; omega
theorem flG_at {α : Type} (E : Lay α) : ∀ (L : List α) {i : Nat} {d : α}, L[i]? = some d → ∃ a z, flG E L = a ++ (E.f d ++ z) ∧ a.length = i * E.k
  | [], i, d, h => by simp at h
  | x :: r, i, d, h => by
    cases i with
    | zero =>
      simp at h; subst h
      exact ⟨[], flG E r, rfl, by simp⟩
    | succ i =>
      have h' : r[i]? = some d := by simpa using h
      obtain ⟨a, z, h1, h2⟩ := flG_at E r h'
      refine ⟨E.f x ++ a, z, ?_, by rw [List.length_append, E.len, h2, Nat.add_mul]; omega⟩
      unfold flG at h1 ⊢
      rw [List.flatMap_cons, h1, List.append_assoc]
theorem flG_one {α : Type} (E : Lay α) (L : List α) : ∀ u ∈ flG E L, u.oneCell' = true := fun u hu => by
  unfold flG at hu
  obtain ⟨r, _, hr⟩ := List.mem_flatMap.1 hu
  exact E.one r u hr
/-- a row of one's own, read as a slice -/
theorem owns_rs {α : Type} (E : Lay α) {N : Nat} {W : World} {T : TypeId} {v : Value} {ks : List α} (h : W.ownsRow N T E.k v ks.length (flG E ks)) : ∃ a c, v = .slice a ks.length c ∧ RS E W a ks := by
  obtain ⟨h0, ⟨h1, h2⟩ | ⟨g, cap, cur, h1, h2, h3, h4, h5, h6, h7⟩⟩ := h
  · subst h1
    rw [h2]
    exact ⟨none, 0, rfl, fun i r hr => by have := (List.getElem?_eq_some_iff.1 hr).1; omega⟩
  · subst h1
    refine ⟨some ⟨g, 0, none⟩, cap, rfl, fun i r hr => ?_⟩
    refine ⟨g, 0, rfl, lt_heap h3, fun j u hu => ?_⟩
    obtain ⟨a, z, e1, e2⟩ := flG_at E ks hr
    have hi : i < ks.length := (List.getElem?_eq_some_iff.1 hr).1
    have hrl := E.len r
    have hj : j < E.k := by have := (List.getElem?_eq_some_iff.1 hu).1; omega
    have hij : i * E.k + j < ks.length * E.k := by
      have : (i + 1) * E.k ≤ ks.length * E.k := Nat.mul_le_mul_right _ hi
      rw [Nat.add_mul] at this; omega
    rw [Lib.cell_of_heap h3, Nat.zero_add, ← Array.getElem?_toList]
    have e3 : (cur.toList.take (ks.length * E.k))[i * E.k + j]? = cur.toList[i * E.k + j]? := by rw [List.getElem?_take, if_pos hij]
    rw [← e3, h7, e1, List.getElem?_append_right (by omega), e2, Nat.add_sub_cancel_left, List.getElem?_append_left (by omega)]
    exact hu
theorem ownsRow_bl {B n k : Nat} {e : TypeId} {v : Value} {xs : List Value} {w w' : World} (h : w.ownsRow B e k v n xs) (hb : Below w.heap.size w w') : w'.ownsRow B e k v n xs := by
  obtain ⟨h0, h1 | ⟨g, cap, cur, h1, h2, h3, h4⟩⟩ := h
  · exact ⟨h0, Or.inl h1⟩
  · exact ⟨h0, Or.inr ⟨g, cap, cur, h1, h2, by rw [hb.block g (lt_heap h3)]; exact h3, h4⟩⟩
/-- one more is appended to a row of one's own -/
theorem wl_app1G {α : Type} (E : Lay α) {ops : Array Oper} {rest : List Oper} {o : Oper} {a : Act} {w W U : World} {Q : Exit → Act → World → Prop} (T TS : TypeId) (z : Value) (bytes : Nat)
    (hund : Try.prog.underlying TS = some (.slice T)) (hinfo : (Try.prog.info? T).map (fun i => (i.zero, i.size, i.bytes)) = some (some z, E.k, bytes)) (hzc : z.cells.size = E.k) (hby : bytes ≤ 4096)
    (hgd : o.guard = none) (s x : Operand) (ho : o.op = .call { callee := .builtin .append, args := #[s, x], argTypes := #[TS, TS] }) (n : Nat) (ks : List α) (hnk : n = ks.length) (t : α) (v : Value) (hs : a.eval s = v) (hb : Bl w W) (hown : W.ownsRow w.heap.size T E.k v n (flG E ks))
    (hx : a.eval x = .slice (some ⟨W.heap.size, 0, none⟩) 1 1) (hn : n ≤ 90000)
    (h : ∀ a' c' w', w'.ownsRow w.heap.size T E.k (.slice a' (n + 1) c') (n + 1) (flG E (ks ++ [t])) → Bl w w' → W.grownBy w' v.ownBlock → wpList Try.prog ops Q rest (a.put o.dst (.slice a' (n + 1) c')) w') (C : Array Value) (hC : C = (E.f t).toArray) (hU : U = W.alloc (.cells C T)) : wpList Try.prog ops Q (o :: rest) a U := by
  subst hnk hU hC
  obtain ⟨i0, hi0, hz0, hz1, hz2⟩ := info_partsT hinfo
  have hsz : w.heap.size ≤ (W.alloc (.cells (E.f t).toArray T)).heap.size := by
    have := Below.size hb; simp; omega
  have hk := E.pos
  refine wpList_append_lies _ hgd s x TS ho w.heap.size T i0 z E.k bytes hund hi0 hz0 hz1 hz2 hzc ?_ v ks.length (flG E ks) hs (ownsRow_bl hown ((Bl.refl W).alloc _)) ⟨W.heap.size, 0, none⟩ 1 1 (E.f t) hx (by rw [E.len]; omega) (fun j u hu => ?_) (E.one t) (by omega) (by unfold maxLen; omega) ?_ hsz _ rfl (fun g cap w' h1 h2 h3 h4 => ?_)
  · omega
  · rw [Addr.add_mid, Lib.cell_of_heap (heap_alloc_new W _), Nat.zero_add]
    simpa using hu
  · have : (ks.length + 1) * bytes ≤ 90001 * 4096 := Nat.mul_le_mul (by omega) hby
    omega
  · refine h _ _ w' (by rw [flG_app]; simpa [flG] using h1) (Below.grown (hb.alloc _) h2 hsz (fun q hq => (owns_ge hown hq).1)) ?_
    exact (World.grownBy_alloc W _ _).trans h2
end Go.Proofs.Ytokicaacllaijaa
