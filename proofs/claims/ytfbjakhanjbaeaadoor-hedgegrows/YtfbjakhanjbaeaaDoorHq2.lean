/- The texts HgB HgR HgO HgX as one. -/
import Derived.Test.YtfbjakhanjbaeaaDoorLaid
import Derived.Test.YtfbjakhanjbaeaaDoorRegT
import Derived.Deep.AppendLies
import Derived.Laws.AppendOwnNone
import Derived.Deep.RegionWith
import Derived.Deep.MidRow
import Derived.Deep.QuietTactic
import Derived.Sort.Grow
import Derived.Lib.OwnBridge
import Derived.Shelf.SlSortCmp.InsertionK
import Derived.Lib.Strings
import Derived.BigQuiet
import Derived.WalkSpells
import Derived.WalkLawsBesides
import Derived.Great.BuildSlice
import Derived.Laws.StructEq
import Derived.Laws.Tables
import Derived.Laws.CopyOwn
import Derived.Deep.CutBlock
import Derived.Deep.DeepCutAuto
/- Rows of things and the sort's worlds, beside texts and digests. -/
namespace Go.Proofs.YtfbjakhanjbaeaaDoor
open Go.RowKit Go.Maps Go.Sort Go.Shelf
set_option linter.unusedVariables false
set_option linter.unusedSimpArgs false

theorem Bl.drew {w0 w : World} (h : Bl w0 w) : Bl w0 w.drew := ⟨h.os, h.tape, h.output, h.size, h.block⟩
theorem lt_heap {W : World} {b : Nat} {o : Obj} (h : W.heap[b]? = some o) : b < W.heap.size := by
  rcases Nat.lt_or_ge b W.heap.size with h' | h'
  · exact h'
  · rw [Array.getElem?_eq_none h'] at h; simp at h
theorem owns_ge {N n : Nat} {W : World} {e : TypeId} {k : Nat} {v : Value} {xs : List Value} (h : W.ownsRow N e k v n xs) {g : Nat} (hg : v.ownBlock = some g) : N ≤ g ∧ g < W.heap.size := by
  obtain ⟨h0, ⟨h1, _⟩ | ⟨g', cap, cur, h1, h2, h3, h4⟩⟩ := h
  · subst h1; cases hg
  · subst h1
    cases hg
    exact ⟨h2, lt_heap h3⟩
theorem info_partsT {o : Option TypeInfo} {z : Option Value} {s b : Nat} (h : o.map (fun i => (i.zero, i.size, i.bytes)) = some (z, s, b)) : ∃ i, o = some i ∧ i.zero = z ∧ i.size = s ∧ i.bytes = b := by
  cases o with
  | none => simp at h
  | some i => simp at h; exact ⟨i, rfl, h.1, h.2.1, h.2.2⟩
/-- all memory that there was is as it was, but for the block b -/
structure Of1 (b : Nat) (w w' : World) : Prop where
  os : w'.os = w.os
  tape : w'.tape = w.tape
  output : w'.output = w.output
  size : w.heap.size ≤ w'.heap.size
  block : ∀ k, k < w.heap.size → k ≠ b → w'.heap[k]? = w.heap[k]?
theorem Of1.refl (b : Nat) (w : World) : Of1 b w w := ⟨rfl, rfl, rfl, Nat.le_refl _, fun _ _ _ => rfl⟩
theorem Of1.trans {b : Nat} {w w' w'' : World} (h : Of1 b w w') (k : Of1 b w' w'') : Of1 b w w'' :=
  ⟨k.os.trans h.os, k.tape.trans h.tape, k.output.trans h.output, Nat.le_trans h.size k.size, fun i hi hb => (k.block i (Nat.lt_of_lt_of_le hi h.size) hb).trans (h.block i hi hb)⟩
theorem Of1.of_bl {b : Nat} {w w' : World} (h : Bl w w') : Of1 b w w' := ⟨h.os, h.tape, h.output, h.size, fun k hk _ => h.block k hk⟩
theorem Of1.of_grown {b : Nat} {w w' : World} (h : w.grownBy w' (some b)) : Of1 b w w' := ⟨h.os, h.tape, h.output, h.size, fun k hk hb => h.block k hk (fun e => hb (Option.some.inj e))⟩
theorem Of1.bl {b : Nat} {w w' W : World} (h : Of1 b w w') (hb : Bl W w) (hB : W.heap.size ≤ b) : Bl W w' :=
  ⟨h.os.trans hb.os, h.tape.trans hb.tape, h.output.trans hb.output, Nat.le_trans hb.size h.size, fun k hk => (h.block k (Nat.lt_of_lt_of_le hk hb.size) (by omega)).trans (hb.block k hk)⟩
/-- how a thing lies in cells -/
structure Lay (α : Type) where
  k : Nat
  f : α → List Value
  len : ∀ x, (f x).length = k
  one : ∀ x, ∀ u ∈ f x, u.oneCell' = true
  pos : 0 < k
/-- things as a slice -/
def RS {α : Type} (E : Lay α) (W : World) (a : Option Addr) (l : List α) : Prop := ∀ (i : Nat) (x : α), l[i]? = some x → ∃ b off, a = some ⟨b, off, none⟩ ∧ b < W.heap.size ∧ W.rangeAt b (off + i * E.k) (E.f x)
theorem RS.bl {α : Type} {E : Lay α} {w W : World} {a : Option Addr} {l : List α} (h : RS E w a l) (hb : Bl w W) : RS E W a l := fun i x hx => by
  obtain ⟨b, off, h1, h2, h3⟩ := h i x hx
  exact ⟨b, off, h1, by have := Below.size hb; omega, fun j v hv => by rw [Bl.cell hb h2]; exact h3 j v hv⟩
/-- a row of cells lies where it lay, though another block turned -/
theorem RS.offs {α : Type} {E : Lay α} {w W : World} {a : Option Addr} {l : List α} {b : Nat} (h : RS E w a l) (hb : Of1 b w W) (hn : ∀ off, l ≠ [] → a ≠ some ⟨b, off, none⟩) : RS E W a l := fun i x hx => by
  obtain ⟨b', off, h1, h2, h3⟩ := h i x hx
  have hne : b' ≠ b := fun e => by
    subst e
    exact hn off (by intro e; subst e; simp at hx) h1
  exact ⟨b', off, h1, by have := hb.size; omega, fun j v hv => by rw [World.cell?_of_block (w := w) (hb.block b' h2 hne)]; exact h3 j v hv⟩
theorem RS.off {α : Type} {E : Lay α} {w W : World} {a : Option Addr} {l : List α} {b : Nat} (h : RS E w a l) (hb : Of1 b w W) {es : Array MapEntry} {c : Nat} (hn : w.heap[b]? = some (.map es c)) : RS E W a l := h.offs hb (fun off hl e => by
  obtain ⟨x, r, rfl⟩ := List.exists_cons_of_ne_nil hl
  obtain ⟨b', off', h1, h2, h3⟩ := h 0 x rfl
  rw [e] at h1
  have e2 : b' = b := by simp only [Option.some.injEq, Addr.mk.injEq] at h1; exact h1.1.symm
  subst e2
  have hl := E.len x
  have hk := E.pos
  have h0 := h3 0 ((E.f x)[0]'(by omega)) (List.getElem?_eq_getElem _)
  unfold World.cell? at h0
  simp [hn] at h0)
theorem RS.take {α : Type} {E : Lay α} {w : World} {a : Option Addr} {l : List α} (h : RS E w a l) (k : Nat) : RS E w a (l.take k) := fun i x hx => by
  refine h i x ?_
  rw [List.getElem?_take] at hx
  split at hx
  · exact hx
  · cases hx
theorem RS.one {α : Type} (E : Lay α) (W : World) (t : TypeId) (x : α) : RS E (W.alloc (.cells (E.f x).toArray t)) (some ⟨W.heap.size, 0, none⟩) [x] := fun i y hy => by
  cases i with
  | zero =>
    simp at hy; subst hy
    exact ⟨W.heap.size, 0, rfl, by simp, fun j v hv => by rw [Lib.cell_of_heap (heap_alloc_new W _)]; simpa using hv⟩
  | succ i => simp at hy
theorem RS.nil {α : Type} (E : Lay α) (W : World) (a : Option Addr) : RS E W a [] := fun i x hx => by simp at hx
def flG {α : Type} (E : Lay α) (L : List α) : List Value := L.flatMap E.f
theorem flG_app {α : Type} (E : Lay α) (A B : List α) : flG E (A ++ B) = flG E A ++ flG E B := by simp [flG]
theorem flG_len {α : Type} (E : Lay α) : ∀ L : List α, (flG E L).length = L.length * E.k
  | [] => by simp [flG]
  | d :: r => by
    have hr := flG_len E r
    unfold flG at hr ⊢
    rw [List.flatMap_cons, List.length_append, E.len, hr, List.length_cons, Nat.add_mul]; omega
theorem flG_at {α : Type} (E : Lay α) : ∀ (L : List α) {i : Nat} {d : α}, L[i]? = some d → ∃ a z, flG E L = a ++ (E.f d ++ z) ∧ a.length = i * E.k
  | [], i, d, h => by simp at h
  | x :: r, i, d, h => by
    cases i with
    | zero =>
      simp at h; subst h
      exact ⟨[], flG E r, rfl, by simp⟩
    | succ i =>
      have h' : r[i]? = some d := by simpa using h
      obtain ⟨a, z, h1, h2⟩ := flG_at E r h'
      refine ⟨E.f x ++ a, z, ?_, by rw [List.length_append, E.len, h2, Nat.add_mul]; omega⟩
      unfold flG at h1 ⊢
      rw [List.flatMap_cons, h1, List.append_assoc]
theorem flG_one {α : Type} (E : Lay α) (L : List α) : ∀ u ∈ flG E L, u.oneCell' = true := fun u hu => by
  unfold flG at hu
  obtain ⟨r, _, hr⟩ := List.mem_flatMap.1 hu
  exact E.one r u hr
/-- a row of one's own, read as a slice -/
theorem owns_rs {α : Type} (E : Lay α) {N : Nat} {W : World} {T : TypeId} {v : Value} {ks : List α} (h : W.ownsRow N T E.k v ks.length (flG E ks)) : ∃ a c, v = .slice a ks.length c ∧ RS E W a ks := by
  obtain ⟨h0, ⟨h1, h2⟩ | ⟨g, cap, cur, h1, h2, h3, h4, h5, h6, h7⟩⟩ := h
  · subst h1
    rw [h2]
    exact ⟨none, 0, rfl, fun i r hr => by have := (List.getElem?_eq_some_iff.1 hr).1; omega⟩
  · subst h1
    refine ⟨some ⟨g, 0, none⟩, cap, rfl, fun i r hr => ?_⟩
    refine ⟨g, 0, rfl, lt_heap h3, fun j u hu => ?_⟩
    obtain ⟨a, z, e1, e2⟩ := flG_at E ks hr
    have hi : i < ks.length := (List.getElem?_eq_some_iff.1 hr).1
    have hrl := E.len r
    have hj : j < E.k := by have := (List.getElem?_eq_some_iff.1 hu).1; omega
    have hij : i * E.k + j < ks.length * E.k := by
      have : (i + 1) * E.k ≤ ks.length * E.k := Nat.mul_le_mul_right _ hi
      rw [Nat.add_mul] at this; omega
    rw [Lib.cell_of_heap h3, Nat.zero_add, ← Array.getElem?_toList]
    have e3 : (cur.toList.take (ks.length * E.k))[i * E.k + j]? = cur.toList[i * E.k + j]? := by rw [List.getElem?_take, if_pos hij]
    rw [← e3, h7, e1, List.getElem?_append_right (by omega), e2, Nat.add_sub_cancel_left, List.getElem?_append_left (by omega)]
    exact hu
theorem ownsRow_bl {B n k : Nat} {e : TypeId} {v : Value} {xs : List Value} {w w' : World} (h : w.ownsRow B e k v n xs) (hb : Below w.heap.size w w') : w'.ownsRow B e k v n xs := by
  obtain ⟨h0, h1 | ⟨g, cap, cur, h1, h2, h3, h4⟩⟩ := h
  · exact ⟨h0, Or.inl h1⟩
  · exact ⟨h0, Or.inr ⟨g, cap, cur, h1, h2, by rw [hb.block g (lt_heap h3)]; exact h3, h4⟩⟩
/-- one more is appended to a row of one's own -/
theorem wl_app1G {α : Type} (E : Lay α) {ops : Array Oper} {rest : List Oper} {o : Oper} {a : Act} {w W U : World} {Q : Exit → Act → World → Prop} (T TS : TypeId) (z : Value) (bytes : Nat)
    (hund : Tryd.prog.underlying TS = some (.slice T)) (hinfo : (Tryd.prog.info? T).map (fun i => (i.zero, i.size, i.bytes)) = some (some z, E.k, bytes)) (hzc : z.cells.size = E.k) (hby : bytes ≤ 4096)
    (hgd : o.guard = none) (s x : Operand) (ho : o.op = .call { callee := .builtin .append, args := #[s, x], argTypes := #[TS, TS] }) (n : Nat) (ks : List α) (hnk : n = ks.length) (t : α) (v : Value) (hs : a.eval s = v) (hb : Bl w W) (hown : W.ownsRow w.heap.size T E.k v n (flG E ks))
    (hx : a.eval x = .slice (some ⟨W.heap.size, 0, none⟩) 1 1) (hn : n ≤ 90000)
    (h : ∀ a' c' w', w'.ownsRow w.heap.size T E.k (.slice a' (n + 1) c') (n + 1) (flG E (ks ++ [t])) → Bl w w' → W.grownBy w' v.ownBlock → wpList Tryd.prog ops Q rest (a.put o.dst (.slice a' (n + 1) c')) w') (C : Array Value) (hC : C = (E.f t).toArray) (hU : U = W.alloc (.cells C T)) : wpList Tryd.prog ops Q (o :: rest) a U := by
  subst hnk hU hC
  obtain ⟨i0, hi0, hz0, hz1, hz2⟩ := info_partsT hinfo
  have hsz : w.heap.size ≤ (W.alloc (.cells (E.f t).toArray T)).heap.size := by
    have := Below.size hb; simp; omega
  have hk := E.pos
  refine wpList_append_lies _ hgd s x TS ho w.heap.size T i0 z E.k bytes hund hi0 hz0 hz1 hz2 hzc ?_ v ks.length (flG E ks) hs (ownsRow_bl hown ((Bl.refl W).alloc _)) ⟨W.heap.size, 0, none⟩ 1 1 (E.f t) hx (by rw [E.len]; omega) (fun j u hu => ?_) (E.one t) (by omega) (by unfold maxLen; omega) ?_ hsz _ rfl (fun g cap w' h1 h2 h3 h4 => ?_)
  · omega
  · rw [Addr.add_mid, Lib.cell_of_heap (heap_alloc_new W _), Nat.zero_add]
    simpa using hu
  · have : (ks.length + 1) * bytes ≤ 90001 * 4096 := Nat.mul_le_mul (by omega) hby
    omega
  · refine h _ _ w' (by rw [flG_app]; simpa [flG] using h1) (Below.grown (hb.alloc _) h2 hsz (fun q hq => (owns_ge hown hq).1)) ?_
    exact (World.grownBy_alloc W _ _).trans h2
def lyI : Lay Int := ⟨1, fun m => [.int .i64 m], fun _ => rfl, fun x u hu => by simp at hu; subst hu; rfl, by decide⟩
/-- a number that an int holds -/
def i64 (k : Int) : Prop := -9223372036854775808 ≤ k ∧ k ≤ 9223372036854775807
theorem wl_midG {P : Program} {ops : Array Oper} {rest : List Oper} {o : Oper} {a : Act} {w : World} {Q : Exit → Act → World → Prop} (hw : Region.wanted o (yielded ops a.tmps) = true) (ty : TypeId) (x : Operand) (ho : o.op = .load ty x)
    (b q : Nat) (hx : a.eval x = .pointer (some ⟨b, q, none⟩)) (cs : List Value) (d : TypeDesc) (hc : w.rangeAt b q cs)
    (hu : P.underlying ty = some d) (hd : d.isRow = true) (hi : (P.info? ty).map (·.size) = some cs.length)
    (h : wpList P ops Q rest (a.put o.dst (.agg cs.toArray)) w) : wpList P ops Q (o :: rest) a w :=
  wpList_step fun _ hK => by rw [if_pos hw]; exact wp_load_mid ty x ho b q hx cs d hc hu hd hi (hK _ _ h)
/-- one more is appended to a row of one's own -/
theorem wl_app1N {α : Type} (E : Lay α) {ops : Array Oper} {rest : List Oper} {o : Oper} {a : Act} {W U : World} {Q : Exit → Act → World → Prop} (T TS : TypeId) (z : Value) (bytes : Nat)
    (hund : Tryd.prog.underlying TS = some (.slice T)) (hinfo : (Tryd.prog.info? T).map (fun i => (i.zero, i.size, i.bytes)) = some (some z, E.k, bytes)) (hzc : z.cells.size = E.k) (hby : bytes ≤ 4096)
    (hgd : o.guard = none) (s x : Operand) (ho : o.op = .call { callee := .builtin .append, args := #[s, x], argTypes := #[TS, TS] }) (B n : Nat) (ks : List α) (hnk : n = ks.length) (t : α) (v : Value) (hs : a.eval s = v) (hB : B ≤ W.heap.size) (hown : W.ownsRow B T E.k v n (flG E ks))
    (hx : a.eval x = .slice (some ⟨W.heap.size, 0, none⟩) 1 1) (hn : n ≤ 90000)
    (h : ∀ a' c' w', w'.ownsRow B T E.k (.slice a' (n + 1) c') (n + 1) (flG E (ks ++ [t])) → W.grownBy w' v.ownBlock → wpList Tryd.prog ops Q rest (a.put o.dst (.slice a' (n + 1) c')) w') (C : Array Value) (hC : C = (E.f t).toArray) (hU : U = W.alloc (.cells C T)) : wpList Tryd.prog ops Q (o :: rest) a U := by
  subst hnk hU hC
  obtain ⟨i0, hi0, hz0, hz1, hz2⟩ := info_partsT hinfo
  have hsz : B ≤ (W.alloc (.cells (E.f t).toArray T)).heap.size := by simp; omega
  have hk := E.pos
  refine wpList_append_lies _ hgd s x TS ho B T i0 z E.k bytes hund hi0 hz0 hz1 hz2 hzc ?_ v ks.length (flG E ks) hs (ownsRow_bl hown ((Bl.refl W).alloc _)) ⟨W.heap.size, 0, none⟩ 1 1 (E.f t) hx (by rw [E.len]; omega) (fun j u hu => ?_) (E.one t) (by omega) (by unfold maxLen; omega) ?_ hsz _ rfl (fun g cap w' h1 h2 h3 h4 => ?_)
  · omega
  · rw [Addr.add_mid, Lib.cell_of_heap (heap_alloc_new W _), Nat.zero_add]
    simpa using hu
  · have : (ks.length + 1) * bytes ≤ 90001 * 4096 := Nat.mul_le_mul (by omega) hby
    omega
  · refine h _ _ w' (by rw [flG_app]; simpa [flG] using h1) ?_
    exact (World.grownBy_alloc W _ _).trans h2
/-- one more is appended to a row of one's own; the new block's number by a name of its own -/
theorem wl_app1M {α : Type} (E : Lay α) {ops : Array Oper} {rest : List Oper} {o : Oper} {a : Act} {w W U : World} {Q : Exit → Act → World → Prop} (T TS : TypeId) (z : Value) (bytes : Nat)
    (hund : Tryd.prog.underlying TS = some (.slice T)) (hinfo : (Tryd.prog.info? T).map (fun i => (i.zero, i.size, i.bytes)) = some (some z, E.k, bytes)) (hzc : z.cells.size = E.k) (hby : bytes ≤ 4096)
    (hgd : o.guard = none) (s x : Operand) (ho : o.op = .call { callee := .builtin .append, args := #[s, x], argTypes := #[TS, TS] }) (n : Nat) (ks : List α) (hnk : n = ks.length) (t : α) (v : Value) (hs : a.eval s = v) (hb : Bl w W) (hown : W.ownsRow w.heap.size T E.k v n (flG E ks))
    (N : Nat) (hN : N = W.heap.size) (hx : a.eval x = .slice (some ⟨N, 0, none⟩) 1 1) (hn : n ≤ 90000)
    (h : ∀ a' c' w', w'.ownsRow w.heap.size T E.k (.slice a' (n + 1) c') (n + 1) (flG E (ks ++ [t])) → Bl w w' → W.grownBy w' v.ownBlock → wpList Tryd.prog ops Q rest (a.put o.dst (.slice a' (n + 1) c')) w') (C : Array Value) (hC : C = (E.f t).toArray) (hU : U = W.alloc (.cells C T)) : wpList Tryd.prog ops Q (o :: rest) a U := by
  subst hN
  exact wl_app1G E T TS z bytes hund hinfo hzc hby hgd s x ho n ks hnk t v hs hb hown hx hn h C hC hU
theorem infoI3 : (Tryd.prog.info? 3).map (fun i => (i.zero, i.size, i.bytes)) = some (some (.int .i64 0), 1, 8) := by kernel_rfl
theorem hidI {p : Prop} (h : p) : Hid p := h
/-- one int of a slice -/
theorem RS.at1 {W : World} {a : Option Addr} {l : List Int} (h : RS lyI W a l) {k : Nat} {x : Int} (hk : l[k]? = some x) : ∃ b off, a = some ⟨b, off, none⟩ ∧ b < W.heap.size ∧ W.cell? ⟨b, off + k, none⟩ = some (.int .i64 x) := by
  obtain ⟨b, off, h1, h2, h3⟩ := h k x hk
  refine ⟨b, off, h1, h2, ?_⟩
  have := h3 0 (.int .i64 x) rfl
  have e : off + k * lyI.k + 0 = off + k := by show off + k * 1 + 0 = _; omega
  rw [e] at this; exact this
/-- the first place; -1: none -/
def idxN (p : Int → Bool) (l : List Int) : Int := match l.findIdx? p with | some i => (i : Int) | none => -1
theorem idxN_of {p : Int → Bool} {es : List Int} {k : Nat} (h1 : ∀ i e, i < k → es[i]? = some e → p e = false) {e : Int} (he : es[k]? = some e) (h2 : p e = true) : idxN p es = (k : Int) := by
  unfold idxN
  have hk : k < es.length := (List.getElem?_eq_some_iff.1 he).1
  have : es.findIdx? p = some k := by
    rw [List.findIdx?_eq_some_iff_getElem]
    refine ⟨hk, ?_, fun j hj => ?_⟩
    · rw [List.getElem?_eq_getElem hk] at he
      rw [Option.some.inj he]; exact h2
    · have := h1 j es[j] hj (List.getElem?_eq_getElem (by omega))
      rw [this]; decide
  rw [this]
theorem idxN_none {p : Int → Bool} {es : List Int} (h1 : ∀ i e, i < es.length → es[i]? = some e → p e = false) : idxN p es = -1 := by
  unfold idxN
  have : es.findIdx? p = none := by
    rw [List.findIdx?_eq_none_iff]
    intro e he
    obtain ⟨i, hi, rfl⟩ := List.getElem_of_mem he
    exact h1 i es[i] hi (List.getElem?_eq_getElem hi)
  rw [this]
theorem idxN_cases (p : Int → Bool) (es : List Int) : (idxN p es = -1 ∧ ∀ e ∈ es, p e = false) ∨ ∃ (k : Nat) (e : Int), idxN p es = (k : Int) ∧ es[k]? = some e ∧ p e = true ∧ ∀ (i : Nat) x, i < k → es[i]? = some x → p x = false := by
  unfold idxN
  cases h : es.findIdx? p with
  | none => exact Or.inl ⟨rfl, by simpa using h⟩
  | some k =>
    obtain ⟨hk, h1, h2⟩ := List.findIdx?_eq_some_iff_getElem.1 h
    refine Or.inr ⟨k, es[k], rfl, List.getElem?_eq_getElem hk, h1, fun i x hi hx => ?_⟩
    have := h2 i hi
    rw [List.getElem?_eq_getElem (by omega)] at hx
    rw [← Option.some.inj hx]; simpa using this
theorem idxN_has (x : Int) (l : List Int) : decide (idxN (fun y => x == y) l ≥ 0) = l.contains x := by
  rcases idxN_cases (fun y => x == y) l with ⟨h, h2⟩ | ⟨k, e, h, h2, h3, _⟩
  · rw [h]
    have hf : l.contains x = false := by
     rw [Bool.eq_false_iff]
     intro hc
     rw [List.contains_iff_mem] at hc
     have := h2 x hc
     simp at this
    rw [hf]; rfl
  · rw [h]
    have hx : x = e := by simpa using h3
    subst hx
    have : l.contains x = true := by rw [List.contains_iff_mem]; exact List.mem_of_getElem? h2
    rw [this]; simp
/-- w', but for draws and new blocks, is w -/
def Gn (w w' : World) : Prop := ∃ (q : Nat) (os : Array Obj), w' = grow (w.drewN q) os
theorem grow_none (w : World) : grow w #[] = w := by simp [grow]
theorem drewN_grow (w : World) (os : Array Obj) : ∀ n, (grow w os).drewN n = grow (w.drewN n) os
  | 0 => rfl
  | n + 1 => by
    have h1 : (grow w os).drewN (n + 1) = ((grow w os).drewN n).drewN 1 := by rw [World.drewN_drewN]
    have h2 : w.drewN (n + 1) = (w.drewN n).drewN 1 := by rw [World.drewN_drewN]
    rw [h1, drewN_grow w os n, h2]
    rfl
theorem Gn.refl (w : World) : Gn w w := ⟨0, #[], by rw [grow_none]; rfl⟩
theorem Gn.alloc {w w' : World} (h : Gn w w') (o : Obj) : Gn w (w'.alloc o) := by
  obtain ⟨q, os, rfl⟩ := h
  exact ⟨q, os ++ #[o], by rw [alloc_eq_grow, grow_grow]⟩
theorem Gn.drewN {w w' : World} (h : Gn w w') (n : Nat) : Gn w (w'.drewN n) := by
  obtain ⟨q, os, rfl⟩ := h
  exact ⟨q + n, os, by rw [drewN_grow, World.drewN_drewN]⟩
theorem Gn.trans {w w' w'' : World} (h : Gn w w') (k : Gn w' w'') : Gn w w'' := by
  obtain ⟨q, os, rfl⟩ := h
  obtain ⟨p, os', rfl⟩ := k
  exact ⟨q + p, os ++ os', by rw [drewN_grow, World.drewN_drewN, grow_grow]⟩
theorem Gn.below {w w' : World} (h : Gn w w') : Below w.heap.size w w' := by
  obtain ⟨q, os, rfl⟩ := h
  have hb := (Bl.refl w).drewN q
  refine ⟨hb.os, hb.tape, hb.output, ?_, fun k hk => ?_⟩
  · show w.heap.size ≤ ((w.drewN q).heap ++ os).size
    have := hb.size
    rw [Array.size_append]; omega
  · show ((w.drewN q).heap ++ os)[k]? = _
    rw [Array.getElem?_append_left (by have := hb.size; omega)]
    exact hb.block k hk
def cmpI (a b : Int) : Int := if a < b then -1 else if b < a then 1 else 0
/-- a row of things as the sort's library has it -/
theorem flat_lay {α : Type} [Inhabited α] (E : Lay α) (L : List α) : flatK E.f E.k L.toArray = (flG E L).toArray := by
  have hl := flG_len E L
  have hk := E.pos
  apply Array.ext (by simp [hl])
  intro t h1 h2
  have ht : t < L.length * E.k := by simpa using h1
  have hq : t / E.k < L.length := by rw [Nat.div_lt_iff_lt_mul hk]; exact ht
  obtain ⟨a, z, e1, e2⟩ := flG_at E L (i := t / E.k) (d := L[t / E.k]) (List.getElem?_eq_getElem hq)
  have g1 := get_flatK E.f E.k L.toArray t (by simpa using ht)
  rw [getElem!_pos (flatK E.f E.k L.toArray) t h1] at g1
  rw [g1]
  have hD : L.toArray[t / E.k]! = L[t / E.k] := by rw [getElem!_pos _ _ (by simpa using hq)]; simp
  rw [hD]
  have hlen := E.len L[t / E.k]
  have hr : t % E.k < (E.f L[t / E.k]).length := by rw [hlen]; exact Nat.mod_lt _ hk
  rw [getElem!_pos (E.f L[t / E.k]) (t % E.k) hr]
  have hdm : t / E.k * E.k + t % E.k = t := by rw [Nat.mul_comm]; exact Nat.div_add_mod t E.k
  have e3 : (flG E L)[t]? = some ((E.f L[t / E.k])[t % E.k]) := by
    rw [e1, List.getElem?_append_right (by omega), e2, List.getElem?_append_left (by omega), show t - t / E.k * E.k = t % E.k by omega, List.getElem?_eq_getElem hr]
  have h2' : t < (flG E L).length := by simpa using h2
  rw [List.getElem?_eq_getElem h2'] at e3
  simpa using (Option.some.inj e3).symm
theorem holds_lay {α : Type} [Inhabited α] (E : Lay α) {W : World} {g : Nat} {cur : Array Value} {e : TypeId} (L : List α) (hb : W.heap[g]? = some (.cells cur e (0, 0))) (ht : cur.toList.take (L.length * E.k) = flG E L) : HoldsK E.f E.k W g 0 L.toArray := by
  intro j hj
  have hj' : j < L.length * E.k := by simpa using hj
  have hl := flG_len E L
  refine ⟨?_, by simp [World.frozen?, hb]⟩
  rw [Lib.cell_of_heap hb]
  have e1 : (flatK E.f E.k L.toArray)[j]! = (flG E L)[j]'(by omega) := by
    rw [flat_lay, getElem!_pos _ _ (by simp; omega)]; simp
  rw [id, e1]
  have e2 : (cur.toList.take (L.length * E.k))[j]? = cur.toList[j]? := by rw [List.getElem?_take, if_pos hj']
  rw [ht, List.getElem?_eq_getElem (by omega)] at e2
  rw [Nat.zero_add, ← Array.getElem?_toList]
  exact e2.symm
/-- what the sort leaves of a row of one's own -/
theorem sorted_lay {α : Type} [Inhabited α] (E : Lay α) {W : World} {N g cap n : Nat} {T : TypeId} {L : List α} {d' : Array α} {os : Array Obj} (hown : W.ownsRow N T E.k (.slice (some ⟨g, 0, none⟩) L.length cap) L.length (flG E L)) (hd : d'.size = L.length) :
    (sortWorldK E.f E.k W g 0 n d' os).ownsRow N T E.k (.slice (some ⟨g, 0, none⟩) L.length cap) L.length (flG E d'.toList) ∧ W.grownBy (sortWorldK E.f E.k W g 0 n d' os) (some g) := by
  obtain ⟨h0, ⟨h1, _⟩ | ⟨g', cap', cur, h1, h2, h3, h4, h5, h6, h7⟩⟩ := hown
  · cases h1
  obtain ⟨rfl, _, rfl⟩ : g = g' ∧ L.length = L.length ∧ cap = cap' := by simpa using h1
  have hg := lt_heap h3
  have hH := holds_lay E L h3 h7
  have hps : (putRowK E.f E.k (Sort.ahead W n) g 0 d').heap.size = W.heap.size := by simp [putRowK, putRow, mapBlock, Sort.ahead]
  have hH' : HoldsK E.f E.k (sortWorldK E.f E.k W g 0 n d' os) g 0 d' := by
    unfold sortWorldK
    refine holdsK_grow _ _ _ _ _ _ _ (by rw [hps]; exact hg) ?_
    exact holds_putRow id (Sort.ahead W n) g 0 (flatK E.f E.k L.toArray) (flatK E.f E.k d') hH (by simp [hd])
  have hsz : (sortWorldK E.f E.k W g 0 n d' os).heap.size = W.heap.size + os.size := by simp [sortWorldK, putRowK, putRow, mapBlock, Sort.ahead]
  have hblk : (sortWorldK E.f E.k W g 0 n d' os).heap[g]? = some (.cells (putCells id 0 (flatK E.f E.k d') cur) T (0, 0)) := by
    unfold sortWorldK
    show ((putRowK E.f E.k (Sort.ahead W n) g 0 d').heap ++ os)[g]? = _
    rw [Array.getElem?_append_left (by rw [hps]; exact hg)]
    show (W.heap.modify g _)[g]? = _
    rw [Array.getElem?_modify, if_pos rfl, h3]; rfl
  have hsize : (putCells id 0 (flatK E.f E.k d') cur).size = cap * E.k := by unfold putCells; simpa using h6
  refine ⟨⟨(flG_len E d'.toList).trans (by rw [show d'.toList.length = L.length from hd]), Or.inr ⟨g, cap, _, rfl, h2, hblk, h4, h5, hsize, ?_⟩⟩, ?_⟩
  · have hl : (flG E d'.toList).length = L.length * E.k := (flG_len E d'.toList).trans (by rw [show d'.toList.length = L.length from hd])
    apply List.ext_getElem?
    intro j
    rw [List.getElem?_take]
    by_cases hj : j < L.length * E.k
    · rw [if_pos hj, List.getElem?_eq_getElem (by omega : j < (flG E d'.toList).length)]
      have h8 := (hH' j (by simp [hd]; omega)).1
      rw [Lib.cell_of_heap hblk, Nat.zero_add, ← Array.getElem?_toList] at h8
      rw [h8, id]
      have e1 : (flatK E.f E.k d')[j]! = (flG E d'.toList)[j]'(by omega) := by
        have := flat_lay E d'.toList
        rw [Array.toArray_toList] at this
        rw [this, getElem!_pos _ _ (by simp; omega)]; simp
      rw [e1]
    · rw [if_neg hj, List.getElem?_eq_none (by omega)]
  · refine ⟨rfl, rfl, rfl, by omega, fun k hk hne => ?_⟩
    unfold sortWorldK
    show ((putRowK E.f E.k (Sort.ahead W n) g 0 d').heap ++ os)[k]? = _
    rw [Array.getElem?_append_left (by rw [hps]; exact hk)]
    show (W.heap.modify g _)[k]? = _
    rw [Array.getElem?_modify, if_neg (fun e => hne (by rw [e]))]
theorem cmpI_lt (a b : Int) : decide (cmpI a b < 0) = decide (a < b) := by
  unfold cmpI
  rw [decide_eq_decide]
  split
  · rename_i h; exact ⟨fun _ => h, fun _ => by decide⟩
  · rename_i h; split
    · exact ⟨fun h => absurd h (by decide), fun h2 => absurd h2 h⟩
    · exact ⟨fun h => absurd h (by decide), fun h2 => absurd h2 h⟩
theorem sorted_pw {α : Type} [Inhabited α] {lt : α → α → Bool} {d : Array α} {n : Nat} (hn : d.size = n) (h : SortedIn lt 0 n d) : d.toList.Pairwise (fun a b => lt b a = false) := by
  rw [List.pairwise_iff_getElem]
  intro i j hi hj hij
  have := h i j (Nat.zero_le _) hij (by rw [← hn]; simpa using hj)
  rw [getElem!_pos d j (by simpa using hj), getElem!_pos d i (by simpa using hi)] at this
  simpa using this
theorem range4 {w : World} {b : Nat} {x y z u : Value} {t : TypeId} (h : w.heap[b]? = some (.cells #[x, y, z, u] t (0, 0))) : w.rangeAt b 0 [x, y, z, u] := fun j v hv => by rw [Lib.cell_of_heap h, Nat.zero_add]; simpa using hv
end Go.Proofs.YtfbjakhanjbaeaaDoor

/- Records as values; a record's key; the order of digests, with the world that it leaves. -/
namespace Go.Proofs.YtfbjakhanjbaeaaDoor
open Go.RowKit Go.Maps Go.Sort
set_option linter.unusedVariables false
set_option linter.unusedSimpArgs false

namespace HG
/-- a record -/
structure R where
  k : List UInt8
  c : Int
  o : List UInt8
  hk : k.length = 32
  ho : o.length = 32
  h1 : -9223372036854775808 ≤ c
  h2 : c ≤ 9223372036854775807
theorem R.ext' {a b : R} (h1 : a.k = b.k) (h2 : a.c = b.c) (h3 : a.o = b.o) : a = b := by
  obtain ⟨k, c, o, _, _, _, _⟩ := a
  obtain ⟨k', c', o', _, _, _, _⟩ := b
  simp only at h1 h2 h3
  subst h1; subst h2; subst h3; rfl
def r0 : R := ⟨List.replicate 32 0, 0, List.replicate 32 0, by simp, by simp, by decide, by decide⟩
/-- a range -/
structure G where
  d : Int
  p : Int
  n : Int
  s : List UInt8
  hs : s.length = 32
theorem G.ext' {a b : G} (h1 : a.d = b.d) (h2 : a.p = b.p) (h3 : a.n = b.n) (h4 : a.s = b.s) : a = b := by
  obtain ⟨d, p, n, s, _⟩ := a
  obtain ⟨d', p', n', s', _⟩ := b
  simp only at h1 h2 h3 h4
  subst h1; subst h2; subst h3; subst h4; rfl
end HG
def fR (r : HG.R) : List Value := r.k.map vb ++ (Value.int .i64 r.c :: r.o.map vb)
def fG (r : HG.G) : List Value := Value.int .i64 r.d :: Value.int .i64 r.p :: Value.int .i64 r.n :: r.s.map vb
theorem all_vb {l : List UInt8} : ∀ v ∈ l.map vb, v.oneCell' = true := fun v hv => by obtain ⟨x, _, rfl⟩ := List.mem_map.1 hv; rfl
theorem fR_len (r : HG.R) : (fR r).length = 65 := by simp [fR, r.hk, r.ho]
theorem fG_len (r : HG.G) : (fG r).length = 35 := by simp [fG, r.hs]
theorem fR_one (r : HG.R) : ∀ v ∈ fR r, v.oneCell' = true := fun v hv => by
  simp only [fR, List.mem_append, List.mem_cons] at hv
  rcases hv with h | rfl | h
  · exact all_vb v h
  · rfl
  · exact all_vb v h
theorem fG_one (r : HG.G) : ∀ v ∈ fG r, v.oneCell' = true := fun v hv => by
  simp only [fG, List.mem_cons] at hv
  rcases hv with rfl | rfl | rfl | h
  · rfl
  · rfl
  · rfl
  · exact all_vb v h
def lyR : Lay HG.R := ⟨65, fR, fR_len, fR_one, by decide⟩
def lyG : Lay HG.G := ⟨35, fG, fG_len, fG_one, by decide⟩
/-- a part of a row lies where it should -/
theorem range_part {w : World} {b : Nat} {T : TypeId} {C : Array Value} {fr : Nat × Nat} (hb : w.heap[b]? = some (.cells C T fr)) (a m z : List Value) (o : Nat) (hC : C = (a ++ (m ++ z)).toArray) (ho : a.length = o) : w.rangeAt b o m := fun j v hv => by
  have hj : j < m.length := (List.getElem?_eq_some_iff.1 hv).1
  rw [cell_of_row _ _ _ _ _ _ hb, hC, List.getElem?_toArray, List.getElem?_append_right (by omega), ho, Nat.add_sub_cancel_left, List.getElem?_append_left hj]
  exact hv
theorem undRc : ∃ fs, Tryd.prog.underlying 48 = some (.struct fs) := ⟨_, Tryd.underlying48⟩
theorem undRg : ∃ fs, Tryd.prog.underlying 26 = some (.struct fs) := ⟨_, Tryd.underlying26⟩
theorem infoRc : (Tryd.prog.info? 48).map (·.size) = some 65 := by kernel_rfl
theorem infoRg : (Tryd.prog.info? 26).map (·.size) = some 35 := by kernel_rfl
theorem undRs : Tryd.prog.underlying 22 = some (.slice 48) := Tryd.underlying22
/-- what is laid into a new block is a new block -/
theorem Gn.setRow {w w' : World} (h : Gn w w') {b : Nat} (hb : w.heap.size ≤ b) (cs : Array Value) : Gn w (w'.setRow b cs) := by
  obtain ⟨q, os, rfl⟩ := h
  refine ⟨q, os.modify (b - w.heap.size) fun | .cells _ elem frozen => .cells cs elem frozen | o => o, ?_⟩
  unfold World.setRow grow
  have hs : (w.drewN q).heap = w.heap := rfl
  congr 1
  apply Array.ext_getElem?
  intro i
  rw [Array.getElem?_modify]
  simp only [hs]
  by_cases hi : i < w.heap.size
  · rw [if_neg (by omega), Array.getElem?_append_left hi, Array.getElem?_append_left hi]
  · rw [Array.getElem?_append_right (by omega), Array.getElem?_append_right (by omega), Array.getElem?_modify]
    by_cases e : b = i
    · subst e; rw [if_pos rfl, if_pos rfl]; rfl
    · rw [if_neg e, if_neg (by omega)]

set_option maxHeartbeats 1600000 in
theorem Less_gn (a b : List UInt8) (ha : a.length = 32) (hb : b.length = 32) (w : World) :
    Calls Tryd.prog 25 #[.agg (dg a), .agg (dg b)] w fun e w' => e = .returned (.bool (ltB a b)) ∧ Gn w w' := by
  have hA : Hid (∀ k, k < 32 → (dg a)[k]? = some (vb (S.by8 a k))) := fun k hk => dg_at a k (by omega)
  have hB : Hid (∀ k, k < 32 → (dg b)[k]? = some (vb (S.by8 b k))) := fun k hk => dg_at b k (by omega)
  have hsA : (dg a).size = 32 := by rw [dg_size, ha]
  have hsB : (dg b).size = 32 := by rw [dg_size, hb]
  generalize dg a = A at *
  generalize dg b = B at *
  obtain ⟨q, hq⟩ : ∃ q, q = ltB a b := ⟨_, rfl⟩
  rw [← hq]
  have HQ : Hid (q = ltB a b) := hq
  clear hq
  go_enter Tryd.func25, Tryd.ntmps25
  go_wp2_with fail
  go_loopw [5, 6] (fun u5 u6 wr => ∃ (k : Nat), k ≤ 32 ∧ u6 = .int .i64 k ∧ (∃ n, wr = ((w.alloc (.cells A 24)).alloc (.cells B 24)).drewN n) ∧ ∀ j, j < k → S.by8 a j = S.by8 b j) (fun _ u6 _ => 32 - (intOf u6).toNat)
  case atStart => exact ⟨0, by omega, rfl, ⟨0, rfl⟩, fun j hj => by omega⟩
  case round =>
    obtain ⟨k, hk, rfl, ⟨n, hwr⟩, hj⟩ := hrel
    have HWR : Hid (wr = ((w.alloc (.cells A 24)).alloc (.cells B 24)).drewN n) := hwr
    have hBl : Below (w.heap.size + 2) ((w.alloc (.cells A 24)).alloc (.cells B 24)) wr := by rw [hwr]; exact below_drewN (Below.refl _ _) n
    clear hwr
    have HJ : Hid (∀ j, j < k → S.by8 a j = S.by8 b j) := hj
    have HBl : Hid (Below (w.heap.size + 2) ((w.alloc (.cells A 24)).alloc (.cells B 24)) wr) := hBl
    clear hj hBl
    have HGN : Hid (∀ q, Gn w (wr.drewN q)) := fun q => by rw [HWR.out]; exact ((((Gn.refl w).alloc _).alloc _).drewN n).drewN q
    by_cases hlt : k < 32
    · have cA : wr.cell? ⟨w.heap.size, k, none⟩ = some (vb (S.by8 a k)) := by
        rw [HBl.out.cell (p := ⟨w.heap.size, k, none⟩) (show w.heap.size < w.heap.size + 2 by omega), cell_of_row _ _ k A _ (0, 0) (by rw [Below.heap_alloc _ _ _ (by simp)]; exact heap_alloc_new _ _)]
        exact hA.out k hlt
      have cB : wr.cell? ⟨w.heap.size + 1, k, none⟩ = some (vb (S.by8 b k)) := by
        rw [HBl.out.cell (p := ⟨w.heap.size + 1, k, none⟩) (show w.heap.size + 1 < w.heap.size + 2 by omega), cell_of_row _ _ k B _ (0, 0) (by
          have := heap_alloc_new (w.alloc (.cells A 24)) (.cells B 24)
          rwa [show (w.alloc (.cells A 24)).heap.size = w.heap.size + 1 by simp] at this)]
        exact hB.out k hlt
      have i0 : (0 : Int) ≤ (k : Int) := by omega
      have j0 : (k : Int) < 32 := by omega
      have HE := ltB_at a b k (by omega) (by omega) HJ.out
      have HE2 : Hid (S.by8 a k ≠ S.by8 b k → ltB a b = decide ((S.by8 a k).toNat < (S.by8 b k).toNat)) := HE
      have HN : Hid (S.by8 a k = S.by8 b k ↔ (S.by8 a k).toNat = (S.by8 b k).toNat) := UInt8.toNat_inj.symm
      clear HE
      have HS : Hid (∀ j, j < k + 1 → S.by8 a k = S.by8 b k → S.by8 a j = S.by8 b j) := fun j hj he => by
        by_cases h : j = k
        · subst h; exact he
        · exact HJ.out j (by omega)
      generalize S.by8 a k = x at *
      generalize S.by8 b k = y at *
      by_cases hxy : x.toNat = y.toNat
      · have hxI : ((x.toNat : Int) == (y.toNat : Int)) = true := by simp [hxy]
        have hxI2 : ((x.toNat : Int) != (y.toNat : Int)) = false := by simp [hxy]
        go_wp2_with fail
        go_quiet (fail)
        go_wp2_with fail
        go_roundw
        case rel => exact ⟨k + 1, by omega, by go_num, ⟨_, by rw [HWR.out, World.drewN_drewN]⟩, fun j hj => HS.out j hj (HN.out.2 hxy)⟩
        case measure => simp [intOf]; omega
      · have hxI : ((x.toNat : Int) == (y.toNat : Int)) = false := by simp; omega
        have hxI2 : ((x.toNat : Int) != (y.toNat : Int)) = true := by simp; omega
        have hql : decide (x.toNat < y.toNat) = q := by
          rw [HQ.out, HE2.out (fun e => hxy (HN.out.1 e))]
        clear HQ
        go_wp2_with fail
        go_quiet (fail)
        go_wp2_with fail
        go_quiet (fail)
        go_wp2_with fail
        go_ret
        exact ⟨by rw [← hql]; rfl, (HGN.out _).drewN _⟩
    · have hdf : decide ((k : Int) < 32) = false := by simp; omega
      have hqf : q = false := by
        rw [HQ.out, eq_by8 (by omega) (fun j hj => HJ.out j (by omega)), ltB_self]
      subst hqf
      go_wp2_with fail
      go_ret
      exact ⟨rfl, HGN.out 0⟩


attribute [local go_sem ↓] zero27
set_option maxRecDepth 8000 in
theorem keyOf_gn (r : HG.R) (w : World) :
    Calls Tryd.prog 36 #[.agg (fR r).toArray] w fun e w' => e = .returned (.agg (dg r.k)) ∧ Gn w w' := by
  have G2 : Gn w ((w.alloc (.cells (fR r).toArray 48)).alloc (.cells zero32 24)) := ((Gn.refl w).alloc _).alloc _
  have hb0 : ((w.alloc (.cells (fR r).toArray 48)).alloc (.cells zero32 24)).heap[w.heap.size]? = some (.cells (fR r).toArray 48 (0, 0)) := by
    rw [Below.heap_alloc _ _ _ (by simp)]; exact heap_alloc_new _ _
  have hb1 : ((w.alloc (.cells (fR r).toArray 48)).alloc (.cells zero32 24)).heap[w.heap.size + 1]? = some (.cells zero32 24 (0, 0)) := by
    have := heap_alloc_new (w.alloc (.cells (fR r).toArray 48)) (.cells zero32 24)
    rwa [World.size_alloc] at this
  have HA : Hid (((w.alloc (.cells (fR r).toArray 48)).alloc (.cells zero32 24)).rangeAt w.heap.size 0 (r.k.map vb)) := range_part hb0 [] (r.k.map vb) _ 0 rfl rfl
  have HB := hidI hb1
  have HG := hidI G2
  have HL : Hid ((Tryd.prog.info? 24).map (·.size) = some (r.k.map vb).length) := by
    show _ = _
    rw [List.length_map, r.hk]; exact info27
  have hsz : (r.k.map vb).toArray.size = 32 := by simp [r.hk]
  have HE : Hid (dg r.k = (r.k.map vb).toArray) := rfl
  have HO : Hid ((r.k.map vb).toArray.all (·.oneCell') = true) := dg_one r.k
  rw [HE.out]
  clear hb0 hb1 G2 HE
  generalize r.k.map vb = K at *
  generalize (fR r).toArray = C at *
  go_enter Tryd.func36, Tryd.ntmps36
  go_wp2_with (first
    | (refine wl_midG (by rfl) 24 _ rfl w.heap.size 0 rfl K _ HA.out und27 rfl HL.out ?_)
    | (refine wpList_store_row rfl 24 _ _ rfl (w.heap.size + 1) _ rfl rfl 24 zero32 HB.out (by rw [hsz]; exact info27) (by rw [hsz]; exact zero32_size) HO.out ?_))
  (try simp only [Exit.inBlock, Exit.then])
  first
    | refine bodyPost_ret (results_cell_row rfl _ _ (w.heap.size + 1) 24 _ (0, 0) _ rfl (setRow_heap _ _ _ _ _ _ HB.out) und27 rfl (by rw [hsz]; exact info27)) rfl ?_
    | refine bodyPost_end (results_cell_row rfl _ _ (w.heap.size + 1) 24 _ (0, 0) _ rfl (setRow_heap _ _ _ _ _ _ HB.out) und27 rfl (by rw [hsz]; exact info27)) rfl ?_
  exact ⟨rfl, HG.out.setRow (by omega) _⟩
end Go.Proofs.YtfbjakhanjbaeaaDoor

/- Things of a row of one's own written anew; what is cleared behind them. -/
namespace Go.Proofs.YtfbjakhanjbaeaaDoor
open Go.RowKit
set_option linter.unusedVariables false
set_option linter.unusedSimpArgs false

def setL : List Value → Nat → List Value → List Value
  | l, _, [] => l
  | l, o, v :: r => setL (l.set o v) (o + 1) r
theorem setL_len : ∀ (vs : List Value) (l : List Value) (o : Nat), (setL l o vs).length = l.length
  | [], l, o => rfl
  | v :: r, l, o => by rw [setL, setL_len r]; simp
theorem setL_take : ∀ (vs : List Value) (l : List Value) (o n : Nat), (setL l o vs).take n = setL (l.take n) o vs
  | [], l, o, n => rfl
  | v :: r, l, o, n => by rw [setL, setL_take r, List.take_set, setL]
theorem setL_app : ∀ (vs : List Value) (a l : List Value) (o : Nat), setL (a ++ l) (a.length + o) vs = a ++ setL l o vs
  | [], a, l, o => rfl
  | v :: r, a, l, o => by
    rw [setL, setL, List.set_append_right _ _ (by omega), Nat.add_sub_cancel_left, Nat.add_assoc, setL_app r a]
theorem setL_zero : ∀ (vs x z : List Value), x.length = vs.length → setL (x ++ z) 0 vs = vs ++ z
  | [], x, z, h => by rw [List.length_eq_zero_iff.1 h]; rfl
  | v :: r, [], z, h => by simp at h
  | v :: r, y :: x, z, h => by
    rw [setL, List.cons_append, List.set_cons_zero]
    have := setL_app r [v] (x ++ z) 0
    simp only [List.length_singleton, List.singleton_append] at this
    rw [this, setL_zero r x z (by simpa using h)]
    rfl
/-- a thing of a row written anew -/
theorem flG_set {α : Type} (E : Lay α) : ∀ (L : List α) (i : Nat) (x : α), i < L.length → flG E (L.set i x) = setL (flG E L) (i * E.k) (E.f x)
  | [], i, x, h => by simp at h
  | y :: r, 0, x, h => by
    rw [Nat.zero_mul, List.set_cons_zero]
    unfold flG
    rw [List.flatMap_cons, List.flatMap_cons, setL_zero _ _ _ (by rw [E.len, E.len])]
  | y :: r, i + 1, x, h => by
    have ih := flG_set E r i x (by simpa using h)
    unfold flG at ih ⊢
    rw [List.set_cons_succ, List.flatMap_cons, List.flatMap_cons, ih]
    have := setL_app (E.f x) (E.f y) (r.flatMap E.f) (i * E.k)
    rw [E.len] at this
    rw [← this, show (i + 1) * E.k = E.k + i * E.k by rw [Nat.add_mul, Nat.one_mul]; omega]
def setA : Array Value → Nat → List Value → Array Value
  | c, _, [] => c
  | c, o, v :: r => setA (c.setIfInBounds o v) (o + 1) r
theorem setA_list : ∀ (vs : List Value) (c : Array Value) (o : Nat), (setA c o vs).toList = setL c.toList o vs
  | [], c, o => rfl
  | v :: r, c, o => by rw [setA, setA_list r, setL, Array.toList_setIfInBounds]
theorem setA_size (vs : List Value) (c : Array Value) (o : Nat) : (setA c o vs).size = c.size := by
  rw [← Array.length_toList, setA_list, setL_len, Array.length_toList]
theorem heap_setCell_own {w : World} {b i : Nat} {C : Array Value} {t : TypeId} {fr : Nat × Nat} {v : Value} (h : w.heap[b]? = some (.cells C t fr)) : (w.setCell ⟨b, i, none⟩ v).heap[b]? = some (.cells (C.setIfInBounds i v) t fr) := by
  show (w.heap.modify b _)[b]? = _
  rw [Array.getElem?_modify, if_pos rfl, h]; rfl
theorem heap_setCells : ∀ (vs : List Value) {w : World} {b o : Nat} {C : Array Value} {t : TypeId} {fr : Nat × Nat}, w.heap[b]? = some (.cells C t fr) → (w.setCells b o vs).heap[b]? = some (.cells (setA C o vs) t fr)
  | [], w, b, o, C, t, fr, h => h
  | v :: r, w, b, o, C, t, fr, h => heap_setCells r (heap_setCell_own h)
theorem grown_setCell (w : World) (b i : Nat) (v : Value) : w.grownBy (w.setCell ⟨b, i, none⟩ v) (some b) :=
  ⟨rfl, rfl, rfl, by simp [World.setCell], fun k hk hb => Below.heap_setCell _ _ _ _ (fun e => hb (by rw [e]))⟩
theorem grown_refl (w : World) (o : Option Nat) : w.grownBy w o := ⟨rfl, rfl, rfl, Nat.le_refl _, fun _ _ _ => rfl⟩
theorem grown_bl {w w' : World} (h : Bl w w') (o : Option Nat) : w.grownBy w' o := ⟨h.os, h.tape, h.output, h.size, fun k hk _ => h.block k hk⟩
theorem grown_setCells : ∀ (vs : List Value) (w : World) (b o : Nat), w.grownBy (w.setCells b o vs) (some b)
  | [], w, b, o => grown_refl w _
  | v :: r, w, b, o => (grown_setCell w b o v).trans (grown_setCells r _ b (o + 1))
theorem owns_there {α : Type} (E : Lay α) {W : World} {N g n cap : Nat} {T : TypeId} {L : List α} (h : W.ownsRow N T E.k (.slice (some ⟨g, 0, none⟩) n cap) n (flG E L)) {i m o : Nat} (hm : i * E.k + o + m ≤ n * E.k) : W.there g (i * E.k + o) m := by
  obtain ⟨h0, ⟨h1, h2⟩ | ⟨g', cap', cur, h1, h2, h3, h4, h5, h6, h7⟩⟩ := h
  · cases h1
  · simp only [Value.slice.injEq, Option.some.injEq, Addr.mk.injEq, true_and, and_true] at h1
    obtain ⟨rfl, rfl⟩ := h1
    have : n * E.k ≤ cap * E.k := Nat.mul_le_mul_right _ h4
    intro j hj
    refine ⟨?_, by simp [World.frozen?, h3]⟩
    rw [Lib.cell_of_heap h3, Array.getElem?_eq_getElem (by omega)]; rfl
/-- a thing of a row of one's own written anew -/
theorem own_setG {α : Type} (E : Lay α) {W : World} {N g n cap : Nat} {T : TypeId} {L : List α} (hn : n = L.length) (h : W.ownsRow N T E.k (.slice (some ⟨g, 0, none⟩) n cap) n (flG E L)) {i : Nat} (hi : i < L.length) (x : α) :
    (W.setCells g (i * E.k) (E.f x)).ownsRow N T E.k (.slice (some ⟨g, 0, none⟩) n cap) n (flG E (L.set i x)) := by
  obtain ⟨h0, ⟨h1, h2⟩ | ⟨g', cap', cur, h1, h2, h3, h4, h5, h6, h7⟩⟩ := h
  · cases h1
  · simp only [Value.slice.injEq, Option.some.injEq, Addr.mk.injEq, true_and, and_true] at h1
    obtain ⟨rfl, rfl⟩ := h1
    refine ⟨by rw [flG_len, List.length_set, hn], Or.inr ⟨g, cap, _, rfl, h2, heap_setCells _ h3, h4, h5, by rw [setA_size]; exact h6, ?_⟩⟩
    rw [setA_list, setL_take, h7, flG_set E L i x hi]
theorem setL_out : ∀ (vs : List Value) (l : List Value) (o n : Nat), n ≤ o → (setL l o vs).take n = l.take n
  | [], l, o, n, h => rfl
  | v :: r, l, o, n, h => by rw [setL, setL_out r _ _ _ (by omega), List.take_set, List.set_eq_of_length_le (by simp; omega)]
/-- a row of one's own cut; what lies behind is written over -/
theorem own_cut {α : Type} (E : Lay α) {W : World} {N g n cap : Nat} {T : TypeId} {L : List α} (hn : n = L.length) (h : W.ownsRow N T E.k (.slice (some ⟨g, 0, none⟩) n cap) n (flG E L)) {i : Nat} (hi : i ≤ L.length) (vs : List Value) :
    (W.setCells g (i * E.k) vs).ownsRow N T E.k (.slice (some ⟨g, 0, none⟩) i cap) i (flG E (L.take i)) := by
  obtain ⟨h0, ⟨h1, h2⟩ | ⟨g', cap', cur, h1, h2, h3, h4, h5, h6, h7⟩⟩ := h
  · cases h1
  · simp only [Value.slice.injEq, Option.some.injEq, Addr.mk.injEq, true_and, and_true] at h1
    obtain ⟨rfl, rfl⟩ := h1
    have hle : i * E.k ≤ n * E.k := Nat.mul_le_mul_right _ (by omega)
    refine ⟨by rw [flG_len, List.length_take, Nat.min_eq_left hi], Or.inr ⟨g, cap, _, rfl, h2, heap_setCells _ h3, by omega, h5, by rw [setA_size]; exact h6, ?_⟩⟩
    rw [setA_list, setL_out _ _ _ _ (Nat.le_refl _)]
    have e1 : cur.toList.take (i * E.k) = (cur.toList.take (n * E.k)).take (i * E.k) := by rw [List.take_take, Nat.min_eq_left hle]
    rw [e1, h7]
    have e2 : flG E L = flG E (L.take i) ++ flG E (L.drop i) := by rw [← flG_app, List.take_append_drop]
    rw [e2, List.take_append_of_le_length (by rw [flG_len, List.length_take, Nat.min_eq_left hi]; exact Nat.le_refl _), List.take_of_length_le (by rw [flG_len, List.length_take, Nat.min_eq_left hi]; exact Nat.le_refl _)]
/-- clear of the end of a row of one's own -/
theorem run_clearG {α : Type} (E : Lay α) {W : World} {N g n cap : Nat} {T TS : TypeId} {L : List α} (hn : n = L.length) (h : W.ownsRow N T E.k (.slice (some ⟨g, 0, none⟩) n cap) n (flG E L)) (hT : Tryd.prog.underlying TS = some (.slice T)) {z : Value} (hv : ∀ w, (zeroValue T).run Tryd.prog w = .ok z w) (hz : z.cells.size = E.k) (h1 : ∀ v ∈ z.cells.toList, v.oneCell' = true) {i : Nat} (hi : i < n) (ty : TypeId) (c : Nat) :
    ∃ vs, (Builtin.clear_ #[TS] ty #[.slice (some ⟨g, i * E.k, none⟩) (n - i) c]).run Tryd.prog W = .ok (.tuple #[]) (W.setCells g (i * E.k) vs) := by
  refine ⟨(Builtin.zeroCells z.cells (n - i)).toList, ?_⟩
  have hk := E.pos
  have hl : (Builtin.zeroCells z.cells (n - i)).toList.length = (n - i) * E.k := by simp [Builtin.zeroCells, hz]
  have hth := owns_there E h (i := i) (o := 0) (m := (n - i) * E.k) (by rw [Nat.add_zero, ← Nat.add_mul]; exact Nat.mul_le_mul_right _ (by omega))
  have hst := run_storeCells_cells (P := Tryd.prog) g (i * E.k) (Builtin.zeroCells z.cells (n - i)).toList 0 W (fun j hj => by rw [hl] at hj; exact (hth j hj).1) (fun j hj => by rw [hl] at hj; exact (hth j hj).2) (by
    intro v hv'
    simp only [Builtin.zeroCells, Array.toList_map, List.mem_map] at hv'
    obtain ⟨q, _, rfl⟩ := hv'
    have hq : q % z.cells.size < z.cells.size := Nat.mod_lt _ (by omega)
    rw [getElem!_pos z.cells _ hq]
    exact h1 _ (Array.getElem_mem_toList hq))
  simp only [Nat.add_zero] at hst
  obtain ⟨m, hm⟩ : ∃ m, n - i = m + 1 := ⟨n - i - 1, by omega⟩
  rw [hm] at hst ⊢
  simp [Builtin.clear_, run_underlying hT, hv, hst]
/-- a store into the middle of a row; the world behind it by a name of its own -/
theorem wl_storeTo {ops : Array Oper} {rest : List Oper} {op : Oper} {a : Act} {w : World} {Q : Exit → Act → World → Prop} (hgd : op.guard = none) (ty : TypeId) (x y : Operand) (ho : op.op = .store ty x y)
    (b o : Nat) (cs : List Value) (hx : a.eval x = .pointer (some ⟨b, o, none⟩)) (hy : a.eval y = .agg cs.toArray)
    (ht : w.there b o cs.length) (hi : (Tryd.prog.info? ty).map (·.size) = some cs.length) (h1 : ∀ v ∈ cs, v.oneCell' = true) (U : World) (hU : w.setCells b o cs = U)
    (h : wpList Tryd.prog ops Q rest (a.put op.dst undef) U) : wpList Tryd.prog ops Q (op :: rest) a w := by
  subst hU
  exact wpList_store_mid hgd ty x y ho b o cs.toArray hx hy ht hi (all_oneCell_toArray h1) h
theorem own_empty9 (W : World) (T : TypeId) (k : Nat) : (W.alloc (.cells #[] T)).ownsRow W.heap.size T k (.slice (some ⟨W.heap.size, 0, none⟩) 0 0) 0 [] :=
  ⟨by simp, Or.inr ⟨W.heap.size, 0, #[], rfl, Nat.le_refl _, heap_alloc_new W _, Nat.le_refl _, by decide, by simp, by simp⟩⟩
/-- a slice of things is appended to a row of one's own -/
theorem wl_appG {α : Type} (E : Lay α) {ops : Array Oper} {rest : List Oper} {o : Oper} {a : Act} {W : World} {Q : Exit → Act → World → Prop} (T TS : TypeId) (z : Value) (bytes : Nat)
    (hund : Tryd.prog.underlying TS = some (.slice T)) (hinfo : (Tryd.prog.info? T).map (fun i => (i.zero, i.size, i.bytes)) = some (some z, E.k, bytes)) (hzc : z.cells.size = E.k) (hby : bytes ≤ 4096)
    (hgd : o.guard = none) (s x : Operand) (ho : o.op = .call { callee := .builtin .append, args := #[s, x], argTypes := #[TS, TS] }) (B : Nat) (ks : List α) (v : Value) (hs : a.eval s = v) (hB : B ≤ W.heap.size) (hown : W.ownsRow B T E.k v ks.length (flG E ks))
    (ad : Option Addr) (l : List α) (n c : Nat) (hn0 : n = l.length) (hx : a.eval x = .slice ad n c) (hl : RS E W ad l) (hn : ks.length + l.length ≤ 90000)
    (h : ∀ v' w', w'.ownsRow B T E.k v' (ks ++ l).length (flG E (ks ++ l)) → W.grownBy w' v.ownBlock → wpList Tryd.prog ops Q rest (a.put o.dst v') w') : wpList Tryd.prog ops Q (o :: rest) a W := by
  subst hn0
  have hk := E.pos
  obtain ⟨i0, hi0, hz0, hz1, hz2⟩ := info_partsT hinfo
  by_cases h0 : l = []
  · subst h0
    refine wpList_plain hgd fun K hK => ?_
    have hrun : (Builtin.append_ #[TS, TS] o.type #[v, .slice ad 0 c]).run Tryd.prog W = .ok v W := by
      have hld : ∀ a : Addr, (loadCells a 0).run Tryd.prog W = .ok #[] W := fun a => by simp [loadCells, loadCellsFrom]
      rcases hown.2 with ⟨rfl, hh⟩ | ⟨g, cap, cur, rfl, _, _, hnc, _⟩ <;> cases ad
      · simp [Builtin.append_, run_underlying hund, sizeOf, typeInfo, hi0, Builtin.lenOf, Builtin.firstCells, hh]
      · simp [Builtin.append_, run_underlying hund, sizeOf, typeInfo, hi0, Builtin.lenOf, Builtin.firstCells, hh, hld]
      · simp [Builtin.append_, run_underlying hund, sizeOf, typeInfo, hi0, Builtin.lenOf, Builtin.firstCells, hnc, storeCells]
      · simp [Builtin.append_, run_underlying hund, sizeOf, typeInfo, hi0, Builtin.lenOf, Builtin.firstCells, hnc, storeCells, hld]
    have hK' := hK _ _ (h v W (by simpa using hown) ⟨rfl, rfl, rfl, Nat.le_refl _, fun _ _ _ => rfl⟩)
    have hx' : a.eval x = .slice ad 0 c := hx
    unfold Oper.wp
    simp [execOp, ho, resolve, invoke, builtin, hs, hx', hrun, Result.andThen]
    exact hK'
  · have hpos : 0 < l.length := List.length_pos_iff.2 h0
    obtain ⟨t0, ht0⟩ : ∃ t0, l[0]? = some t0 := ⟨l[0], List.getElem?_eq_getElem hpos⟩
    obtain ⟨sb, off, rfl, _, _⟩ := hl 0 t0 ht0
    have hall : ∀ j u, (flG E l)[j]? = some u → W.cell? ⟨sb, off + j, none⟩ = some u := fun j u hu => by
      have hj := (List.getElem?_eq_some_iff.1 hu).1
      rw [flG_len] at hj
      obtain ⟨t, ht⟩ : ∃ t, l[j / E.k]? = some t := ⟨l[j / E.k]'(Nat.div_lt_of_lt_mul (by rw [Nat.mul_comm]; exact hj)), List.getElem?_eq_getElem _⟩
      obtain ⟨sb', off', e, _, hc⟩ := hl _ t ht
      cases e
      obtain ⟨p, q, e1, e2⟩ := flG_at E l ht
      have hm := Nat.mod_lt j hk
      have hd := Nat.div_add_mod' j E.k
      rw [e1, List.getElem?_append_right (by omega), e2, List.getElem?_append_left (by rw [E.len]; omega)] at hu
      have := hc _ _ hu
      rwa [show off + j / E.k * E.k + (j - j / E.k * E.k) = off + j by omega] at this
    refine wpList_append_lies _ hgd s x TS ho B T i0 z E.k bytes hund hi0 hz0 hz1 hz2 hzc hk v ks.length (flG E ks) hs hown ⟨sb, off, none⟩ l.length c (flG E l) hx (flG_len E l) (fun j u hu => by rw [Addr.add_mid]; exact hall j u hu) (flG_one E l) hpos (by unfold maxLen; omega) ?_ hB W.heap.size rfl (fun g cap w' h1 h2 h3 h4 => ?_)
    · have : (ks.length + l.length) * bytes ≤ 90000 * 4096 := Nat.mul_le_mul (by omega) hby
      omega
    · exact h _ w' (by rw [List.length_append, flG_app]; exact h1) h2
end Go.Proofs.YtfbjakhanjbaeaaDoor

/- Slice literals of things; what is known of memory within a region. -/
namespace Go.Proofs.YtfbjakhanjbaeaaDoor
open Go.RowKit
set_option linter.unusedVariables false
set_option linter.unusedSimpArgs false

/-- a part laid into cells -/
theorem foldO_at (L : List Value) : ∀ (Z : Array Value) (off k : Nat), off + k + L.length ≤ Z.size → (L.zipIdx k).foldl (fun (cs : Array Value) (x : Value × Nat) => cs.setIfInBounds (off + x.2) x.1) Z = (Z.toList.take (off + k) ++ L ++ Z.toList.drop (off + k + L.length)).toArray := by
  induction L with
  | nil => intro Z off k h; simp
  | cons x L ih =>
    intro Z off k h
    rw [List.zipIdx_cons, List.foldl_cons, ih _ _ _ (by simp at h ⊢; omega)]
    congr 1
    simp only [List.length_cons] at h
    have hk : off + k < Z.toList.length := by simp; omega
    have e : off + (k + 1) = off + k + 1 := by omega
    rw [e, Array.toList_setIfInBounds, List.take_add_one, List.getElem?_set_self hk, List.take_set_of_le (Nat.le_refl _), List.drop_set_of_lt (by omega)]
    simp only [List.length_cons, Option.toList_some, List.append_assoc, List.cons_append, List.nil_append]
    rw [show off + k + 1 + L.length = off + k + (L.length + 1) by omega]
theorem fill_cons (place : Nat → Option (Nat × Nat)) (A M' Z' : List Value) (i : Nat) (v : Value) (rest : List (Nat × Value)) (L : List Value) (off : Nat) (hv : v.cells = L.toArray) (hp : place i = some (off, L.length)) (hA : A.length = off) (hM : M'.length = L.length) :
    Instr.fill place (A ++ M' ++ Z').toArray ((i, v) :: rest) = Instr.fill place (A ++ L ++ Z').toArray rest := by
  have hz : (A ++ M' ++ Z').toArray.size = off + L.length + Z'.length := by simp [hA, hM]; omega
  rw [Instr.fill, hp]
  simp only [hv, List.size_toArray]
  rw [if_neg (by simp [hA, hM])]
  congr 1
  have := foldO_at L (A ++ M' ++ Z').toArray off 0 (by rw [hz]; omega)
  simp only [Nat.add_zero] at this
  rw [show L.toArray.zipIdx = (L.zipIdx 0).toArray by simp]
  rw [List.foldl_toArray]
  refine this.trans ?_
  congr 1
  have e1 : (A ++ M' ++ Z').take off = A := by rw [List.append_assoc]; exact List.take_left' hA
  have e2 : (A ++ M' ++ Z').drop (off + L.length) = Z' := List.drop_left' (by simp [hA, hM])
  rw [e1, e2]
theorem run_build {P : Program} {t : TypeId} {fs : Array Field} (hu : P.underlying t = some (.struct fs)) (zero : Array Value) (hz : ∀ W, (zeroValue t).run P W = .ok (.agg zero) W) (places : Array (Nat × Nat))
    (hp : ∀ W, (fs.mapM (fun f => do pure (f.offset, ← sizeOf f.type) : Field → Sem (Nat × Nat))).run P W = .ok places W) (parts : Array (Nat × Value)) (cells : Array Value) (hf : Instr.fill (places[·]?) zero parts.toList = some cells) (W : World) :
    (Instr.build t parts).run P W = .ok (.agg cells) W := by
  unfold Instr.build
  simp only [Sem.run_bind, hz, Result.andThen_ok, run_underlying hu, hp, Value.cells, hf, Sem.run_pure]
theorem all_one {L : List Value} (h : ∀ u ∈ L, u.oneCell' = true) : L.toArray.all (·.oneCell') = true := by simpa using h
theorem of1_setRow (W : World) (b : Nat) (cs : Array Value) : Of1 b W (W.setRow b cs) := ⟨rfl, rfl, rfl, by simp [World.setRow], fun k _ hk => setRow_other W b k cs hk⟩
theorem cell_of {w : World} {b i : Nat} {L : List Value} {t : TypeId} {v : Value} (h : w.heap[b]? = some (.cells L.toArray t (0, 0))) (hi : L[i]? = some v) : w.cell? ⟨b, i, none⟩ = some v := by rw [Lib.cell_of_heap h]; simpa using hi
theorem range_of {w : World} {b : Nat} {L : List Value} {t : TypeId} (h : w.heap[b]? = some (.cells L.toArray t (0, 0))) : w.rangeAt b 0 L := fun j v hv => by rw [Nat.zero_add]; exact cell_of h hv
theorem size_alloc1 (W : World) (o : Obj) : (W.alloc o).heap.size = W.heap.size + 1 := by simp
theorem Bl.box {W w' : World} {C : Array Value} {t : TypeId} (h : Bl (W.alloc (.cells C t)) w') : w'.heap[W.heap.size]? = some (.cells C t (0, 0)) := by
  rw [Below.block h _ (by simp)]; exact heap_alloc_new W _
theorem Bl.up {W w' : World} {o : Obj} (h : Bl (W.alloc o) w') : Bl W w' := Bl.step ((Bl.refl W).alloc o) h
theorem Bl.heap {w0 w : World} (h : Bl w0 w) {b : Nat} {o : Obj} (hb : w0.heap[b]? = some o) : w.heap[b]? = some o := by
  rw [Below.block h _ (lt_heap hb)]; exact hb
theorem fill_lists (k : Nat) : ∀ (Ls : List (List Value)) (A Z' : List Value) (i : Nat), (∀ L ∈ Ls, L.length = k) → A.length = i * k → Z'.length = Ls.length * k →
    Instr.fill (fun j => some (j * k, k)) (A ++ Z').toArray ((Ls.zipIdx i).map fun x => (x.2, Value.agg x.1.toArray)) = some (A ++ Ls.flatten).toArray
  | [], A, Z', i, _, _, hZ => by
    have : Z' = [] := List.length_eq_zero_iff.1 (by simpa using hZ)
    subst this
    simp [Instr.fill]
  | L :: Ls, A, Z', i, hl, hA, hZ => by
    have hL := hl L (by simp)
    rw [List.length_cons, Nat.add_mul, Nat.one_mul] at hZ
    have e := fill_cons (fun j => some (j * k, k)) A (Z'.take k) (Z'.drop k) i (.agg L.toArray) ((Ls.zipIdx (i + 1)).map fun x => (x.2, Value.agg x.1.toArray)) L (i * k) rfl (by rw [hL]) hA (by rw [List.length_take, hL]; omega)
    have e2 := fill_lists k Ls (A ++ L) (Z'.drop k) (i + 1) (fun M hM => hl M (by simp [hM])) (by rw [List.length_append, hA, hL, Nat.add_mul, Nat.one_mul]) (by rw [List.length_drop]; omega)
    rw [List.append_assoc, List.take_append_drop] at e
    rw [List.zipIdx_cons, List.map_cons]
    refine e.trans (e2.trans ?_)
    rw [List.flatten_cons, List.append_assoc]
theorem wpo_bs {o : Oper} {a : Act} {w : World} {K : Act → World → Prop} {Q : Exit → Act → World → Prop} (TS T : TypeId) (m : Nat) (parts : Array (Nat × Operand)) (ho : o.op = .buildSlice TS m parts) (Ls : List (List Value))
    (hp : (parts.map fun (i, x) => (i, a.eval x)).toList = (Ls.zipIdx 0).map fun x => (x.2, Value.agg x.1.toArray)) (hm : m = Ls.length) (k : Nat) (hl : ∀ L ∈ Ls, L.length = k) (C : List Value) (hC : Ls.flatten = C) (bytes : Nat) (z : Value)
    (hu : Tryd.prog.underlying TS = some (.slice T)) (hi : (Tryd.prog.info? T).map (fun i => (i.zero, i.size, i.bytes)) = some (some z, k, bytes)) (h0 : 0 < k) (h1 : k ≤ 4096) (h2 : 0 < m) (h3 : m ≤ 4096)
    (h : K (a.put o.dst (.slice (some ⟨w.heap.size, 0, none⟩) m m)) (w.alloc (.cells C.toArray T))) : o.wp Tryd.prog a w K Q := by
  obtain ⟨i, hi0, hz, hs, hb⟩ := info_partsT hi
  have hmk : m * k ≤ 4096 * 4096 := Nat.mul_le_mul h3 h1
  have hmk0 : 0 < m * k := Nat.mul_pos h2 h0
  refine wp_buildSlice TS T m parts ho C.toArray i z hu hi0 hz (by rw [hs]; omega) (by rw [hs]; omega) ?_ h
  rw [hp, hs]
  have e := fill_lists k Ls [] ((Array.range (m * k)).map (z.cells[· % z.cells.size]!)).toList 0 hl (by simp) (by simp [hm])
  rw [List.nil_append, List.nil_append, Array.toArray_toList, hC] at e
  exact e
theorem wl_bs {ops : Array Oper} {rest : List Oper} {o : Oper} {a : Act} {w : World} {Q : Exit → Act → World → Prop} (hw : Region.wanted o (yielded ops a.tmps) = true) (TS T : TypeId) (m : Nat) (parts : Array (Nat × Operand)) (ho : o.op = .buildSlice TS m parts) (Ls : List (List Value))
    (hp : (parts.map fun (i, x) => (i, a.eval x)).toList = (Ls.zipIdx 0).map fun x => (x.2, Value.agg x.1.toArray)) (hm : m = Ls.length) (k : Nat) (hl : ∀ L ∈ Ls, L.length = k) (C : List Value) (hC : Ls.flatten = C) (bytes : Nat) (z : Value)
    (hu : Tryd.prog.underlying TS = some (.slice T)) (hi : (Tryd.prog.info? T).map (fun i => (i.zero, i.size, i.bytes)) = some (some z, k, bytes)) (h0 : 0 < k) (h1 : k ≤ 4096) (h2 : 0 < m) (h3 : m ≤ 4096)
    (h : wpList Tryd.prog ops Q rest (a.put o.dst (.slice (some ⟨w.heap.size, 0, none⟩) m m)) (w.alloc (.cells C.toArray T))) : wpList Tryd.prog ops Q (o :: rest) a w :=
  wpList_step fun _ hK => by rw [if_pos hw]; exact wpo_bs TS T m parts ho Ls hp hm k hl C hC bytes z hu hi h0 h1 h2 h3 (hK _ _ h)
theorem so_bs {ops : Array Oper} {o : Oper} {a : Act} {w : World} {K : Act → World → Prop} {Q : Exit → Act → World → Prop} {E : Prop} (hw : Region.wanted o (yielded ops a.tmps) = true) (TS T : TypeId) (m : Nat) (parts : Array (Nat × Operand)) (ho : o.op = .buildSlice TS m parts) (Ls : List (List Value))
    (hp : (parts.map fun (i, x) => (i, a.eval x)).toList = (Ls.zipIdx 0).map fun x => (x.2, Value.agg x.1.toArray)) (hm : m = Ls.length) (k : Nat) (hl : ∀ L ∈ Ls, L.length = k) (C : List Value) (hC : Ls.flatten = C) (bytes : Nat) (z : Value)
    (hu : Tryd.prog.underlying TS = some (.slice T)) (hi : (Tryd.prog.info? T).map (fun i => (i.zero, i.size, i.bytes)) = some (some z, k, bytes)) (h0 : 0 < k) (h1 : k ≤ 4096) (h2 : 0 < m) (h3 : m ≤ 4096)
    (h : K (a.put o.dst (.slice (some ⟨w.heap.size, 0, none⟩) m m)) (w.alloc (.cells C.toArray T))) : if Region.wanted o (yielded ops a.tmps) = true then Oper.wp Tryd.prog o a w K Q else E := by
  rw [if_pos hw]; exact wpo_bs TS T m parts ho Ls hp hm k hl C hC bytes z hu hi h0 h1 h2 h3 h
/-- memory as it was, and new blocks that lie there -/
structure HF (V U : World) (L : List (Nat × Obj)) : Prop where
  bl : Bl V U
  at' : ∀ p ∈ L, V.heap.size ≤ p.1 ∧ U.heap[p.1]? = some p.2
theorem HF.start (V : World) : HF V V [] := ⟨Bl.refl V, fun p h => by cases h⟩
theorem HF.drew {V U : World} {L : List (Nat × Obj)} (h : HF V U L) : HF V U.drew L := ⟨h.bl.drew, fun p hp => h.at' p hp⟩
theorem HF.al {V U : World} {L : List (Nat × Obj)} (h : HF V U L) (o : Obj) : HF V (U.alloc o) ((U.heap.size, o) :: L) :=
  ⟨h.bl.alloc o, fun p hp => by
    rcases List.mem_cons.1 hp with rfl | hp
    · exact ⟨Below.size h.bl, heap_alloc_new U o⟩
    · obtain ⟨h1, h2⟩ := h.at' p hp
      exact ⟨h1, ((Bl.refl U).alloc o).heap h2⟩⟩
theorem HF.step {V U W : World} {L : List (Nat × Obj)} (h : HF V U L) (b : Bl U W) : HF V W L := ⟨h.bl.step b, fun p hp => ⟨(h.at' p hp).1, b.heap (h.at' p hp).2⟩⟩
theorem HF.get {V U : World} {L : List (Nat × Obj)} (h : HF V U L) {g : Nat} {o : Obj} (hm : (g, o) ∈ L) : U.heap[g]? = some o := (h.at' _ hm).2
/-- a block of these is written anew; the others are forgotten -/
theorem HF.st {V U W : World} {L : List (Nat × Obj)} (h : HF V U L) {g : Nat} {o o' : Obj} (hm : (g, o) ∈ L) (hO : Of1 g U W) (hW : W.heap[g]? = some o') : HF V W [(g, o')] :=
  ⟨hO.bl h.bl (h.at' _ hm).1, fun p hp => by
    obtain rfl : p = (g, o') := by simpa using hp
    exact ⟨(h.at' _ hm).1, hW⟩⟩
theorem rs_of {α : Type} (E : Lay α) {W : World} {b : Nat} {t : TypeId} {l : List α} {C : List Value} (hC : flG E l = C) (h : W.heap[b]? = some (.cells C.toArray t (0, 0))) : RS E W (some ⟨b, 0, none⟩) l := fun i x hx => by
  obtain ⟨p, z, e1, e2⟩ := flG_at E l hx
  refine ⟨b, 0, rfl, lt_heap h, fun j v hv => ?_⟩
  rw [Nat.zero_add]
  refine cell_of h ?_
  have hj := (List.getElem?_eq_some_iff.1 hv).1
  rw [← hC, e1, List.getElem?_append_right (by omega), show i * E.k + j - p.length = j by omega, List.getElem?_append_left hj]
  exact hv
theorem HF.rs {α : Type} (E : Lay α) {V U : World} {L : List (Nat × Obj)} (h : HF V U L) {b : Nat} {t : TypeId} {l : List α} {C : List Value} (hC : flG E l = C) (hm : (b, Obj.cells C.toArray t (0, 0)) ∈ L) : RS E U (some ⟨b, 0, none⟩) l := rs_of E hC (h.get hm)
/-- a row is stored into a block, in a region that draws its order -/
theorem so_rowU {P : Program} {ops : Array Oper} {o : Oper} {a : Act} {w : World} {K : Act → World → Prop} {Q : Exit → Act → World → Prop} {E : Prop} (hgd : Region.wanted o (yielded ops a.tmps) = true) (ty : TypeId) (x y : Operand) (ho : o.op = .store ty x y)
    (g : Nat) (C : List Value) (hx : a.eval x = .pointer (some ⟨g, 0, none⟩)) (hy : a.eval y = .agg C.toArray)
    (t : TypeId) (old : Array Value) (hg : w.heap[g]? = some (.cells old t (0, 0))) (n : Nat) (hi : (P.info? ty).map (·.size) = some n) (hC : C.length = n) (hold : old.size = n) (h1 : ∀ u ∈ C, u.oneCell' = true)
    (h : ∀ U, U.heap[g]? = some (.cells C.toArray t (0, 0)) → Of1 g w U → K (a.put o.dst undef) U) : if Region.wanted o (yielded ops a.tmps) = true then Oper.wp P o a w K Q else E := by
  rw [if_pos hgd]
  exact wp_store_row ty x y ho g C.toArray hx hy t old hg (by simpa [hC] using hi) (by simp [hC, hold]) (all_one h1) (h _ (setRow_heap w g old C.toArray t (0, 0) hg) (of1_setRow w g _))
theorem Bl.range {w0 w : World} (h : Bl w0 w) {b o : Nat} {L : List Value} (hb : b < w0.heap.size) (hr : w0.rangeAt b o L) : w.rangeAt b o L := fun j v hv => by rw [Bl.cell h hb]; exact hr j v hv
theorem len1 {k : Nat} {A : List Value} (h : Hid (A.length = k)) : ∀ L ∈ [A], L.length = k := fun L hL => by
  obtain rfl : L = A := by simpa using hL
  exact h.out
theorem len2 {k : Nat} {A B : List Value} (h : Hid (A.length = k)) (g : Hid (B.length = k)) : ∀ L ∈ [A, B], L.length = k := fun L hL => by
  simp only [List.mem_cons, List.not_mem_nil, or_false] at hL
  rcases hL with rfl | rfl
  · exact h.out
  · exact g.out
theorem len3 {k : Nat} {A B C : List Value} (h : Hid (A.length = k)) (g : Hid (B.length = k)) (f : Hid (C.length = k)) : ∀ L ∈ [A, B, C], L.length = k := fun L hL => by
  simp only [List.mem_cons, List.not_mem_nil, or_false] at hL
  rcases hL with rfl | rfl | rfl
  · exact h.out
  · exact g.out
  · exact f.out

/-- a thing in a block of its own is stored anew -/
theorem one_infoR (r : HG.R) : (Tryd.prog.info? 48).map (·.size) = some (fR r).length := by rw [fR_len]; exact infoRc
theorem one_infoG (r : HG.G) : (Tryd.prog.info? 26).map (·.size) = some (fG r).length := by rw [fG_len]; exact infoRg
end Go.Proofs.YtfbjakhanjbaeaaDoor
