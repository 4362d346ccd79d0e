/- Rows of things, the sort's and cmp's contracts, beside texts and digests. -/
import Derived.Test.YtfghjadhpajmeaaDoorLaid
import Derived.Test.YtfghjadhpajmeaaDoorRegT
import Derived.Deep.AppendLies
import Derived.Laws.AppendOwnNone
import Derived.Deep.RegionWith
import Derived.Deep.MidRow
import Derived.Deep.QuietTactic
import Derived.Sort.Grow
import Derived.Lib.OwnBridge
import Derived.Shelf.SlSortCmp.NoneTotal
import Derived.Lib.Strings
import Derived.BigQuiet
import Derived.WalkSpells
import Derived.WalkLawsBesides
namespace Go.Proofs.YtfghjadhpajmeaaDoor
open Go.RowKit Go.Maps Go.Sort Go.Shelf
set_option linter.unusedVariables false
set_option linter.unusedSimpArgs false

theorem Bl.drew {w0 w : World} (h : Bl w0 w) : Bl w0 w.drew := ⟨h.os, h.tape, h.output, h.size, h.block⟩
theorem lt_heap {W : World} {b : Nat} {o : Obj} (h : W.heap[b]? = some o) : b < W.heap.size := by
  rcases Nat.lt_or_ge b W.heap.size with h' | h'
  · exact h'
  · rw [Array.getElem?_eq_none h'] at h; simp at h
theorem owns_ge {N n : Nat} {W : World} {e : TypeId} {k : Nat} {v : Value} {xs : List Value} (h : W.ownsRow N e k v n xs) {g : Nat} (hg : v.ownBlock = some g) : N ≤ g ∧ g < W.heap.size := by
  obtain ⟨h0, ⟨h1, _⟩ | ⟨g', cap, cur, h1, h2, h3, h4⟩⟩ := h
  · subst h1; cases hg
  · subst h1
    cases hg
    exact ⟨h2, lt_heap h3⟩
theorem info_partsT {o : Option TypeInfo} {z : Option Value} {s b : Nat} (h : o.map (fun i => (i.zero, i.size, i.bytes)) = some (z, s, b)) : ∃ i, o = some i ∧ i.zero = z ∧ i.size = s ∧ i.bytes = b := by
  cases o with
  | none => simp at h
  | some i => simp at h; exact ⟨i, rfl, h.1, h.2.1, h.2.2⟩
/-- all memory that there was is as it was, but for the block b -/
structure Of1 (b : Nat) (w w' : World) : Prop where
  os : w'.os = w.os
  tape : w'.tape = w.tape
  output : w'.output = w.output
  size : w.heap.size ≤ w'.heap.size
  block : ∀ k, k < w.heap.size → k ≠ b → w'.heap[k]? = w.heap[k]?
theorem Of1.refl (b : Nat) (w : World) : Of1 b w w := ⟨rfl, rfl, rfl, Nat.le_refl _, fun _ _ _ => rfl⟩
theorem Of1.trans {b : Nat} {w w' w'' : World} (h : Of1 b w w') (k : Of1 b w' w'') : Of1 b w w'' :=
  ⟨k.os.trans h.os, k.tape.trans h.tape, k.output.trans h.output, Nat.le_trans h.size k.size, fun i hi hb => (k.block i (Nat.lt_of_lt_of_le hi h.size) hb).trans (h.block i hi hb)⟩
theorem Of1.of_bl {b : Nat} {w w' : World} (h : Bl w w') : Of1 b w w' := ⟨h.os, h.tape, h.output, h.size, fun k hk _ => h.block k hk⟩
theorem Of1.of_grown {b : Nat} {w w' : World} (h : w.grownBy w' (some b)) : Of1 b w w' := ⟨h.os, h.tape, h.output, h.size, fun k hk hb => h.block k hk (fun e => hb (Option.some.inj e))⟩
theorem Of1.bl {b : Nat} {w w' W : World} (h : Of1 b w w') (hb : Bl W w) (hB : W.heap.size ≤ b) : Bl W w' :=
  ⟨h.os.trans hb.os, h.tape.trans hb.tape, h.output.trans hb.output, Nat.le_trans hb.size h.size, fun k hk => (h.block k (Nat.lt_of_lt_of_le hk hb.size) (by omega)).trans (hb.block k hk)⟩
/-- how a thing lies in cells -/
structure Lay (α : Type) where
  k : Nat
  f : α → List Value
  len : ∀ x, (f x).length = k
  one : ∀ x, ∀ u ∈ f x, u.oneCell' = true
  pos : 0 < k
/-- things as a slice -/
def RS {α : Type} (E : Lay α) (W : World) (a : Option Addr) (l : List α) : Prop := ∀ (i : Nat) (x : α), l[i]? = some x → ∃ b off, a = some ⟨b, off, none⟩ ∧ b < W.heap.size ∧ W.rangeAt b (off + i * E.k) (E.f x)
theorem RS.bl {α : Type} {E : Lay α} {w W : World} {a : Option Addr} {l : List α} (h : RS E w a l) (hb : Bl w W) : RS E W a l := fun i x hx => by
  obtain ⟨b, off, h1, h2, h3⟩ := h i x hx
  exact ⟨b, off, h1, by have := Below.size hb; omega, fun j v hv => by rw [Bl.cell hb h2]; exact h3 j v hv⟩
/-- a row of cells lies where it lay, though another block turned -/
theorem RS.offs {α : Type} {E : Lay α} {w W : World} {a : Option Addr} {l : List α} {b : Nat} (h : RS E w a l) (hb : Of1 b w W) (hn : ∀ off, l ≠ [] → a ≠ some ⟨b, off, none⟩) : RS E W a l := fun i x hx => by
  obtain ⟨b', off, h1, h2, h3⟩ := h i x hx
  have hne : b' ≠ b := fun e => by
    subst e
    exact hn off (by intro e; subst e; simp at hx) h1
  exact ⟨b', off, h1, by have := hb.size; omega, fun j v hv => by rw [World.cell?_of_block (w := w) (hb.block b' h2 hne)]; exact h3 j v hv⟩
theorem RS.off {α : Type} {E : Lay α} {w W : World} {a : Option Addr} {l : List α} {b : Nat} (h : RS E w a l) (hb : Of1 b w W) {es : Array MapEntry} {c : Nat} (hn : w.heap[b]? = some (.map es c)) : RS E W a l := h.offs hb (fun off hl e => by
  obtain ⟨x, r, rfl⟩ := List.exists_cons_of_ne_nil hl
  obtain ⟨b', off', h1, h2, h3⟩ := h 0 x rfl
  rw [e] at h1
  have e2 : b' = b := by simp only [Option.some.injEq, Addr.mk.injEq] at h1; exact h1.1.symm
  subst e2
  have hl := E.len x
  have hk := E.pos
  have h0 := h3 0 ((E.f x)[0]'(by omega)) (List.getElem?_eq_getElem _)
  unfold World.cell? at h0
  simp [hn] at h0)
theorem RS.take {α : Type} {E : Lay α} {w : World} {a : Option Addr} {l : List α} (h : RS E w a l) (k : Nat) : RS E w a (l.take k) := fun i x hx => by
  refine h i x ?_
  rw [List.getElem?_take] at hx
  split at hx
  · exact hx
  · cases hx
theorem RS.one {α : Type} (E : Lay α) (W : World) (t : TypeId) (x : α) : RS E (W.alloc (.cells (E.f x).toArray t)) (some ⟨W.heap.size, 0, none⟩) [x] := fun i y hy => by
  cases i with
  | zero =>
    simp at hy; subst hy
    exact ⟨W.heap.size, 0, rfl, by simp, fun j v hv => by rw [Lib.cell_of_heap (heap_alloc_new W _)]; simpa using hv⟩
  | succ i => simp at hy
theorem RS.nil {α : Type} (E : Lay α) (W : World) (a : Option Addr) : RS E W a [] := fun i x hx => by simp at hx
def flG {α : Type} (E : Lay α) (L : List α) : List Value := L.flatMap E.f
theorem flG_app {α : Type} (E : Lay α) (A B : List α) : flG E (A ++ B) = flG E A ++ flG E B := by simp [flG]
theorem flG_len {α : Type} (E : Lay α) : ∀ L : List α, (flG E L).length = L.length * E.k
  | [] => by simp [flG]
  | d :: r => by
    have hr := flG_len E r
    unfold flG at hr ⊢
    rw [List.flatMap_cons, List.length_append, E.len, hr, List.length_cons, Nat.add_mul]; omega
theorem flG_at {α : Type} (E : Lay α) : ∀ (L : List α) {i : Nat} {d : α}, L[i]? = some d → ∃ a z, flG E L = a ++ (E.f d ++ z) ∧ a.length = i * E.k
  | [], i, d, h => by simp at h
  | x :: r, i, d, h => by
    cases i with
    | zero =>
      simp at h; subst h
      exact ⟨[], flG E r, rfl, by simp⟩
    | succ i =>
      have h' : r[i]? = some d := by simpa using h
      obtain ⟨a, z, h1, h2⟩ := flG_at E r h'
      refine ⟨E.f x ++ a, z, ?_, by rw [List.length_append, E.len, h2, Nat.add_mul]; omega⟩
      unfold flG at h1 ⊢
      rw [List.flatMap_cons, h1, List.append_assoc]
theorem flG_one {α : Type} (E : Lay α) (L : List α) : ∀ u ∈ flG E L, u.oneCell' = true := fun u hu => by
  unfold flG at hu
  obtain ⟨r, _, hr⟩ := List.mem_flatMap.1 hu
  exact E.one r u hr
/-- a row of one's own, read as a slice -/
theorem owns_rs {α : Type} (E : Lay α) {N : Nat} {W : World} {T : TypeId} {v : Value} {ks : List α} (h : W.ownsRow N T E.k v ks.length (flG E ks)) : ∃ a c, v = .slice a ks.length c ∧ RS E W a ks := by
  obtain ⟨h0, ⟨h1, h2⟩ | ⟨g, cap, cur, h1, h2, h3, h4, h5, h6, h7⟩⟩ := h
  · subst h1
    rw [h2]
    exact ⟨none, 0, rfl, fun i r hr => by have := (List.getElem?_eq_some_iff.1 hr).1; omega⟩
  · subst h1
    refine ⟨some ⟨g, 0, none⟩, cap, rfl, fun i r hr => ?_⟩
    refine ⟨g, 0, rfl, lt_heap h3, fun j u hu => ?_⟩
    obtain ⟨a, z, e1, e2⟩ := flG_at E ks hr
    have hi : i < ks.length := (List.getElem?_eq_some_iff.1 hr).1
    have hrl := E.len r
    have hj : j < E.k := by have := (List.getElem?_eq_some_iff.1 hu).1; omega
    have hij : i * E.k + j < ks.length * E.k := by
      have : (i + 1) * E.k ≤ ks.length * E.k := Nat.mul_le_mul_right _ hi
      rw [Nat.add_mul] at this; omega
    rw [Lib.cell_of_heap h3, Nat.zero_add, ← Array.getElem?_toList]
    have e3 : (cur.toList.take (ks.length * E.k))[i * E.k + j]? = cur.toList[i * E.k + j]? := by rw [List.getElem?_take, if_pos hij]
    rw [← e3, h7, e1, List.getElem?_append_right (by omega), e2, Nat.add_sub_cancel_left, List.getElem?_append_left (by omega)]
    exact hu
theorem ownsRow_bl {B n k : Nat} {e : TypeId} {v : Value} {xs : List Value} {w w' : World} (h : w.ownsRow B e k v n xs) (hb : Below w.heap.size w w') : w'.ownsRow B e k v n xs := by
  obtain ⟨h0, h1 | ⟨g, cap, cur, h1, h2, h3, h4⟩⟩ := h
  · exact ⟨h0, Or.inl h1⟩
  · exact ⟨h0, Or.inr ⟨g, cap, cur, h1, h2, by rw [hb.block g (lt_heap h3)]; exact h3, h4⟩⟩
/-- one more is appended to a row of one's own -/
theorem wl_app1G {α : Type} (E : Lay α) {ops : Array Oper} {rest : List Oper} {o : Oper} {a : Act} {w W U : World} {Q : Exit → Act → World → Prop} (T TS : TypeId) (z : Value) (bytes : Nat)
    (hund : Tryd.prog.underlying TS = some (.slice T)) (hinfo : (Tryd.prog.info? T).map (fun i => (i.zero, i.size, i.bytes)) = some (some z, E.k, bytes)) (hzc : z.cells.size = E.k) (hby : bytes ≤ 4096)
    (hgd : o.guard = none) (s x : Operand) (ho : o.op = .call { callee := .builtin .append, args := #[s, x], argTypes := #[TS, TS] }) (n : Nat) (ks : List α) (hnk : n = ks.length) (t : α) (v : Value) (hs : a.eval s = v) (hb : Bl w W) (hown : W.ownsRow w.heap.size T E.k v n (flG E ks))
    (hx : a.eval x = .slice (some ⟨W.heap.size, 0, none⟩) 1 1) (hn : n ≤ 90000)
    (h : ∀ a' c' w', w'.ownsRow w.heap.size T E.k (.slice a' (n + 1) c') (n + 1) (flG E (ks ++ [t])) → Bl w w' → W.grownBy w' v.ownBlock → wpList Tryd.prog ops Q rest (a.put o.dst (.slice a' (n + 1) c')) w') (C : Array Value) (hC : C = (E.f t).toArray) (hU : U = W.alloc (.cells C T)) : wpList Tryd.prog ops Q (o :: rest) a U := by
  subst hnk hU hC
  obtain ⟨i0, hi0, hz0, hz1, hz2⟩ := info_partsT hinfo
  have hsz : w.heap.size ≤ (W.alloc (.cells (E.f t).toArray T)).heap.size := by
    have := Below.size hb; simp; omega
  have hk := E.pos
  refine wpList_append_lies _ hgd s x TS ho w.heap.size T i0 z E.k bytes hund hi0 hz0 hz1 hz2 hzc ?_ v ks.length (flG E ks) hs (ownsRow_bl hown ((Bl.refl W).alloc _)) ⟨W.heap.size, 0, none⟩ 1 1 (E.f t) hx (by rw [E.len]; omega) (fun j u hu => ?_) (E.one t) (by omega) (by unfold maxLen; omega) ?_ hsz _ rfl (fun g cap w' h1 h2 h3 h4 => ?_)
  · omega
  · rw [Addr.add_mid, Lib.cell_of_heap (heap_alloc_new W _), Nat.zero_add]
    simpa using hu
  · have : (ks.length + 1) * bytes ≤ 90001 * 4096 := Nat.mul_le_mul (by omega) hby
    omega
  · refine h _ _ w' (by rw [flG_app]; simpa [flG] using h1) (Below.grown (hb.alloc _) h2 hsz (fun q hq => (owns_ge hown hq).1)) ?_
    exact (World.grownBy_alloc W _ _).trans h2
def lyI : Lay Int := ⟨1, fun m => [.int .i64 m], fun _ => rfl, fun x u hu => by simp at hu; subst hu; rfl, by decide⟩
/-- a number that an int holds -/
def i64 (k : Int) : Prop := -9223372036854775808 ≤ k ∧ k ≤ 9223372036854775807
theorem wl_midG {P : Program} {ops : Array Oper} {rest : List Oper} {o : Oper} {a : Act} {w : World} {Q : Exit → Act → World → Prop} (hw : Region.wanted o (yielded ops a.tmps) = true) (ty : TypeId) (x : Operand) (ho : o.op = .load ty x)
    (b q : Nat) (hx : a.eval x = .pointer (some ⟨b, q, none⟩)) (cs : List Value) (d : TypeDesc) (hc : w.rangeAt b q cs)
    (hu : P.underlying ty = some d) (hd : d.isRow = true) (hi : (P.info? ty).map (·.size) = some cs.length)
    (h : wpList P ops Q rest (a.put o.dst (.agg cs.toArray)) w) : wpList P ops Q (o :: rest) a w :=
  wpList_step fun _ hK => by rw [if_pos hw]; exact wp_load_mid ty x ho b q hx cs d hc hu hd hi (hK _ _ h)
/-- one more is appended to a row of one's own -/
theorem wl_app1N {α : Type} (E : Lay α) {ops : Array Oper} {rest : List Oper} {o : Oper} {a : Act} {W U : World} {Q : Exit → Act → World → Prop} (T TS : TypeId) (z : Value) (bytes : Nat)
    (hund : Tryd.prog.underlying TS = some (.slice T)) (hinfo : (Tryd.prog.info? T).map (fun i => (i.zero, i.size, i.bytes)) = some (some z, E.k, bytes)) (hzc : z.cells.size = E.k) (hby : bytes ≤ 4096)
    (hgd : o.guard = none) (s x : Operand) (ho : o.op = .call { callee := .builtin .append, args := #[s, x], argTypes := #[TS, TS] }) (B n : Nat) (ks : List α) (hnk : n = ks.length) (t : α) (v : Value) (hs : a.eval s = v) (hB : B ≤ W.heap.size) (hown : W.ownsRow B T E.k v n (flG E ks))
    (hx : a.eval x = .slice (some ⟨W.heap.size, 0, none⟩) 1 1) (hn : n ≤ 90000)
    (h : ∀ a' c' w', w'.ownsRow B T E.k (.slice a' (n + 1) c') (n + 1) (flG E (ks ++ [t])) → W.grownBy w' v.ownBlock → wpList Tryd.prog ops Q rest (a.put o.dst (.slice a' (n + 1) c')) w') (C : Array Value) (hC : C = (E.f t).toArray) (hU : U = W.alloc (.cells C T)) : wpList Tryd.prog ops Q (o :: rest) a U := by
  subst hnk hU hC
  obtain ⟨i0, hi0, hz0, hz1, hz2⟩ := info_partsT hinfo
  have hsz : B ≤ (W.alloc (.cells (E.f t).toArray T)).heap.size := by simp; omega
  have hk := E.pos
  refine wpList_append_lies _ hgd s x TS ho B T i0 z E.k bytes hund hi0 hz0 hz1 hz2 hzc ?_ v ks.length (flG E ks) hs (ownsRow_bl hown ((Bl.refl W).alloc _)) ⟨W.heap.size, 0, none⟩ 1 1 (E.f t) hx (by rw [E.len]; omega) (fun j u hu => ?_) (E.one t) (by omega) (by unfold maxLen; omega) ?_ hsz _ rfl (fun g cap w' h1 h2 h3 h4 => ?_)
  · omega
  · rw [Addr.add_mid, Lib.cell_of_heap (heap_alloc_new W _), Nat.zero_add]
    simpa using hu
  · have : (ks.length + 1) * bytes ≤ 90001 * 4096 := Nat.mul_le_mul (by omega) hby
    omega
  · refine h _ _ w' (by rw [flG_app]; simpa [flG] using h1) ?_
    exact (World.grownBy_alloc W _ _).trans h2
/-- one more is appended to a row of one's own; the new block's number by a name of its own -/
theorem wl_app1M {α : Type} (E : Lay α) {ops : Array Oper} {rest : List Oper} {o : Oper} {a : Act} {w W U : World} {Q : Exit → Act → World → Prop} (T TS : TypeId) (z : Value) (bytes : Nat)
    (hund : Tryd.prog.underlying TS = some (.slice T)) (hinfo : (Tryd.prog.info? T).map (fun i => (i.zero, i.size, i.bytes)) = some (some z, E.k, bytes)) (hzc : z.cells.size = E.k) (hby : bytes ≤ 4096)
    (hgd : o.guard = none) (s x : Operand) (ho : o.op = .call { callee := .builtin .append, args := #[s, x], argTypes := #[TS, TS] }) (n : Nat) (ks : List α) (hnk : n = ks.length) (t : α) (v : Value) (hs : a.eval s = v) (hb : Bl w W) (hown : W.ownsRow w.heap.size T E.k v n (flG E ks))
    (N : Nat) (hN : N = W.heap.size) (hx : a.eval x = .slice (some ⟨N, 0, none⟩) 1 1) (hn : n ≤ 90000)
    (h : ∀ a' c' w', w'.ownsRow w.heap.size T E.k (.slice a' (n + 1) c') (n + 1) (flG E (ks ++ [t])) → Bl w w' → W.grownBy w' v.ownBlock → wpList Tryd.prog ops Q rest (a.put o.dst (.slice a' (n + 1) c')) w') (C : Array Value) (hC : C = (E.f t).toArray) (hU : U = W.alloc (.cells C T)) : wpList Tryd.prog ops Q (o :: rest) a U := by
  subst hN
  exact wl_app1G E T TS z bytes hund hinfo hzc hby hgd s x ho n ks hnk t v hs hb hown hx hn h C hC hU
set_option maxRecDepth 8000 in
set_option maxHeartbeats 1000000 in
theorem Ints_x (l1 l2 : List Int) (a1 a2 : Option Addr) (c1 c2 : Nat) (w : World) (h1 : RS lyI w a1 l1) (h2 : RS lyI w a2 l2) (hn1 : l1.length ≤ maxLen) (hn2 : l2.length ≤ maxLen) :
    Calls Tryd.prog 12 #[.slice a1 l1.length c1, .slice a2 l2.length c2] w fun e w' => e = .returned (.bool (decide (l1 = l2))) ∧ ∃ n, w' = w.drewN n := by
  have H1 : Hid (RS lyI w a1 l1) := h1
  have H2 : Hid (RS lyI w a2 l2) := h2
  clear h1 h2
  unfold maxLen at hn1 hn2
  by_cases hln : l1.length = l2.length
  · have hq : ((l1.length : Int) != (l2.length : Int)) = false := by simp [hln]
    have HLN : Hid (l1.length = l2.length) := hln
    clear hln
    go_enter Tryd.func12, Tryd.ntmps12
    go_wp2_with fail
    go_loopw [5] (fun u5 wr => ∃ k : Nat, k ≤ l1.length ∧ u5 = .int .i64 k ∧ (∀ i, i < k → l1[i]? = l2[i]?) ∧ ∃ n, wr = w.drewN n) (fun u5 _ => l1.length - (intOf u5).toNat)
    case atStart => exact ⟨0, Nat.zero_le _, rfl, fun i hi => by omega, 0, rfl⟩
    case round =>
      obtain ⟨k, hk, rfl, hsame, n, rfl⟩ := hrel
      have HS : Hid (∀ i, i < k → l1[i]? = l2[i]?) := hsame
      clear hsame
      by_cases hlt : k < l1.length
      · obtain ⟨t1, ht1⟩ : ∃ t, l1[k]? = some t := ⟨l1[k], List.getElem?_eq_getElem hlt⟩
        have hlt2 : k < l2.length := by rw [← HLN.out]; exact hlt
        obtain ⟨t2, ht2⟩ : ∃ t, l2[k]? = some t := ⟨l2[k], List.getElem?_eq_getElem hlt2⟩
        obtain ⟨b1, o1, rfl, _, g1'⟩ := H1.out k t1 ht1
        obtain ⟨b2, o2, rfl, _, g2'⟩ := H2.out k t2 ht2
        have g1 : w.cell? ⟨b1, o1 + k, none⟩ = some (.int .i64 t1) := by have := g1' 0 _ rfl; simpa [lyI] using this
        have g2 : w.cell? ⟨b2, o2 + k, none⟩ = some (.int .i64 t2) := by have := g2' 0 _ rfl; simpa [lyI] using this
        clear g1' g2'
        have HT1 : Hid (l1[k]? = some t1) := ht1
        have HT2 : Hid (l2[k]? = some t2) := ht2
        clear ht1 ht2
        by_cases hq2 : t1 = t2
        · have hbq : (t1 != t2) = false := by rw [hq2]; simp
          have HQ : Hid (t1 = t2) := hq2
          clear hq2
          go_wp2_with fail
          go_quiet (fail)
          go_wp2_with fail
          go_roundw
          case rel =>
            refine ⟨k + 1, by omega, by go_num, ?_, _, rfl⟩
            intro i hi
            by_cases hik : i = k
            · subst hik; rw [HT1.out, HT2.out, HQ.out]
            · exact HS.out i (by omega)
          case measure => simp [intOf]; omega
        · have hbq : (t1 != t2) = true := by rw [bne_iff_ne]; omega
          have HQ : Hid (¬ t1 = t2) := hq2
          clear hq2
          go_wp2_with fail
          go_quiet (fail)
          go_wp2_with fail
          go_ret
          refine ⟨?_, _, World.drewN_drewN ..⟩
          have hne : l1 ≠ l2 := by
            intro e
            apply HQ.out
            have h := HT1.out
            rw [e, HT2.out] at h
            exact (Option.some.inj h).symm
          rw [decide_eq_false hne]
          rfl
      · obtain rfl : k = l1.length := by omega
        go_wp2_with fail
        go_ret
        refine ⟨?_, n, rfl⟩
        have he : l1 = l2 := by
          apply List.ext_getElem?
          intro i
          by_cases hi : i < l1.length
          · exact HS.out i hi
          · rw [List.getElem?_eq_none (by omega), List.getElem?_eq_none (by rw [← HLN.out]; omega)]
        rw [decide_eq_true he]
        rfl
  · have hq : ((l1.length : Int) != (l2.length : Int)) = true := by rw [bne_iff_ne]; omega
    have hne : l1 ≠ l2 := fun e => hln (by rw [e])
    rw [decide_eq_false hne]
    clear hln hne
    go_enter Tryd.func12, Tryd.ntmps12
    go_wp2_with fail
    go_ret
    exact ⟨rfl, 0, rfl⟩
theorem infoI3 : (Tryd.prog.info? 3).map (fun i => (i.zero, i.size, i.bytes)) = some (some (.int .i64 0), 1, 8) := by kernel_rfl
theorem hidI {p : Prop} (h : p) : Hid p := h
/-- one int of a slice -/
theorem RS.at1 {W : World} {a : Option Addr} {l : List Int} (h : RS lyI W a l) {k : Nat} {x : Int} (hk : l[k]? = some x) : ∃ b off, a = some ⟨b, off, none⟩ ∧ b < W.heap.size ∧ W.cell? ⟨b, off + k, none⟩ = some (.int .i64 x) := by
  obtain ⟨b, off, h1, h2, h3⟩ := h k x hk
  refine ⟨b, off, h1, h2, ?_⟩
  have := h3 0 (.int .i64 x) rfl
  have e : off + k * lyI.k + 0 = off + k := by show off + k * 1 + 0 = _; omega
  rw [e] at this; exact this
/-- the first place; -1: none -/
def idxN (p : Int → Bool) (l : List Int) : Int := match l.findIdx? p with | some i => (i : Int) | none => -1
theorem idxN_of {p : Int → Bool} {es : List Int} {k : Nat} (h1 : ∀ i e, i < k → es[i]? = some e → p e = false) {e : Int} (he : es[k]? = some e) (h2 : p e = true) : idxN p es = (k : Int) := by
  unfold idxN
  have hk : k < es.length := (List.getElem?_eq_some_iff.1 he).1
  have : es.findIdx? p = some k := by
    rw [List.findIdx?_eq_some_iff_getElem]
    refine ⟨hk, ?_, fun j hj => ?_⟩
    · rw [List.getElem?_eq_getElem hk] at he
      rw [Option.some.inj he]; exact h2
    · have := h1 j es[j] hj (List.getElem?_eq_getElem (by omega))
      rw [this]; decide
  rw [this]
theorem idxN_none {p : Int → Bool} {es : List Int} (h1 : ∀ i e, i < es.length → es[i]? = some e → p e = false) : idxN p es = -1 := by
  unfold idxN
  have : es.findIdx? p = none := by
    rw [List.findIdx?_eq_none_iff]
    intro e he
    obtain ⟨i, hi, rfl⟩ := List.getElem_of_mem he
    exact h1 i es[i] hi (List.getElem?_eq_getElem hi)
  rw [this]
theorem idxN_cases (p : Int → Bool) (es : List Int) : (idxN p es = -1 ∧ ∀ e ∈ es, p e = false) ∨ ∃ (k : Nat) (e : Int), idxN p es = (k : Int) ∧ es[k]? = some e ∧ p e = true ∧ ∀ (i : Nat) x, i < k → es[i]? = some x → p x = false := by
  unfold idxN
  cases h : es.findIdx? p with
  | none => exact Or.inl ⟨rfl, by simpa using h⟩
  | some k =>
    obtain ⟨hk, h1, h2⟩ := List.findIdx?_eq_some_iff_getElem.1 h
    refine Or.inr ⟨k, es[k], rfl, List.getElem?_eq_getElem hk, h1, fun i x hi hx => ?_⟩
    have := h2 i hi
    rw [List.getElem?_eq_getElem (by omega)] at hx
    rw [← Option.some.inj hx]; simpa using this
set_option maxRecDepth 8000 in
set_option maxHeartbeats 2000000 in
theorem Index_i (l : List Int) (x : Int) (a : Option Addr) (n c : Nat) (hnl : n = l.length) {w W : World} (HB : Bl w W) (hv : RS lyI W a l) (hn : l.length ≤ 100000) :
    Calls Tryd.prog 33 #[.slice a n c, .int .i64 x] W fun e w' => e = .returned (.int .i64 (idxN (fun y => x == y) l)) ∧ Bl w w' := by
  subst hnl
  have HV : Hid (RS lyI W a l) := hv
  have HB0 : Hid (Bl w W) := HB
  clear hv HB
  go_enter Tryd.func33, Tryd.ntmps33
  go_wp2_with fail
  go_loop [5, 8] (fun u5 u8 => ∃ k : Nat, k ≤ l.length ∧ u8 = .int .i64 k ∧ (∀ i e, i < k → l[i]? = some e → (x == e) = false)) (fun _ u8 => l.length - (intOf u8).toNat)
  case atStart => exact ⟨0, Nat.zero_le _, rfl, fun i e hi => by omega⟩
  case round =>
    obtain ⟨k, hk, rfl, hpre⟩ := hrel
    have HP : Hid (∀ i e, i < k → l[i]? = some e → (x == e) = false) := hpre
    clear hpre
    by_cases hlt : k < l.length
    · obtain ⟨t, ht⟩ : ∃ t, l[k]? = some t := ⟨l[k], List.getElem?_eq_getElem hlt⟩
      obtain ⟨b, off, rfl, hb, hr⟩ := HV.out.at1 ht
      obtain ⟨q, hq⟩ : ∃ q, (x == t) = q := ⟨_, rfl⟩
      have HF : Hid (q = true → idxN (fun y => x == y) l = (k : Int)) := fun h => idxN_of (fun i e h1 h2 => HP.out i e h1 h2) ht (by show (x == t) = true; rw [hq]; exact h)
      have HE : Hid (q = false → ∀ i e, i < k + 1 → l[i]? = some e → (x == e) = false) := fun h i e hi he => by
        rcases (by omega : i < k ∨ i = k) with h' | rfl
        · exact HP.out i e h' he
        · rw [ht] at he; cases he; rw [hq]; exact h
      clear ht HV
      cases q
      · go_wp2_with fail
        go_round
        case rel => exact ⟨k + 1, by omega, by go_num, HE.out (by trivial)⟩
        case measure => simp [intOf]; omega
      · go_wp2_with fail
        go_ret
        exact ⟨by rw [HF.out (by trivial)]; rfl, HB0.out⟩
    · obtain rfl : k = l.length := by omega
      have HF : Hid (idxN (fun y => x == y) l = -1) := idxN_none HP.out
      go_wp2_with fail
      go_ret
      exact ⟨by rw [HF.out]; rfl, HB0.out⟩
theorem idxN_has (x : Int) (l : List Int) : decide (idxN (fun y => x == y) l ≥ 0) = l.contains x := by
  rcases idxN_cases (fun y => x == y) l with ⟨h, h2⟩ | ⟨k, e, h, h2, h3, _⟩
  · rw [h]
    have hf : l.contains x = false := by
     rw [Bool.eq_false_iff]
     intro hc
     rw [List.contains_iff_mem] at hc
     have := h2 x hc
     simp at this
    rw [hf]; rfl
  · rw [h]
    have hx : x = e := by simpa using h3
    subst hx
    have : l.contains x = true := by rw [List.contains_iff_mem]; exact List.mem_of_getElem? h2
    rw [this]; simp
theorem Contains_i (l : List Int) (x : Int) (a : Option Addr) (n c : Nat) (hnl : n = l.length) {w W : World} (HB : Bl w W) (hv : RS lyI W a l) (hn : l.length ≤ 100000) :
    Calls Tryd.prog 22 #[.slice a n c, .int .i64 x] W fun e w' => e = .returned (.bool (l.contains x)) ∧ Bl w w' := by
  have C1 : Hid (Calls Tryd.prog 33 #[.slice a n c, .int .i64 x] W fun e w' => e = .returned (.int .i64 (idxN (fun y => x == y) l)) ∧ Bl w w') := Index_i l x a n c hnl HB hv hn
  have HH : Hid (decide (idxN (fun y => x == y) l ≥ 0) = l.contains x) := idxN_has x l
  generalize l.contains x = q at *
  generalize idxN (fun y => x == y) l = i at *
  clear hv HB hnl hn
  go_enter Tryd.func22, Tryd.ntmps22
  go_wp2_with (go_at_call 33; refine C1.out.mono ?_; rintro e w' ⟨rfl, hb⟩)
  go_ret
  exact ⟨by rw [← HH.out]; rfl, hb⟩
/-- w', but for draws and new blocks, is w -/
def Gn (w w' : World) : Prop := ∃ (q : Nat) (os : Array Obj), w' = grow (w.drewN q) os
theorem grow_none (w : World) : grow w #[] = w := by simp [grow]
theorem drewN_grow (w : World) (os : Array Obj) : ∀ n, (grow w os).drewN n = grow (w.drewN n) os
  | 0 => rfl
  | n + 1 => by
    have h1 : (grow w os).drewN (n + 1) = ((grow w os).drewN n).drewN 1 := by rw [World.drewN_drewN]
    have h2 : w.drewN (n + 1) = (w.drewN n).drewN 1 := by rw [World.drewN_drewN]
    rw [h1, drewN_grow w os n, h2]
    rfl
theorem Gn.refl (w : World) : Gn w w := ⟨0, #[], by rw [grow_none]; rfl⟩
theorem Gn.alloc {w w' : World} (h : Gn w w') (o : Obj) : Gn w (w'.alloc o) := by
  obtain ⟨q, os, rfl⟩ := h
  exact ⟨q, os ++ #[o], by rw [alloc_eq_grow, grow_grow]⟩
theorem Gn.drewN {w w' : World} (h : Gn w w') (n : Nat) : Gn w (w'.drewN n) := by
  obtain ⟨q, os, rfl⟩ := h
  exact ⟨q + n, os, by rw [drewN_grow, World.drewN_drewN]⟩
theorem Gn.trans {w w' w'' : World} (h : Gn w w') (k : Gn w' w'') : Gn w w'' := by
  obtain ⟨q, os, rfl⟩ := h
  obtain ⟨p, os', rfl⟩ := k
  exact ⟨q + p, os ++ os', by rw [drewN_grow, World.drewN_drewN, grow_grow]⟩
theorem Gn.below {w w' : World} (h : Gn w w') : Below w.heap.size w w' := by
  obtain ⟨q, os, rfl⟩ := h
  have hb := (Bl.refl w).drewN q
  refine ⟨hb.os, hb.tape, hb.output, ?_, fun k hk => ?_⟩
  · show w.heap.size ≤ ((w.drewN q).heap ++ os).size
    have := hb.size
    rw [Array.size_append]; omega
  · show ((w.drewN q).heap ++ os)[k]? = _
    rw [Array.getElem?_append_left (by have := hb.size; omega)]
    exact hb.block k hk
def cmpI (a b : Int) : Int := if a < b then -1 else if b < a then 1 else 0
theorem isNaN_x (a : Int) (W : World) : Calls Tryd.prog 59 #[.int .i64 a] W fun e w' => e = .returned (.bool false) ∧ w' = W := by
  go_enter Tryd.func59, Tryd.ntmps59
  go_wp2_with fail
  go_ret
  exact ⟨by simp, rfl⟩
theorem Compare_x (a b : Int) (W : World) : Calls Tryd.prog 39 #[.int .i64 a, .int .i64 b] W fun e w' => e = .returned (.int .i64 (cmpI a b)) ∧ w' = W := by
  have C1 : Hid (∀ a W, Calls Tryd.prog 59 #[.int .i64 a] W fun e w' => e = .returned (.bool false) ∧ w' = W) := isNaN_x
  by_cases h1 : a < b
  · have HC : Hid (cmpI a b = -1) := by show _ = _; unfold cmpI; rw [if_pos h1]
    generalize cmpI a b = r at *
    · skip
      go_enter Tryd.func39, Tryd.ntmps39
      go_wp2_with (first
        | go_skip
        | (go_at_call 59; refine (C1.out _ _).mono ?_; rintro e w' ⟨rfl, hw⟩; rw [hw]; clear hw w'))
      go_ret
      exact ⟨by rw [HC.out]; rfl, rfl⟩
  · by_cases h2 : b < a
    · have HC : Hid (cmpI a b = 1) := by show _ = _; unfold cmpI; rw [if_neg h1, if_pos h2]
      have h2' : a > b := h2
      generalize cmpI a b = r at *
      go_enter Tryd.func39, Tryd.ntmps39
      go_wp2_with (first
        | go_skip
        | (go_at_call 59; refine (C1.out _ _).mono ?_; rintro e w' ⟨rfl, hw⟩; rw [hw]; clear hw w'))
      go_ret
      exact ⟨by rw [HC.out]; rfl, rfl⟩
    · have HC : Hid (cmpI a b = 0) := by show _ = _; unfold cmpI; rw [if_neg h1, if_neg h2]
      have h2' : ¬ a > b := h2
      generalize cmpI a b = r at *
      go_enter Tryd.func39, Tryd.ntmps39
      go_wp2_with (first
        | go_skip
        | (go_at_call 59; refine (C1.out _ _).mono ?_; rintro e w' ⟨rfl, hw⟩; rw [hw]; clear hw w'))
      go_ret
      exact ⟨by rw [HC.out]; rfl, rfl⟩
set_option maxRecDepth 8000 in
theorem Or_x (x y : Int) (c : Nat) (B : Nat) (W : World) (h0 : W.cell? ⟨B, 0, none⟩ = some (.int .i64 x)) (h1 : W.cell? ⟨B, 1, none⟩ = some (.int .i64 y)) :
    Calls Tryd.prog 37 #[.slice (some ⟨B, 0, none⟩) 2 c] W fun e w' => e = .returned (.int .i64 (if x = 0 then y else x)) ∧ w' = W := by
  by_cases hx : x = 0
  · have HC : Hid ((if x = 0 then y else x) = y) := if_pos hx
    have hxb : (x != 0) = false := by simp [hx]
    generalize (if x = 0 then y else x) = r at *
    clear hx
    by_cases hy : y = 0
    · have hyb : (y != 0) = false := by simp [hy]
      have HY : Hid (y = 0) := hy
      clear hy
      go_enter Tryd.func37, Tryd.ntmps37
      go_wp2_with fail
      refine wp_loop_rounds 3 ?_
      rw [rounds_succ]
      go_wp2_with fail
      rw [rounds_succ]
      go_wp2_with fail
      rw [rounds_succ]
      go_wp2_with fail
      go_ret
      exact ⟨by rw [HC.out, HY.out]; rfl, rfl⟩
    · have hyb : (y != 0) = true := by simp [hy]
      go_enter Tryd.func37, Tryd.ntmps37
      go_wp2_with fail
      refine wp_loop_rounds 2 ?_
      rw [rounds_succ]
      go_wp2_with fail
      rw [rounds_succ]
      go_wp2_with fail
      go_ret
      exact ⟨by rw [HC.out]; rfl, rfl⟩
  · have HC : Hid ((if x = 0 then y else x) = x) := if_neg hx
    have hxb : (x != 0) = true := by simp [hx]
    generalize (if x = 0 then y else x) = r at *
    go_enter Tryd.func37, Tryd.ntmps37
    go_wp2_with fail
    refine wp_loop_rounds 1 ?_
    rw [rounds_succ]
    go_wp2_with fail
    go_ret
    exact ⟨by rw [HC.out]; rfl, rfl⟩
theorem isNaN_u (a : Int) (W : World) : Calls Tryd.prog 58 #[.int .u64 a] W fun e w' => e = .returned (.bool false) ∧ w' = W := by
  go_enter Tryd.func58, Tryd.ntmps58
  go_wp2_with fail
  go_ret
  exact ⟨by simp, rfl⟩
theorem Compare_u (a b : Int) (W : World) : Calls Tryd.prog 38 #[.int .u64 a, .int .u64 b] W fun e w' => e = .returned (.int .i64 (cmpI a b)) ∧ w' = W := by
  have C1 : Hid (∀ a W, Calls Tryd.prog 58 #[.int .u64 a] W fun e w' => e = .returned (.bool false) ∧ w' = W) := isNaN_u
  by_cases h1 : a < b
  · have HC : Hid (cmpI a b = -1) := by show _ = _; unfold cmpI; rw [if_pos h1]
    generalize cmpI a b = r at *
    · skip
      go_enter Tryd.func38, Tryd.ntmps38
      go_wp2_with (first
        | go_skip
        | (go_at_call 58; refine (C1.out _ _).mono ?_; rintro e w' ⟨rfl, hw⟩; rw [hw]; clear hw w'))
      go_ret
      exact ⟨by rw [HC.out]; rfl, rfl⟩
  · by_cases h2 : b < a
    · have HC : Hid (cmpI a b = 1) := by show _ = _; unfold cmpI; rw [if_neg h1, if_pos h2]
      have h2' : a > b := h2
      generalize cmpI a b = r at *
      go_enter Tryd.func38, Tryd.ntmps38
      go_wp2_with (first
        | go_skip
        | (go_at_call 58; refine (C1.out _ _).mono ?_; rintro e w' ⟨rfl, hw⟩; rw [hw]; clear hw w'))
      go_ret
      exact ⟨by rw [HC.out]; rfl, rfl⟩
    · have HC : Hid (cmpI a b = 0) := by show _ = _; unfold cmpI; rw [if_neg h1, if_neg h2]
      have h2' : ¬ a > b := h2
      generalize cmpI a b = r at *
      go_enter Tryd.func38, Tryd.ntmps38
      go_wp2_with (first
        | go_skip
        | (go_at_call 58; refine (C1.out _ _).mono ?_; rintro e w' ⟨rfl, hw⟩; rw [hw]; clear hw w'))
      go_ret
      exact ⟨by rw [HC.out]; rfl, rfl⟩
/-- a row of things as the sort's library has it -/
theorem flat_lay {α : Type} [Inhabited α] (E : Lay α) (L : List α) : flatK E.f E.k L.toArray = (flG E L).toArray := by
  have hl := flG_len E L
  have hk := E.pos
  apply Array.ext (by simp [hl])
  intro t h1 h2
  have ht : t < L.length * E.k := by simpa using h1
  have hq : t / E.k < L.length := by rw [Nat.div_lt_iff_lt_mul hk]; exact ht
  obtain ⟨a, z, e1, e2⟩ := flG_at E L (i := t / E.k) (d := L[t / E.k]) (List.getElem?_eq_getElem hq)
  have g1 := get_flatK E.f E.k L.toArray t (by simpa using ht)
  rw [getElem!_pos (flatK E.f E.k L.toArray) t h1] at g1
  rw [g1]
  have hD : L.toArray[t / E.k]! = L[t / E.k] := by rw [getElem!_pos _ _ (by simpa using hq)]; simp
  rw [hD]
  have hlen := E.len L[t / E.k]
  have hr : t % E.k < (E.f L[t / E.k]).length := by rw [hlen]; exact Nat.mod_lt _ hk
  rw [getElem!_pos (E.f L[t / E.k]) (t % E.k) hr]
  have hdm : t / E.k * E.k + t % E.k = t := by rw [Nat.mul_comm]; exact Nat.div_add_mod t E.k
  have e3 : (flG E L)[t]? = some ((E.f L[t / E.k])[t % E.k]) := by
    rw [e1, List.getElem?_append_right (by omega), e2, List.getElem?_append_left (by omega), show t - t / E.k * E.k = t % E.k by omega, List.getElem?_eq_getElem hr]
  have h2' : t < (flG E L).length := by simpa using h2
  rw [List.getElem?_eq_getElem h2'] at e3
  simpa using (Option.some.inj e3).symm
theorem holds_lay {α : Type} [Inhabited α] (E : Lay α) {W : World} {g : Nat} {cur : Array Value} {e : TypeId} (L : List α) (hb : W.heap[g]? = some (.cells cur e (0, 0))) (ht : cur.toList.take (L.length * E.k) = flG E L) : HoldsK E.f E.k W g 0 L.toArray := by
  intro j hj
  have hj' : j < L.length * E.k := by simpa using hj
  have hl := flG_len E L
  refine ⟨?_, by simp [World.frozen?, hb]⟩
  rw [Lib.cell_of_heap hb]
  have e1 : (flatK E.f E.k L.toArray)[j]! = (flG E L)[j]'(by omega) := by
    rw [flat_lay, getElem!_pos _ _ (by simp; omega)]; simp
  rw [id, e1]
  have e2 : (cur.toList.take (L.length * E.k))[j]? = cur.toList[j]? := by rw [List.getElem?_take, if_pos hj']
  rw [ht, List.getElem?_eq_getElem (by omega)] at e2
  rw [Nat.zero_add, ← Array.getElem?_toList]
  exact e2.symm
/-- what the sort leaves of a row of one's own -/
theorem sorted_lay {α : Type} [Inhabited α] (E : Lay α) {W : World} {N g cap n : Nat} {T : TypeId} {L : List α} {d' : Array α} {os : Array Obj} (hown : W.ownsRow N T E.k (.slice (some ⟨g, 0, none⟩) L.length cap) L.length (flG E L)) (hd : d'.size = L.length) :
    (sortWorldK E.f E.k W g 0 n d' os).ownsRow N T E.k (.slice (some ⟨g, 0, none⟩) L.length cap) L.length (flG E d'.toList) ∧ W.grownBy (sortWorldK E.f E.k W g 0 n d' os) (some g) := by
  obtain ⟨h0, ⟨h1, _⟩ | ⟨g', cap', cur, h1, h2, h3, h4, h5, h6, h7⟩⟩ := hown
  · cases h1
  obtain ⟨rfl, _, rfl⟩ : g = g' ∧ L.length = L.length ∧ cap = cap' := by simpa using h1
  have hg := lt_heap h3
  have hH := holds_lay E L h3 h7
  have hps : (putRowK E.f E.k (Sort.ahead W n) g 0 d').heap.size = W.heap.size := by simp [putRowK, putRow, mapBlock, Sort.ahead]
  have hH' : HoldsK E.f E.k (sortWorldK E.f E.k W g 0 n d' os) g 0 d' := by
    unfold sortWorldK
    refine holdsK_grow _ _ _ _ _ _ _ (by rw [hps]; exact hg) ?_
    exact holds_putRow id (Sort.ahead W n) g 0 (flatK E.f E.k L.toArray) (flatK E.f E.k d') hH (by simp [hd])
  have hsz : (sortWorldK E.f E.k W g 0 n d' os).heap.size = W.heap.size + os.size := by simp [sortWorldK, putRowK, putRow, mapBlock, Sort.ahead]
  have hblk : (sortWorldK E.f E.k W g 0 n d' os).heap[g]? = some (.cells (putCells id 0 (flatK E.f E.k d') cur) T (0, 0)) := by
    unfold sortWorldK
    show ((putRowK E.f E.k (Sort.ahead W n) g 0 d').heap ++ os)[g]? = _
    rw [Array.getElem?_append_left (by rw [hps]; exact hg)]
    show (W.heap.modify g _)[g]? = _
    rw [Array.getElem?_modify, if_pos rfl, h3]; rfl
  have hsize : (putCells id 0 (flatK E.f E.k d') cur).size = cap * E.k := by unfold putCells; simpa using h6
  refine ⟨⟨(flG_len E d'.toList).trans (by rw [show d'.toList.length = L.length from hd]), Or.inr ⟨g, cap, _, rfl, h2, hblk, h4, h5, hsize, ?_⟩⟩, ?_⟩
  · have hl : (flG E d'.toList).length = L.length * E.k := (flG_len E d'.toList).trans (by rw [show d'.toList.length = L.length from hd])
    apply List.ext_getElem?
    intro j
    rw [List.getElem?_take]
    by_cases hj : j < L.length * E.k
    · rw [if_pos hj, List.getElem?_eq_getElem (by omega : j < (flG E d'.toList).length)]
      have h8 := (hH' j (by simp [hd]; omega)).1
      rw [Lib.cell_of_heap hblk, Nat.zero_add, ← Array.getElem?_toList] at h8
      rw [h8, id]
      have e1 : (flatK E.f E.k d')[j]! = (flG E d'.toList)[j]'(by omega) := by
        have := flat_lay E d'.toList
        rw [Array.toArray_toList] at this
        rw [this, getElem!_pos _ _ (by simp; omega)]; simp
      rw [e1]
    · rw [if_neg hj, List.getElem?_eq_none (by omega)]
  · refine ⟨rfl, rfl, rfl, by omega, fun k hk hne => ?_⟩
    unfold sortWorldK
    show ((putRowK E.f E.k (Sort.ahead W n) g 0 d').heap ++ os)[k]? = _
    rw [Array.getElem?_append_left (by rw [hps]; exact hk)]
    show (W.heap.modify g _)[k]? = _
    rw [Array.getElem?_modify, if_neg (fun e => hne (by rw [e]))]
theorem cmpI_lt (a b : Int) : decide (cmpI a b < 0) = decide (a < b) := by
  unfold cmpI
  rw [decide_eq_decide]
  split
  · rename_i h; exact ⟨fun _ => h, fun _ => by decide⟩
  · rename_i h; split
    · exact ⟨fun h => absurd h (by decide), fun h2 => absurd h2 h⟩
    · exact ⟨fun h => absurd h (by decide), fun h2 => absurd h2 h⟩
theorem sorted_pw {α : Type} [Inhabited α] {lt : α → α → Bool} {d : Array α} {n : Nat} (hn : d.size = n) (h : SortedIn lt 0 n d) : d.toList.Pairwise (fun a b => lt b a = false) := by
  rw [List.pairwise_iff_getElem]
  intro i j hi hj hij
  have := h i j (Nat.zero_le _) hij (by rw [← hn]; simpa using hj)
  rw [getElem!_pos d j (by simpa using hj), getElem!_pos d i (by simpa using hi)] at this
  simpa using this
theorem range4 {w : World} {b : Nat} {x y z u : Value} {t : TypeId} (h : w.heap[b]? = some (.cells #[x, y, z, u] t (0, 0))) : w.rangeAt b 0 [x, y, z, u] := fun j v hv => by rw [Lib.cell_of_heap h, Nat.zero_add]; simpa using hv
end Go.Proofs.YtfghjadhpajmeaaDoor
