/- Slice literals of summaries and keys; what is known of memory within a region. -/
import Derived.Test.YtokicaacllaijaaHaz
import Derived.Test.YtokicaacllaijaaHz6
import Derived.Deep.CutBlock
import Derived.Deep.DeepCutAuto
namespace Go.Proofs.Ytokicaacllaijaa
open Go.RowKit
set_option linter.unusedVariables false
set_option linter.unusedSimpArgs false

theorem fill_lists (k : Nat) : ∀ (Ls : List (List Value)) (A Z' : List Value) (i : Nat), (∀ L ∈ Ls, L.length = k) → A.length = i * k → Z'.length = Ls.length * k →
    Instr.fill (fun j => some (j * k, k)) (A ++ Z').toArray ((Ls.zipIdx i).map fun x => (x.2, Value.agg x.1.toArray)) = some (A ++ Ls.flatten).toArray
  | [], A, Z', i, _, _, hZ => by
    have : Z' = [] := List.length_eq_zero_iff.1 (by simpa using hZ)
    subst this
    simp [Instr.fill]
  | L :: Ls, A, Z', i, hl, hA, hZ => by
    have hL := hl L (by simp)
    rw [List.length_cons, Nat.add_mul, Nat.one_mul] at hZ
    have e := fill_cons (fun j => some (j * k, k)) A (Z'.take k) (Z'.drop k) i (.agg L.toArray) ((Ls.zipIdx (i + 1)).map fun x => (x.2, Value.agg x.1.toArray)) L (i * k) rfl (by rw [hL]) hA (by rw [List.length_take, hL]; omega)
    have e2 := fill_lists k Ls (A ++ L) (Z'.drop k) (i + 1) (fun M hM => hl M (by simp [hM])) (by rw [List.length_append, hA, hL, Nat.add_mul, Nat.one_mul]) (by rw [List.length_drop]; omega)
    rw [List.append_assoc, List.take_append_drop] at e
    rw [List.zipIdx_cons, List.map_cons]
    refine e.trans (e2.trans ?_)
    rw [List.flatten_cons, List.append_assoc]
theorem wpo_bs {o : Oper} {a : Act} {w : World} {K : Act → World → Prop} {Q : Exit → Act → World → Prop} (TS T : TypeId) (m : Nat) (parts : Array (Nat × Operand)) (ho : o.op = .buildSlice TS m parts) (Ls : List (List Value))
    (hp : (parts.map fun (i, x) => (i, a.eval x)).toList = (Ls.zipIdx 0).map fun x => (x.2, Value.agg x.1.toArray)) (hm : m = Ls.length) (k : Nat) (hl : ∀ L ∈ Ls, L.length = k) (C : List Value) (hC : Ls.flatten = C) (bytes : Nat) (z : Value)
    (hu : Try.prog.underlying TS = some (.slice T)) (hi : (Try.prog.info? T).map (fun i => (i.zero, i.size, i.bytes)) = some (some z, k, bytes)) (h0 : 0 < k) (h1 : k ≤ 4096) (h2 : 0 < m) (h3 : m ≤ 4096)
    (h : K (a.put o.dst (.slice (some ⟨w.heap.size, 0, none⟩) m m)) (w.alloc (.cells C.toArray T))) : o.wp Try.prog a w K Q := by
  obtain ⟨i, hi0, hz, hs, hb⟩ := info_partsT hi
  have hmk : m * k ≤ 4096 * 4096 := Nat.mul_le_mul h3 h1
  have hmk0 : 0 < m * k := Nat.mul_pos h2 h0
  refine wp_buildSlice TS T m parts ho C.toArray i z hu hi0 hz (by rw [hs]; omega) (by rw [hs]; omega) ?_ h
  rw [hp, hs]
  have e := fill_lists k Ls [] ((Array.range (m * k)).map (z.cells[· % z.cells.size]!)).toList 0 hl (by simp) (by simp [hm])
  rw [List.nil_append, List.nil_append, Array.toArray_toList, hC] at e
  exact e
theorem wl_bs {ops : Array Oper} {rest : List Oper} {o : Oper} {a : Act} {w : World} {Q : Exit → Act → World → Prop} (hw : Region.wanted o (yielded ops a.tmps) = true) (TS T : TypeId) (m : Nat) (parts : Array (Nat × Operand)) (ho : o.op = .buildSlice TS m parts) (Ls : List (List Value))
    (hp : (parts.map fun (i, x) => (i, a.eval x)).toList = (Ls.zipIdx 0).map fun x => (x.2, Value.agg x.1.toArray)) (hm : m = Ls.length) (k : Nat) (hl : ∀ L ∈ Ls, L.length = k) (C : List Value) (hC : Ls.flatten = C) (bytes : Nat) (z : Value)
    (hu : Try.prog.underlying TS = some (.slice T)) (hi : (Try.prog.info? T).map (fun i => (i.zero, i.size, i.bytes)) = some (some z, k, bytes)) (h0 : 0 < k) (h1 : k ≤ 4096) (h2 : 0 < m) (h3 : m ≤ 4096)
    (h : wpList Try.prog ops Q rest (a.put o.dst (.slice (some ⟨w.heap.size, 0, none⟩) m m)) (w.alloc (.cells C.toArray T))) : wpList Try.prog ops Q (o :: rest) a w :=
  wpList_step fun _ hK => by rw [if_pos hw]; exact wpo_bs TS T m parts ho Ls hp hm k hl C hC bytes z hu hi h0 h1 h2 h3 (hK _ _ h)
theorem so_bs {ops : Array Oper} {o : Oper} {a : Act} {w : World} {K : Act → World → Prop} {Q : Exit → Act → World → Prop} {E : Prop} (hw : Region.wanted o (yielded ops a.tmps) = true) (TS T : TypeId) (m : Nat) (parts : Array (Nat × Operand)) (ho : o.op = .buildSlice TS m parts) (Ls : List (List Value))
    (hp : (parts.map fun (i, x) => (i, a.eval x)).toList = (Ls.zipIdx 0).map fun x => (x.2, Value.agg x.1.toArray)) (hm : m = Ls.length) (k : Nat) (hl : ∀ L ∈ Ls, L.length = k) (C : List Value) (hC : Ls.flatten = C) (bytes : Nat) (z : Value)
    (hu : Try.prog.underlying TS = some (.slice T)) (hi : (Try.prog.info? T).map (fun i => (i.zero, i.size, i.bytes)) = some (some z, k, bytes)) (h0 : 0 < k) (h1 : k ≤ 4096) (h2 : 0 < m) (h3 : m ≤ 4096)
    (h : K (a.put o.dst (.slice (some ⟨w.heap.size, 0, none⟩) m m)) (w.alloc (.cells C.toArray T))) : if Region.wanted o (yielded ops a.tmps) = true then Oper.wp Try.prog o a w K Q else E := by
  rw [if_pos hw]; exact wpo_bs TS T m parts ho Ls hp hm k hl C hC bytes z hu hi h0 h1 h2 h3 h
/-- memory as it was, and new blocks that lie there -/
structure HF (V U : World) (L : List (Nat × Obj)) : Prop where
  bl : Bl V U
  at' : ∀ p ∈ L, V.heap.size ≤ p.1 ∧ U.heap[p.1]? = some p.2
theorem HF.start (V : World) : HF V V [] := ⟨Bl.refl V, fun p h => by cases h⟩
theorem HF.drew {V U : World} {L : List (Nat × Obj)} (h : HF V U L) : HF V U.drew L := ⟨h.bl.drew, fun p hp => h.at' p hp⟩
theorem HF.al {V U : World} {L : List (Nat × Obj)} (h : HF V U L) (o : Obj) : HF V (U.alloc o) ((U.heap.size, o) :: L) :=
  ⟨h.bl.alloc o, fun p hp => by
    rcases List.mem_cons.1 hp with rfl | hp
    · exact ⟨Below.size h.bl, heap_alloc_new U o⟩
    · obtain ⟨h1, h2⟩ := h.at' p hp
      exact ⟨h1, ((Bl.refl U).alloc o).heap h2⟩⟩
theorem HF.step {V U W : World} {L : List (Nat × Obj)} (h : HF V U L) (b : Bl U W) : HF V W L := ⟨h.bl.step b, fun p hp => ⟨(h.at' p hp).1, b.heap (h.at' p hp).2⟩⟩
theorem HF.get {V U : World} {L : List (Nat × Obj)} (h : HF V U L) {g : Nat} {o : Obj} (hm : (g, o) ∈ L) : U.heap[g]? = some o := (h.at' _ hm).2
/-- a block of these is written anew; the others are forgotten -/
theorem HF.st {V U W : World} {L : List (Nat × Obj)} (h : HF V U L) {g : Nat} {o o' : Obj} (hm : (g, o) ∈ L) (hO : Of1 g U W) (hW : W.heap[g]? = some o') : HF V W [(g, o')] :=
  ⟨hO.bl h.bl (h.at' _ hm).1, fun p hp => by
    obtain rfl : p = (g, o') := by simpa using hp
    exact ⟨(h.at' _ hm).1, hW⟩⟩
theorem rs_of {α : Type} (E : Lay α) {W : World} {b : Nat} {t : TypeId} {l : List α} {C : List Value} (hC : flG E l = C) (h : W.heap[b]? = some (.cells C.toArray t (0, 0))) : RS E W (some ⟨b, 0, none⟩) l := fun i x hx => by
  obtain ⟨p, z, e1, e2⟩ := flG_at E l hx
  refine ⟨b, 0, rfl, lt_heap h, fun j v hv => ?_⟩
  rw [Nat.zero_add]
  refine cell_of h ?_
  have hj := (List.getElem?_eq_some_iff.1 hv).1
  rw [← hC, e1, List.getElem?_append_right (by omega), show i * E.k + j - p.length = j by omega, List.getElem?_append_left hj]
  exact hv
theorem HF.rs {α : Type} (E : Lay α) {V U : World} {L : List (Nat × Obj)} (h : HF V U L) {b : Nat} {t : TypeId} {l : List α} {C : List Value} (hC : flG E l = C) (hm : (b, Obj.cells C.toArray t (0, 0)) ∈ L) : RS E U (some ⟨b, 0, none⟩) l := rs_of E hC (h.get hm)
/-- a row is stored into a block, in a region that draws its order -/
theorem so_rowU {P : Program} {ops : Array Oper} {o : Oper} {a : Act} {w : World} {K : Act → World → Prop} {Q : Exit → Act → World → Prop} {E : Prop} (hgd : Region.wanted o (yielded ops a.tmps) = true) (ty : TypeId) (x y : Operand) (ho : o.op = .store ty x y)
    (g : Nat) (C : List Value) (hx : a.eval x = .pointer (some ⟨g, 0, none⟩)) (hy : a.eval y = .agg C.toArray)
    (t : TypeId) (old : Array Value) (hg : w.heap[g]? = some (.cells old t (0, 0))) (n : Nat) (hi : (P.info? ty).map (·.size) = some n) (hC : C.length = n) (hold : old.size = n) (h1 : ∀ u ∈ C, u.oneCell' = true)
    (h : ∀ U, U.heap[g]? = some (.cells C.toArray t (0, 0)) → Of1 g w U → K (a.put o.dst undef) U) : if Region.wanted o (yielded ops a.tmps) = true then Oper.wp P o a w K Q else E := by
  rw [if_pos hgd]
  exact wp_store_row ty x y ho g C.toArray hx hy t old hg (by simpa [hC] using hi) (by simp [hC, hold]) (all_one h1) (h _ (setRow_heap w g old C.toArray t (0, 0) hg) (of1_setRow w g _))
theorem Bl.range {w0 w : World} (h : Bl w0 w) {b o : Nat} {L : List Value} (hb : b < w0.heap.size) (hr : w0.rangeAt b o L) : w.rangeAt b o L := fun j v hv => by rw [Bl.cell h hb]; exact hr j v hv
theorem infoH' (h : HZ.H) : (Try.prog.info? tH).map (·.size) = some (hC h).length := by rw [hC_len]; exact infoH
theorem infoD' (h : HZ.D) : (Try.prog.info? tD).map (·.size) = some (dC h).length := by rw [dC_len]; exact infoD
theorem len1 {k : Nat} {A : List Value} (h : Hid (A.length = k)) : ∀ L ∈ [A], L.length = k := fun L hL => by
  obtain rfl : L = A := by simpa using hL
  exact h.out
theorem len2 {k : Nat} {A B : List Value} (h : Hid (A.length = k)) (g : Hid (B.length = k)) : ∀ L ∈ [A, B], L.length = k := fun L hL => by
  simp only [List.mem_cons, List.not_mem_nil, or_false] at hL
  rcases hL with rfl | rfl
  · exact h.out
  · exact g.out
theorem len3 {k : Nat} {A B C : List Value} (h : Hid (A.length = k)) (g : Hid (B.length = k)) (f : Hid (C.length = k)) : ∀ L ∈ [A, B, C], L.length = k := fun L hL => by
  simp only [List.mem_cons, List.not_mem_nil, or_false] at hL
  rcases hL with rfl | rfl | rfl
  · exact h.out
  · exact g.out
  · exact f.out
/-- a row of summaries joined, or of keys put -/
theorem join_c (l : List HZ.H) (n : Nat) (hn : n = l.length) (hm : l.length ≤ 1000) (G : HZ.H) (hG : HZ.jo l = G) (C : List Value) (hc : (l.map hC).flatten = C) : Hid (∀ (U : World) (g : Nat), U.heap[g]? = some (.cells C.toArray tH (0, 0)) → Calls Try.prog 10 #[.slice (some ⟨g, 0, none⟩) n n] U fun e w' => e = .returned (.agg (hC G).toArray) ∧ Bl U w') := fun U g h => by
  subst hn hG
  exact Join_x l (some ⟨g, 0, none⟩) l.length (by unfold maxLen; omega) U (rs_of lyH (by rw [← hc]; simp [flG, lyH, List.flatMap]) h)
theorem with_c (h : HZ.H) (l : List HZ.D) (n : Nat) (hn : n = l.length) (hm : l.length ≤ 1000) (G : HZ.H) (hG : h.wi l = G) (C : List Value) (hc : (l.map dC).flatten = C) : Hid (∀ (U : World) (g : Nat), U.heap[g]? = some (.cells C.toArray tD (0, 0)) → Calls Try.prog 11 #[.agg (hC h).toArray, .slice (some ⟨g, 0, none⟩) n n] U fun e w' => e = .returned (.agg (hC G).toArray) ∧ Bl U w') := fun U g hU => by
  subst hn hG
  exact With_x h l (some ⟨g, 0, none⟩) l.length (by unfold maxLen; omega) U (rs_of lyD (by rw [← hc]; simp [flG, lyD, List.flatMap]) hU)
end Go.Proofs.Ytokicaacllaijaa
