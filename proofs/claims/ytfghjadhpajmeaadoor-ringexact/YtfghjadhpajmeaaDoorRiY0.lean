/- Who comes when, chosen one by one: on lists, and in memory. -/
import Derived.Test.YtfghjadhpajmeaaDoorRiX
namespace Go.Proofs.YtfghjadhpajmeaaDoor
open Go.RowKit Go.Maps Go.Sort Go.Shelf
set_option linter.unusedVariables false
set_option linter.unusedSimpArgs false

/-- how many are left -/
def cnt7 (I : Nat → Bool) : Nat := ((List.range 6).filter (fun j => I (j + 1))).length
theorem cnt_le (I : Nat → Bool) : cnt7 I ≤ 6 := by
  unfold cnt7
  refine Nat.le_trans (List.length_filter_le _ _) ?_
  simp
def off7 (I : Nat → Bool) (b : Nat) : Nat → Bool := fun j => if j = b then false else I j
theorem cnt_off {I : Nat → Bool} {b : Nat} (h1 : 1 ≤ b) (h2 : b ≤ 6) (h : I b = true) : cnt7 (off7 I b) + 1 ≤ cnt7 I := by
  have e : ∀ c : Nat, (if c = b then false else I c) = (I c && !(c == b)) := fun c => by by_cases e : c = b <;> simp [e]
  unfold cnt7 off7
  rw [List.range_succ, List.range_succ, List.range_succ, List.range_succ, List.range_succ, List.range_succ]
  simp only [List.range_zero, List.nil_append, List.filter_append, List.length_append, List.filter_cons, List.filter_nil, e]
  rcases (by omega : b = 1 ∨ b = 2 ∨ b = 3 ∨ b = 4 ∨ b = 5 ∨ b = 6) with rfl | rfl | rfl | rfl | rfl | rfl <;> simp [h] <;> omega
theorem cnt_zero {I : Nat → Bool} (h : cnt7 I = 0) {b : Nat} (h1 : 1 ≤ b) (h2 : b ≤ 6) : I b = false := by
  unfold cnt7 at h
  have := List.length_eq_zero_iff.1 h
  rw [List.filter_eq_nil_iff] at this
  have g := this (b - 1) (List.mem_range.2 (by omega))
  rw [show b - 1 + 1 = b by omega] at g
  simpa using g
/-- the best of those below n -/
def Bst (f : Int → Int) (I : Nat → Bool) (n b : Nat) : Prop := (b = 0 ∧ ∀ m, 1 ≤ m → m < n → I m = false) ∨ (1 ≤ b ∧ b < n ∧ I b = true ∧ ∀ m, 1 ≤ m → m < n → I m = true → m = b ∨ RI.Lt f b m)
theorem bst_zero (f : Int → Int) (I : Nat → Bool) : Bst f I 1 0 := Or.inl ⟨rfl, fun m h1 h2 => by omega⟩
theorem Bst.no {f : Int → Int} {I : Nat → Bool} {n b : Nat} (h : Bst f I n b) (hn : I n = false) : Bst f I (n + 1) b := by
  rcases h with ⟨h1, h2⟩ | ⟨h1, h2, h3, h4⟩
  · exact Or.inl ⟨h1, fun m m1 m2 => by
      by_cases e : m = n
      · rw [e]; exact hn
      · exact h2 m m1 (by omega)⟩
  · exact Or.inr ⟨h1, by omega, h3, fun m m1 m2 m3 => by
      by_cases e : m = n
      · rw [e, hn] at m3; cases m3
      · exact h4 m m1 (by omega) m3⟩
theorem Bst.first {f : Int → Int} {I : Nat → Bool} {n : Nat} (h : Bst f I n 0) (h1 : 1 ≤ n) (hn : I n = true) : Bst f I (n + 1) n := by
  rcases h with ⟨_, h2⟩ | ⟨h1, _⟩
  · exact Or.inr ⟨h1, by omega, hn, fun m m1 m2 m3 => by
      by_cases e : m = n
      · exact Or.inl e
      · rw [h2 m m1 (by omega)] at m3; cases m3⟩
  · omega
theorem Bst.better {f : Int → Int} {I : Nat → Bool} {n b : Nat} (h : Bst f I n b) (hb : b ≠ 0) (hn : I n = true) (hf : f n < f b) : Bst f I (n + 1) n := by
  rcases h with ⟨h1, _⟩ | ⟨h1, h2, h3, h4⟩
  · omega
  · exact Or.inr ⟨by omega, by omega, hn, fun m m1 m2 m3 => by
      by_cases e : m = n
      · exact Or.inl e
      · right
        rcases h4 m m1 (by omega) m3 with rfl | g
        · exact Or.inl hf
        · unfold RI.Lt at *; omega⟩
theorem Bst.worse {f : Int → Int} {I : Nat → Bool} {n b : Nat} (h : Bst f I n b) (hb : b ≠ 0) (hf : ¬ f n < f b) : Bst f I (n + 1) b := by
  rcases h with ⟨h1, _⟩ | ⟨h1, h2, h3, h4⟩
  · omega
  · exact Or.inr ⟨h1, by omega, h3, fun m m1 m2 m3 => by
      by_cases e : m = n
      · right; subst e; unfold RI.Lt; omega
      · exact h4 m m1 (by omega) m3⟩
/-- what is chosen so far, what is left -/
structure Sel (f : Int → Int) (l : List Int) (o : List Int) (I : Nat → Bool) (k : Nat) : Prop where
  pw : o.Pairwise (RI.Lt f)
  lt : ∀ x ∈ o, ∀ m, 1 ≤ m → m ≤ 6 → I m = true → RI.Lt f x (m : Int)
  mem : ∀ m : Nat, 1 ≤ m → m ≤ 6 → (((m : Int) ∈ o ∨ I m = true) ↔ (m : Int) ∈ l)
  rg : ∀ x ∈ o, 1 ≤ x ∧ x ≤ 6
  len : o.length ≤ k
  ct : cnt7 I + k ≤ 6 ∨ cnt7 I = 0
theorem sel_start (f : Int → Int) (l : List Int) (I : Nat → Bool) (h : ∀ m : Nat, 1 ≤ m → m ≤ 6 → (I m = true ↔ (m : Int) ∈ l)) : Sel f l [] I 0 :=
  ⟨by simp, fun x hx => (by cases hx), fun m h1 h2 => (by rw [← h m h1 h2]; simp), fun x hx => (by cases hx), by simp, Or.inl (by have := cnt_le I; omega)⟩
theorem Sel.none {f : Int → Int} {l o : List Int} {I : Nat → Bool} {k : Nat} (x : Sel f l o I k) (h : Bst f I 7 0) : Sel f l o I (k + 1) := by
  refine ⟨x.pw, x.lt, x.mem, x.rg, Nat.le_succ_of_le x.len, Or.inr ?_⟩
  rcases h with ⟨_, h2⟩ | ⟨h1, _⟩
  · unfold cnt7
    rw [List.length_eq_zero_iff, List.filter_eq_nil_iff]
    intro j hj
    rw [List.mem_range] at hj
    rw [h2 (j + 1) (by omega) (by omega)]; decide
  · omega
theorem Sel.take {f : Int → Int} {l o : List Int} {I : Nat → Bool} {k b : Nat} (x : Sel f l o I k) (hb : b ≠ 0) (h : Bst f I 7 b) : Sel f l (o ++ [(b : Int)]) (off7 I b) (k + 1) := by
  rcases h with ⟨h1, _⟩ | ⟨h1, h2, h3, h4⟩
  · omega
  · have hoff : ∀ m, off7 I b m = true ↔ I m = true ∧ m ≠ b := fun m => by unfold off7; by_cases e : m = b <;> simp [e]
    refine ⟨?_, fun y hy m m1 m2 m3 => ?_, fun m m1 m2 => ?_, fun y hy => ?_, by rw [List.length_append]; have := x.len; simp; omega, ?_⟩
    · rw [List.pairwise_append]
      refine ⟨x.pw, by simp, fun y hy z hz => ?_⟩
      rw [List.mem_singleton] at hz
      subst hz
      exact x.lt y hy b h1 (by omega) h3
    · have := (hoff m).1 m3
      rcases List.mem_append.1 hy with hy | hy
      · exact x.lt y hy m m1 m2 this.1
      · rw [List.mem_singleton] at hy
        subst hy
        exact (h4 m m1 (by omega) this.1).resolve_left this.2
    · rw [← x.mem m m1 m2, hoff, List.mem_append, List.mem_singleton]
      by_cases e : m = b
      · subst e
        exact ⟨fun _ => Or.inr h3, fun _ => Or.inl (Or.inr rfl)⟩
      · constructor
        · rintro ((g | g) | g)
          · exact Or.inl g
          · exact absurd (by omega : m = b) e
          · exact Or.inr g.1
        · rintro (g | g)
          · exact Or.inl (Or.inl g)
          · exact Or.inr ⟨g, e⟩
    · rcases List.mem_append.1 hy with hy | hy
      · exact x.rg y hy
      · rw [List.mem_singleton] at hy; omega
    · have := cnt_off h1 (by omega) h3
      rcases x.ct with g | g
      · exact Or.inl (by omega)
      · omega
theorem Sel.done {f : Int → Int} {l o : List Int} {I : Nat → Bool} (x : Sel f l o I 6) : RI.IsW f l o := by
  have h0 : cnt7 I = 0 := by rcases x.ct with g | g <;> omega
  refine ⟨x.pw, fun y => ?_, x.len⟩
  constructor
  · intro hy
    have hr := x.rg y hy
    refine ⟨hr.1, hr.2, ?_⟩
    have := (x.mem y.toNat (by omega) (by omega)).1 (Or.inl (by rw [show ((y.toNat : Nat) : Int) = y by omega]; exact hy))
    rwa [show ((y.toNat : Nat) : Int) = y by omega] at this
  · rintro ⟨h1, h2, h3⟩
    have e : ((y.toNat : Nat) : Int) = y := by omega
    rcases (x.mem y.toNat (by omega) (by omega)).2 (by rw [e]; exact h3) with g | g
    · rwa [e] at g
    · rw [cnt_zero h0 (by omega) (by omega)] at g; cases g
/-- the flags, the distances -/
def bL (I : Nat → Bool) : List Value := (List.range 7).map fun j => .bool (I j)
def uL (F : Nat → Int) : List Value := (List.range 7).map fun j => .int .u64 (F j)
theorem bL_len (I : Nat → Bool) : (bL I).length = 7 := by simp [bL]
theorem uL_len (F : Nat → Int) : (uL F).length = 7 := by simp [uL]
theorem bL_at (I : Nat → Bool) {j : Nat} (h : j < 7) : (bL I)[j]? = some (.bool (I j)) := by simp [bL, List.getElem?_range, h]
theorem uL_at (F : Nat → Int) {j : Nat} (h : j < 7) : (uL F)[j]? = some (.int .u64 (F j)) := by simp [uL, List.getElem?_range, h]
theorem bL_set (I : Nat → Bool) (i : Nat) (b : Bool) : (bL I).set i (.bool b) = bL (fun j => if j = i then b else I j) := by
  apply List.ext_getElem?
  intro j
  unfold bL
  rw [List.getElem?_set, List.getElem?_map, List.getElem?_map, List.length_map, List.length_range]
  by_cases h : j < 7
  · rw [List.getElem?_range h]
    by_cases e : i = j
    · subst e; simp [h]
    · rw [if_neg e]; simp [Ne.symm e]
  · rw [List.getElem?_eq_none (by simp; omega)]
    by_cases e : i = j
    · subst e; simp [h]
    · rw [if_neg e]; rfl
theorem uL_set (F : Nat → Int) (i : Nat) (b : Int) : (uL F).set i (.int .u64 b) = uL (fun j => if j = i then b else F j) := by
  apply List.ext_getElem?
  intro j
  unfold uL
  rw [List.getElem?_set, List.getElem?_map, List.getElem?_map, List.length_map, List.length_range]
  by_cases h : j < 7
  · rw [List.getElem?_range h]
    by_cases e : i = j
    · subst e; simp [h]
    · rw [if_neg e]; simp [Ne.symm e]
  · rw [List.getElem?_eq_none (by simp; omega)]
    by_cases e : i = j
    · subst e; simp [h]
    · rw [if_neg e]; rfl
structure RW (W0 : World) (bi bf : Nat) (I : Nat → Bool) (F : Nat → Int) (U : World) : Prop where
  g : GB W0 U
  i : U.heap[bi]? = some (.cells (bL I).toArray 55 (0, 0))
  f : U.heap[bf]? = some (.cells (uL F).toArray 56 (0, 0))
theorem RW.step {W0 U V : World} {bi bf : Nat} {I : Nat → Bool} {F : Nat → Int} (h : RW W0 bi bf I F U) (b : Bl U V) : RW W0 bi bf I F V :=
  ⟨h.g.step b, by rw [b.block bi (lt_heap h.i)]; exact h.i, by rw [b.block bf (lt_heap h.f)]; exact h.f⟩
theorem GB.of1 {W0 U V : World} {b : Nat} (h : GB W0 U) (hg : GW W0) (o : Of1 b U V) (hb : W0.heap.size ≤ b) : GB W0 V :=
  ⟨hg.below (o.bl h.b hb) hg.z, o.bl h.b hb⟩
theorem RW.setI {W0 U V : World} {bi bf : Nat} {I I' : Nat → Bool} {F : Nat → Int} (h : RW W0 bi bf I F U) (hg : GW W0) (o : Of1 bi U V) (hb : W0.heap.size ≤ bi) (hne : bi ≠ bf) (hi : V.heap[bi]? = some (.cells (bL I').toArray 55 (0, 0))) : RW W0 bi bf I' F V :=
  ⟨h.g.of1 hg o hb, hi, by rw [o.block bf (lt_heap h.f) (Ne.symm hne)]; exact h.f⟩
theorem RW.setF {W0 U V : World} {bi bf : Nat} {I : Nat → Bool} {F F' : Nat → Int} (h : RW W0 bi bf I F U) (hg : GW W0) (o : Of1 bf U V) (hb : W0.heap.size ≤ bf) (hne : bi ≠ bf) (hf : V.heap[bf]? = some (.cells (uL F').toArray 56 (0, 0))) : RW W0 bi bf I F' V :=
  ⟨h.g.of1 hg o hb, by rw [o.block bi (lt_heap h.i) hne]; exact h.i, hf⟩
theorem RW.cI {W0 U : World} {bi bf : Nat} {I : Nat → Bool} {F : Nat → Int} (h : RW W0 bi bf I F U) {j : Nat} (hj : j < 7) : U.cell? ⟨bi, j, none⟩ = some (.bool (I j)) := by
  rw [Lib.cell_of_heap h.i, List.getElem?_toArray]; exact bL_at I hj
theorem RW.cF {W0 U : World} {bi bf : Nat} {I : Nat → Bool} {F : Nat → Int} (h : RW W0 bi bf I F U) {j : Nat} (hj : j < 7) : U.cell? ⟨bf, j, none⟩ = some (.int .u64 (F j)) := by
  rw [Lib.cell_of_heap h.f, List.getElem?_toArray]; exact uL_at F hj
theorem heap_setCell_own {w : World} {b i : Nat} {C : Array Value} {t : TypeId} {fr : Nat × Nat} {v : Value} (h : w.heap[b]? = some (.cells C t fr)) : (w.setCell ⟨b, i, none⟩ v).heap[b]? = some (.cells (C.setIfInBounds i v) t fr) := by
  show (w.heap.modify b _)[b]? = _
  rw [Array.getElem?_modify, if_pos rfl, h]; rfl
theorem grown_setCell (w : World) (b i : Nat) (v : Value) : w.grownBy (w.setCell ⟨b, i, none⟩ v) (some b) :=
  ⟨rfl, rfl, rfl, by simp [World.setCell], fun k hk hb => Below.heap_setCell _ _ _ _ (fun e => hb (by rw [e]))⟩
theorem wl_setU {P : Program} {ops : Array Oper} {rest : List Oper} {o : Oper} {a : Act} {w : World} {Q : Exit → Act → World → Prop} (hgd : o.guard = none) (ty : TypeId) (x y : Operand) (ho : o.op = .store ty x y) (g i : Nat) (v : Value) (hx : a.eval x = .pointer (some ⟨g, i, none⟩)) (hy : a.eval y = v) (hv : v.oneCell' = true) (hi : (P.info? ty).map (·.size) = some 1)
    (L L' : List Value) (t : TypeId) (hg : w.heap[g]? = some (.cells L.toArray t (0, 0))) (hl : i < L.length) (hL : L.set i v = L')
    (h : ∀ U, U.heap[g]? = some (.cells L'.toArray t (0, 0)) → Of1 g w U → wpList P ops Q rest (a.put o.dst undef) U) : wpList P ops Q (o :: rest) a w := by
  refine wpList_plain hgd fun _ hK => ?_
  have hc : v.cells = #[v] := by cases v <;> first | rfl | cases hv
  have hf : w.frozen? ⟨g, i, none⟩ = false := by simp [World.frozen?, hg]
  have hcell : w.cell? ⟨g, i, none⟩ = some (L[i]) := by rw [Lib.cell_of_heap hg]; simp [hl]
  have hrun : (storeVar ty ⟨g, i, none⟩ v).run P w = .ok () (w.setCell ⟨g, i, none⟩ v) := by
    cases hq : P.info? ty with
    | none => simp [hq] at hi
    | some inf =>
      have hs : inf.size = 1 := by simpa [hq] using hi
      have := run_storeCells_cells (P := P) g i [v] 0 w (fun j hj => by simp at hj; subst hj; simp [hcell]) (fun j hj => by simp at hj; subst hj; simpa using hf) (fun u hu => by simp at hu; rw [hu]; exact hv)
      have e : w.setCells g (i + 0) [v] = w.setCell ⟨g, i, none⟩ v := rfl
      rw [e] at this
      simp [storeVar, sizeOf, typeInfo, hq, hc, hs, this]
  unfold Oper.wp execOp
  simp only [ho, hx, hy, Instr.storeAt, Instr.sureAddr, Sem.run_bind, Sem.run_pure, Result.andThen_ok, hrun]
  refine hK _ _ (h _ ?_ (Of1.of_grown (grown_setCell w g i v)))
  rw [heap_setCell_own hg, List.setIfInBounds_toArray, hL]
theorem RW.grown {W0 U V : World} {bi bf : Nat} {I : Nat → Bool} {F : Nat → Int} (h : RW W0 bi bf I F U) (hg : GW W0) {N k n : Nat} {T : TypeId} {v : Value} {xs : List Value} (ho : U.ownsRow N T k v n xs) (g : U.grownBy V v.ownBlock) (h0 : W0.heap.size ≤ N) (h1 : bi < N) (h2 : bf < N) : RW W0 bi bf I F V := by
  have hb : Below W0.heap.size W0 V := Below.grown h.g.b g h.g.b.size (fun q hq => Nat.le_trans h0 (owns_ge ho hq).1)
  refine ⟨⟨hg.below hb hg.z, hb⟩, ?_, ?_⟩
  · rw [g.block bi (lt_heap h.i) (fun e => by have := (owns_ge ho e.symm).1; omega)]; exact h.i
  · rw [g.block bf (lt_heap h.f) (fun e => by have := (owns_ge ho e.symm).1; omega)]; exact h.f
theorem own_of1 {U V : World} {b N k n : Nat} {T : TypeId} {v : Value} {xs : List Value} (ho : U.ownsRow N T k v n xs) (o : Of1 b U V) (hb : b < N) : V.ownsRow N T k v n xs := by
  obtain ⟨h0, h1 | ⟨g, cap, cur, h1, h2, h3, h4⟩⟩ := ho
  · exact ⟨h0, Or.inl h1⟩
  · exact ⟨h0, Or.inr ⟨g, cap, cur, h1, h2, by rw [o.block g (lt_heap h3) (by omega)]; exact h3, h4⟩⟩
theorem wl_app1X {α : Type} (E : Lay α) {ops : Array Oper} {rest : List Oper} {o : Oper} {a : Act} {W U : World} {Q : Exit → Act → World → Prop} (T TS : TypeId) (z : Value) (bytes : Nat)
    (hund : Tryd.prog.underlying TS = some (.slice T)) (hinfo : (Tryd.prog.info? T).map (fun i => (i.zero, i.size, i.bytes)) = some (some z, E.k, bytes)) (hzc : z.cells.size = E.k) (hby : bytes ≤ 4096)
    (hgd : o.guard = none) (s x : Operand) (ho : o.op = .call { callee := .builtin .append, args := #[s, x], argTypes := #[TS, TS] }) (B n : Nat) (ks : List α) (hnk : n = ks.length) (t : α) (v : Value) (hs : a.eval s = v) (hB : B ≤ W.heap.size) (hown : W.ownsRow B T E.k v n (flG E ks))
    (N : Nat) (hN : N = W.heap.size) (hx : a.eval x = .slice (some ⟨N, 0, none⟩) 1 1) (hn : n ≤ 90000)
    (h : ∀ g c' w', w'.ownsRow B T E.k (.slice (some ⟨g, 0, none⟩) (n + 1) c') (n + 1) (flG E (ks ++ [t])) → W.grownBy w' v.ownBlock → (v.ownBlock = some g ∨ W.heap.size ≤ g) → g < w'.heap.size → wpList Tryd.prog ops Q rest (a.put o.dst (.slice (some ⟨g, 0, none⟩) (n + 1) c')) w') (C : Array Value) (hC : C = (E.f t).toArray) (hU : U = W.alloc (.cells C T)) : wpList Tryd.prog ops Q (o :: rest) a U := by
  subst hnk hU hC hN
  obtain ⟨i0, hi0, hz0, hz1, hz2⟩ := info_partsT hinfo
  have hsz : B ≤ (W.alloc (.cells (E.f t).toArray T)).heap.size := by simp; omega
  have hk := E.pos
  refine wpList_append_lies _ hgd s x TS ho B T i0 z E.k bytes hund hi0 hz0 hz1 hz2 hzc ?_ v ks.length (flG E ks) hs (ownsRow_bl hown ((Bl.refl W).alloc _)) ⟨W.heap.size, 0, none⟩ 1 1 (E.f t) hx (by rw [E.len]; omega) (fun j u hu => ?_) (E.one t) (by omega) (by unfold maxLen; omega) ?_ hsz _ rfl (fun g cap w' h1 h2 h3 h4 => ?_)
  · omega
  · rw [Addr.add_mid, Lib.cell_of_heap (heap_alloc_new W _), Nat.zero_add]
    simpa using hu
  · have : (ks.length + 1) * bytes ≤ 90001 * 4096 := Nat.mul_le_mul (by omega) hby
    omega
  · refine h _ _ w' (by rw [flG_app]; simpa [flG] using h1) ((World.grownBy_alloc W _ _).trans h2) ?_ h4
    rcases h3 with h3 | h3
    · exact Or.inl h3
    · right; simp at h3; omega
end Go.Proofs.YtfghjadhpajmeaaDoor
