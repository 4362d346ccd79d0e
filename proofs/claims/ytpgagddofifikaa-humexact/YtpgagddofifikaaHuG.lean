/- For HumTells: on lists and arrays. -/
import Derived.Test.YtpgagddofifikaaHuA
import Derived.Deep.WholeRow
namespace Go.Proofs.Ytpgagddofifikaa
open Go.RowKit Go.Maps
set_option linter.unusedVariables false
set_option linter.unusedSimpArgs false

/-- the last words of each node, as cells -/
structure LA (C : Array Value) (F : HU.St) : Prop where
  size : C.size = 21
  at' : ∀ j : Nat, j < 7 → C[j * 3]? = some (.int .i64 (F j).1.1) ∧ C[j * 3 + 1]? = some (.int .i64 (F j).1.2.1) ∧ C[j * 3 + 2]? = some (.int .i64 (F j).1.2.2)
theorem LA.put {C : Array Value} {F : HU.St} (h : LA C F) (T : Int) (n : Nat) (hn : n < 7) (i s : Int) : LA (((C.setIfInBounds (n * 3) (.int .i64 (n : Int))).setIfInBounds (n * 3 + 1) (.int .i64 i)).setIfInBounds (n * 3 + 2) (.int .i64 s)) (HU.set1 F T ((n : Int), i, s)) := by
  have hs := h.size
  refine ⟨by simp [hs], fun p hp => ?_⟩
  obtain ⟨h1, h2, h3⟩ := h.at' p hp
  simp only [Array.getElem?_setIfInBounds]
  unfold HU.set1
  by_cases e : p = n
  · subst e
    have q1 : p * 3 < C.size := by omega
    have q2 : p * 3 + 1 < C.size := by omega
    have q3 : p * 3 + 2 < C.size := by omega
    refine ⟨?_, ?_, ?_⟩ <;> simp (disch := omega) [q1, q2, q3, if_neg, if_pos]
  · have hne : ¬ ((p : Int) = (n : Int)) := by omega
    simp only [if_neg hne]
    refine ⟨?_, ?_, ?_⟩
    · rw [if_neg (by omega), if_neg (by omega), if_neg (by omega)]; exact h1
    · rw [if_neg (by omega), if_neg (by omega), if_neg (by omega)]; exact h2
    · rw [if_neg (by omega), if_neg (by omega), if_neg (by omega)]; exact h3
/-- who has a rumour, as cells -/
structure IA (C : Array Value) (F : HU.St) : Prop where
  size : C.size = 7
  at' : ∀ j : Nat, j < 7 → C[j]? = some (.bool (decide (0 < (F j).2)))
theorem IA.put {C : Array Value} {F : HU.St} (h : IA C F) (T : Int) (hT : 0 < T) (n : Nat) (hn : n < 7) (i s : Int) : IA (C.setIfInBounds n (.bool true)) (HU.set1 F T ((n : Int), i, s)) := by
  have hs := h.size
  refine ⟨by simp [hs], fun p hp => ?_⟩
  rw [Array.getElem?_setIfInBounds]
  unfold HU.set1
  by_cases e : n = p
  · subst e
    simp [hs, hn, hT]
  · have hne : ¬ ((p : Int) = (n : Int)) := by omega
    rw [if_neg e, if_neg hne]; exact h.at' p hp
/-- numbers, as cells -/
structure TA (C : Array Value) (f : Nat → Int) : Prop where
  size : C.size = 7
  at' : ∀ j : Nat, j < 7 → C[j]? = some (.int .i64 (f j))
theorem TA.put {C : Array Value} {f : Nat → Int} (h : TA C f) (n : Nat) (hn : n < 7) (q : Int) : TA (C.setIfInBounds n (.int .i64 q)) (fun j => if j = n then q else f j) := by
  have hs := h.size
  refine ⟨by simp [hs], fun p hp => ?_⟩
  rw [Array.getElem?_setIfInBounds]
  by_cases e : n = p
  · subst e
    simp [hs, hn]
  · have e' : ¬ p = n := fun h => e h.symm
    simp only [if_neg e, if_neg e']; exact h.at' p hp
def z21 : Array Value := #[.int .i64 0, .int .i64 0, .int .i64 0, .int .i64 0, .int .i64 0, .int .i64 0, .int .i64 0, .int .i64 0, .int .i64 0, .int .i64 0, .int .i64 0, .int .i64 0, .int .i64 0, .int .i64 0, .int .i64 0, .int .i64 0, .int .i64 0, .int .i64 0, .int .i64 0, .int .i64 0, .int .i64 0]
theorem LA.new : LA z21 HU.e0 := ⟨rfl, fun j hj => by
  rcases (by omega : j = 0 ∨ j = 1 ∨ j = 2 ∨ j = 3 ∨ j = 4 ∨ j = 5 ∨ j = 6) with rfl | rfl | rfl | rfl | rfl | rfl | rfl <;> exact ⟨rfl, rfl, rfl⟩⟩
def z7b : Array Value := #[.bool false, .bool false, .bool false, .bool false, .bool false, .bool false, .bool false]
theorem IA.new : IA z7b HU.e0 := ⟨rfl, fun j hj => by
  rcases (by omega : j = 0 ∨ j = 1 ∨ j = 2 ∨ j = 3 ∨ j = 4 ∨ j = 5 ∨ j = 6) with rfl | rfl | rfl | rfl | rfl | rfl | rfl <;> rfl⟩
def z7i : Array Value := #[.int .i64 0, .int .i64 0, .int .i64 0, .int .i64 0, .int .i64 0, .int .i64 0, .int .i64 0]
theorem TA.new : TA z7i (fun _ => 0) := ⟨rfl, fun j hj => by
  rcases (by omega : j = 0 ∨ j = 1 ∨ j = 2 ∨ j = 3 ∨ j = 4 ∨ j = 5 ∨ j = 6) with rfl | rfl | rfl | rfl | rfl | rfl | rfl <;> rfl⟩
theorem zero42 (W : World) : (zeroValue 42).run Try.prog W = .ok (.agg z21) W := by kernel_rfl
theorem zero43 (W : World) : (zeroValue 43).run Try.prog W = .ok (.agg z7b) W := by kernel_rfl
theorem zero45 (W : World) : (zeroValue 45).run Try.prog W = .ok (.agg z7i) W := by kernel_rfl
theorem info42 : (Try.prog.info? 42).map (·.size) = some 21 := by kernel_rfl
theorem info43 : (Try.prog.info? 43).map (·.size) = some 7 := by kernel_rfl
theorem info45 : (Try.prog.info? 45).map (·.size) = some 7 := by kernel_rfl
theorem one21 : z21.all (·.oneCell') = true := by simp [z21, Value.oneCell']
theorem one7b : z7b.all (·.oneCell') = true := by simp [z7b, Value.oneCell']
theorem one7i : z7i.all (·.oneCell') = true := by simp [z7i, Value.oneCell']
/-- a new block is written as it is -/
theorem stNew (W : World) (N : Nat) (C : Array Value) (t : TypeId) (hN : N = W.heap.size) (h1 : C.all (·.oneCell') = true) : (storeCells ⟨N, 0, none⟩ C.toList).run Try.prog (W.alloc (.cells C t)) = .ok () (W.alloc (.cells C t)) := by
  subst hN
  have := run_storeCells_from (P := Try.prog) W.heap.size t C.toList 0 C (W.alloc (.cells C t)) (heap_alloc_new W _) (by simp) (fun v hv => (Array.all_eq_true_iff_forall_mem.1 h1) v (by simpa using hv))
  rw [this, World.setRow_alloc_new]
  simp
/-- what was pushed is to be told T times, or is not there -/
theorem push_T {T : Int} : ∀ (l : List K.Me) {F : HU.St}, (∀ n, (F n).2 = 0 ∨ (F n).2 = T) → ∀ n, (HU.push T F l n).2 = 0 ∨ (HU.push T F l n).2 = T
  | [], F, h => h
  | m :: r, F, h => push_T r (fun n => by
    unfold HU.put HU.set1
    split
    · show (if n = m.1 then ((m, T) : HU.Ru) else F n).2 = 0 ∨ (if n = m.1 then ((m, T) : HU.Ru) else F n).2 = T
      split
      · exact Or.inr rfl
      · exact h n
    · exact h n)
/-- how often all are to be told yet -/
def sm (G : HU.St) : Int := (G 1).2 + (G 2).2 + (G 3).2 + (G 4).2 + (G 5).2 + (G 6).2
theorem took_le {G : HU.St} (k : Nat) (i : Int) : (HU.took G k i).2 ≤ (G i).2 ∧ (HU.took G k i).1 = (G i).1 := by
  unfold HU.took HU.dec
  split
  · exact ⟨by show (G i).2 - 1 ≤ _; omega, rfl⟩
  · exact ⟨Int.le_refl _, rfl⟩
theorem sm_took {G : HU.St} {T : Int} (ok : HU.Ok G T) {k : Nat} (h1 : 0 < k) (h2 : k ≤ (HU.tl G).length) : sm (HU.took G k) ≤ sm G - 1 := by
  obtain ⟨r, hr⟩ : ∃ r, (HU.tl G)[0]? = some r := ⟨(HU.tl G)[0]'(by omega), List.getElem?_eq_getElem _⟩
  have hm := ((HU.rep_tl ok).mem r).1 (List.mem_of_getElem? hr)
  have hin : HU.inT G k r.1.1 = true := (HU.inT_iff G k _).2 ⟨r, List.mem_iff_getElem?.2 ⟨0, by rw [List.getElem?_take, if_pos h1]; exact hr⟩, rfl⟩
  have hs : (HU.took G k r.1.1).2 = (G r.1.1).2 - 1 := by unfold HU.took; rw [if_pos hin]; rfl
  have l1 := (took_le (G := G) k 1).1
  have l2 := (took_le (G := G) k 2).1
  have l3 := (took_le (G := G) k 3).1
  have l4 := (took_le (G := G) k 4).1
  have l5 := (took_le (G := G) k 5).1
  have l6 := (took_le (G := G) k 6).1
  unfold sm
  obtain ⟨_, _, b1, b2⟩ := hm
  generalize r.1.1 = n at *
  rcases (by omega : n = 1 ∨ n = 2 ∨ n = 3 ∨ n = 4 ∨ n = 5 ∨ n = 6) with rfl | rfl | rfl | rfl | rfl | rfl <;> omega
theorem sm_le {G : HU.St} {T : Int} (ok : HU.Ok G T) (hT : T ≤ 100) : 0 ≤ sm G ∧ sm G ≤ 600 := by
  unfold sm
  have := ok.lo 1; have := ok.lo 2; have := ok.lo 3; have := ok.lo 4; have := ok.lo 5; have := ok.lo 6
  have := ok.hi 1; have := ok.hi 2; have := ok.hi 3; have := ok.hi 4; have := ok.hi 5; have := ok.hi 6
  omega
theorem cnt_zero {G : HU.St} {T : Int} (ok : HU.Ok G T) {most : Int} (hm : 1 ≤ most) (h : HU.cnt G most = 0) : HU.lf G = [] ∧ ∀ n : Int, 1 ≤ n → n ≤ 6 → (G n).2 = 0 := by
  have hl : (HU.tl G).length = 0 := by unfold HU.cnt at h; omega
  have hf : HU.lf G = [] := List.length_eq_zero_iff.1 (by rw [← HU.tl_lf]; exact hl)
  refine ⟨hf, fun n h1 h2 => ?_⟩
  rcases Int.lt_or_le 0 (G n).2 with h3 | h3
  · obtain ⟨_, e⟩ := ok.at' n h3
    have : G n ∈ HU.lf G := (HU.mem_lf ok _).2 ⟨by rw [e], h3, by omega, by omega⟩
    rw [hf] at this; cases this
  · have := ok.lo n; omega
/-- among the first k told there is one of node n -/
def anyN (l : List K.Me) (k : Nat) (n : Int) : Bool := (l.take k).any (fun m => m.1 == n)
theorem anyN_zero (l : List K.Me) (n : Int) : anyN l 0 n = false := rfl
theorem anyN_succ {l : List K.Me} {k : Nat} {m : K.Me} (h : l[k]? = some m) (n : Int) : anyN l (k + 1) n = (anyN l k n || (m.1 == n)) := by
  unfold anyN; rw [List.take_add_one, h]; simp
theorem anyN_all (G : HU.St) (k : Nat) (n : Int) : anyN (HU.told G k) (HU.told G k).length n = HU.inT G k n := by
  unfold anyN HU.inT
  rw [List.take_length]
  unfold HU.told
  rw [List.any_map]; rfl
/-- how often each was told -/
def tf (F G : HU.St) (l : List K.Me) (k : Nat) : Nat → Int := fun n => (F n).2 - (G n).2 + (if anyN l k n = true then 1 else 0)
theorem tf_zero (F G : HU.St) (l : List K.Me) : tf F G l 0 = fun (n : Nat) => (F n).2 - (G n).2 := by
  funext n; unfold tf; rw [anyN_zero]; simp
theorem tf_all (F G : HU.St) (k : Nat) : tf F G (HU.told G k) (HU.told G k).length = fun (n : Nat) => (F n).2 - (HU.took G k n).2 := by
  funext n
  unfold tf HU.took HU.dec
  rw [anyN_all]
  split
  · show (F n).2 - (G n).2 + 1 = (F n).2 - ((G n).2 - 1); omega
  · omega
theorem tf_succ {F G : HU.St} {l : List K.Me} {k p : Nat} {m : K.Me} (h : l[k]? = some m) (hm : m.1 = (p : Int)) (hd : anyN l k m.1 = false) : tf F G l (k + 1) = fun j => if j = p then tf F G l k p + 1 else tf F G l k j := by
  funext j
  unfold tf
  rw [anyN_succ h]
  by_cases e : j = p
  · subst e
    rw [if_pos rfl]
    rw [hm] at hd ⊢
    simp [hd]
  · rw [if_neg e]
    have : (m.1 == (j : Int)) = false := by rw [hm, beq_eq_false_iff_ne]; omega
    rw [this, Bool.or_false]
/-- what is told: words of G, each of a node of its own -/
structure TL (F G : HU.St) (l : List K.Me) : Prop where
  good : ∀ m ∈ l, K.Good m
  is : ∀ m ∈ l, (F m.1).1 = m
  nd : ∀ (j k : Nat) (x y : K.Me), j < k → l[j]? = some x → l[k]? = some y → x.1 ≠ y.1
theorem TL.any {F G : HU.St} {l : List K.Me} (h : TL F G l) {k : Nat} {m : K.Me} (hm : l[k]? = some m) : anyN l k m.1 = false := by
  unfold anyN
  rw [List.any_eq_false]
  intro x hx e
  obtain ⟨j, hj⟩ := List.mem_iff_getElem?.1 hx
  rw [List.getElem?_take] at hj
  split at hj
  · rename_i h1
    exact h.nd j k x m h1 hj hm (by simpa using e)
  · cases hj
theorem TL.of {F G : HU.St} {T : Int} (ok : HU.Ok G T) (hs : ∀ n, (G n).1 = (F n).1) (k : Nat) : TL F G (HU.told G k) := by
  have rp := HU.rep_tl ok
  refine ⟨fun m hm => ?_, fun m hm => ?_, fun i j x y hij hx hy => ?_⟩
  · unfold HU.told at hm
    obtain ⟨r, hr, rfl⟩ := List.mem_map.1 hm
    have h1 := (rp.mem r).1 (List.mem_of_mem_take hr)
    have := (ok.at' r.1.1 (by rw [h1.1]; exact h1.2.1)).1
    rwa [h1.1] at this
  · unfold HU.told at hm
    obtain ⟨r, hr, rfl⟩ := List.mem_map.1 hm
    have h1 := (rp.mem r).1 (List.mem_of_mem_take hr)
    rw [← hs, h1.1]
  · unfold HU.told at hx hy
    rw [List.getElem?_map, List.getElem?_take] at hx hy
    split at hx
    · split at hy
      · rw [Option.map_eq_some_iff] at hx hy
        obtain ⟨r, hr, rfl⟩ := hx
        obtain ⟨s, hs', rfl⟩ := hy
        intro e
        have hnd := rp.nd
        have hi : i < ((HU.tl G).map (fun r => r.1.1)).length := by rw [List.length_map]; exact (List.getElem?_eq_some_iff.1 hr).1
        have := (List.getElem?_inj (j := j) hi hnd).1 (by rw [List.getElem?_map, List.getElem?_map, hr, hs']; simp [e])
        omega
      · cases hy
    · cases hx
/-- a number, as a plain one, modulo m -/
def um (n : Int) (m : Nat) : Nat := (n % 18446744073709551616).toNat % m
theorem um_lt (n : Int) (m : Nat) (h : 0 < m) : um n m < m := Nat.mod_lt _ h
theorem um_wrap (n : Int) (m : Nat) : Int.tmod (IntKind.u64.wrap n) (m : Int) = (um n m : Int) := by
  have e : IntKind.u64.wrap n = ((n % 18446744073709551616).toNat : Int) := by
    simp only [IntKind.wrap, IntKind.bits, IntKind.signed]; simp; omega
  rw [e, Int.tmod_eq_emod_of_nonneg (by omega)]; rfl
theorem wrap_i64_ofU {n : Int} (h1 : -9223372036854775808 ≤ n) (h2 : n ≤ 9223372036854775807) : IntKind.i64.wrap n = n := by
  simp only [IntKind.wrap, IntKind.bits, IntKind.signed]; simp; omega
/-- the hum and the law's arrays -/
structure T2 (w : World) (b : Nat) (T : Int) (G F : HU.St) (LB IB : Nat) (W : World) : Prop where
  h : HA w b T G [] W
  l : ∃ C, W.heap[LB]? = some (.cells C 42 (0, 0)) ∧ LA C F
  i : ∃ C, W.heap[IB]? = some (.cells C 43 (0, 0)) ∧ IA C F
  lb : w.heap.size ≤ LB
  ib : w.heap.size ≤ IB
theorem T2.grow {w W W' : World} {b : Nat} {T : Int} {G F : HU.St} {LB IB : Nat} (h : T2 w b T G F LB IB W) (hb : Bl W W') : T2 w b T G F LB IB W' := by
  obtain ⟨h1, ⟨C, h2, h3⟩, ⟨D, h4, h5⟩, h6, h7⟩ := h
  exact ⟨h1.grow hb, ⟨C, by rw [Below.block hb _ (lt_heap h2)]; exact h2, h3⟩, ⟨D, by rw [Below.block hb _ (lt_heap h4)]; exact h4, h5⟩, h6, h7⟩
theorem tags {C D : Array Value} {s t : TypeId} {W : World} {p q : Nat} (h1 : W.heap[p]? = some (.cells C s (0, 0))) (h2 : W.heap[q]? = some (.cells D t (0, 0))) (hne : s ≠ t) : p ≠ q := fun e => by
  subst e
  rw [h1] at h2
  have := Option.some.inj h2
  injection this with _ h3
  exact hne h3
/-- a block of one's own has turned -/
theorem HA.off {w W W' : World} {b : Nat} {T : Int} {F : HU.St} (h : HA w b T F [] W) {q : Nat} {C : Array Value} {t : TypeId} (hq : W.heap[q]? = some (.cells C t (0, 0))) (h1 : t ≠ 50) (h2 : t ≠ 48) (hb : w.heap.size ≤ q) (ho : W.grownBy W' (some q)) : HA w b T F [] W' := by
  obtain ⟨v, x, _⟩ := h.ex
  have n1 : b ≠ q := tags x.row hq (fun e => h1 e.symm)
  have n2 : some q ≠ v.ownBlock := fun e => by
    obtain ⟨D, hD⟩ := own_tag x.own e.symm
    exact tags hD hq (fun e => h2 e.symm) rfl
  refine ⟨v, ⟨by rw [ho.block b x.lt (fun e => n1 (Option.some.inj e))]; exact x.row, ?_, x.b0, (Of1.of_grown ho).bl x.bl hb, x.rep, x.ok, x.t1, x.t2⟩, fun p hp => by simp at hp⟩
  obtain ⟨h0, h1 | ⟨g, cap, cur, h1, h2, h3, h4⟩⟩ := x.own
  · exact ⟨h0, Or.inl h1⟩
  · exact ⟨h0, Or.inr ⟨g, cap, cur, h1, h2, by rw [ho.block g (lt_heap h3) (fun e => n2 (by rw [h1, ← e]; rfl))]; exact h3, h4⟩⟩
/-- a word comes into the law's arrays -/
theorem T2.put {w W : World} {b : Nat} {T : Int} {G F : HU.St} {LB IB : Nat} (h : T2 w b T G F LB IB W) (hT : 0 < T) (n : Nat) (hn : n < 7) (i s : Int) :
    T2 w b T G (HU.set1 F T ((n : Int), i, s)) LB IB (((((W.setCell ⟨LB, n * 3, none⟩ (.int .i64 (n : Int))).setCell ⟨LB, n * 3 + 1, none⟩ (.int .i64 i)).setCell ⟨LB, n * 3 + 2, none⟩ (.int .i64 s)).setCell ⟨IB, n, none⟩ (.bool true))) := by
  obtain ⟨h1, ⟨C, h2, h3⟩, ⟨D, h4, h5⟩, h6, h7⟩ := h
  have hne : LB ≠ IB := tags h2 h4 (by decide)
  have g1 : W.grownBy (((W.setCell ⟨LB, n * 3, none⟩ (.int .i64 (n : Int))).setCell ⟨LB, n * 3 + 1, none⟩ (.int .i64 i)).setCell ⟨LB, n * 3 + 2, none⟩ (.int .i64 s)) (some LB) := ((grown_setCell _ _ _ _).trans (grown_setCell _ _ _ _)).trans (grown_setCell _ _ _ _)
  have e1 := heap_setCell_own (i := n * 3 + 2) (v := .int .i64 s) (heap_setCell_own (i := n * 3 + 1) (v := .int .i64 i) (heap_setCell_own (i := n * 3) (v := .int .i64 (n : Int)) h2))
  have a1 := h1.off h2 (by decide) (by decide) h6 g1
  have e4 := (g1.block IB (lt_heap h4) (fun e => hne (Option.some.inj e).symm)).trans h4
  have g2 := grown_setCell (((W.setCell ⟨LB, n * 3, none⟩ (.int .i64 (n : Int))).setCell ⟨LB, n * 3 + 1, none⟩ (.int .i64 i)).setCell ⟨LB, n * 3 + 2, none⟩ (.int .i64 s)) IB n (.bool true)
  refine ⟨a1.off e4 (by decide) (by decide) h7 g2, ⟨_, (g2.block LB (lt_heap e1) (fun e => hne (Option.some.inj e))).trans e1, h3.put T n hn i s⟩, ⟨_, heap_setCell_own e4, h5.put T hT n hn i s⟩, h6, h7⟩
/-- Take beside blocks of one's own -/
theorem HA.takeO {w W : World} {b : Nat} {T : Int} {F : HU.St} (h : HA w b T F [] W) (most : Int) :
    Calls Try.prog 12 #[.pointer (some ⟨b, 0, none⟩), .int .i64 most] W fun e w' => ∃ a c, e = .returned (.slice a (HU.told F (HU.cnt F most)).length c) ∧ HA w b T (HU.took F (HU.cnt F most)) [] w' ∧ RS lyM w' a (HU.told F (HU.cnt F most)) ∧ (∀ q off, a = some ⟨q, off, none⟩ → W.heap.size ≤ q) ∧ ∀ (q : Nat) (C : Array Value) (t : TypeId), W.heap[q]? = some (.cells C t (0, 0)) → t ≠ 50 → t ≠ 48 → w'.heap[q]? = some (.cells C t (0, 0)) := by
  obtain ⟨v, h1, h2⟩ := h.ex
  refine (Take_x h1 most).mono ?_
  rintro e w' ⟨v', a, c, rfl, r1, r2, r3, r5, r4⟩
  refine ⟨a, c, rfl, ⟨v', r2, fun p hp => by simp at hp⟩, r1, fun q off e => (r4 q off e).1, fun q C t hq t1 t2 => ?_⟩
  rw [r3.block q (lt_heap hq) (tags hq h1.row t1) (fun e => ?_)]
  · exact hq
  · obtain ⟨D, hD⟩ := own_tag h1.own e.symm
    exact tags hq hD t2 rfl
/-- the hum, the law's arrays, and how often each was told -/
structure T3 (w : World) (b : Nat) (T : Int) (G F : HU.St) (LB IB TB : Nat) (f : Nat → Int) (W : World) : Prop where
  t : T2 w b T G F LB IB W
  n : ∃ C, W.heap[TB]? = some (.cells C 45 (0, 0)) ∧ TA C f
  tb : w.heap.size ≤ TB
theorem T3.grow {w W W' : World} {b : Nat} {T : Int} {G F : HU.St} {LB IB TB : Nat} {f : Nat → Int} (h : T3 w b T G F LB IB TB f W) (hb : Bl W W') : T3 w b T G F LB IB TB f W' := by
  obtain ⟨h1, ⟨C, h2, h3⟩, h4⟩ := h
  exact ⟨h1.grow hb, ⟨C, by rw [Below.block hb _ (lt_heap h2)]; exact h2, h3⟩, h4⟩
theorem T3.take {w W : World} {b : Nat} {T : Int} {G F : HU.St} {LB IB TB : Nat} {f : Nat → Int} (h : T3 w b T G F LB IB TB f W) (most : Int) :
    Calls Try.prog 12 #[.pointer (some ⟨b, 0, none⟩), .int .i64 most] W fun e w' => ∃ a c, e = .returned (.slice a (HU.told G (HU.cnt G most)).length c) ∧ T3 w b T (HU.took G (HU.cnt G most)) F LB IB TB f w' ∧ RS lyM w' a (HU.told G (HU.cnt G most)) ∧ ∀ q off, a = some ⟨q, off, none⟩ → q ≠ TB := by
  obtain ⟨⟨h1, ⟨C, h2, h3⟩, ⟨D, h4, h5⟩, h6, h7⟩, ⟨E, h8, h9⟩, h10⟩ := h
  refine (h1.takeO most).mono ?_
  rintro e w' ⟨a, c, rfl, r1, r2, r3, r4⟩
  exact ⟨a, c, rfl, ⟨⟨r1, ⟨C, r4 _ _ _ h2 (by decide) (by decide), h3⟩, ⟨D, r4 _ _ _ h4 (by decide) (by decide), h5⟩, h6, h7⟩, ⟨E, r4 _ _ _ h8 (by decide) (by decide), h9⟩, h10⟩, r2, fun q off e => by have := r3 q off e; have := lt_heap h8; omega⟩
theorem T3.put {w W : World} {b : Nat} {T : Int} {G F : HU.St} {LB IB TB : Nat} {f : Nat → Int} (h : T3 w b T G F LB IB TB f W) (n : Nat) (hn : n < 7) (q : Int) : T3 w b T G F LB IB TB (fun j => if j = n then q else f j) (W.setCell ⟨TB, n, none⟩ (.int .i64 q)) := by
  obtain ⟨⟨h1, ⟨C, h2, h3⟩, ⟨D, h4, h5⟩, h6, h7⟩, ⟨E, h8, h9⟩, h10⟩ := h
  have g := grown_setCell W TB n (.int .i64 q)
  refine ⟨⟨h1.off h8 (by decide) (by decide) h10 g, ⟨C, (g.block LB (lt_heap h2) (fun e => tags h2 h8 (by decide) (Option.some.inj e))).trans h2, h3⟩, ⟨D, (g.block IB (lt_heap h4) (fun e => tags h4 h8 (by decide) (Option.some.inj e))).trans h4, h5⟩, h6, h7⟩, ⟨_, heap_setCell_own h8, h9.put n hn q⟩, h10⟩
theorem T3.rs {W : World} {TB : Nat} {a : Option Addr} {l : List K.Me} (h : RS lyM W a l) (hn : ∀ q off, a = some ⟨q, off, none⟩ → q ≠ TB) (i : Nat) (v : Value) : RS lyM (W.setCell ⟨TB, i, none⟩ v) a l := h.offs (Of1.of_grown (grown_setCell W TB i v)) (fun off _ e => hn _ _ e rfl)
theorem T3.cn {w W : World} {b : Nat} {T : Int} {G F : HU.St} {LB IB TB : Nat} {f : Nat → Int} (h : T3 w b T G F LB IB TB f W) (n : Nat) (hn : n < 7) : W.cell? ⟨TB, n, none⟩ = some (.int .i64 (f n)) ∧ W.frozen? ⟨TB, n, none⟩ = false ∧ W.cell? ⟨IB, n, none⟩ = some (.bool (decide (0 < (F n).2))) ∧ W.cell? ⟨LB, n * 3, none⟩ = some (.int .i64 (F n).1.1) ∧ W.cell? ⟨LB, n * 3 + 1, none⟩ = some (.int .i64 (F n).1.2.1) ∧ W.cell? ⟨LB, n * 3 + 2, none⟩ = some (.int .i64 (F n).1.2.2) := by
  obtain ⟨⟨h1, ⟨C, h2, h3⟩, ⟨D, h4, h5⟩, h6, h7⟩, ⟨E, h8, h9⟩, h10⟩ := h
  obtain ⟨q1, q2, q3⟩ := h3.at' n hn
  refine ⟨by rw [Lib.cell_of_heap h8]; exact h9.at' n hn, by simp [World.frozen?, h8], by rw [Lib.cell_of_heap h4]; exact h5.at' n hn, ?_, ?_, ?_⟩
  · rw [Lib.cell_of_heap h2]; exact q1
  · rw [Lib.cell_of_heap h2]; exact q2
  · rw [Lib.cell_of_heap h2]; exact q3
/-- and what was told now -/
structure TY (w : World) (b : Nat) (T : Int) (G F : HU.St) (LB IB TB : Nat) (f : Nat → Int) (a : Option Addr) (l : List K.Me) (W : World) : Prop where
  t : T3 w b T G F LB IB TB f W
  r : RS lyM W a l
theorem TY.grow {w W W' : World} {b : Nat} {T : Int} {G F : HU.St} {LB IB TB : Nat} {f : Nat → Int} {a : Option Addr} {l : List K.Me} (h : TY w b T G F LB IB TB f a l W) (hb : Bl W W') : TY w b T G F LB IB TB f a l W' := ⟨h.t.grow hb, h.r.bl hb⟩
theorem told_len (F : HU.St) (n : Int) : (HU.told F (HU.cnt F n)).length = HU.cnt F n := by
  have := HU.cnt_le F n
  unfold HU.told
  rw [List.length_map, List.length_take]; omega
theorem T2.cn {w W : World} {b : Nat} {T : Int} {G F : HU.St} {LB IB : Nat} (h : T2 w b T G F LB IB W) (n : Nat) (hn : n < 7) : (∃ v, W.cell? ⟨IB, n, none⟩ = some v) ∧ W.frozen? ⟨IB, n, none⟩ = false ∧ (∃ v, W.cell? ⟨LB, n * 3, none⟩ = some v) ∧ (∃ v, W.cell? ⟨LB, n * 3 + 1, none⟩ = some v) ∧ (∃ v, W.cell? ⟨LB, n * 3 + 2, none⟩ = some v) ∧ (∀ o, W.frozen? ⟨LB, o, none⟩ = false) ∧ LB ≠ IB := by
  obtain ⟨h1, ⟨C, h2, h3⟩, ⟨D, h4, h5⟩, h6, h7⟩ := h
  obtain ⟨q1, q2, q3⟩ := h3.at' n hn
  refine ⟨⟨_, by rw [Lib.cell_of_heap h4]; exact h5.at' n hn⟩, by simp [World.frozen?, h4], ⟨_, by rw [Lib.cell_of_heap h2]; exact q1⟩, ⟨_, by rw [Lib.cell_of_heap h2]; exact q2⟩, ⟨_, by rw [Lib.cell_of_heap h2]; exact q3⟩, fun o => by simp [World.frozen?, h2], tags h2 h4 (by decide)⟩
end Go.Proofs.Ytpgagddofifikaa
