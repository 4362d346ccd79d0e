/- For OvenNames: the build that the law makes, in memory. -/
import Derived.Test.YtjbffhdccgmfpaaGreatDoorRun9
import Derived.Test.YtjbffhdccgmfpaaGreatDoorNMa
import Derived.Test.YtjbffhdccgmfpaaGreatDoorZG
import Derived.Laws.StructEq
namespace Go.Proofs.YtjbffhdccgmfpaaGreatDoor
open Go.RowKit RN
set_option linter.unusedVariables false
set_option linter.unusedSimpArgs false

theorem own_tagN {W : World} {N k n g : Nat} {T : TypeId} {v : Value} {xs : List Value} (h : W.ownsRow N T k v n xs) (hg : v.ownBlock = some g) : ∃ C, W.heap[g]? = some (.cells C T (0, 0)) := by
  obtain ⟨_, ⟨h1, h2⟩ | ⟨g', cap', cur, h1, _, h3, _⟩⟩ := h
  · subst h1; cases hg
  · subst h1; cases hg; exact ⟨cur, h3⟩
/-- rows of unlike types never meet -/
theorem own_apartN {W W' : World} {N N' k k' n n' : Nat} {T T' : TypeId} {v v' : Value} {xs xs' : List Value} (h : W.ownsRow N T k v n xs) (h' : W.ownsRow N' T' k' v' n' xs') (hne : T ≠ T') (hg : W.grownBy W' v'.ownBlock) : W'.ownsRow N T k v n xs := by
  obtain ⟨h0, h1 | ⟨g, cap, cur, h1, h2, h3, h4⟩⟩ := h
  · exact ⟨h0, Or.inl h1⟩
  · refine ⟨h0, Or.inr ⟨g, cap, cur, h1, h2, ?_, h4⟩⟩
    rw [hg.block g (TA.lt_heap h3) (fun e => ?_)]
    · exact h3
    · obtain ⟨D, hD⟩ := own_tagN h' e.symm
      rw [h3] at hD
      have := Option.some.inj hD
      injection this with _ h5
      exact hne h5
/-- a box of another type stands when a row grows -/
theorem box_grown {W W' : World} {N k n b : Nat} {T T' : TypeId} {v : Value} {xs : List Value} {C : Array Value} (hb : W.heap[b]? = some (.cells C T (0, 0))) (h : W.ownsRow N T' k v n xs) (hne : T ≠ T') (hg : W.grownBy W' v.ownBlock) : W'.heap[b]? = some (.cells C T (0, 0)) := by
  rw [hg.block b (TA.lt_heap hb) (fun e => ?_)]
  · exact hb
  · obtain ⟨D, hD⟩ := own_tagN h e.symm
    rw [hb] at hD
    have := Option.some.inj hD
    injection this with _ h5
    exact hne h5
theorem heap_setN {w : World} {b i : Nat} {C : Array Value} {t : TypeId} {fr : Nat × Nat} {v : Value} (h : w.heap[b]? = some (.cells C t fr)) : (w.setCell ⟨b, i, none⟩ v).heap[b]? = some (.cells (C.setIfInBounds i v) t fr) := by
  show (w.heap.modify b _)[b]? = _
  rw [Array.getElem?_modify, if_pos rfl, h]; rfl
/-- a row stands when a cell of a box of another type is written -/
theorem own_setN {W : World} {N k n b i : Nat} {T T' : TypeId} {v u : Value} {xs : List Value} {C : Array Value} {fr : Nat × Nat} (h : W.ownsRow N T k v n xs) (hb : W.heap[b]? = some (.cells C T' fr)) (hne : T ≠ T') : (W.setCell ⟨b, i, none⟩ u).ownsRow N T k v n xs := by
  obtain ⟨h0, h1 | ⟨g, cap, cur, h1, h2, h3, h4⟩⟩ := h
  · exact ⟨h0, Or.inl h1⟩
  · refine ⟨h0, Or.inr ⟨g, cap, cur, h1, h2, ?_, h4⟩⟩
    rw [Below.heap_setCell _ _ _ _ (fun e => ?_)]
    · exact h3
    · have e : g = b := e
      rw [e, hb] at h3
      have := Option.some.inj h3
      injection this with _ h5
      exact hne h5.symm
theorem IO.setN {N b i : Nat} {w : World} {u : Value} {x : Option Addr} {c : Nat} {l : List (List UInt8)} {C : Array Value} {fr : Nat × Nat} (h : IO N w x c l) (hb : w.heap[b]? = some (.cells C 25 fr)) (hN : N ≤ b) : IO N (w.setCell ⟨b, i, none⟩ u) x c l := by
  rcases h with h | h
  · exact Or.inl (h.below (Below.setCell (Below.refl N w) hN _) (Nat.le_refl _))
  · exact Or.inr (own_setN h hb (by decide))
theorem AO.setN {N M b i : Nat} {w : World} {v u : Value} {A : List RC.Ac} {ys : List (Option Addr × Nat)} {C : Array Value} {fr : Nat × Nat} (h : AO N M w v A ys) (hb : w.heap[b]? = some (.cells C 25 fr)) (hN : N ≤ b) : AO N M (w.setCell ⟨b, i, none⟩ u) v A ys :=
  ⟨own_setN h.own hb (by decide), h.len, fun i t x c h1 h2 => (h.ins i t x c h1 h2).setN hb hN, h.nm, by have := h.m; simpa [World.setCell] using this⟩
theorem encT : ∀ ks : List (List UInt8), flG lyT ks = ks.map encS
  | [] => rfl
  | x :: r => by
    have ih := encT r
    unfold flG at ih ⊢
    rw [List.flatMap_cons, ih]; rfl
theorem IO.grownS {N M n : Nat} {w w8 : World} {x : Option Addr} {c : Nat} {l : List (List UInt8)} {v : Value} {xs : List Value} {T : TypeId} {k : Nat} (h : IO N w x c l) (hv : w.ownsRow M T k v n xs) (hne : 9 ≠ T) (hM : N ≤ M) (hg : w.grownBy w8 v.ownBlock) (hN : N ≤ w.heap.size) : IO N w8 x c l := by
  rcases h with h | h
  · exact Or.inl (h.below (Below.grown (Below.refl N w) hg hN (fun k hk => Nat.le_trans hM (TA.owns_ge hv hk).1)) (Nat.le_refl _))
  · exact Or.inr (own_apartN h hv hne hg)
/-- the build under way: its box lies where w4 ended -/
structure NS (w4 : World) (S : List (List UInt8)) (A : List RC.Ac) (ys : List (Option Addr × Nat)) (u v : Value) (wr : World) : Prop where
  bl : Bl w4 wr
  bx : wr.heap[w4.heap.size]? = some (.cells #[u, v] 25 (0, 0))
  s : wr.ownsRow w4.heap.size 9 1 u S.length (flG lyT S)
  a : AO w4.heap.size w4.heap.size wr v A ys
theorem NS.c {w4 wr : World} {S : List (List UInt8)} {A : List RC.Ac} {ys : List (Option Addr × Nat)} {u v : Value} (h : NS w4 S A ys u v wr) : wr.cell? ⟨w4.heap.size, 0, none⟩ = some u ∧ wr.cell? ⟨w4.heap.size, 1, none⟩ = some v ∧ w4.heap.size < wr.heap.size := ⟨by rw [Lib.cell_of_heap h.bx]; rfl, by rw [Lib.cell_of_heap h.bx]; rfl, TA.lt_heap h.bx⟩
theorem NS.grow {w4 wr wx : World} {S : List (List UInt8)} {A : List RC.Ac} {ys : List (Option Addr × Nat)} {u v : Value} (h : NS w4 S A ys u v wr) (hb : Bl wr wx) : NS w4 S A ys u v wx :=
  ⟨h.bl.step hb, by rw [Below.block hb _ h.c.2.2]; exact h.bx, ownsRow_belowT h.s hb, h.a.bl hb⟩
/-- nothing yet -/
theorem NS.new (w4 : World) : NS w4 [] [] [] (.slice none 0 0) (.slice none 0 0) (w4.alloc (.cells #[.slice none 0 0, .slice none 0 0] 25)) :=
  ⟨(Bl.refl w4).alloc _, heap_alloc_new w4 _, ⟨rfl, Or.inl ⟨rfl, rfl⟩⟩, AO.nil (Nat.le_refl _) (by simp)⟩
/-- the names grew, and the box is told -/
theorem NS.src {w4 wr w8 : World} {S S' : List (List UInt8)} {u v u' : Value} (h : NS w4 S [] [] u v wr) (hv : v = .slice none 0 0) (h8 : w8.ownsRow w4.heap.size 9 1 u' S'.length (flG lyT S')) (hb : Bl w4 w8) (hg : wr.grownBy w8 u.ownBlock) :
    w8.heap[w4.heap.size]? = some (.cells #[u, v] 25 (0, 0)) ∧ NS w4 S' [] [] u' v (w8.setCell ⟨w4.heap.size, 0, none⟩ u') := by
  have b8 := box_grown h.bx h.s (by decide) hg
  refine ⟨b8, Below.setCell hb (Nat.le_refl _) _, heap_setN b8, own_setN h8 b8 (by decide), ?_⟩
  subst hv
  refine AO.nil (Nat.le_refl _) ?_
  have := TA.lt_heap b8
  simp [World.setCell]; omega
/-- the actions grew, and the box is told -/
theorem NS.act {w4 wr w8 : World} {S : List (List UInt8)} {A A' : List RC.Ac} {ys ys' : List (Option Addr × Nat)} {u v v' : Value} (h : NS w4 S A ys u v wr) (h8 : AO w4.heap.size w4.heap.size w8 v' A' ys') (hg : wr.grownBy w8 v.ownBlock) :
    w8.heap[w4.heap.size]? = some (.cells #[u, v] 25 (0, 0)) ∧ NS w4 S A' ys' u v' (w8.setCell ⟨w4.heap.size, 1, none⟩ v') := by
  have b8 := box_grown h.bx h.a.own (by decide) hg
  exact ⟨b8, Below.setCell (h.a.below h.bl (Nat.le_refl _) hg) (Nat.le_refl _) _, heap_setN b8, own_setN (own_apartN h.s h.a.own (by decide) hg) b8 (by decide), h8.setN b8 (Nat.le_refl _)⟩
/-- the build, as a call takes it -/
theorem NS.ga {w4 wr : World} {S : List (List UInt8)} {A : List RC.Ac} {ys : List (Option Addr × Nat)} {u v : Value} (h : NS w4 S A ys u v wr) : ∃ sa sc aa ac, u = .slice sa S.length sc ∧ v = .slice aa A.length ac ∧ GA wr.heap.size wr (S, A) sa sc aa ac := by
  have hs := h.s
  rw [encT] at hs
  obtain ⟨sa, sc, rfl⟩ := own_shape hs
  obtain ⟨aa, ac, rfl, h2⟩ := h.a.acts
  exact ⟨sa, sc, aa, ac, rfl, rfl, strs_of_owns hs, h2⟩
theorem hidN {p : Prop} (h : p) : Hid p := h
theorem q_bs (x : List UInt8) : (⟨#[113]⟩ : ByteArray) ++ M.bs x = M.bs (qn x) := by
  apply ByteArray.ext
  rw [ByteArray.data_append]
  show (#[113] : Array UInt8) ++ (M.bs x).data = (M.bs (qn x)).data
  simp [M.bs, qn]
theorem qn_len (x : List UInt8) : (qn x).length = x.length + 1 := rfl
theorem take_q1 {S : List (List UInt8)} {k : Nat} {x : List UInt8} (h : S[k]? = some x) : (S.take (k + 1)).map qn = (S.take k).map qn ++ [qn x] := by
  rw [List.take_add_one, h]; simp
theorem take_q2 {A : List RC.Ac} {k : Nat} {x : RC.Ac} (h : A[k]? = some x) : (A.take (k + 1)).map qa = (A.take k).map qa ++ [qa x] := by
  rw [List.take_add_one, h]; simp
/-- in the middle of an action: its box lies where wr ended, its inputs are a row of one's own -/
structure INq (wr : World) (nn code : List UInt8) (x : Option Addr) (m xc : Nat) (D : List (List UInt8)) (r : Value) (wx : World) : Prop where
  bl : Bl wr wx
  bx : wx.heap[wr.heap.size]? = some (.cells #[.string (M.bs nn), .slice x m xc, .string (M.bs code)] 43 (0, 0))
  s : wx.ownsRow wr.heap.size 9 1 r D.length (flG lyT D)
theorem INq.new (wr : World) (nn code : List UInt8) (x : Option Addr) (m xc : Nat) : INq wr nn code x m xc [] (.slice (some ⟨wr.heap.size + 1, 0, none⟩) 0 0) ((wr.alloc (.cells #[.string (M.bs nn), .slice x m xc, .string (M.bs code)] 43)).alloc (.cells #[] 9)) := by
  refine ⟨((Bl.refl wr).alloc _).alloc _, (Below.heap_alloc _ _ _ (by simp)).trans (heap_alloc_new wr _), rfl, Or.inr ⟨wr.heap.size + 1, 0, #[], rfl, by omega, ?_, Nat.le_refl _, by decide, by simp, rfl⟩⟩
  have := heap_alloc_new (wr.alloc (.cells #[.string (M.bs nn), .slice x m xc, .string (M.bs code)] 43)) (.cells #[] 9)
  rwa [show (wr.alloc (.cells #[.string (M.bs nn), .slice x m xc, .string (M.bs code)] 43)).heap.size = wr.heap.size + 1 by simp] at this
theorem INq.c {wr wx : World} {nn code : List UInt8} {x : Option Addr} {m xc : Nat} {D : List (List UInt8)} {r : Value} (h : INq wr nn code x m xc D r wx) : wx.cell? ⟨wr.heap.size, 1, none⟩ = some (.slice x m xc) ∧ wx.frozen? ⟨wr.heap.size, 1, none⟩ = false ∧ wr.heap.size < wx.heap.size := ⟨by rw [Lib.cell_of_heap h.bx]; rfl, by simp [World.frozen?, h.bx], TA.lt_heap h.bx⟩
theorem INq.app {wr wx w8 : World} {nn code : List UInt8} {x : Option Addr} {m xc : Nat} {D D' : List (List UInt8)} {r r' : Value} (h : INq wr nn code x m xc D r wx) (h8 : w8.ownsRow wr.heap.size 9 1 r' D'.length (flG lyT D')) (hb : Bl wr w8) (hg : wx.grownBy w8 r.ownBlock) : INq wr nn code x m xc D' r' w8 := ⟨hb, box_grown h.bx h.s (by decide) hg, h8⟩
/-- the inputs are told -/
theorem INq.told {wr wx : World} {nn code : List UInt8} {x : Option Addr} {m xc : Nat} {D : List (List UInt8)} {r : Value} (h : INq wr nn code x m xc D r wx) : Bl wr (wx.setCell ⟨wr.heap.size, 1, none⟩ r) ∧ (wx.setCell ⟨wr.heap.size, 1, none⟩ r).rangeAt wr.heap.size 0 [.string (M.bs nn), r, .string (M.bs code)] ∧ (wx.setCell ⟨wr.heap.size, 1, none⟩ r).ownsRow wr.heap.size 9 1 r D.length (D.map encS) := by
  refine ⟨Below.setCell h.bl (Nat.le_refl _) _, fun j u hu => ?_, by rw [← encT]; exact own_setN h.s h.bx (by decide)⟩
  rw [Lib.cell_of_heap (heap_setN h.bx), Nat.zero_add]
  rcases j with _ | _ | _ | j
  · cases hu; rfl
  · cases hu; rfl
  · cases hu; rfl
  · simp at hu
theorem io_one {N : Nat} {w : World} {x : Option Addr} {c : Nat} {t : RC.Ac} (h : IO N w x c t.2.1) : ∀ (i : Nat) (t' : RC.Ac) (x' : Option Addr) (c' : Nat), [t][i]? = some t' → [(x, c)][i]? = some (x', c') → IO N w x' c' t'.2.1 := by
  intro i t' x' c' h1 h2
  rcases i with _ | i
  · cases h1; cases h2; exact h
  · simp at h1
theorem news_one (U : World) (t : RC.Ac) (x : Option Addr) (c : Nat) : ∀ (j : Nat) (u : Value), (flatA [t] [(x, c)])[j]? = some u → (U.alloc (.cells #[.string (M.bs t.1), .slice x t.2.1.length c, .string (M.bs t.2.2)] 43)).cell? ⟨U.heap.size, 0 + j, none⟩ = some u := by
  intro j u hu
  rw [Lib.cell_of_heap (heap_alloc_new _ _), Nat.zero_add]
  rcases j with _ | _ | _ | j
  · cases hu; rfl
  · cases hu; rfl
  · cases hu; rfl
  · simp [flatA, acL] at hu
theorem infoAcN (n c : List UInt8) (r : Value) : (Tryz.prog.info? 43).map (·.size) = some [Value.string (M.bs n), r, .string (M.bs c)].length := by kernel_rfl
theorem infoSoN (n c : List UInt8) : (Tryz.prog.info? 45).map (·.size) = some [Value.string (M.bs n), .string (M.bs c)].length := by kernel_rfl
theorem infoSoM : (Tryz.prog.info? 45).map (fun i => (i.zero, i.size, i.bytes)) = some (some (.agg #[.string ⟨#[]⟩, .string ⟨#[]⟩]), 2, 32) := by kernel_rfl
theorem ql_drop {l : List O.So} {j : Nat} {x : O.So} (h : l[j]? = some x) : ql (l.drop j) = ql (l.drop (j + 1)) ++ [qs x] := by
  obtain ⟨hj, rfl⟩ := List.getElem?_eq_some_iff.1 h
  rw [List.drop_eq_getElem_cons hj]
  simp only [ql, List.map_cons, List.reverse_cons]
/-- sources under way -/
structure SM (w6 : World) (l : List O.So) (k : Nat) (r : Value) (wx : World) : Prop where
  bl : Bl w6 wx
  m : wx.ownsRow w6.heap.size 45 2 r (ql (l.drop k)).length (flG lyS (ql (l.drop k)))
theorem SM.new (w6 : World) (l : List O.So) : SM w6 l l.length (.slice (some ⟨w6.heap.size, 0, none⟩) 0 0) (w6.alloc (.cells #[] 45)) := by
  refine ⟨(Bl.refl w6).alloc _, ?_⟩
  rw [List.drop_length]
  exact ⟨rfl, Or.inr ⟨w6.heap.size, 0, #[], rfl, Nat.le_refl _, heap_alloc_new w6 _, Nat.le_refl _, by decide, by simp, rfl⟩⟩
/-- all that is there when the law compares -/
structure CN (g : RC.Gr) (l : List O.So) (a5 a6 a7 a8 : Option Addr) (W : World) : Prop where
  b1 : RS lyB W a5 (O.build g l)
  k1 : RS lyD W a6 (O.keys g l)
  b2 : RS lyB W a7 (O.build (qg g) (ql l))
  k2 : RS lyD W a8 (O.keys (qg g) (ql l))
theorem CN.grow {g : RC.Gr} {l : List O.So} {a5 a6 a7 a8 : Option Addr} {W W' : World} (h : CN g l a5 a6 a7 a8 W) (hb : Bl W W') : CN g l a5 a6 a7 a8 W' := ⟨h.b1.bl hb, h.k1.bl hb, h.b2.bl hb, h.k2.bl hb⟩
theorem keyA_lenN (m : O.Mp) (a : RC.Ac) : (O.keyA m a).length = 32 := by
  unfold O.keyA
  split
  · simp [O.zd]
  · unfold O.key; exact S.sha_length _
theorem eqReN (c c' : Int) (t t' : List UInt8) (W : World) : (Op.equalIn 10000 47 (.agg #[.int .i64 c, .string (M.bs t)]) (.agg #[.int .i64 c', .string (M.bs t')])).run Tryz.prog W = .ok (decide (c = c' ∧ t = t')) W := by
  have hS : Tryz.prog.underlying 47 = some (.struct (Tryz.prog.fieldsOf 47)) := by kernel_rfl
  have hp : Tryz.prog.stoodInHeld 47 = false := by kernel_rfl
  rw [show (10000 : Nat) = 9998 + 1 + 1 from rfl, run_equalIn_struct W (9998 + 1) 47 _ _ hS hp]
  simp only [Program.fieldsOf, Tryz.underlying47, Op.eqFields]
  have p1 := fun (c : Int) (t : List UInt8) W => part_one (t := 30) Tryz.isAgg30 #[.int .i64 c, .string (M.bs t)] 0 (.int .i64 c) rfl W
  have p2 := fun (c : Int) (t : List UInt8) W => part_one (t := 9) Tryz.isAgg9 #[.int .i64 c, .string (M.bs t)] 1 (.string (M.bs t)) rfl W
  have h1 : ∀ W, (Op.equalIn (9998 + 1) 30 (.int .i64 c) (.int .i64 c')).run Tryz.prog W = .ok (c == c') W := fun W => run_equalIn_int W 9998 30 .i64 .i64 c c' Tryz.underlying30
  have h2 : ∀ W, (Op.equalIn (9998 + 1) 9 (.string (M.bs t)) (.string (M.bs t'))).run Tryz.prog W = .ok ((M.bs t).toList == (M.bs t').toList) W := fun W => run_equalIn_string W 9998 9 _ _ Tryz.underlying9
  have hk := bs_eq9 t t'
  by_cases e1 : c = c'
  · subst e1
    by_cases e2 : t = t'
    · subst e2; simp [p1, p2, h1, h2]
    · have hk' : ((M.bs t).toList == (M.bs t').toList) = false := by rw [hk]; simp [e2]
      simp [p1, p2, h1, h2, hk', e2]
  · have e1' : (c == c') = false := by simpa using e1
    simp [p1, h1, e1', e1]
end Go.Proofs.YtjbffhdccgmfpaaGreatDoor
