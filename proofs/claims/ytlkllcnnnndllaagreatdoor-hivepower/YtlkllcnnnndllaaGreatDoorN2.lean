/- A store in memory. -/
import Derived.Test.YtlkllcnnnndllaaGreatDoorN1
import Derived.Test.YtlkllcnnnndllaaGreatDoorGH
namespace Go.Proofs.YtlkllcnnnndllaaGreatDoor
open Go.RowKit Go.Maps
set_option linter.unusedVariables false
set_option linter.unusedSimpArgs false

/-- lengths of an entry's parts -/
structure En32 (e : V.En) : Prop where
  d : e.dig.length = 32
  c : e.ck.length = 32
  k : e.kind.length ≤ 1
theorem en0_32 : En32 V.en0 := ⟨zd_length, zd_length, by decide⟩
/-- slots as cells -/
def hvC : List V.En → List Value
  | [] => []
  | e :: r => svL e ++ hvC r
def All32 (es : List V.En) : Prop := ∀ (i : Nat) (e : V.En), es[i]? = some e → En32 e
theorem All32.tail {e : V.En} {r : List V.En} (h : All32 (e :: r)) : All32 r := fun i x hx => h (i + 1) x (by simpa using hx)
theorem All32.set {es : List V.En} (h : All32 es) (i : Nat) {e : V.En} (he : En32 e) : All32 (es.set i e) := fun j x hx => by
  by_cases hi : i < es.length
  · rcases V.set_at e hi j x hx with ⟨rfl, rfl⟩ | ⟨_, hx'⟩
    · exact he
    · exact h j x hx'
  · rw [List.set_eq_of_length_le (by omega)] at hx
    exact h j x hx
theorem hvC_length : ∀ {es : List V.En}, All32 es → (hvC es).length = es.length * 66
  | [], _ => rfl
  | e :: r, h => by
    have h0 := h 0 e rfl
    rw [hvC, List.length_append, svL_length h0.d h0.c, hvC_length h.tail, List.length_cons]; omega
theorem hvC_at : ∀ {es : List V.En} (_ : All32 es) (i : Nat) (e : V.En), es[i]? = some e → ∃ a z, hvC es = a ++ (svL e ++ z) ∧ a.length = i * 66 ∧ ∀ e', En32 e' → hvC (es.set i e') = a ++ (svL e' ++ z)
  | [], _, i, e, h => by simp at h
  | x :: r, hA, i, e, h => by
    cases i with
    | zero =>
      simp at h; subst h
      exact ⟨[], hvC r, rfl, rfl, fun e' _ => rfl⟩
    | succ i =>
      have h' : r[i]? = some e := by simpa using h
      obtain ⟨a, z, h1, h2, h3⟩ := hvC_at hA.tail i e h'
      have h0 := hA 0 x rfl
      refine ⟨svL x ++ a, z, by rw [hvC, h1, List.append_assoc], by rw [List.length_append, svL_length h0.d h0.c, h2]; omega, fun e' he' => ?_⟩
      rw [List.set_cons_succ, hvC, h3 e' he', List.append_assoc]

theorem heap_setCells {b : Nat} {t : TypeId} : ∀ (vs : List Value) (o : Nat) (w : World) (C : Array Value), w.heap[b]? = some (.cells C t (0, 0)) → ∃ C' : Array Value, (w.setCells b o vs).heap[b]? = some (.cells C' t (0, 0)) ∧ C'.size = C.size ∧ ∀ j, C'[j]? = if o ≤ j ∧ j < o + vs.length ∧ j < C.size then vs[j - o]? else C[j]?
  | [], o, w, C, h => ⟨C, h, rfl, fun j => by rw [if_neg (by simp; omega)]⟩
  | v :: vs, o, w, C, h => by
    have h1 := heap_setCell_rowH (i := o) (v := v) h
    obtain ⟨C', h2, h3, h4⟩ := heap_setCells vs (o + 1) (w.setCell ⟨b, o, none⟩ v) (C.setIfInBounds o v) h1
    refine ⟨C', h2, by rw [h3]; simp, fun j => ?_⟩
    rw [h4 j]
    simp only [Array.size_setIfInBounds, List.length_cons]
    by_cases c1 : o + 1 ≤ j ∧ j < o + 1 + vs.length ∧ j < C.size
    · rw [if_pos c1, if_pos (by omega)]
      rw [show j - o = (j - (o + 1)) + 1 by omega, List.getElem?_cons_succ]
    · rw [if_neg c1, Array.getElem?_setIfInBounds]
      by_cases c2 : o = j
      · subst c2
        by_cases c3 : o < C.size
        · rw [if_pos rfl, if_pos c3, if_pos (by omega)]; simp
        · rw [if_pos rfl, if_neg c3, if_neg (by omega), Array.getElem?_eq_none (by omega)]
      · rw [if_neg c2, if_neg (by omega)]
theorem heap_setCells_list {b : Nat} {t : TypeId} (w : World) (a m z vs : List Value) (o : Nat) (h : w.heap[b]? = some (.cells (a ++ (m ++ z)).toArray t (0, 0))) (ho : a.length = o) (hm : vs.length = m.length) : (w.setCells b o vs).heap[b]? = some (.cells (a ++ (vs ++ z)).toArray t (0, 0)) := by
  obtain ⟨C', h1, h2, h3⟩ := heap_setCells vs o w _ h
  rw [h1]
  congr 2
  apply Array.ext_getElem?
  intro j
  rw [h3 j, List.getElem?_toArray, List.getElem?_toArray]
  simp only [List.size_toArray, List.length_append]
  by_cases c1 : j < a.length
  · rw [if_neg (by omega), List.getElem?_append_left c1, List.getElem?_append_left c1]
  · have hr : (a ++ (vs ++ z))[j]? = (vs ++ z)[j - a.length]? := List.getElem?_append_right (by omega)
    have hl : (a ++ (m ++ z))[j]? = (m ++ z)[j - a.length]? := List.getElem?_append_right (by omega)
    rw [hr]
    by_cases c2 : j - a.length < vs.length
    · rw [if_pos (by omega), List.getElem?_append_left c2, ho]
    · rw [if_neg (by omega), hl, List.getElem?_append_right (by omega), List.getElem?_append_right (by omega), hm]
theorem heap_setCells_other {b k : Nat} (h : k ≠ b) : ∀ (vs : List Value) (o : Nat) (w : World), (w.setCells b o vs).heap[k]? = w.heap[k]?
  | [], o, w => rfl
  | v :: vs, o, w => by
    rw [World.setCells, heap_setCells_other h vs, Below.heap_setCell _ _ _ _ h]
theorem setCells_frame {b : Nat} : ∀ (vs : List Value) (o : Nat) (w : World), (w.setCells b o vs).os = w.os ∧ (w.setCells b o vs).tape = w.tape ∧ (w.setCells b o vs).output = w.output ∧ (w.setCells b o vs).heap.size = w.heap.size
  | [], o, w => ⟨rfl, rfl, rfl, rfl⟩
  | v :: vs, o, w => by
    obtain ⟨h1, h2, h3, h4⟩ := setCells_frame (b := b) vs (o + 1) (w.setCell ⟨b, o, none⟩ v)
    exact ⟨h1, h2, h3, by rw [World.setCells, h4]; simp [World.setCell]⟩

/-- where a store and its shelf lie -/
structure HB where
  sh : Nat
  sc : Nat
  hv : Nat
  sl : Nat
  mp : Nat
  pn : Option Nat
def HB.mem (b : HB) (k : Nat) : Prop := k = b.sh ∨ k = b.sc ∨ k = b.hv ∨ k = b.sl ∨ k = b.mp ∨ b.pn = some k
/-- a store -/
structure Hv where
  life : Nat
  es : List V.En
  uses : Nat
  pins : List (List UInt8)
def hC (b : HB) (h : Hv) : List Value := [.pointer (some ⟨b.sh, 0, none⟩), .int .i64 (h.life : Int), .slice (some ⟨b.sl, 0, none⟩) h.es.length h.es.length, .map (some b.mp), .map b.pn, .int .i64 (h.uses : Int)]
/-- all memory that there was is as it was, but for the store's -/
structure OffB (b : HB) (w w' : World) : Prop where
  os : w'.os = w.os
  tape : w'.tape = w.tape
  output : w'.output = w.output
  size : w.heap.size ≤ w'.heap.size
  block : ∀ k, k < w.heap.size → ¬ b.mem k → w'.heap[k]? = w.heap[k]?
theorem OffB.refl (b : HB) (w : World) : OffB b w w := ⟨rfl, rfl, rfl, Nat.le_refl _, fun _ _ _ => rfl⟩
theorem OffB.trans {b : HB} {w w' w'' : World} (h : OffB b w w') (k : OffB b w' w'') : OffB b w w'' :=
  ⟨k.os.trans h.os, k.tape.trans h.tape, k.output.trans h.output, Nat.le_trans h.size k.size, fun i hi hm => (k.block i (Nat.lt_of_lt_of_le hi h.size) hm).trans (h.block i hi hm)⟩
theorem OffB.of_below {b : HB} {w w' : World} (h : Below w.heap.size w w') : OffB b w w' := ⟨h.os, h.tape, h.output, h.size, fun k hk _ => h.block k hk⟩
/-- the blocks lie apart -/
structure HBok (b : HB) : Prop where
  n1 : b.sh ≠ b.sc
  n2 : b.sh ≠ b.hv
  n3 : b.sh ≠ b.sl
  n4 : b.sc ≠ b.hv
  n5 : b.sc ≠ b.sl
  n6 : b.hv ≠ b.sl
  n7 : b.pn ≠ some b.mp
  g1 : 2 ≤ b.sh
  g2 : 2 ≤ b.sc
  g3 : 2 ≤ b.hv
  g4 : 2 ≤ b.sl
  g5 : 2 ≤ b.mp
  g6 : ∀ p, b.pn = some p → 2 ≤ p
/-- A STORE h ON A SHELF st LIES IN W (its map says the places of em); all else that lay in w lies there still -/
structure HX (w : World) (b : HB) (h : Hv) (em : List V.En) (st : H.Sh) (W : World) : Prop where
  hb : W.heap[b.sh]? = some (.cells (H.shC st b.sc).toArray 65 (0, 0))
  hc : W.heap[b.sc]? = some (.cells (H.slC st.sl).toArray 88 (0, 0))
  hh : W.heap[b.hv]? = some (.cells (hC b h).toArray 70 (0, 0))
  hl : W.heap[b.sl]? = some (.cells (hvC h.es).toArray 96 (0, 0))
  mp : PW W b.mp em
  pn : PS W b.pn h.pins
  ok : HBok b
  o : OffB b w W
  g : GW W
  u : V.Uq em
  e : All32 h.es
  n : h.es.length = st.sl.length
def HW (w : World) (b : HB) (h : Hv) (st : H.Sh) (W : World) : Prop := HX w b h h.es st W

theorem lt_of_heap {W : World} {b : Nat} {o : Obj} (h : W.heap[b]? = some o) : b < W.heap.size := by
  rcases Nat.lt_or_ge b W.heap.size with h' | h'
  · exact h'
  · rw [Array.getElem?_eq_none h'] at h; simp at h
theorem PW.obj {W : World} {b : Nat} {es : List V.En} (h : PW W b es) : ∃ m c, W.heap[b]? = some (.map m c) := by
  obtain ⟨D, ⟨es', clock, h1, _⟩, _⟩ := h
  exact ⟨_, _, h1⟩
theorem PS.obj {W : World} {b : Nat} {l : List (List UInt8)} (h : PS W (some b) l) : ∃ m c, W.heap[b]? = some (.map m c) := by
  obtain ⟨n, D, _, ⟨es', clock, h1, _⟩, _⟩ := h
  exact ⟨_, _, h1⟩
section
variable {w W : World} {b : HB} {h : Hv} {em : List V.En} {st : H.Sh}
theorem HX.lt (x : HX w b h em st W) {k : Nat} (hk : b.mem k) : k < W.heap.size := by
  rcases hk with rfl | rfl | rfl | rfl | rfl | hp
  · exact lt_of_heap x.hb
  · exact lt_of_heap x.hc
  · exact lt_of_heap x.hh
  · exact lt_of_heap x.hl
  · obtain ⟨m, c, h1⟩ := x.mp.obj; exact lt_of_heap h1
  · have := x.pn; rw [hp] at this; obtain ⟨m, c, h1⟩ := this.obj; exact lt_of_heap h1
/-- blocks of cells aren't the map's -/
theorem HX.cells_ne (x : HX w b h em st W) {k : Nat} (hk : k = b.mp ∨ b.pn = some k) : k ≠ b.sh ∧ k ≠ b.sc ∧ k ≠ b.hv ∧ k ≠ b.sl := by
  have hm : ∃ m c, W.heap[k]? = some (.map m c) := by
    rcases hk with rfl | hp
    · exact x.mp.obj
    · have := x.pn; rw [hp] at this; exact this.obj
  obtain ⟨m, c, hm⟩ := hm
  refine ⟨fun e => ?_, fun e => ?_, fun e => ?_, fun e => ?_⟩
  · subst e; rw [x.hb] at hm; cases hm
  · subst e; rw [x.hc] at hm; cases hm
  · subst e; rw [x.hh] at hm; cases hm
  · subst e; rw [x.hl] at hm; cases hm
/-- W' IS W BUT FOR SOME OF THE STORE's BLOCKS -/
theorem HX.turn (x : HX w b h em st W) {W' : World} {h' : Hv} {em' : List V.En} {st' : H.Sh} (ho : OffB b W W')
    (hb : W'.heap[b.sh]? = some (.cells (H.shC st' b.sc).toArray 65 (0, 0)))
    (hc : W'.heap[b.sc]? = some (.cells (H.slC st'.sl).toArray 88 (0, 0)))
    (hh : W'.heap[b.hv]? = some (.cells (hC b h').toArray 70 (0, 0)))
    (hl : W'.heap[b.sl]? = some (.cells (hvC h'.es).toArray 96 (0, 0)))
    (mp : PW W' b.mp em') (pn : PS W' b.pn h'.pins) (u : V.Uq em') (e : All32 h'.es) (n : h'.es.length = st'.sl.length) : HX w b h' em' st' W' :=
  ⟨hb, hc, hh, hl, mp, pn, x.ok, x.o.trans ho, by
    have k := x.ok
    have hz := x.g.z
    refine x.g.below (B := 2) ⟨ho.os, ho.tape, ho.output, ho.size, fun i hi => ho.block i (by omega) ?_⟩ (Nat.le_refl _)
    rintro (rfl | rfl | rfl | rfl | rfl | hp)
    · have := k.g1; omega
    · have := k.g2; omega
    · have := k.g3; omega
    · have := k.g4; omega
    · have := k.g5; omega
    · have := k.g6 _ hp; omega, u, e, n⟩
theorem HX.step (x : HX w b h em st W) {W' : World} (hb : Below W.heap.size W W') : HX w b h em st W' :=
  x.turn (OffB.of_below hb) (by rw [hb.block _ (x.lt (.inl rfl))]; exact x.hb) (by rw [hb.block _ (x.lt (.inr (.inl rfl)))]; exact x.hc) (by rw [hb.block _ (x.lt (.inr (.inr (.inl rfl))))]; exact x.hh)
    (by rw [hb.block _ (x.lt (.inr (.inr (.inr (.inl rfl)))))]; exact x.hl) (x.mp.block (hb.block _ (x.lt (.inr (.inr (.inr (.inr (.inl rfl)))))))) (x.pn.block (fun p hp => hb.block _ (x.lt (.inr (.inr (.inr (.inr (.inr hp)))))))) x.u x.e x.n
theorem HX.drewN (x : HX w b h em st W) (n : Nat) : HX w b h em st (W.drewN n) := x.step (below_drewN (Below.refl _ _) n)
theorem HX.drew (x : HX w b h em st W) : HX w b h em st W.drew := x.step (Below.refl _ _).drew
theorem HX.alloc (x : HX w b h em st W) (o : Obj) : HX w b h em st (W.alloc o) := x.step ((Below.refl _ W).alloc (Nat.le_refl _) _)
theorem HX.base (x : HX w b h em st W) : HX W b h em st W := ⟨x.hb, x.hc, x.hh, x.hl, x.mp, x.pn, x.ok, OffB.refl _ _, x.g, x.u, x.e, x.n⟩
theorem HX.trans {W' : World} {h' : Hv} {em' : List V.En} {st' : H.Sh} (x : HX w b h em st W) (y : HX W b h' em' st' W') : HX w b h' em' st' W' := ⟨y.hb, y.hc, y.hh, y.hl, y.mp, y.pn, y.ok, x.o.trans y.o, y.g, y.u, y.e, y.n⟩
theorem HX.sw (x : HX w b h em st W) : SW W b.sh b.sc st W := ⟨x.hb, x.hc, x.ok.n1, Off2.refl _ _ _⟩
/-- an act on the shelf -/
theorem HX.shelf (x : HX w b h em st W) {W' : World} {st' : H.Sh} (y : SW W b.sh b.sc st' W') (hn : st'.sl.length = st.sl.length) : HX w b h em st' W' := by
  have k := x.ok
  have bl : ∀ i, i < W.heap.size → i ≠ b.sh → i ≠ b.sc → W'.heap[i]? = W.heap[i]? := fun i hi h1 h2 => y.o.block i hi h1 h2
  refine x.turn ⟨y.o.os, y.o.tape, y.o.output, y.o.size, fun i hi hm => bl i hi (fun e => hm (.inl e)) (fun e => hm (.inr (.inl e)))⟩ y.hb y.hc ?_ ?_ ?_ ?_ x.u x.e (by rw [hn]; exact x.n)
  · rw [bl _ (x.lt (.inr (.inr (.inl rfl)))) (fun e => k.n2 e.symm) (fun e => k.n4 e.symm)]; exact x.hh
  · rw [bl _ (x.lt (.inr (.inr (.inr (.inl rfl))))) (fun e => k.n3 e.symm) (fun e => k.n5 e.symm)]; exact x.hl
  · have := x.cells_ne (.inl rfl)
    exact x.mp.block (bl _ (x.lt (.inr (.inr (.inr (.inr (.inl rfl)))))) this.1 this.2.1)
  · exact x.pn.block (fun p hp => by have := x.cells_ne (.inr hp); exact bl _ (x.lt (.inr (.inr (.inr (.inr (.inr hp)))))) this.1 this.2.1)
/-- a store into the store's own cells -/
theorem HX.own (x : HX w b h em st W) (h' : Hv) (i : Nat) (v : Value) (e : (hC b h).set i v = hC b h') (he : h'.es = h.es) (hp : h'.pins = h.pins) : HX w b h' em st (W.setCell ⟨b.hv, i, none⟩ v) := by
  have k := x.ok
  have bl : ∀ j, j ≠ b.hv → (W.setCell ⟨b.hv, i, none⟩ v).heap[j]? = W.heap[j]? := fun j hj => Below.heap_setCell _ _ _ _ hj
  refine x.turn ⟨rfl, rfl, rfl, by simp [World.setCell], fun j hj hm => bl j (fun e => hm (.inr (.inr (.inl e))))⟩ (by rw [bl _ k.n2]; exact x.hb) (by rw [bl _ k.n4]; exact x.hc) (by rw [heap_setCell_rowH x.hh, List.setIfInBounds_toArray, e]) (by rw [bl _ (fun e => k.n6 e.symm), he]; exact x.hl)
    (x.mp.block (bl _ (x.cells_ne (.inl rfl)).2.2.1)) (by rw [hp]; exact x.pn.block (fun p hp => bl _ (x.cells_ne (.inr hp)).2.2.1)) x.u (by rw [he]; exact x.e) (by rw [he]; exact x.n)
/-- a whole slot is stored -/
theorem HX.slot (x : HX w b h em st W) (i : Nat) (a e : V.En) (ha : h.es[i]? = some a) (he : En32 e) : HX w b { h with es := h.es.set i e } em st (W.setCells b.sl (i * 66) (svL e)) := by
  have k := x.ok
  have bl : ∀ j, j ≠ b.sl → (W.setCells b.sl (i * 66) (svL e)).heap[j]? = W.heap[j]? := fun j hj => heap_setCells_other hj _ _ _
  obtain ⟨f1, f2, f3, f4⟩ := setCells_frame (b := b.sl) (svL e) (i * 66) W
  obtain ⟨c, z, q1, q2, q3⟩ := hvC_at x.e i a ha
  have a32 := x.e i a ha
  refine x.turn ⟨f1, f2, f3, by rw [f4]; exact Nat.le_refl _, fun j hj hm => bl j (fun e => hm (.inr (.inr (.inr (.inl e)))))⟩ (by rw [bl _ k.n3]; exact x.hb) (by rw [bl _ k.n5]; exact x.hc) (by rw [bl _ k.n6, x.hh]; simp [hC]) ?_
    (x.mp.block (bl _ (x.cells_ne (.inl rfl)).2.2.2)) (x.pn.block (fun p hp => bl _ (x.cells_ne (.inr hp)).2.2.2)) x.u (x.e.set i he) (by simp [x.n])
  have := heap_setCells_list W c (svL a) z (svL e) (i * 66) (by rw [← q1]; exact x.hl) q2 (by rw [svL_length he.d he.c, svL_length a32.d a32.c])
  rw [this, q3 e he]
/-- its map has turned -/
theorem HX.map (x : HX w b h em st W) {W' : World} {em' : List V.En} (t : W.mapTurned W' b.mp) (p : PW W' b.mp em') (u : V.Uq em') : HX w b h em' st W' := by
  have g := t.grown
  have ne := x.cells_ne (.inl rfl)
  have bl : ∀ j, j < W.heap.size → j ≠ b.mp → W'.heap[j]? = W.heap[j]? := fun j hj hm => g.block j hj (fun e => hm (Option.some.inj e))
  refine x.turn ⟨g.os, g.tape, g.output, g.size, fun j hj hm => bl j hj (fun e => hm (.inr (.inr (.inr (.inr (.inl e))))))⟩ (by rw [bl _ (x.lt (.inl rfl)) (fun e => ne.1 e.symm)]; exact x.hb) (by rw [bl _ (x.lt (.inr (.inl rfl))) (fun e => ne.2.1 e.symm)]; exact x.hc) (by rw [bl _ (x.lt (.inr (.inr (.inl rfl)))) (fun e => ne.2.2.1 e.symm)]; exact x.hh)
    (by rw [bl _ (x.lt (.inr (.inr (.inr (.inl rfl))))) (fun e => ne.2.2.2 e.symm)]; exact x.hl) p (x.pn.block (fun q hq => bl _ (x.lt (.inr (.inr (.inr (.inr (.inr hq)))))) (fun e => x.ok.n7 (by rw [hq, e])))) u x.e x.n
theorem HX.c0 (x : HX w b h em st W) : W.cell? ⟨b.hv, 0, none⟩ = some (.pointer (some ⟨b.sh, 0, none⟩)) := by rw [cell_row x.hh]; rfl
theorem HX.c1 (x : HX w b h em st W) : W.cell? ⟨b.hv, 1, none⟩ = some (.int .i64 (h.life : Int)) := by rw [cell_row x.hh]; rfl
theorem HX.c2 (x : HX w b h em st W) : W.cell? ⟨b.hv, 2, none⟩ = some (.slice (some ⟨b.sl, 0, none⟩) h.es.length h.es.length) := by rw [cell_row x.hh]; rfl
theorem HX.c3 (x : HX w b h em st W) : W.cell? ⟨b.hv, 3, none⟩ = some (.map (some b.mp)) := by rw [cell_row x.hh]; rfl
theorem HX.c4 (x : HX w b h em st W) : W.cell? ⟨b.hv, 4, none⟩ = some (.map b.pn) := by rw [cell_row x.hh]; rfl
theorem HX.c5 (x : HX w b h em st W) : W.cell? ⟨b.hv, 5, none⟩ = some (.int .i64 (h.uses : Int)) := by rw [cell_row x.hh]; rfl
theorem HX.fh (x : HX w b h em st W) (i : Nat) : W.frozen? ⟨b.hv, i, none⟩ = false := frozen_row x.hh i
theorem HX.fl (x : HX w b h em st W) (i : Nat) : W.frozen? ⟨b.sl, i, none⟩ = false := frozen_row x.hl i
/-- a slot's cells -/
theorem HX.rng (x : HX w b h em st W) {i : Nat} {e : V.En} (he : h.es[i]? = some e) : W.rangeAt b.sl (i * 66) (svL e) := by
  obtain ⟨c, z, q1, q2, q3⟩ := hvC_at x.e i e he
  exact range_part x.hl c (svL e) z (i * 66) (by rw [q1]) q2
theorem svL_used (e : V.En) (h : En32 e) : (svL e)[65]? = some (.int .i64 (e.used : Int)) := by
  unfold svL
  rw [List.getElem?_append_right (by rw [evL_length h.d h.c]; exact Nat.le_refl _)]
  simp [evL_length h.d h.c]
theorem HX.usedC (x : HX w b h em st W) {i : Nat} {e : V.En} (he : h.es[i]? = some e) : W.cell? ⟨b.sl, i * 66 + 65, none⟩ = some (.int .i64 (e.used : Int)) := x.rng he 65 _ (svL_used e (x.e i e he))
theorem HX.kindC (x : HX w b h em st W) {i : Nat} {e : V.En} (he : h.es[i]? = some e) : W.cell? ⟨b.sl, i * 66, none⟩ = some (.string (M.bs e.kind)) := x.rng he 0 _ rfl
/-- 'used' alone is stored -/
theorem HX.used (x : HX w b h em st W) (i : Nat) (e : V.En) (he : h.es[i]? = some e) (u : Nat) : HX w b { h with es := h.es.set i { e with used := u } } em st (W.setCell ⟨b.sl, i * 66 + 65, none⟩ (.int .i64 (u : Int))) := by
  have e32 := x.e i e he
  have e32' : En32 { e with used := u } := ⟨e32.d, e32.c, e32.k⟩
  have y := x.slot i e { e with used := u } he e32'
  have hw : (W.setCell ⟨b.sl, i * 66 + 65, none⟩ (.int .i64 (u : Int))).heap = (W.setCells b.sl (i * 66) (svL { e with used := u })).heap := by
    apply Array.ext_getElem?
    intro j
    by_cases hj : j = b.sl
    · subst hj
      obtain ⟨c, z, q1, q2, q3⟩ := hvC_at x.e i e he
      rw [y.hl, heap_setCell_rowH x.hl, q1, q3 _ e32', List.setIfInBounds_toArray]
      congr 3
      have hs : svL e = evL e.kind e.dig e.ck ++ [Value.int .i64 (e.used : Int)] := rfl
      have hs' : svL { e with used := u } = evL e.kind e.dig e.ck ++ [Value.int .i64 (u : Int)] := rfl
      rw [hs, hs', List.set_append_right _ _ (by omega), q2, Nat.add_sub_cancel_left, List.append_assoc, List.append_assoc, List.set_append_right _ _ (by rw [evL_length e32.d e32.c]; exact Nat.le_refl _), evL_length e32.d e32.c]
      rfl
    · rw [Below.heap_setCell _ _ _ _ hj, heap_setCells_other hj]
  have hcell : ∀ j : Nat, (W.setCell ⟨b.sl, i * 66 + 65, none⟩ (.int .i64 (u : Int))).heap[j]? = (W.setCells b.sl (i * 66) (svL { e with used := u })).heap[j]? := fun j => by rw [hw]
  refine x.turn ⟨rfl, rfl, rfl, by simp [World.setCell], fun j hj hm => Below.heap_setCell _ _ _ _ (fun e => hm (.inr (.inr (.inr (.inl e)))))⟩ (by rw [hcell]; exact y.hb) (by rw [hcell]; exact y.hc) (by rw [hcell]; exact y.hh) (by rw [hcell]; exact y.hl) (y.mp.block (hcell _)) (y.pn.block (fun p _ => hcell _)) x.u y.e y.n
end
end Go.Proofs.YtlkllcnnnndllaaGreatDoor
