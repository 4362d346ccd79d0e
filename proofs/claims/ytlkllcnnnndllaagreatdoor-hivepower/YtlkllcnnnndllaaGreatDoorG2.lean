/- A store that has what its slots say: all is sure, the power goes and is back, it is opened: all is there. A law's store and the rows beside it. -/
import Derived.Test.YtlkllcnnnndllaaGreatDoorG1
import Derived.Test.YtlkllcnnnndllaaGreatDoorP5
namespace Go.Proofs.YtlkllcnnnndllaaGreatDoor
open Go.RowKit Go.Maps
set_option linter.unusedVariables false
set_option linter.unusedSimpArgs false

/-- an entry but for its last use -/
def strip (e : V.En) : Option (List UInt8 × List UInt8 × List UInt8) := if e.kind = [] then none else some (e.kind, e.dig, e.ck)
theorem strip_none {e : V.En} (h : strip e = none) : e.kind = [] := by
  unfold strip at h
  split at h
  · assumption
  · cases h
theorem strip_some {e f : V.En} (h : strip e = strip f) (hk : e.kind ≠ []) : f.kind = e.kind ∧ f.dig = e.dig ∧ f.ck = e.ck := by
  unfold strip at h
  rw [if_neg hk] at h
  by_cases hf : f.kind = []
  · rw [if_pos hf] at h; cases h
  · rw [if_neg hf] at h
    simp only [Option.some.injEq, Prod.mk.injEq] at h
    exact ⟨h.1.symm, h.2.1.symm, h.2.2.symm⟩
theorem strip_free {e f : V.En} (h : strip e = strip f) (hk : e.kind = []) : f.kind = [] := by
  apply strip_none
  rw [← h]
  unfold strip
  rw [if_pos hk]
theorem strip_at {es es' : List V.En} (h : es.map strip = es'.map strip) {i : Nat} {e' : V.En} (he : es'[i]? = some e') : ∃ e, es[i]? = some e ∧ strip e = strip e' := by
  have h1 : (es'.map strip)[i]? = some (strip e') := by rw [List.getElem?_map, he]; rfl
  rw [← h, List.getElem?_map] at h1
  cases hx : es[i]? with
  | none => rw [hx] at h1; simp at h1
  | some e => rw [hx] at h1; exact ⟨e, rfl, Option.some.inj h1⟩
theorem find_strip {es es' : List V.En} (h : es.map strip = es'.map strip) (k d : List UInt8) : V.findN es k d = V.findN es' k d := by
  have key : ∀ l : List V.En, V.findN l k d = (l.map strip).findIdx? (fun o => match o with | none => false | some x => decide (x.1 = k ∧ x.2.1 = d)) := fun l => by
    unfold V.findN
    rw [List.findIdx?_map]
    congr 1
    funext e
    unfold strip
    by_cases hk : e.kind = []
    · simp [hk]
    · simp [hk]
  rw [key, key, h]
theorem cnt_strip {es es' : List V.En} (h : es.map strip = es'.map strip) : V.cntN es = V.cntN es' := by
  have key : ∀ l : List V.En, V.cntN l = ((l.map strip).filter (fun o => o.isSome)).length := fun l => by
    unfold V.cntN
    rw [List.filter_map, List.length_map]
    congr 2
    funext e
    unfold strip
    by_cases hk : e.kind = []
    · simp [hk]
    · simp [hk]
  rw [key, key, h]
theorem Sto.strip {X : List UInt8 → Prop} {es es' : List V.En} {sl : List H.Sl} (st : Sto X es sl) (h : es.map strip = es'.map strip) : Sto X es' sl := by
  refine ⟨fun i e' he' hk => ?_, fun i e' he' hk => ?_⟩
  · obtain ⟨e, he, hs⟩ := strip_at h he'
    have hke : e.kind ≠ [] := fun hc => hk (strip_free hs hc)
    obtain ⟨h1, h2, h3⟩ := strip_some hs hke
    obtain ⟨c, ⟨s, q1, q2, q3, q4, q5⟩, q6⟩ := st.e i e he hke
    exact ⟨c, ⟨s, q1, q2, by rw [q3, h1], by rw [q4, h2], by rw [q5, h3]⟩, q6⟩
  · obtain ⟨e, he, hs⟩ := strip_at h he'
    exact st.f i e he (strip_free hs.symm hk)
theorem decode_nil : V.decode [] = none := by simp [V.decode, V.unsl]
/-- what load has come to, on slots that are good -/
structure LG (es : List V.En) (n f a : Nat) (sl : List H.Sl) (k : Nat) (S : LSt) : Prop where
  s : S.sl = sl
  a : S.a = a
  w : S.wp = false
  l : S.h.es.length = n
  p : ∀ (j : Nat) (x : V.En), S.h.es[j]? = some x → (j < k → ∃ e, es[j]? = some e ∧ strip x = strip e) ∧ (k ≤ j → strip x = none)
theorem LG.step {X : List UInt8 → Prop} {es : List V.En} {n f a : Nat} {sl : List H.Sl} (st : Sto X es sl) (hU : V.Uq es) (hn : es.length = n) {k : Nat} {S : LSt} (hk : k < n) (g : LG es n f a sl k S) : LG es n f a sl (k + 1) (ldStep k S) := by
  obtain ⟨e, he⟩ : ∃ e, es[k]? = some e := ⟨es[k]'(by omega), List.getElem?_eq_getElem _⟩
  unfold ldStep
  rw [g.s]
  by_cases h0 : e.kind = []
  · obtain ⟨s, hs, ht⟩ := st.f k e he h0
    rw [hs]
    simp only
    rw [if_pos ht]
    refine ⟨g.s, g.a, g.w, g.l, fun j x hx => ⟨fun hj => ?_, fun hj => (g.p j x hx).2 (by omega)⟩⟩
    by_cases hjk : j = k
    · subst hjk
      refine ⟨e, he, ?_⟩
      rw [(g.p j x hx).2 (Nat.le_refl _)]
      unfold Go.Proofs.YtlkllcnnnndllaaGreatDoor.strip
      rw [if_pos h0]
    · exact (g.p j x hx).1 (by omega)
  · obtain ⟨c, ⟨s, hs, hd, h1, h2, h3⟩, _⟩ := st.e k e he h0
    rw [hs]
    simp only
    have ht : s.text ≠ [] := fun ht => by rw [ht, decode_nil] at hd; cases hd
    rw [if_neg ht]
    have hnone : V.findN S.h.es c.kind c.dig = none := by
      cases hf : V.findN S.h.es c.kind c.dig with
      | none => rfl
      | some j =>
        exfalso
        obtain ⟨x, hx, g1, g2, g3⟩ := V.findN_some hf
        by_cases hjk : j < k
        · obtain ⟨e2, he2, hs2⟩ := (g.p j x hx).1 hjk
          obtain ⟨q1, q2, q3⟩ := strip_some hs2 g1
          have := hU j k e2 e he2 he (by rw [q1]; exact g1) (by rw [q1, g2, h1]) (by rw [q2, g3, h2])
          omega
        · exact g1 (strip_none ((g.p j x hx).2 (by omega)))
    have had : adoptN S.h.es s.text = some (enOf c) := by
      unfold adoptN
      rw [hd]
      simp only
      rw [hnone]
    rw [had]
    simp only
    refine ⟨rfl, g.a, g.w, by rw [fillV_len]; exact g.l, fun j x hx => ?_⟩
    have hkl : k < S.h.es.length := by rw [g.l]; exact hk
    rcases V.set_at _ hkl j x hx with ⟨rfl, rfl⟩ | ⟨hj, hx'⟩
    · refine ⟨fun _ => ⟨e, he, ?_⟩, fun h => by omega⟩
      unfold Go.Proofs.YtlkllcnnnndllaaGreatDoor.strip
      have hck : c.kind ≠ [] := by rw [h1]; exact h0
      rw [if_neg (show ¬ (enOf c).kind = [] from hck), if_neg h0]
      show some (c.kind, c.dig, c.ck) = _
      rw [h1, h2, h3]
    · exact ⟨fun hjk => (g.p j x hx').1 (by omega), fun hjk => (g.p j x hx').2 (by omega)⟩
theorem LG.all {X : List UInt8 → Prop} {es : List V.En} {n f a : Nat} {sl : List H.Sl} (st : Sto X es sl) (hU : V.Uq es) (hn : es.length = n) : ∀ k, k ≤ n → LG es n f a sl k (ldN (ld0 f n a sl) k)
  | 0, _ => ⟨rfl, rfl, rfl, by simp [ldN, ld0, hv0], fun j x hx => ⟨fun h => by omega, fun _ => by
      rw [List.eq_of_mem_replicate (List.mem_of_getElem? hx)]; rfl⟩⟩
  | k + 1, h => (LG.all st hU hn k (by omega)).step st hU hn (by omega)
theorem LG.end {es : List V.En} {n f a : Nat} {sl : List H.Sl} {S : LSt} (g : LG es n f a sl n S) (hn : es.length = n) : es.map strip = S.h.es.map strip := by
  apply List.ext_getElem?
  intro j
  rw [List.getElem?_map, List.getElem?_map]
  by_cases hj : j < n
  · obtain ⟨x, hx⟩ : ∃ x, S.h.es[j]? = some x := ⟨S.h.es[j]'(by rw [g.l]; exact hj), List.getElem?_eq_getElem _⟩
    obtain ⟨e, he, hs⟩ := (g.p j x hx).1 hj
    rw [hx, he]
    show some (strip e) = some (strip x)
    rw [hs]
  · rw [List.getElem?_eq_none (by omega), List.getElem?_eq_none (by rw [g.l]; omega)]
theorem Sto.texts {X : List UInt8 → Prop} {es : List V.En} {sl sl' : List H.Sl} (st : Sto X es sl) (h : ∀ (i : Nat) (s : H.Sl), sl[i]? = some s → ∃ s', sl'[i]? = some s' ∧ s'.text = s.text) : Sto X es sl' := by
  refine ⟨fun i e he hk => ?_, fun i e he hk => ?_⟩
  · obtain ⟨c, ⟨s, q1, q2, q3⟩, q6⟩ := st.e i e he hk
    obtain ⟨s', h1, h2⟩ := h i s q1
    exact ⟨c, ⟨s', h1, by rw [h2]; exact q2, q3⟩, q6⟩
  · obtain ⟨s, q1, q2⟩ := st.f i e he hk
    obtain ⟨s', h1, h2⟩ := h i s q1
    exact ⟨s', h1, by rw [h2]; exact q2⟩
/-- a store that was: what its Len hangs on -/
structure ZO (K sh sc cn : Nat) (W : World) : Prop where
  z : ∃ (b : HB) (h : Hv), b.hv = K ∧ W.heap[b.hv]? = some (.cells (hC b h).toArray 70 (0, 0)) ∧ PW W b.mp h.es ∧ V.cntN h.es = cn ∧ (b.hv ≠ sh ∧ b.hv ≠ sc) ∧ (b.mp ≠ sh ∧ b.mp ≠ sc) ∧ b.mp < W.heap.size
theorem ZO.turn {K sh sc cn : Nat} {W W' : World} (z : ZO K sh sc cn W) (hs : W.heap.size ≤ W'.heap.size) (h : ∀ q, q < W.heap.size → q ≠ sh → q ≠ sc → W'.heap[q]? = W.heap[q]?) : ZO K sh sc cn W' := by
  obtain ⟨b, hv, h1, h2, h3, h4, h5, h6, h7⟩ := z.z
  exact ⟨b, hv, h1, by rw [h _ (lt_of_heap h2) h5.1 h5.2]; exact h2, h3.block (h _ h7 h6.1 h6.2), h4, h5, h6, by omega⟩
set_option maxRecDepth 8000 in
theorem ZO.len {K sh sc cn : Nat} {W : World} (z : ZO K sh sc cn W) : Calls Tryz.prog 22 #[.pointer (some ⟨K, 0, none⟩)] W fun e' w' => e' = .returned (.int .i64 (cn : Int)) ∧ w' = W := by
  obtain ⟨b, hv, rfl, h2, h3, rfl, _⟩ := z.z
  have k3 : W.cell? ⟨b.hv, 3, none⟩ = some (.map (some b.mp)) := by rw [cell_row h2]; rfl
  have HL : Hid _ := fun ty => h3.len ty
  clear h2 h3 z
  go_enter Tryz.func22, Tryz.ntmps22
  go_wp2_with (at_len; refine wl_len rfl _ 67 rfl (.map (some b.mp)) _ rfl (HL.out _) ?_)
  go_ret
  exact ⟨rfl, rfl⟩

/-- the law's store, and rows of the law's own -/
def QY (w : World) (n m K sh sc : Nat) (rs : List (Nat × Array Value × TypeId)) (X dn : List UInt8 → Prop) (cn : Nat) (R : List V.En → List H.Sl → Prop) (W : World) : Prop := ∃ (b : HB) (life a : Nat) (h : Hv) (sl : List H.Sl), QX w n m b life a h sl X dn cn W ∧ (b.hv = K ∧ b.sh = sh ∧ b.sc = sc) ∧ RB b.mem rs W ∧ R h.es sl
def R0 : List V.En → List H.Sl → Prop := fun _ _ => True
section
variable {w W : World} {n m K sh sc : Nat} {rs : List (Nat × Array Value × TypeId)} {X dn : List UInt8 → Prop} {cn : Nat} {R : List V.En → List H.Sl → Prop}
theorem QY.step (q : QY w n m K sh sc rs X dn cn R W) {W' : World} (hb : Below W.heap.size W W') : QY w n m K sh sc rs X dn cn R W' := by
  obtain ⟨b, l, a, h, sl, q, e, r, hR⟩ := q
  exact ⟨b, l, a, h, sl, q.step hb, e, r.turn (fun q hq _ => hb.block q hq), hR⟩
theorem QY.alloc (q : QY w n m K sh sc rs X dn cn R W) (o : Obj) : QY w n m K sh sc rs X dn cn R (W.alloc o) := q.step ((Below.refl _ W).alloc (Nat.le_refl _) _)
theorem QY.wider (q : QY w n m K sh sc rs X dn cn R W) {m' : Nat} (hm : m ≤ m') : QY w n m' K sh sc rs X dn cn R W := by
  obtain ⟨b, l, a, h, sl, q, e, r, hR⟩ := q
  exact ⟨b, l, a, h, sl, q.wider hm, e, r, hR⟩
theorem QY.row (q : QY w n m K sh sc rs X dn cn R W) (C : Array Value) (T : TypeId) : QY w n m K sh sc ((W.heap.size, C, T) :: rs) X dn cn R (W.alloc (.cells C T)) := by
  obtain ⟨b, l, a, h, sl, q, e, r, hR⟩ := q
  exact ⟨b, l, a, h, sl, q.step ((Below.refl _ W).alloc (Nat.le_refl _) _), e, r.cons C T (fun k hk => HX.lt q.g.x hk), hR⟩
theorem QY.less (q : QY w n m K sh sc rs X dn cn R W) {rs' : List (Nat × Array Value × TypeId)} (hs : ∀ p ∈ rs', p ∈ rs) : QY w n m K sh sc rs' X dn cn R0 W := by
  obtain ⟨b, l, a, h, sl, q, e, r, hR⟩ := q
  exact ⟨b, l, a, h, sl, q, e, fun p hp => r p (hs p hp), trivial⟩
theorem QY.dns (q : QY w n m K sh sc rs X dn cn R W) {dn' : List UInt8 → Prop} (hs : ∀ t, dn' t → dn t) : QY w n m K sh sc rs X dn' cn R W := by
  obtain ⟨b, l, a, h, sl, q, e, r, hR⟩ := q
  exact ⟨b, l, a, h, sl, ⟨q.g, q.s, q.c, fun t ht => q.d t (hs t ht)⟩, e, r, hR⟩
theorem QY.at (q : QY w n m K sh sc rs X dn cn R W) {k : Nat} {C : Array Value} {T : TypeId} (hp : (k, C, T) ∈ rs) : W.heap[k]? = some (.cells C T (0, 0)) := by
  obtain ⟨b, l, a, h, sl, q, e, r, hR⟩ := q
  exact (r _ hp).1
theorem QY.o (q : QY w n m K sh sc rs X dn cn R W) : Below w.heap.size w W := by obtain ⟨b, l, a, h, sl, q, e, r, hR⟩ := q; exact q.g.o
theorem QY.gw (q : QY w n m K sh sc rs X dn cn R W) : GW W := by obtain ⟨b, l, a, h, sl, q, e, r, hR⟩ := q; exact q.g.x.g
theorem QY.recA (q : QY w n m K sh sc rs X dn cn R W) (hm : m ≤ 900000) (hr' : cn < n) (r : V.Rc) (hr : Rc32 r) :
    Calls Tryz.prog 13 #[.pointer (some ⟨K, 0, none⟩), .agg (rv r)] W fun e' w' => ∃ (er : Int) (cn' : Nat), e' = .returned (.int .i64 er) ∧ (er = 0 ∨ er = 1 ∨ er = 21) ∧ cn' ≤ cn + 1 ∧ QY w n (m + 5) K sh sc rs X dn cn' (RS r er) w' := by
  obtain ⟨b, l, a, h, sl, q, ⟨rfl, e2, e3⟩, rb, hR⟩ := q
  refine (q.recA hm hr' r hr).mono ?_
  rintro e' w' ⟨er, a', h', sl', cn', rfl, h1, h2, q', hs, o⟩
  exact ⟨er, cn', rfl, h1, h2, b, l, a', h', sl', q', ⟨rfl, e2, e3⟩, rb.turn o.block, hs⟩
theorem QY.recB {r : V.Rc} {er : Int} (q : QY w n m K sh sc rs X dn cn (RS r er) W) (hm : m ≤ 900000) (hr : Rc32 r) :
    Calls Tryz.prog 13 #[.pointer (some ⟨K, 0, none⟩), .agg (rv r)] W fun e' w' => e' = .returned (.int .i64 er) ∧ QY w n (m + 5) K sh sc rs X dn cn R0 w' := by
  obtain ⟨b, l, a, h, sl, q, ⟨rfl, e2, e3⟩, rb, hR⟩ := q
  refine (q.recB hm r hr hR).mono ?_
  rintro e' w' ⟨h', rfl, q', o⟩
  exact ⟨rfl, b, l, a, h', sl, q', ⟨rfl, e2, e3⟩, rb.turn o.block, trivial⟩
theorem QY.recG (q : QY w n m K sh sc rs X dn cn R W) (hm : m ≤ 900000) (d : List UInt8) (hd : d.length = 32) :
    Calls Tryz.prog 12 #[.pointer (some ⟨K, 0, none⟩), .agg (dg d)] W fun e' w' => ∃ (r : V.Rc) (v : Bool), e' = .returned (.tuple #[.agg (rv r), .bool v]) ∧ Rc32 r ∧ QY w n (m + 5) K sh sc rs X dn cn R0 w' := by
  obtain ⟨b, l, a, h, sl, q, ⟨rfl, e2, e3⟩, rb, hR⟩ := q
  refine (q.recG hm d hd).mono ?_
  rintro e' w' ⟨r, v, h', rfl, hr, q', o⟩
  exact ⟨r, v, rfl, hr, b, l, a, h', sl, q', ⟨rfl, e2, e3⟩, rb.turn o.block, trivial⟩
theorem QY.blobW (q : QY w n m K sh sc rs X dn cn R W) (t : List UInt8) (ht : 512 < t.length) (ht2 : t.length ≤ 9223372036854775807) :
    Calls Tryz.prog 11 #[.pointer (some ⟨K, 0, none⟩), .string (M.bs t)] W fun e' w' => e' = .returned (.tuple #[.agg zero32, .int .i64 33]) ∧ QY w n (m + 5) K sh sc rs X dn cn R0 w' := by
  obtain ⟨b, l, a, h, sl, q, ⟨rfl, e2, e3⟩, rb, hR⟩ := q
  refine (q.blobW t ht ht2).mono ?_
  rintro e' w' ⟨rfl, q', o⟩
  exact ⟨rfl, b, l, a, h, sl, q', ⟨rfl, e2, e3⟩, rb.turn o.block, trivial⟩
theorem QY.blobA (q : QY w n m K sh sc rs X dn cn R W) (hm : m ≤ 900000) (hr : cn < n) (t : List UInt8) (ht : t.length ≤ 512) (hX : X t) :
    Calls Tryz.prog 11 #[.pointer (some ⟨K, 0, none⟩), .string (M.bs t)] W fun e' w' => ∃ cn' : Nat, e' = .returned (.tuple #[.agg (dg (S.sha t)), .int .i64 0]) ∧ cn' ≤ cn + 1 ∧ QY w n (m + 5) K sh sc rs X (fun s => dn s ∨ s = t) cn' R0 w' := by
  obtain ⟨b, l, a, h, sl, q, ⟨rfl, e2, e3⟩, rb, hR⟩ := q
  refine (q.blobA hm hr t ht hX).mono ?_
  rintro e' w' ⟨a', h', sl', cn', rfl, h2, q', o⟩
  exact ⟨cn', rfl, h2, b, l, a', h', sl', q', ⟨rfl, e2, e3⟩, rb.turn o.block, trivial⟩
theorem QY.blobB (q : QY w n m K sh sc rs X dn cn R W) (hm : m ≤ 900000) (t : List UInt8) (ht : t.length ≤ 512) (hd : dn t) :
    Calls Tryz.prog 11 #[.pointer (some ⟨K, 0, none⟩), .string (M.bs t)] W fun e' w' => e' = .returned (.tuple #[.agg (dg (S.sha t)), .int .i64 0]) ∧ QY w n (m + 5) K sh sc rs X dn cn R0 w' := by
  obtain ⟨b, l, a, h, sl, q, ⟨rfl, e2, e3⟩, rb, hR⟩ := q
  refine (q.blobB hm t ht hd).mono ?_
  rintro e' w' ⟨h', rfl, q', o⟩
  exact ⟨rfl, b, l, a, h', sl, q', ⟨rfl, e2, e3⟩, rb.turn o.block, trivial⟩
theorem QY.blob (q : QY w n m K sh sc rs X dn cn R W) (hm : m ≤ 900000) (t : List UInt8) (hX : ∀ s, X s → S.sha s = S.sha t → s = t) (hd : t.length ≤ 512 → dn t) :
    Calls Tryz.prog 17 #[.pointer (some ⟨K, 0, none⟩), .agg (dg (S.sha t))] W fun e' w' => e' = .returned (.tuple #[.string (M.bs (if t.length ≤ 512 then t else [])), .bool (decide (t.length ≤ 512))]) ∧ QY w n (m + 5) K sh sc rs X dn cn R0 w' := by
  obtain ⟨b, l, a, h, sl, q, ⟨rfl, e2, e3⟩, rb, hR⟩ := q
  refine (q.blob hm t hX hd).mono ?_
  rintro e' w' ⟨h', rfl, q', o⟩
  exact ⟨rfl, b, l, a, h', sl, q', ⟨rfl, e2, e3⟩, rb.turn o.block, trivial⟩
theorem QY.len (q : QY w n m K sh sc rs X dn cn R W) : Calls Tryz.prog 22 #[.pointer (some ⟨K, 0, none⟩)] W fun e' w' => e' = .returned (.int .i64 (cn : Int)) ∧ w' = W := by
  obtain ⟨b, l, a, h, sl, q, ⟨rfl, e2, e3⟩, rb, hR⟩ := q
  exact q.len
theorem QY.of (q : QY w n m K sh sc rs X dn cn R W) (t : List UInt8) (T : TypeId) (ht : t.length ≤ 1048576) : Calls Tryz.prog 18 #[.slice (some ⟨W.heap.size, 0, none⟩) 1 1] (W.alloc (.cells #[.string (M.bs t)] T)) fun e' w' => e' = .returned (.agg (dg (S.sha t))) ∧ QY w n m K sh sc rs X dn cn R w' := by
  refine (Of_g t T (GB.refl q.gw) (by omega)).mono ?_
  rintro e' w' ⟨rfl, hg⟩
  exact ⟨rfl, q.step hg.b⟩
/-- the shelf of such a store, all of it sure, and the store that was -/
def QZ (w : World) (n m K sh sc : Nat) (off : Bool) (X dn : List UInt8 → Prop) (cn : Nat) (W : World) : Prop := (∃ (life a : Nat) (sl : List H.Sl), SX w n m sh sc off life a sl W ∧ (∀ s ∈ sl, s.un = false) ∧ ∃ es : List V.En, Sto X es sl ∧ V.Uq es ∧ es.length = n ∧ V.cntN es = cn ∧ ∀ t, dn t → V.findN es V.kb (S.sha t) ≠ none) ∧ ZO K sh sc cn W
theorem QY.sync (q : QY w n m K sh sc rs X dn cn R W) (hm : m ≤ 900000) : Calls Tryz.prog 14 #[.pointer (some ⟨K, 0, none⟩)] W fun e' w' => e' = .returned (.int .i64 0) ∧ QZ w n (m + 5) K sh sc false X dn cn w' := by
  obtain ⟨b, l, a, h, sl, q, ⟨rfl, rfl, rfl⟩, rb, hR⟩ := q
  have ham := q.g.am
  have hum := q.g.um
  refine (SyncV_x q.g.x (q.g.sm hm) rfl q.g.li (by show (0 : Nat) ≠ 1; decide)).mono ?_
  rintro e' w' ⟨rfl, y⟩
  have y' : HW W b h (shOf l (a + 1) (sl.map (fun s => H.settle s.text))) w' := y
  have g' : GX w n (m + 5) b l (a + 1) h (sl.map (fun s => H.settle s.text)) w' := q.g.next y' q.g.s.sync rfl (by omega) (by omega) (by omega) q.g.us
  have st' : Sto X h.es (sl.map (fun s => H.settle s.text)) := q.s.texts (fun i s hs => ⟨H.settle s.text, by rw [List.getElem?_map, hs]; rfl, rfl⟩)
  have ne := y'.cells_ne (.inl rfl)
  obtain ⟨pm, pc, hpm⟩ := y'.mp.obj
  refine ⟨rfl, ⟨l, a + 1, _, g'.sx, fun s hs => ?_, h.es, st', q.uq, q.g.el, q.c, q.d⟩, ⟨b, h, rfl, y'.hh, y'.mp, q.c, ⟨fun e => y'.ok.n2 e.symm, fun e => y'.ok.n4 e.symm⟩, ⟨ne.1, ne.2.1⟩, lt_of_heap hpm⟩⟩
  obtain ⟨z, _, rfl⟩ := List.mem_map.1 hs
  rfl
theorem QZ.off (q : QZ w n m K sh sc false X dn cn W) (hm : m ≤ 900000) : Calls Tryz.prog 15 #[.pointer (some ⟨sh, 0, none⟩)] W fun e' w' => e' = .returned (.tuple #[]) ∧ QZ w n (m + 1) K sh sc true X dn cn w' := by
  obtain ⟨⟨l, a, sl, x, hu, he⟩, z⟩ := q
  refine (x.goes hm).mono ?_
  rintro e' w' ⟨rfl, y, o⟩
  exact ⟨rfl, ⟨_, _, _, y, hu, he⟩, z.turn o.size o.block⟩
theorem QZ.on (q : QZ w n m K sh sc true X dn cn W) (hm : m ≤ 900000) : Calls Tryz.prog 16 #[.pointer (some ⟨sh, 0, none⟩), .slice none 0 0] W fun e' w' => e' = .returned (.tuple #[]) ∧ QZ w n m K sh sc false X dn cn w' := by
  obtain ⟨⟨l, a, sl, x, hu, he⟩, z⟩ := q
  refine (x.back hm [] none 0 (fun i y hy => by simp at hy) (by simp) (by simp)).mono ?_
  rintro e' w' ⟨rfl, y, o⟩
  have e : sl.mapIdx (H.back (if ([] : List Int).length = 0 then [0] else []) sl) = sl := back_same _ _ hu
  rw [e] at y
  exact ⟨rfl, ⟨_, _, _, y, hu, he⟩, z.turn o.size o.block⟩
theorem QZ.opens (q : QZ w n m K sh sc false X dn cn W) (hm : m ≤ 800000) (hg : GW w) :
    Calls Tryz.prog 9 #[.pointer (some ⟨sh, 0, none⟩)] W fun e' w' => ∃ K2, e' = .returned (.tuple #[.pointer (some ⟨K2, 0, none⟩), .int .i64 0]) ∧ QY w n (m + 200) K2 sh sc [] X dn cn R0 w' ∧ ZO K sh sc cn w' := by
  obtain ⟨⟨l, a, sl, x, hu, es, st, hU, hel, hcn, hdn⟩, z⟩ := q
  refine (x.opens hm hg).mono ?_
  rintro e' w' ⟨k, hk, rfl, y, o⟩
  have hL := LG.all (f := l) (a := a) st hU hel n (Nat.le_refl _)
  have hE := hL.end hel
  have hA : ldSl (ldN (ld0 l n a sl) n) = sl := by unfold ldSl; rw [hL.w]; exact hL.s
  rw [hA] at y
  have hb : ∀ j, j < W.heap.size → j ≠ sh → j ≠ sc → ¬ (newB sh sc k).mem j := fun j hj h1 h2 => by
    rintro (e | e | e | e | e | e)
    · exact h1 e
    · exact h2 e
    · have : j = k + 2 := e; omega
    · have : j = k := e; omega
    · have : j = k + 1 := e; omega
    · cases e
  refine ⟨_, rfl, ⟨newB sh sc k, l, _, _, sl, ⟨y, st.strip hE, by rw [← cnt_strip hE]; exact hcn, fun t ht => by rw [← find_strip hE]; exact hdn t ht⟩, ⟨rfl, rfl, rfl⟩, (fun p hp => by cases hp), trivial⟩, z.turn o.size (fun j hj h1 h2 => o.block j hj (hb j hj h1 h2))⟩
/-- a new shelf is opened -/
theorem QY.new {b c : Nat} (x : SW w b c (new n) W) (hb : w.heap.size ≤ b) (hc : w.heap.size ≤ c) (hn : n ≤ 128) (hg : GW w) :
    Calls Tryz.prog 9 #[.pointer (some ⟨b, 0, none⟩)] W fun e' w' => ∃ K, e' = .returned (.tuple #[.pointer (some ⟨K, 0, none⟩), .int .i64 0]) ∧ QY w n (0 + 200) K b c [] X (fun _ => False) 0 R0 w' := by
  have x0 : SX w n 0 b c false 0 0 (List.replicate n s0) W := ⟨x.base, Ss.new n, hn, Nat.le_refl _, Nat.le_refl _, x.o.below hb hc (Nat.le_refl _), hb, hc⟩
  have st : Sto X (List.replicate n V.en0) (List.replicate n s0) := by
    refine ⟨fun i e he hk => ?_, fun i e he hk => ?_⟩
    · rw [List.eq_of_mem_replicate (List.mem_of_getElem? he)] at hk; exact absurd rfl hk
    · have hi : i < n := by have := (List.getElem?_eq_some_iff.1 he).1; simpa using this
      exact ⟨s0, by rw [List.getElem?_replicate, if_pos hi], rfl⟩
  refine (x0.opens (by omega) hg).mono ?_
  rintro e' w' ⟨k, hk, rfl, y, o⟩
  have hL := LG.all (f := 0) (a := 0) st (Uq0 n) (by simp) n (Nat.le_refl _)
  have hE := hL.end (by simp)
  have hA : ldSl (ldN (ld0 0 n 0 (List.replicate n s0)) n) = List.replicate n s0 := by unfold ldSl; rw [hL.w]; exact hL.s
  rw [hA] at y
  exact ⟨_, rfl, newB b c k, 0, _, _, _, ⟨y, st.strip hE, by rw [← cnt_strip hE]; exact cnt0 n, fun t ht => ht.elim⟩, ⟨rfl, rfl, rfl⟩, (fun p hp => by cases hp), trivial⟩
end
end Go.Proofs.YtlkllcnnnndllaaGreatDoor
