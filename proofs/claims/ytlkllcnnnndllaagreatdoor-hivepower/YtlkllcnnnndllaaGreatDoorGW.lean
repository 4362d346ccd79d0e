/- The texts Y5l Y5m Y5n Y5o Y5p as one. -/
import Derived.Test.YtlkllcnnnndllaaGreatDoorGU
import Derived.Test.YtlkllcnnnndllaaGreatDoorY5k
import Derived.Test.YtlkllcnnnndllaaGreatDoorG3
/- For HivePower: rows of one's own beside a store; what the law's four lists say of the store's slots. -/
namespace Go.Proofs.YtlkllcnnnndllaaGreatDoor
open Go.RowKit Go.Maps
set_option linter.unusedVariables false
set_option linter.unusedSimpArgs false

/-- a row of one's own -/
structure Rw where
  e : TypeId
  k : Nat
  v : Value
  n : Nat
  xs : List Value
def rwS (v : Value) (l : List (List UInt8)) : Rw := ⟨9, 1, v, l.length, l.map encS⟩
def rwR (v : Value) (l : List V.Rc) : Rw := ⟨41, 65, v, l.length, flR l⟩
/-- two rows lie apart -/
def Apt (a b : Rw) : Prop := a.v.ownBlock = none ∨ b.v.ownBlock = none ∨ a.v.ownBlock ≠ b.v.ownBlock
theorem Apt.symm {a b : Rw} (h : Apt a b) : Apt b a := by
  rcases h with h | h | h
  · exact .inr (.inl h)
  · exact .inl h
  · exact .inr (.inr (fun e => h e.symm))
/-- rows of one's own, apart from each other and from the blocks P -/
structure OwR (base : Nat) (P : Nat → Prop) (rs : List Rw) (W : World) : Prop where
  o : ∀ r ∈ rs, W.ownsRow base r.e r.k r.v r.n r.xs
  p : ∀ r ∈ rs, ∀ g, r.v.ownBlock = some g → ¬ P g
  d : rs.Pairwise Apt
theorem owns_blk {base : Nat} {W W' : World} {e : TypeId} {k n : Nat} {v : Value} {xs : List Value} (h : W.ownsRow base e k v n xs) (hb : ∀ g, v.ownBlock = some g → W'.heap[g]? = W.heap[g]?) : W'.ownsRow base e k v n xs := by
  obtain ⟨h0, h1 | ⟨g, cap, cur, h1, h2, h3, h4⟩⟩ := h
  · exact ⟨h0, .inl h1⟩
  · exact ⟨h0, .inr ⟨g, cap, cur, h1, h2, by rw [hb g (by rw [h1]; rfl)]; exact h3, h4⟩⟩
section
variable {base : Nat} {P : Nat → Prop} {rs : List Rw} {W : World}
theorem OwR.turn (h : OwR base P rs W) {W' : World} (hb : ∀ q, q < W.heap.size → ¬ P q → W'.heap[q]? = W.heap[q]?) : OwR base P rs W' :=
  ⟨fun r hr => owns_blk (h.o r hr) (fun g hg => hb g ((h.o r hr).lt g hg).2 (h.p r hr g hg)), h.p, h.d⟩
theorem OwR.step (h : OwR base P rs W) {W' : World} (hb : Below W.heap.size W W') : OwR base P rs W' := h.turn (fun q hq _ => hb.block q hq)
theorem OwR.perm (h : OwR base P rs W) {rs' : List Rw} (hp : rs.Perm rs') : OwR base P rs' W :=
  ⟨fun r hr => h.o r (hp.mem_iff.2 hr), fun r hr => h.p r (hp.mem_iff.2 hr), (hp.pairwise_iff (fun {_ _} h => Apt.symm h)).1 h.d⟩
theorem OwR.sub (h : OwR base P rs W) {rs' : List Rw} (hp : rs'.Sublist rs) : OwR base P rs' W :=
  ⟨fun r hr => h.o r (hp.subset hr), fun r hr => h.p r (hp.subset hr), h.d.sublist hp⟩
/-- other blocks to lie apart from: new ones -/
theorem OwR.other (h : OwR base P rs W) {P' : Nat → Prop} (hP : ∀ g, g < W.heap.size → P' g → P g) : OwR base P' rs W :=
  ⟨h.o, fun r hr g hg hp => h.p r hr g hg (hP g ((h.o r hr).lt g hg).2 hp), h.d⟩
/-- a new row -/
theorem OwR.cons (h : OwR base P rs W) {W' : World} (hb : Below W.heap.size W W') (r : Rw) (ho : W'.ownsRow base r.e r.k r.v r.n r.xs) (hn : ∀ g, r.v.ownBlock = some g → W.heap.size ≤ g) (hP : ∀ g, P g → g < W.heap.size) : OwR base P (r :: rs) W' := by
  have h' := h.step hb
  refine ⟨fun x hx => ?_, fun x hx g hg hp => ?_, List.pairwise_cons.2 ⟨fun x hx => ?_, h.d⟩⟩
  · rcases List.mem_cons.1 hx with rfl | hx
    · exact ho
    · exact h'.o x hx
  · rcases List.mem_cons.1 hx with rfl | hx
    · have := hn g hg; have := hP g hp; omega
    · exact h'.p x hx g hg hp
  · cases hg : r.v.ownBlock with
    | none => exact .inl hg
    | some g =>
      refine .inr (.inr (fun e => ?_))
      rw [hg] at e
      have := ((h.o x hx).lt g e.symm).2
      have := hn g hg
      omega
/-- something is appended to the first row -/
theorem OwR.app {r : Rw} (h : OwR base P (r :: rs) W) {W' : World} {v' : Value} {n' : Nat} {xs' : List Value} (hg : W.grownBy W' r.v.ownBlock) (ho : W'.ownsRow base r.e r.k v' n' xs') (hv : v'.ownBlock = r.v.ownBlock ∨ v'.ownBlock = some W.heap.size) (hP : ∀ g, P g → g < W.heap.size) : OwR base P (⟨r.e, r.k, v', n', xs'⟩ :: rs) W' := by
  obtain ⟨hd1, hd2⟩ := List.pairwise_cons.1 h.d
  refine ⟨fun x hx => ?_, fun x hx g hg' hp => ?_, List.pairwise_cons.2 ⟨fun x hx => ?_, hd2⟩⟩
  · rcases List.mem_cons.1 hx with rfl | hx
    · exact ho
    · refine owns_blk (h.o x (List.mem_cons_of_mem _ hx)) (fun g hgx => hg.block g ((h.o x (List.mem_cons_of_mem _ hx)).lt g hgx).2 (fun e => ?_))
      rcases hd1 x hx with q | q | q
      · rw [q] at e; cases e
      · rw [q] at hgx; cases hgx
      · exact q (by rw [← e, hgx])
  · rcases List.mem_cons.1 hx with rfl | hx
    · rcases hv with hv | hv
      · exact h.p r (List.mem_cons_self ..) g (by rw [← hv]; exact hg') hp
      · have e : some g = some W.heap.size := by rw [← hv]; exact hg'.symm
        cases e
        have := hP _ hp; omega
    · exact h.p x (List.mem_cons_of_mem _ hx) g hg' hp
  · rcases hv with hv | hv
    · rcases hd1 x hx with q | q | q
      · exact .inl (by show v'.ownBlock = none; rw [hv, q])
      · exact .inr (.inl q)
      · exact .inr (.inr (by show v'.ownBlock ≠ _; rw [hv]; exact q))
    · refine .inr (.inr (fun e => ?_))
      have e' : some W.heap.size = x.v.ownBlock := by rw [← hv]; exact e
      have := ((h.o x (List.mem_cons_of_mem _ hx)).lt _ e'.symm).2
      omega
end
/-- a store, where other blocks are changed -/
theorem HX.aside {w W W' : World} {b : HB} {h : Hv} {em : List V.En} {st : H.Sh} (x : HX w b h em st W) (hb : ∀ k, b.mem k → W'.heap[k]? = W.heap[k]?) (hg : GW W') : HX W' b h em st W' :=
  ⟨by rw [hb _ (.inl rfl)]; exact x.hb, by rw [hb _ (.inr (.inl rfl))]; exact x.hc, by rw [hb _ (.inr (.inr (.inl rfl)))]; exact x.hh, by rw [hb _ (.inr (.inr (.inr (.inl rfl))))]; exact x.hl,
    x.mp.block (hb _ (.inr (.inr (.inr (.inr (.inl rfl)))))), x.pn.block (fun p hp => hb _ (.inr (.inr (.inr (.inr (.inr hp)))))), x.ok, OffB.refl _ _, hg, x.u, x.e, x.n⟩
section
variable {w W : World} {n m : Nat} {b : HB} {life a arm : Nat} {h : Hv} {sl : List H.Sl} {X : List UInt8 → Prop} {cn : Nat}
/-- a store, where a row of one's own has grown -/
theorem PA.grown (p : PA w n m b life a arm h sl X cn W) (hg : GW w) {W' : World} {row : Option Nat} (g : W.grownBy W' row) (hr : ∀ k, row = some k → w.heap.size ≤ k ∧ ¬ b.mem k) : PA w n m b life a arm h sl X cn W' := by
  have hB : Below w.heap.size w W' := p.o.trans ⟨g.os, g.tape, g.output, g.size, fun k hk => g.block k (by have := p.o.size; omega) (fun e => by have := (hr k e.symm).1; omega)⟩
  exact ⟨HX.aside p.x (fun k hk => g.block k (p.x.lt hk) (fun e => (hr k e.symm).2 hk)) (hg.below hB hg.z), p.S, p.n, p.li, p.lm, p.am, p.um, p.us, p.ar, hB, p.k, p.s, p.u, p.c⟩
/-- records of one key are one -/
theorem PA.recOne (p : PA w n m b life a arm h sl X cn W) {r x : V.Rc} (hr : HasC sl (ctR r)) (hx : HasC sl (ctR x)) (hk : r.key = x.key) : r = x := by
  obtain ⟨i, s, h1, h2⟩ := hr
  obtain ⟨j, s', h3, h4⟩ := hx
  have := p.un i j s s' _ _ h1 h3 h2 h4 rfl hk
  subst this
  rw [h1] at h3; cases h3
  rw [h2] at h4
  exact congrArg V.Ct.rc (Option.some.inj h4)
end
/-- WHAT THE LAW'S LISTS SAY of the slots -/
structure LI (sl : List H.Sl) (bl su : List (List UInt8)) (re sa : List V.Rc) : Prop where
  b : ∀ t, t ∈ bl ↔ HasC sl (ctB t)
  s : ∀ t ∈ su, SureC sl (ctB t)
  r : ∀ x, x ∈ re ↔ HasC sl (ctR x)
  f : ∀ x ∈ sa, SureC sl (ctR x)
theorem ctB_ne_ctR (t : List UInt8) (r : V.Rc) : ctB t ≠ ctR r := fun e => absurd (congrArg V.Ct.kind e) (by show V.kb ≠ V.kr; decide)
theorem ctB_inj {s t : List UInt8} (h : ctB s = ctB t) : s = t := congrArg V.Ct.blob h
theorem ctR_inj {s t : V.Rc} (h : ctR s = ctR t) : s = t := congrArg V.Ct.rc h
section
variable {sl sl' : List H.Sl} {bl su : List (List UInt8)} {re sa : List V.Rc}
theorem LI.blob (l : LI sl bl su re sa) {t : List UInt8} (h : AddC sl sl' (ctB t)) : LI sl' (bl ++ [t]) su re sa :=
  ⟨fun s => by
    rw [h.1, ← l.b, List.mem_append]
    constructor
    · rintro (q | q)
      · exact .inl q
      · exact .inr (by rw [show s = t by simpa using q])
    · rintro (q | q)
      · exact .inl q
      · exact .inr (by rw [ctB_inj q]; simp), fun t ht => h.2 _ (l.s t ht), fun x => by
    rw [h.1, ← l.r]
    exact ⟨.inl, fun q => q.elim id (fun e => absurd e.symm (ctB_ne_ctR _ _))⟩, fun x hx => h.2 _ (l.f x hx)⟩
theorem LI.record (l : LI sl bl su re sa) {x : V.Rc} (h : AddC sl sl' (ctR x)) : LI sl' bl su (re ++ [x]) sa :=
  ⟨fun s => by
    rw [h.1, ← l.b]
    exact ⟨.inl, fun q => q.elim id (fun e => absurd e (ctB_ne_ctR _ _))⟩, fun t ht => h.2 _ (l.s t ht), fun y => by
    rw [h.1, ← l.r, List.mem_append]
    constructor
    · rintro (q | q)
      · exact .inl q
      · exact .inr (by rw [show y = x by simpa using q])
    · rintro (q | q)
      · exact .inl q
      · exact .inr (by rw [ctR_inj q]; simp), fun x hx => h.2 _ (l.f x hx)⟩
theorem has_settle (c : V.Ct) : HasC (sl.map (fun s => H.settle s.text)) c ↔ HasC sl c := by
  constructor
  · rintro ⟨i, s, hs, hd⟩
    rw [List.getElem?_map] at hs
    cases hx : sl[i]? with
    | none => rw [hx] at hs; simp at hs
    | some z => rw [hx] at hs; simp at hs; subst hs; exact ⟨i, z, hx, hd⟩
  · rintro ⟨i, s, hs, hd⟩
    exact ⟨i, H.settle s.text, by rw [List.getElem?_map, hs]; rfl, hd⟩
theorem sure_all (h : ∀ s ∈ sl, s.un = false) {c : V.Ct} (hc : HasC sl c) : SureC sl c := by
  obtain ⟨i, s, hs, hd⟩ := hc
  exact ⟨i, s, hs, h s (List.mem_of_getElem? hs), hd⟩
theorem LI.sync (l : LI sl bl su re sa) : LI (sl.map (fun s => H.settle s.text)) bl bl re re := by
  have hu : ∀ s ∈ sl.map (fun s => H.settle s.text), s.un = false := fun s hs => by obtain ⟨z, _, rfl⟩ := List.mem_map.1 hs; rfl
  exact ⟨fun t => by rw [has_settle, l.b], fun t ht => sure_all hu ((has_settle _).2 ((l.b t).1 ht)), fun x => by rw [has_settle, l.r], fun x hx => sure_all hu ((has_settle _).2 ((l.r x).1 hx))⟩
/-- behind a loss -/
theorem LI.again (l : LI sl bl su re sa) (hB : ∀ c, HasC sl' c → HasC sl c) (hs : ∀ s ∈ sl', s.un = false) {q : List UInt8 → Bool} (hq : ∀ t ∈ bl, q t = true ↔ HasC sl' (ctB t)) {le : List V.Rc} (hl : ∀ x, x ∈ le ↔ HasC sl' (ctR x)) : LI sl' (bl.filter q) (bl.filter q) le le := by
  have hb : ∀ t, t ∈ bl.filter q ↔ HasC sl' (ctB t) := fun t => by
    rw [List.mem_filter]
    exact ⟨fun ⟨h1, h2⟩ => (hq t h1).1 h2, fun h => by have h1 := (l.b t).2 (hB _ h); exact ⟨h1, (hq t h1).2 h⟩⟩
  exact ⟨hb, fun t ht => sure_all hs ((hb t).1 ht), hl, fun x hx => sure_all hs ((hl x).1 hx)⟩
/-- the start -/
theorem LI.none (h : ∀ c, ¬ HasC sl c) : LI sl [] [] [] [] :=
  ⟨fun t => ⟨fun q => absurd q (by simp), fun q => (h _ q).elim⟩, fun t ht => absurd ht (by simp), fun x => ⟨fun q => absurd q (by simp), fun q => (h _ q).elim⟩, fun x hx => absurd hx (by simp)⟩
end
end Go.Proofs.YtlkllcnnnndllaaGreatDoor

/- For HivePower: the law's store, its rows and its lists as ONE state; its calls. -/
namespace Go.Proofs.YtlkllcnnnndllaaGreatDoor
open Go.RowKit Go.Maps
set_option linter.unusedVariables false
set_option linter.unusedSimpArgs false

abbrev Fd : Type := List UInt8 → List UInt8 → Option Nat
/-- a store with something armed, rows beside it; L: what its lists say -/
def QP (w : World) (n m K sh sc arm : Nat) (rs : List Rw) (X : List UInt8 → Prop) (cn : Nat) (L : Fd → List H.Sl → Prop) (W : World) : Prop :=
  ∃ (b : HB) (life a : Nat) (h : Hv) (sl : List H.Sl), PA w n m b life a arm h sl X cn W ∧ (b.hv = K ∧ b.sh = sh ∧ b.sc = sc) ∧ OwR w.heap.size b.mem rs W ∧ L (V.findN h.es) sl
/-- its shelf, the power gone -/
def DP (w : World) (n m sh sc : Nat) (rs : List Rw) (X : List UInt8 → Prop) (L : List H.Sl → Prop) (W : World) : Prop :=
  ∃ (life a : Nat) (sl : List H.Sl), PD w n m sh sc life a sl X W ∧ OwR w.heap.size (fun k => k = sh ∨ k = sc) rs W ∧ L sl
/-- its shelf, the power back -/
def OP (w : World) (n m sh sc : Nat) (rs : List Rw) (X : List UInt8 → Prop) (L : List H.Sl → Prop) (W : World) : Prop :=
  ∃ (life a : Nat) (sl : List H.Sl), PO w n m sh sc life a sl X W ∧ OwR w.heap.size (fun k => k = sh ∨ k = sc) rs W ∧ L sl
/-- the lists -/
def L4 (bl su : List (List UInt8)) (re sa : List V.Rc) : Fd → List H.Sl → Prop := fun _ sl => LI sl bl su re sa
def L4d (bl su : List (List UInt8)) (re sa : List V.Rc) : List H.Sl → Prop := fun sl => LI sl bl su re sa
/-- the lists behind a loss, the power back -/
def Lb (bl su : List (List UInt8)) (re sa : List V.Rc) : List H.Sl → Prop := fun sl => ∃ sl0, LI sl0 bl su re sa ∧ (∀ c, HasC sl c → HasC sl0 c) ∧ ∀ c, SureC sl0 c → HasC sl c
/-- and the store opened: qf says which blobs are there -/
structure Lo (qf : List UInt8 → Bool) (bl su : List (List UInt8)) (re sa : List V.Rc) (F : Fd) (sl : List H.Sl) : Prop where
  q : ∀ t, qf t = true ↔ HasC sl (ctB t)
  l : Lb bl su re sa sl
  u : ∀ s ∈ sl, s.un = false
/-- and its keys asked for; so many of them asked for in turn -/
structure Lk (qf : List UInt8 → Bool) (bl su : List (List UInt8)) (re sa : List V.Rc) (D : List (List UInt8)) (le : List V.Rc) (F : Fd) (sl : List H.Sl) : Prop where
  o : Lo qf bl su re sa F sl
  d : ∀ d ∈ D, F V.kr d ≠ none
  k : ∀ x, HasC sl (ctR x) → x.key ∈ D
  h : ∀ x ∈ le, HasC sl (ctR x)
section
variable {w W : World} {n m K sh sc arm : Nat} {rs : List Rw} {X : List UInt8 → Prop} {cn : Nat} {L : Fd → List H.Sl → Prop}
theorem QP.step (q : QP w n m K sh sc arm rs X cn L W) {W' : World} (hb : Below W.heap.size W W') : QP w n m K sh sc arm rs X cn L W' := by
  obtain ⟨b, l, a, h, sl, q, e, r, hL⟩ := q
  exact ⟨b, l, a, h, sl, q.step hb, e, r.step hb, hL⟩
theorem QP.alloc (q : QP w n m K sh sc arm rs X cn L W) (o : Obj) : QP w n m K sh sc arm rs X cn L (W.alloc o) := q.step ((Below.refl _ W).alloc (Nat.le_refl _) _)
theorem QP.imp (q : QP w n m K sh sc arm rs X cn L W) {L' : Fd → List H.Sl → Prop} (hi : ∀ F sl, L F sl → L' F sl) : QP w n m K sh sc arm rs X cn L' W := by
  obtain ⟨b, l, a, h, sl, q, e, r, hL⟩ := q
  exact ⟨b, l, a, h, sl, q, e, r, hi _ _ hL⟩
theorem QP.o (q : QP w n m K sh sc arm rs X cn L W) : Below w.heap.size w W := by obtain ⟨b, l, a, h, sl, q, e, r, hL⟩ := q; exact q.o
theorem QP.gw (q : QP w n m K sh sc arm rs X cn L W) : GW W := by obtain ⟨b, l, a, h, sl, q, e, r, hL⟩ := q; exact q.x.g
theorem QP.owns (q : QP w n m K sh sc arm rs X cn L W) {r : Rw} (hr : r ∈ rs) : W.ownsRow w.heap.size r.e r.k r.v r.n r.xs := by obtain ⟨b, l, a, h, sl, q, e, o, hL⟩ := q; exact o.o r hr
theorem QP.perm (q : QP w n m K sh sc arm rs X cn L W) {rs' : List Rw} (hp : rs.Perm rs') : QP w n m K sh sc arm rs' X cn L W := by
  obtain ⟨b, l, a, h, sl, q, e, o, hL⟩ := q
  exact ⟨b, l, a, h, sl, q, e, o.perm hp, hL⟩
theorem QP.sub (q : QP w n m K sh sc arm rs X cn L W) {rs' : List Rw} (hp : rs'.Sublist rs) : QP w n m K sh sc arm rs' X cn L W := by
  obtain ⟨b, l, a, h, sl, q, e, o, hL⟩ := q
  exact ⟨b, l, a, h, sl, q, e, o.sub hp, hL⟩
/-- a new row beside it -/
theorem QP.cons (q : QP w n m K sh sc arm rs X cn L W) {W' : World} (hb : Below W.heap.size W W') (r : Rw) (ho : W'.ownsRow w.heap.size r.e r.k r.v r.n r.xs) (hn : ∀ g, r.v.ownBlock = some g → W.heap.size ≤ g) : QP w n m K sh sc arm (r :: rs) X cn L W' := by
  obtain ⟨b, l, a, h, sl, q, e, o, hL⟩ := q
  exact ⟨b, l, a, h, sl, q.step hb, e, o.cons hb r ho hn (fun g hg => q.x.lt hg), hL⟩
/-- something is appended to the first row -/
theorem QP.app {r : Rw} (q : QP w n m K sh sc arm (r :: rs) X cn L W) (hw : GW w) {W' : World} {v' : Value} {n' : Nat} {xs' : List Value} (hg : W.grownBy W' r.v.ownBlock) (ho : W'.ownsRow w.heap.size r.e r.k v' n' xs') (hv : v'.ownBlock = r.v.ownBlock ∨ v'.ownBlock = some W.heap.size) : QP w n m K sh sc arm (⟨r.e, r.k, v', n', xs'⟩ :: rs) X cn L W' := by
  obtain ⟨b, l, a, h, sl, q, e, o, hL⟩ := q
  exact ⟨b, l, a, h, sl, q.grown hw hg (fun k hk => ⟨((o.o r (List.mem_cons_self ..)).lt k hk).1, o.p r (List.mem_cons_self ..) k hk⟩), e, o.app hg ho hv (fun g hg => q.x.lt hg), hL⟩
theorem QP.len (q : QP w n m K sh sc arm rs X cn L W) : Calls Tryz.prog 22 #[.pointer (some ⟨K, 0, none⟩)] W fun e' w' => e' = .returned (.int .i64 (cn : Int)) ∧ w' = W := by
  obtain ⟨b, l, a, h, sl, q, ⟨rfl, e2, e3⟩, rb, hR⟩ := q
  exact q.len
theorem QP.of (q : QP w n m K sh sc arm rs X cn L W) (t : List UInt8) (T : TypeId) (ht : t.length ≤ 1048576) : Calls Tryz.prog 18 #[.slice (some ⟨W.heap.size, 0, none⟩) 1 1] (W.alloc (.cells #[.string (M.bs t)] T)) fun e' w' => e' = .returned (.agg (dg (S.sha t))) ∧ QP w n m K sh sc arm rs X cn L w' := by
  refine (Of_g t T (GB.refl q.gw) (by omega)).mono ?_
  rintro e' w' ⟨rfl, hg⟩
  exact ⟨rfl, q.step hg.b⟩
theorem QP.arms (q : QP w n m K sh sc arm rs X cn L W) (k : Nat) (hk : k ≤ 100) :
    Calls Tryz.prog 10 #[.pointer (some ⟨sh, 0, none⟩), .int .i64 (k : Int)] W fun e' w' => e' = .returned (.tuple #[]) ∧ QP w n m K sh sc k rs X cn L w' := by
  obtain ⟨b, l, a, h, sl, q, ⟨e1, rfl, e3⟩, rb, hR⟩ := q
  refine (q.armed k hk).mono ?_
  rintro e' w' ⟨rfl, q', o⟩
  exact ⟨rfl, b, l, a, h, sl, q', ⟨e1, rfl, e3⟩, rb.turn o.block, hR⟩
/-- a record is asked for -/
theorem QP.recAsk (q : QP w n m K sh sc arm rs X cn L W) (hm : m ≤ 900000) (d : List UInt8) (hd : d.length = 32) :
    Calls Tryz.prog 12 #[.pointer (some ⟨K, 0, none⟩), .agg (dg d)] W fun e' w' => ∃ (r : V.Rc) (v : Bool), e' = .returned (.tuple #[.agg (rv r), .bool v]) ∧ Rc32 r ∧ QP w n (m + 5) K sh sc arm rs X cn (fun F sl => L F sl ∧ (v = true → HasC sl (ctR r) ∧ r.key = d) ∧ (v = decide (F V.kr d ≠ none))) w' := by
  obtain ⟨b, l, a, h, sl, q, ⟨rfl, e2, e3⟩, rb, hR⟩ := q
  refine (q.recAsk hm d hd).mono ?_
  rintro e' w' ⟨r, v, h', rfl, h1, h2, h3, h4, q', o⟩
  have hF : V.findN h'.es = V.findN h.es := funext fun k => funext fun s => h4 k s
  exact ⟨r, v, rfl, h1, b, l, a, h', sl, q', ⟨rfl, e2, e3⟩, rb.turn o.block, by rw [hF]; exact ⟨hR, h2, h3⟩⟩
/-- a blob is asked for -/
theorem QP.blobAsk (q : QP w n m K sh sc arm rs X cn L W) (hm : m ≤ 900000) (t : List UInt8) (hI : ∀ s, X s → S.sha s = S.sha t → s = t) (qf : List UInt8 → Bool) (hq : ∀ F sl, L F sl → ∀ t, qf t = true ↔ HasC sl (ctB t)) :
    Calls Tryz.prog 17 #[.pointer (some ⟨K, 0, none⟩), .agg (dg (S.sha t))] W fun e' w' => e' = .returned (.tuple #[.string (M.bs (if qf t then t else [])), .bool (qf t)]) ∧ QP w n (m + 5) K sh sc arm rs X cn L w' := by
  obtain ⟨b, l, a, h, sl, q, ⟨rfl, e2, e3⟩, rb, hR⟩ := q
  refine (q.blobAsk hm t hI).mono ?_
  rintro e' w' ⟨v, h', rfl, h1, h4, q', o⟩
  have hF : V.findN h'.es = V.findN h.es := funext fun k => funext fun s => h4 k s
  have hv : v = qf t := by
    have := hq _ _ hR t
    cases v <;> cases h2 : qf t
    · rfl
    · exact absurd (h1.2 (this.1 h2)) (by simp)
    · exact absurd (this.2 (h1.1 rfl)) (by rw [h2]; simp)
    · rfl
  subst hv
  exact ⟨rfl, b, l, a, h', sl, q', ⟨rfl, e2, e3⟩, rb.turn o.block, by rw [hF]; exact hR⟩
theorem kL_nodup : ∀ {es : List V.En}, V.Uq es → (kL es).Nodup
  | [], _ => List.nodup_nil
  | x :: r, h => by
    have hr := kL_nodup (Uq.tail h)
    unfold kL at hr ⊢
    by_cases hk : x.kind = V.kr
    · rw [List.filter_cons_of_pos (by simpa using hk), List.map_cons, List.nodup_cons]
      refine ⟨fun hm => ?_, hr⟩
      obtain ⟨y, hy, he⟩ := List.mem_map.1 hm
      obtain ⟨hy1, hy2⟩ := List.mem_filter.1 hy
      obtain ⟨i, hi⟩ := List.mem_iff_getElem?.1 hy1
      have hyk : y.kind = V.kr := by simpa using hy2
      have := h 0 (i + 1) x y rfl (by simpa using hi) (by rw [hk]; decide) (by rw [hk, hyk]) he.symm
      omega
    · rw [List.filter_cons_of_neg (by simpa using hk)]
      exact hr
/-- keys in memory, as long as their row lies there -/
def KQ (W : World) (a : Option Addr) (D : List (List UInt8)) : Prop := ∀ (i : Nat) (d : List UInt8), D[i]? = some d → ∃ g, a = some ⟨g, 0, none⟩ ∧ g < W.heap.size ∧ W.rangeAt g (i * 32) (d.map vb)
/-- a block that lies as it is -/
def rwK (T : TypeId) (k g n : Nat) (cur : Array Value) : Rw := ⟨T, k, .slice (some ⟨g, 0, none⟩) n n, n, cur.toList⟩
theorem owns_blkK {base : Nat} {W : World} {T : TypeId} {k g n : Nat} {cur : Array Value} (hb : W.heap[g]? = some (.cells cur T (0, 0))) (hg : base ≤ g) (hn : n ≤ maxLen) (hs : cur.size = n * k) : W.ownsRow base T k (.slice (some ⟨g, 0, none⟩) n n) n cur.toList := by
  refine ⟨by simpa using hs, .inr ⟨g, n, cur, rfl, hg, hb, Nat.le_refl _, hn, hs, ?_⟩⟩
  rw [List.take_of_length_le]
  simp [hs]
theorem owns_heap {base : Nat} {W : World} {T : TypeId} {k g n : Nat} {cur : Array Value} (hs : cur.size = n * k) (h : W.ownsRow base T k (.slice (some ⟨g, 0, none⟩) n n) n cur.toList) : W.heap[g]? = some (.cells cur T (0, 0)) := by
  obtain ⟨h0, ⟨h1, _⟩ | ⟨g', cap, cur', h1, h2, h3, h4, h5, h6, h7⟩⟩ := h
  · cases h1
  · cases h1
    have : cur'.toList = cur.toList := by
      rw [← h7, List.take_of_length_le (by simp [h6])]
    rw [h3, Array.toList_inj.1 this]
/-- the keys -/
theorem QP.keys {qf : List UInt8 → Bool} {bl su : List (List UInt8)} {re sa : List V.Rc} (q : QP w n m K sh sc arm rs X cn (Lo qf bl su re sa) W) (hI : ∀ x ∈ bl, ∀ y ∈ bl, S.sha x = S.sha y → x = y) :
    Calls Tryz.prog 20 #[.pointer (some ⟨K, 0, none⟩)] W fun e' w' => ∃ (ad : Option Addr) (c : Nat) (D : List (List UInt8)) (kr : List Rw), e' = .returned (.slice ad D.length c) ∧ (∀ W', (∀ r ∈ kr, W'.ownsRow w.heap.size r.e r.k r.v r.n r.xs) → KQ W' ad D) ∧ D.Nodup ∧ (∀ d ∈ D, d.length = 32) ∧ cn = (dsN qf bl bl.length).length + D.length ∧ D.length ≤ 128 ∧ QP w n m K sh sc arm (kr ++ rs) X cn (Lk qf bl su re sa D []) w' := by
  obtain ⟨b, l, a, h, sl, q, ⟨rfl, e2, e3⟩, rb, hR⟩ := q
  refine (Keys_x q.x q.en).mono ?_
  rintro e' w' ⟨ad, c, D, rfl, hp, hK, hb, y⟩
  obtain ⟨sl0, h1, h2, h3⟩ := hR.l
  have hc := q.count qf bl (fun t _ => hR.q t) (fun t ht => (h1.b t).2 (h2 _ ht)) hI
  rw [← hp.length_eq] at hc
  have hle : D.length ≤ 128 := by
    have := kL_le h.es h.es.length
    rw [List.take_length] at this
    have := q.en
    rw [hp.length_eq]; omega
  obtain ⟨kr, hk1, hk2⟩ : ∃ kr : List Rw, (∀ W', (∀ r ∈ kr, W'.ownsRow w.heap.size r.e r.k r.v r.n r.xs) → KQ W' ad D) ∧ OwR w.heap.size b.mem (kr ++ rs) w' := by
    cases hD : D with
    | nil => exact ⟨[], fun W' _ i d hd => by simp at hd, rb.step hb⟩
    | cons d0 D' =>
      obtain ⟨g, e0, hBg, hgl, _, cur, T, cap, hh, hcm, hcs⟩ := hK 0 d0 (by rw [hD]; rfl)
      refine ⟨[rwK T 32 g cap cur], fun W' ho i d hd => ?_, rb.cons hb (rwK T 32 g cap cur) (owns_blkK hh (Nat.le_trans q.o.size hBg) hcm hcs) (fun g' hg' => by cases hg'; exact hBg) (fun g hg => q.x.lt hg)⟩
      have h0 := owns_heap hcs (ho _ (List.mem_cons_self ..))
      rw [← hD] at hd
      obtain ⟨g2, e2, _, _, hr2, _⟩ := hK i d hd
      rw [e0] at e2
      cases e2
      refine ⟨g, e0, lt_of_heap h0, fun j v hv => ?_⟩
      have := hr2 j v hv
      rw [Lib.cell_of_heap hh] at this
      rw [Lib.cell_of_heap h0]; exact this
  refine ⟨ad, c, D, kr, rfl, hk1, hp.nodup_iff.2 (kL_nodup q.uq), fun d hd => kL_32 q.x.e d (hp.mem_iff.1 hd), hc, hle, b, l, a, h, sl, q.step hb, ⟨rfl, e2, e3⟩, hk2, ⟨hR, fun d hd => ?_, fun x hx => ?_, fun x hx => absurd hx (by simp)⟩⟩
  · obtain ⟨i, e, he, k1, k2⟩ := kL_mem.1 (hp.mem_iff.1 hd)
    have := V.findN_of q.uq he (by rw [k1]; decide)
    rw [k1, k2] at this
    rw [this]; simp
  · obtain ⟨i, e, he, k1, k2, _⟩ := q.ent hx
    exact hp.mem_iff.2 (kL_mem.2 ⟨i, e, he, k1, k2⟩)
end
end Go.Proofs.YtlkllcnnnndllaaGreatDoor

/- For HivePower: the acts: what is put, Sync, the power gone and back, the store opened again. -/
namespace Go.Proofs.YtlkllcnnnndllaaGreatDoor
open Go.RowKit Go.Maps
set_option linter.unusedVariables false
set_option linter.unusedSimpArgs false

/-- BEHIND AN ACT that answers er: the store goes on; or (ErrDown) the power has gone, or goes now -/
def NA (w : World) (n m K sh sc : Nat) (rs : List Rw) (X : List UInt8 → Prop) (bl su : List (List UInt8)) (re sa : List V.Rc) (W : World) (er : Int) : Prop :=
  (∃ arm cn : Nat, er ≠ 10 ∧ (-100 ≤ er ∧ er ≤ 100) ∧ QP w n m K sh sc arm rs X cn (L4 bl su re sa) W) ∨ (er = 10 ∧ ∃ arm cn : Nat, QP w n m K sh sc arm rs X cn (L4 bl su re sa) W) ∨ (er = 10 ∧ DP w n m sh sc rs X (L4d bl su re sa) W)
theorem NA.on {w : World} {n m K sh sc : Nat} {rs : List Rw} {X : List UInt8 → Prop} {bl su : List (List UInt8)} {re sa : List V.Rc} {W : World} {er : Int} (arm cn : Nat) (h0 : er ≠ 10) (hE : -100 ≤ er ∧ er ≤ 100) (q : QP w n m K sh sc arm rs X cn (L4 bl su re sa) W) : NA w n m K sh sc rs X bl su re sa W er := .inl ⟨arm, cn, h0, hE, q⟩
theorem NA.up {w : World} {n m K sh sc : Nat} {rs : List Rw} {X : List UInt8 → Prop} {bl su : List (List UInt8)} {re sa : List V.Rc} {W : World} (arm cn : Nat) (q : QP w n m K sh sc arm rs X cn (L4 bl su re sa) W) : NA w n m K sh sc rs X bl su re sa W 10 := .inr (.inl ⟨rfl, arm, cn, q⟩)
theorem NA.dn {w : World} {n m K sh sc : Nat} {rs : List Rw} {X : List UInt8 → Prop} {bl su : List (List UInt8)} {re sa : List V.Rc} {W : World} (q : DP w n m sh sc rs X (L4d bl su re sa) W) : NA w n m K sh sc rs X bl su re sa W 10 := .inr (.inr ⟨rfl, q⟩)
section
variable {w W : World} {n m K sh sc arm : Nat} {rs : List Rw} {X : List UInt8 → Prop} {cn : Nat} {L : Fd → List H.Sl → Prop} {bl su : List (List UInt8)} {re sa : List V.Rc}
/-- the rows' blocks to lie apart from, the store left -/
theorem OwR.shelf {base : Nat} {b : HB} {W : World} (h : OwR base b.mem rs W) : OwR base (fun k => k = b.sh ∨ k = b.sc) rs W := h.other (fun g _ hg => hg.elim .inl (fun e => .inr (.inl e)))
/-- there are no more entries than the lists have -/
theorem PA.cn_le {b : HB} {life a : Nat} {h : Hv} {sl : List H.Sl} (p : PA w n m b life a arm h sl X cn W) (l : LI sl bl su re sa) (hI : ∀ x ∈ bl, ∀ y ∈ bl, S.sha x = S.sha y → x = y) : cn ≤ bl.length + re.length := by
  have hc := p.count (fun t => decide (t ∈ bl)) bl (fun t ht => ⟨fun _ => (l.b t).1 ht, fun _ => by simpa using ht⟩) (fun t ht => (l.b t).2 ht) hI
  have h1 := dsN_le (p := fun t => decide (t ∈ bl)) (l := bl) bl.length
  have h2 := len_le (kL h.es) (re.map (·.key)) (by
    have hu := p.uq
    have : ∀ {es : List V.En}, V.Uq es → (kL es).Nodup := fun {es} => by
      induction es with
      | nil => intro _; exact List.nodup_nil
      | cons x r ih =>
        intro h
        have hr := ih (Uq.tail h)
        unfold kL at hr ⊢
        by_cases hk : x.kind = V.kr
        · rw [List.filter_cons_of_pos (by simpa using hk), List.map_cons, List.nodup_cons]
          refine ⟨fun hm => ?_, hr⟩
          obtain ⟨y, hy, he⟩ := List.mem_map.1 hm
          obtain ⟨hy1, hy2⟩ := List.mem_filter.1 hy
          obtain ⟨i, hi⟩ := List.mem_iff_getElem?.1 hy1
          have hyk : y.kind = V.kr := by simpa using hy2
          have := h 0 (i + 1) x y rfl (by simpa using hi) (by rw [hk]; decide) (by rw [hk, hyk]) he.symm
          omega
        · rw [List.filter_cons_of_neg (by simpa using hk)]
          exact hr
    exact this hu) (fun d hd => by
    obtain ⟨i, e, he, k1, rfl⟩ := kL_mem.1 hd
    rcases p.says he (by rw [k1]; decide) with ⟨k2, _⟩ | ⟨_, r, hr, _, _, hg⟩
    · rw [k1] at k2; exact absurd k2 (by decide)
    · exact List.mem_map.2 ⟨r, (l.r r).2 hr, hg.symm⟩)
  rw [List.length_map] at h2
  omega
/-- a text that is too long -/
theorem QP.blobW (q : QP w n m K sh sc arm rs X cn (L4 bl su re sa) W) (t : List UInt8) (ht : 512 < t.length) (ht2 : t.length ≤ 9223372036854775807) :
    Calls Tryz.prog 11 #[.pointer (some ⟨K, 0, none⟩), .string (M.bs t)] W fun e' w' => e' = .returned (.tuple #[.agg zero32, .int .i64 33]) ∧ NA w n (m + 5) K sh sc rs X bl su re sa w' 33 := by
  obtain ⟨b, l, a, h, sl, q, ⟨rfl, e2, e3⟩, rb, hR⟩ := q
  have hli : (shA l a arm sl).life = h.life := q.li
  refine (PutBlob_wide q.x rfl hli t ht ht2).mono ?_
  rintro e' w' ⟨rfl, y⟩
  exact ⟨rfl, .on arm cn (by decide) (by decide) ⟨b, l, a, h, sl, q.same y, ⟨rfl, e2, e3⟩, rb.turn y.o.block, hR⟩⟩
/-- A BLOB IS PUT (the law has it in its list already) -/
theorem QP.blobP (q : QP w n m K sh sc arm rs X cn (L4 bl su re sa) W) (hm : m ≤ 900000) (hl : bl.length + re.length < n) (hI0 : ∀ x ∈ bl, ∀ y ∈ bl, S.sha x = S.sha y → x = y) (t : List UInt8) (ht : t.length ≤ 512) (hX : X t) (hI : ∀ s, X s → S.sha s = S.sha t → s = t) :
    Calls Tryz.prog 11 #[.pointer (some ⟨K, 0, none⟩), .string (M.bs t)] W fun e' w' => ∃ (d : List UInt8) (er : Int), d.length = 32 ∧ e' = .returned (.tuple #[.agg (dg d), .int .i64 er]) ∧ NA w n (m + 5) K sh sc rs X (bl ++ [t]) su re sa w' er := by
  obtain ⟨b, l, a, h, sl, q, ⟨rfl, rfl, rfl⟩, rb, hR⟩ := q
  have hc : cn < n := by have := q.cn_le hR hI0; omega
  by_cases ha : arm ≠ 1 ∨ V.findN h.es V.kb (S.sha t) ≠ none
  · obtain ⟨a', arm', h', sl', cn', _, hA, C⟩ := q.blobOk hc t ht hX hI ha
    refine (C q hm).mono ?_
    rintro e' w' ⟨rfl, q', o⟩
    exact ⟨_, 0, S.sha_length t, rfl, .on arm' cn' (by decide) (by decide) ⟨b, l, a', h', sl', q', ⟨rfl, rfl, rfl⟩, rb.turn o.block, LI.blob hR hA⟩⟩
  · obtain ⟨ha1, ha2⟩ : arm = 1 ∧ V.findN h.es V.kb (S.sha t) = none := by
      constructor
      · exact Decidable.byContradiction fun e => ha (.inl e)
      · exact Decidable.byContradiction fun e => ha (.inr e)
    obtain ⟨sl', hA, C⟩ := q.blobDown hc t ht hX ha1 ha2
    refine (C q hm).mono ?_
    rintro e' w' ⟨rfl, q', o⟩
    exact ⟨_, 10, zd_length, rfl, .dn ⟨_, _, sl', q', (rb.turn o.block).shelf, LI.blob hR hA⟩⟩
/-- A RECORD IS PUT (it was asked for ahead) -/
theorem QP.recP {r : V.Rc} {v : Bool} (q : QP w n m K sh sc arm rs X cn (fun F sl => L4 bl su re sa F sl ∧ v = decide (F V.kr r.key ≠ none)) W) (hm : m ≤ 900000) (hl : bl.length + re.length < n) (hI0 : ∀ x ∈ bl, ∀ y ∈ bl, S.sha x = S.sha y → x = y) (hr : Rc32 r) :
    Calls Tryz.prog 13 #[.pointer (some ⟨K, 0, none⟩), .agg (rv r)] W fun e' w' => ∃ er : Int, e' = .returned (.int .i64 er) ∧ (er = 0 ∨ er = 1 ∨ er = 10 ∨ er = 21) ∧ (v = false → (er = 0 ∨ er = 10) → NA w n (m + 5) K sh sc rs X bl su (re ++ [r]) sa w' er) ∧ ((v = true ∨ (er ≠ 0 ∧ er ≠ 10)) → NA w n (m + 5) K sh sc rs X bl su re sa w' er) := by
  obtain ⟨b, l, a, h, sl, q, ⟨rfl, rfl, rfl⟩, rb, hR, hv⟩ := q
  have hc : cn < n := by have := q.cn_le hR hI0; omega
  have hvf : v = false ↔ V.findN h.es V.kr r.key = none := by rw [hv]; simp
  by_cases ha : arm ≠ 1 ∨ V.canB r = false ∨ V.findN h.es V.kr r.key ≠ none
  · obtain ⟨er, a', arm', h', sl', cn', he, _, hA, hB, C⟩ := q.recOk hc r hr ha
    refine (C q hm).mono ?_
    rintro e' w' ⟨rfl, q', o⟩
    have hE : er ≠ 10 ∧ -100 ≤ er ∧ er ≤ 100 := by omega
    refine ⟨er, rfl, by omega, fun h1 h2 => ?_, fun h1 => ?_⟩
    · have e0 : er = 0 := by omega
      exact .on arm' cn' hE.1 hE.2 ⟨b, l, a', h', sl', q', ⟨rfl, rfl, rfl⟩, rb.turn o.block, LI.record hR (hA (hvf.1 h1) e0).1⟩
    · have e0 : sl' = sl := hB (h1.imp (fun e1 e2 => by have := hvf.2 e2; rw [e1] at this; cases this) (·.1))
      subst e0
      exact .on arm' cn' hE.1 hE.2 ⟨b, l, a', h', sl', q', ⟨rfl, rfl, rfl⟩, rb.turn o.block, hR⟩
  · obtain ⟨ha1, ha2, ha3⟩ : arm = 1 ∧ V.canB r = true ∧ V.findN h.es V.kr r.key = none := by
      refine ⟨Decidable.byContradiction fun e => ha (.inl e), ?_, Decidable.byContradiction fun e => ha (.inr (.inr e))⟩
      cases h1 : V.canB r
      · exact absurd (.inr (.inl h1)) ha
      · rfl
    obtain ⟨sl', hA, C⟩ := q.recDown hc r hr ha1 ha2 ha3
    refine (C q hm).mono ?_
    rintro e' w' ⟨rfl, q', o⟩
    refine ⟨10, rfl, by omega, fun _ _ => .dn ⟨_, _, sl', q', (rb.turn o.block).shelf, LI.record hR hA⟩, fun h1 => ?_⟩
    rcases h1 with h1 | h1
    · rw [hvf.2 ha3] at h1; cases h1
    · exact absurd rfl h1.2
/-- Sync -/
theorem QP.syncs (q : QP w n m K sh sc arm rs X cn (L4 bl su re sa) W) (hm : m ≤ 900000) :
    Calls Tryz.prog 14 #[.pointer (some ⟨K, 0, none⟩)] W fun e' w' => ∃ er : Int, e' = .returned (.int .i64 er) ∧ ((er = 0 ∧ ∃ arm', QP w n (m + 5) K sh sc arm' rs X cn (L4 bl bl re re) w') ∨ (er = 10 ∧ DP w n (m + 5) sh sc rs X (L4d bl su re sa) w')) := by
  obtain ⟨b, l, a, h, sl, q, ⟨rfl, rfl, rfl⟩, rb, hR⟩ := q
  rcases q.sync hm with ⟨ha, C⟩ | ⟨ha, C⟩
  · refine C.mono ?_
    rintro e' w' ⟨rfl, q', o⟩
    exact ⟨0, rfl, .inl ⟨rfl, _, b, l, _, h, _, q', ⟨rfl, rfl, rfl⟩, rb.turn o.block, LI.sync hR⟩⟩
  · refine C.mono ?_
    rintro e' w' ⟨rfl, q', o⟩
    exact ⟨10, rfl, .inr ⟨rfl, _, _, sl, q', (rb.turn o.block).shelf, hR⟩⟩
/-- the power is taken -/
theorem NA.offs (q : NA w n m K sh sc rs X bl su re sa W 10) (hm : m ≤ 900000) :
    Calls Tryz.prog 15 #[.pointer (some ⟨sh, 0, none⟩)] W fun e' w' => e' = .returned (.tuple #[]) ∧ DP w n (m + 1) sh sc rs X (L4d bl su re sa) w' := by
  rcases q with ⟨arm, cn, h0, hE, q⟩ | ⟨he, arm, cn, q⟩ | ⟨he, q⟩
  · exact absurd rfl h0
  · skip
    obtain ⟨b, l, a, h, sl, q, ⟨rfl, rfl, rfl⟩, rb, hR⟩ := q
    refine (q.off hm).mono ?_
    rintro e' w' ⟨rfl, q', o⟩
    exact ⟨rfl, _, _, sl, q', rb.shelf.turn (fun k hk hn => o.block k hk (fun e => hn (.inl e)) (fun e => hn (.inr e))), hR⟩
  · skip
    obtain ⟨l, a, sl, q, rb, hR⟩ := q
    refine (q.off hm).mono ?_
    rintro e' w' ⟨rfl, q', o⟩
    exact ⟨rfl, _, _, sl, q', rb.turn (fun k hk hn => o.block k hk (fun e => hn (.inl e)) (fun e => hn (.inr e))), hR⟩
/-- it comes back -/
theorem DP.ons (q : DP w n m sh sc rs X (L4d bl su re sa) W) (hm : m ≤ 900000) (F : List Int) (fa : Option Addr) (cap : Nat) (HF : FI w fa F) (hl : F.length ≤ 9223372036854775807) (hb : ∀ x ∈ F, -9223372036854775808 ≤ x ∧ x ≤ 9223372036854775807) :
    Calls Tryz.prog 16 #[.pointer (some ⟨sh, 0, none⟩), .slice fa F.length cap] W fun e' w' => e' = .returned (.tuple #[]) ∧ OP w n m sh sc rs X (Lb bl su re sa) w' := by
  obtain ⟨l, a, sl, q, rb, hR⟩ := q
  refine (q.back hm F fa cap HF hl hb).mono ?_
  rintro e' w' ⟨rfl, sl2, h1, h2, q', o⟩
  exact ⟨rfl, _, _, sl2, q', rb.turn (fun k hk hn => o.block k hk (fun e => hn (.inl e)) (fun e => hn (.inr e))), sl, hR, fun c hc => h2.hasC hc, fun c hc => h2.sureC h1 hc⟩
open Classical in
/-- THE STORE IS OPENED AGAIN -/
theorem OP.opens (q : OP w n m sh sc rs X (Lb bl su re sa) W) (hm : m ≤ 800000) (hg : GW w) :
    Calls Tryz.prog 9 #[.pointer (some ⟨sh, 0, none⟩)] W fun e' w' => ∃ (K2 cn : Nat) (qf : List UInt8 → Bool), e' = .returned (.tuple #[.pointer (some ⟨K2, 0, none⟩), .int .i64 0]) ∧ (∀ t ∈ su, qf t = true) ∧ (∀ t, qf t = true → t ∈ bl) ∧ QP w n (m + 200) K2 sh sc 0 rs X cn (Lo qf bl su re sa) w' := by
  obtain ⟨l, a, sl, q, rb, sl0, h1, h2, h3⟩ := q
  refine (q.opens hm hg).mono ?_
  rintro e' w' ⟨k, hk, rfl, ⟨a', h', sl', q', hH, hU⟩, o⟩
  have hmem : ∀ j, j < W.heap.size → (newB sh sc k).mem j → j = sh ∨ j = sc := fun j hj => by
    rintro (e | e | e | e | e | e)
    · exact .inl e
    · exact .inr e
    · have : j = k + 2 := e; omega
    · have : j = k := e; omega
    · have : j = k + 1 := e; omega
    · cases e
  have hq : ∀ t, (fun t => decide (HasC sl' (ctB t))) t = true ↔ HasC sl' (ctB t) := fun t => decide_eq_true_iff
  refine ⟨_, _, fun t => decide (HasC sl' (ctB t)), rfl, fun t ht => (hq t).2 ((hH _).2 (h3 _ (h1.s t ht))), fun t ht => (h1.b t).2 (h2 _ ((hH _).1 ((hq t).1 ht))), newB sh sc k, l, a', h', sl', q', ⟨rfl, rfl, rfl⟩, (rb.other hmem).turn o.block, ⟨hq, ⟨sl0, h1, fun c hc => h2 c ((hH c).1 hc), fun c hc => (hH c).2 (h3 c hc)⟩, hU⟩⟩
/-- something is appended to the first row behind an act -/
theorem DP.app {r : Rw} {Ld : List H.Sl → Prop} (q : DP w n m sh sc (r :: rs) X Ld W) {W' : World} {v' : Value} {n' : Nat} {xs' : List Value} (hg : W.grownBy W' r.v.ownBlock) (ho : W'.ownsRow w.heap.size r.e r.k v' n' xs') (hv : v'.ownBlock = r.v.ownBlock ∨ v'.ownBlock = some W.heap.size) : DP w n m sh sc (⟨r.e, r.k, v', n', xs'⟩ :: rs) X Ld W' := by
  obtain ⟨l, a, sl, q, o, hL⟩ := q
  have lt1 : sh < W.heap.size := lt_of_heap q.x.s.hb
  have lt2 : sc < W.heap.size := lt_of_heap q.x.s.hc
  have hr : ∀ k, r.v.ownBlock = some k → w.heap.size ≤ k ∧ ¬ (k = sh ∨ k = sc) := fun k hk => ⟨((o.o r (List.mem_cons_self ..)).lt k hk).1, o.p r (List.mem_cons_self ..) k hk⟩
  have e1 := hg.block sh lt1 (fun e => (hr sh e.symm).2 (.inl rfl))
  have e2 := hg.block sc lt2 (fun e => (hr sc e.symm).2 (.inr rfl))
  have hB : Below w.heap.size w W' := q.x.o.trans ⟨hg.os, hg.tape, hg.output, hg.size, fun k hk => hg.block k (by have := q.x.o.size; omega) (fun e => by have := (hr k e.symm).1; omega)⟩
  exact ⟨l, a, sl, ⟨⟨⟨by rw [e1]; exact q.x.s.hb, by rw [e2]; exact q.x.s.hc, q.x.s.ne, Off2.refl _ _ _⟩, q.x.S, q.x.n, q.x.lm, q.x.am, hB, q.x.h1, q.x.h2⟩, q.u, q.t, q.q⟩, o.app hg ho hv (fun g hg => by rcases hg with rfl | rfl <;> assumption), hL⟩
theorem NA.app {r : Rw} {er : Int} (q : NA w n m K sh sc (r :: rs) X bl su re sa W er) (hw : GW w) {W' : World} {v' : Value} {n' : Nat} {xs' : List Value} (hg : W.grownBy W' r.v.ownBlock) (ho : W'.ownsRow w.heap.size r.e r.k v' n' xs') (hv : v'.ownBlock = r.v.ownBlock ∨ v'.ownBlock = some W.heap.size) : NA w n m K sh sc (⟨r.e, r.k, v', n', xs'⟩ :: rs) X bl su re sa W' er := by
  rcases q with ⟨arm, cn, h0, hE, q⟩ | ⟨rfl, arm, cn, q⟩ | ⟨rfl, q⟩
  · exact .on arm cn h0 hE (q.app hw hg ho hv)
  · exact .up arm cn (q.app hw hg ho hv)
  · exact .dn (q.app hg ho hv)
/-- THE LISTS ARE THE STORE'S AGAIN -/
theorem QP.settled {qf : List UInt8 → Bool} {D : List (List UInt8)} {le : List V.Rc} (q : QP w n m K sh sc arm rs X cn (Lk qf bl su re sa D le) W) (hk : le.map (·.key) = D) : (∀ x ∈ sa, x ∈ le) ∧ QP w n m K sh sc arm rs X cn (L4 (bl.filter qf) (bl.filter qf) le le) W := by
  obtain ⟨b, l, a, h, sl, q, e, rb, hR⟩ := q
  obtain ⟨sl0, h1, h2, h3⟩ := hR.o.l
  have hle : ∀ x, x ∈ le ↔ HasC sl (ctR x) := fun x => ⟨hR.h x, fun hx => by
    have hkx := hR.k x hx
    rw [← hk] at hkx
    obtain ⟨y, hy, hyk⟩ := List.mem_map.1 hkx
    rw [← q.recOne (hR.h y hy) hx hyk]; exact hy⟩
  exact ⟨fun x hx => (hle x).2 (h3 _ (h1.f x hx)), b, l, a, h, sl, q, e, rb, h1.again h2 hR.o.u (fun t _ => hR.o.q t) hle⟩
/-- a new shelf is opened -/
theorem QP.new {b c : Nat} (x : SW w b c (new n) W) (hb : w.heap.size ≤ b) (hc : w.heap.size ≤ c) (hn : n ≤ 128) (hg : GW w) :
    Calls Tryz.prog 9 #[.pointer (some ⟨b, 0, none⟩)] W fun e' w' => ∃ K cn, e' = .returned (.tuple #[.pointer (some ⟨K, 0, none⟩), .int .i64 0]) ∧ QP w n 200 K b c 0 [] X cn (L4 [] [] [] []) w' := by
  have x0 : SX w n 0 b c false 0 0 (List.replicate n s0) W := ⟨x.base, Ss.new n, hn, Nat.le_refl _, Nat.le_refl _, x.o.below hb hc (Nat.le_refl _), hb, hc⟩
  have get : ∀ (i : Nat) (s : H.Sl), (List.replicate n s0)[i]? = some s → s = s0 := fun i s hs => List.eq_of_mem_replicate (List.mem_of_getElem? hs)
  have nod : ∀ (i : Nat) (s : H.Sl) (c : V.Ct), (List.replicate n s0)[i]? = some s → V.decode s.text = some c → False := fun i s c hs hd => by
    rw [get i s hs, show s0.text = [] from rfl, decode_nil] at hd; cases hd
  have p0 : PO w n 0 b c 0 0 (List.replicate n s0) X W := ⟨x0, fun s hs => by rw [List.eq_of_mem_replicate hs]; exact ⟨rfl, rfl⟩, fun i s c hs hd _ => (nod i s c hs hd).elim, fun i j s s' c c' hs _ hd _ _ _ => (nod i s c hs hd).elim⟩
  have hno : ∀ c, ¬ HasC (List.replicate n s0) c := fun c ⟨i, s, hs, hd⟩ => nod i s c hs hd
  have q0 : OP w n 0 b c [] X (Lb [] [] [] []) W := ⟨0, 0, _, p0, ⟨fun r hr => absurd hr (by simp), fun r hr => absurd hr (by simp), List.Pairwise.nil⟩, _, LI.none hno, fun c hc => hc, fun c ⟨i, s, hs, _, hd⟩ => ⟨i, s, hs, hd⟩⟩
  refine (q0.opens (by omega) hg).mono ?_
  rintro e' w' ⟨K2, cn, qf, rfl, _, _, q⟩
  refine ⟨K2, cn, rfl, q.imp (fun F sl hL => ?_)⟩
  obtain ⟨sl0, h1, h2, h3⟩ := hL.l
  exact LI.none (fun c ⟨i, s, hs, hd⟩ => by
    have h4 := h2 c ⟨i, s, hs, hd⟩
    rcases V.decode_some hd with ⟨k1, _⟩ | ⟨k1, _⟩
    · rw [ct_blob hd k1] at h4; exact absurd ((h1.b _).2 h4) (by simp)
    · rw [(ct_rec hd k1).1] at h4; exact absurd ((h1.r _).2 h4) (by simp))
end
end Go.Proofs.YtlkllcnnnndllaaGreatDoor

/- For HivePower: the law's four empty rows; what it arms. -/
namespace Go.Proofs.YtlkllcnnnndllaaGreatDoor
open Go.RowKit Go.Maps
set_option linter.unusedVariables false
set_option linter.unusedSimpArgs false

/-- what is armed -/
theorem arm60 (y : Int) : ∃ k : Nat, k ≤ 100 ∧ wrap64 ((IntKind.u64.wrap y).tmod 60) = (k : Int) := by
  have h0 : 0 ≤ IntKind.u64.wrap y := by rw [IntKind.wrap_u64]; omega
  rw [Int.tmod_eq_emod_of_nonneg h0]
  have q1 := Int.emod_nonneg (IntKind.u64.wrap y) (show (60 : Int) ≠ 0 by omega)
  have q2 := Int.emod_lt_of_pos (IntKind.u64.wrap y) (show (0 : Int) < 60 by omega)
  refine ⟨((IntKind.u64.wrap y) % 60).toNat, by omega, ?_⟩
  unfold wrap64
  omega
section
variable {w W : World} {n m K sh sc arm : Nat} {rs : List Rw} {X : List UInt8 → Prop} {cn : Nat} {L : Fd → List H.Sl → Prop}
theorem sizeA (W : World) (o : Obj) : (W.alloc o).heap.size = W.heap.size + 1 := by simp
theorem QP.rowS (q : QP w n m K sh sc arm rs X cn L W) : QP w n m K sh sc arm (rwS (.slice (some ⟨W.heap.size, 0, none⟩) 0 0) [] :: rs) X cn L (W.alloc (.cells #[] 9)) :=
  q.cons ((Below.refl _ W).alloc (Nat.le_refl _) _) _ (World.ownsRow_made W #[] 0 q.o.size (Nat.zero_le _) rfl) (fun g hg => by cases hg; exact Nat.le_refl _)
theorem QP.rowR (q : QP w n m K sh sc arm rs X cn L W) : QP w n m K sh sc arm (rwR (.slice (some ⟨W.heap.size, 0, none⟩) 0 0) [] :: rs) X cn L (W.alloc (.cells #[] 41)) :=
  q.cons ((Below.refl _ W).alloc (Nat.le_refl _) _) _ (World.ownsRow_made W #[] 0 q.o.size (Nat.zero_le _) rfl) (fun g hg => by cases hg; exact Nat.le_refl _)
/-- the law's world at its start -/
def W4 (W : World) : World := (((W.alloc (.cells #[] 9)).alloc (.cells #[] 9)).alloc (.cells #[] 41)).alloc (.cells #[] 41)
/-- the law's rows: blobs, sure, recs, safe -/
def r4 (vB vS vR vF : Value) (bl su : List (List UInt8)) (re sa : List V.Rc) : List Rw := [rwS vB bl, rwS vS su, rwR vR re, rwR vF sa]
theorem QP.four (q : QP w n m K sh sc arm [] X cn L W) : QP w n m K sh sc arm (r4 (.slice (some ⟨W.heap.size + 1, 0, none⟩) 0 0) (.slice (some ⟨W.heap.size, 0, none⟩) 0 0) (.slice (some ⟨W.heap.size + 1 + 1 + 1, 0, none⟩) 0 0) (.slice (some ⟨W.heap.size + 1 + 1, 0, none⟩) 0 0) [] [] [] []) X cn L (W4 W) := by
  have h := q.rowS.rowS.rowR.rowR
  simp only [sizeA] at h
  refine h.perm ?_
  unfold r4
  exact (List.perm_append_comm (l₁ := [_, _]) (l₂ := [_, _]))
theorem W4.below (W : World) : Below W.heap.size W (W4 W) := ((((Below.refl _ W).alloc (Nat.le_refl _) _).alloc (by simp only [sizeA]; omega) _).alloc (by simp only [sizeA]; omega) _).alloc (by simp only [sizeA]; omega) _
end
end Go.Proofs.YtlkllcnnnndllaaGreatDoor

/- For HivePower: the round's box and rows; what the walk asks. -/
namespace Go.Proofs.YtlkllcnnnndllaaGreatDoor
open Go.RowKit Go.Maps
set_option linter.unusedVariables false
set_option linter.unusedSimpArgs false

section
variable {w W : World} {n m K sh sc arm : Nat} {rs : List Rw} {X : List UInt8 → Prop} {cn : Nat} {L : Fd → List H.Sl → Prop} {bl su : List (List UInt8)} {re sa : List V.Rc}
theorem QP.wider (q : QP w n m K sh sc arm rs X cn L W) {m' : Nat} (hm : m ≤ m') : QP w n m' K sh sc arm rs X cn L W := by
  obtain ⟨b, l, a, h, sl, q, e, r, hL⟩ := q
  exact ⟨b, l, a, h, sl, ⟨q.x, q.S, q.n, q.li, Nat.le_trans q.lm hm, Nat.le_trans q.am hm, Nat.le_trans q.um hm, q.us, q.ar, q.o, q.k, q.s, q.u, q.c⟩, e, r, hL⟩
theorem DP.wider {Ld : List H.Sl → Prop} (q : DP w n m sh sc rs X Ld W) {m' : Nat} (hm : m ≤ m') : DP w n m' sh sc rs X Ld W := by
  obtain ⟨l, a, sl, q, r, hL⟩ := q
  exact ⟨l, a, sl, ⟨⟨q.x.s, q.x.S, q.x.n, Nat.le_trans q.x.lm hm, Nat.le_trans q.x.am hm, q.x.o, q.x.h1, q.x.h2⟩, q.u, q.t, q.q⟩, r, hL⟩
theorem NA.wider {er : Int} (q : NA w n m K sh sc rs X bl su re sa W er) {m' : Nat} (hm : m ≤ m') : NA w n m' K sh sc rs X bl su re sa W er := by
  rcases q with ⟨arm, cn, h0, hE, q⟩ | ⟨rfl, arm, cn, q⟩ | ⟨rfl, q⟩
  · exact .on arm cn h0 hE (q.wider hm)
  · exact .up arm cn (q.wider hm)
  · exact .dn (q.wider hm)
theorem DP.perm {Ld : List H.Sl → Prop} (q : DP w n m sh sc rs X Ld W) {rs' : List Rw} (hp : rs.Perm rs') : DP w n m sh sc rs' X Ld W := by
  obtain ⟨l, a, sl, q, r, hL⟩ := q
  exact ⟨l, a, sl, q, r.perm hp, hL⟩
theorem NA.perm {er : Int} (q : NA w n m K sh sc rs X bl su re sa W er) {rs' : List Rw} (hp : rs.Perm rs') : NA w n m K sh sc rs' X bl su re sa W er := by
  rcases q with ⟨arm, cn, h0, hE, q⟩ | ⟨rfl, arm, cn, q⟩ | ⟨rfl, q⟩
  · exact .on arm cn h0 hE (q.perm hp)
  · exact .up arm cn (q.perm hp)
  · exact .dn (q.perm hp)
theorem DP.owns {Ld : List H.Sl → Prop} (q : DP w n m sh sc rs X Ld W) {r : Rw} (hr : r ∈ rs) : W.ownsRow w.heap.size r.e r.k r.v r.n r.xs := by obtain ⟨l, a, sl, q, o, hL⟩ := q; exact o.o r hr
theorem OP.owns {Ld : List H.Sl → Prop} (q : OP w n m sh sc rs X Ld W) {r : Rw} (hr : r ∈ rs) : W.ownsRow w.heap.size r.e r.k r.v r.n r.xs := by obtain ⟨l, a, sl, q, o, hL⟩ := q; exact o.o r hr
theorem NA.owns {er : Int} (q : NA w n m K sh sc rs X bl su re sa W er) {r : Rw} (hr : r ∈ rs) : W.ownsRow w.heap.size r.e r.k r.v r.n r.xs := by
  rcases q with ⟨arm, cn, h0, hE, q⟩ | ⟨rfl, arm, cn, q⟩ | ⟨rfl, q⟩
  · exact q.owns hr
  · exact q.owns hr
  · exact q.owns hr
theorem DP.o {Ld : List H.Sl → Prop} (q : DP w n m sh sc rs X Ld W) : Below w.heap.size w W := by obtain ⟨l, a, sl, q, o, hL⟩ := q; exact q.x.o
theorem NA.o {er : Int} (q : NA w n m K sh sc rs X bl su re sa W er) : Below w.heap.size w W := by
  rcases q with ⟨arm, cn, h0, hE, q⟩ | ⟨rfl, arm, cn, q⟩ | ⟨rfl, q⟩
  · exact q.o
  · exact q.o
  · exact q.o
theorem DP.step {Ld : List H.Sl → Prop} (q : DP w n m sh sc rs X Ld W) {W' : World} (hb : Below W.heap.size W W') : DP w n m sh sc rs X Ld W' := by
  obtain ⟨l, a, sl, q, r, hL⟩ := q
  have lt1 : sh < W.heap.size := lt_of_heap q.x.s.hb
  have lt2 : sc < W.heap.size := lt_of_heap q.x.s.hc
  exact ⟨l, a, sl, ⟨⟨⟨by rw [hb.block sh lt1]; exact q.x.s.hb, by rw [hb.block sc lt2]; exact q.x.s.hc, q.x.s.ne, Off2.refl _ _ _⟩, q.x.S, q.x.n, q.x.lm, q.x.am, q.x.o.trans (hb.mono q.x.o.size), q.x.h1, q.x.h2⟩, q.u, q.t, q.q⟩, r.step hb, hL⟩
theorem NA.step {er : Int} (q : NA w n m K sh sc rs X bl su re sa W er) {W' : World} (hb : Below W.heap.size W W') : NA w n m K sh sc rs X bl su re sa W' er := by
  rcases q with ⟨arm, cn, h0, hE, q⟩ | ⟨rfl, arm, cn, q⟩ | ⟨rfl, q⟩
  · exact .on arm cn h0 hE (q.step hb)
  · exact .up arm cn (q.step hb)
  · exact .dn (q.step hb)
/-- only the act that goes on does not answer ErrDown -/
theorem NA.goes {er : Int} (q : NA w n m K sh sc rs X bl su re sa W er) (h : er ≠ 10) : ∃ arm cn, QP w n m K sh sc arm rs X cn (L4 bl su re sa) W := by
  rcases q with ⟨arm, cn, h0, hE, q⟩ | ⟨rfl, arm, cn, q⟩ | ⟨rfl, q⟩
  · exact ⟨arm, cn, q⟩
  · exact absurd rfl h
  · exact absurd rfl h
theorem QP.box (q : QP w n m K sh sc arm rs X cn L W) (cur : Array Value) (T : TypeId) (k : Nat) (hs : cur.size = k) : QP w n m K sh sc arm (rwK T k W.heap.size 1 cur :: rs) X cn L (W.alloc (.cells cur T)) :=
  q.cons ((Below.refl _ W).alloc (Nat.le_refl _) _) _ (owns_blkK (heap_alloc_new _ _) q.o.size (by decide) (by rw [hs, Nat.one_mul]; rfl)) (fun g hg => by cases hg; exact Nat.le_refl _)
theorem QP.boxAt {cur : Array Value} {T : TypeId} {k g j : Nat} (q : QP w n m K sh sc arm rs X cn L W) (hr : rwK T k g j cur ∈ rs) (hs : cur.size = j * k) : W.heap[g]? = some (.cells cur T (0, 0)) := owns_heap hs (q.owns hr)
end
/-- the law's rows, and what else lies beside them -/
def r5 (vB vS vR vF : Value) (bl su : List (List UInt8)) (re sa : List V.Rc) (es : List Rw) : List Rw := rwS vB bl :: rwS vS su :: rwR vR re :: rwR vF sa :: es
section
variable {vB vS vR vF v : Value} {bl su l : List (List UInt8)} {re sa le : List V.Rc} {es : List Rw} {r : Rw}
theorem r5_in (r : Rw) : (r :: r5 vB vS vR vF bl su re sa es).Perm (r5 vB vS vR vF bl su re sa (r :: es)) := by
  unfold r5
  exact ((List.Perm.swap _ _ _).trans ((List.Perm.swap _ _ _).cons _)).trans ((((List.Perm.swap _ _ _).trans ((List.Perm.swap _ _ _).cons _)).cons _).cons _)
theorem r5_r : (r5 vB vS vR vF bl su re sa es).Perm (rwR vR re :: rwS vB bl :: rwS vS su :: rwR vF sa :: es) := by
  unfold r5
  exact ((List.Perm.swap _ _ _).cons _).trans (List.Perm.swap _ _ _)
theorem r5_s : (r5 vB vS vR vF bl su re sa es).Perm (rwS vS su :: rwS vB bl :: rwR vR re :: rwR vF sa :: es) := by
  unfold r5
  exact List.Perm.swap _ _ _
theorem r5_s0 : (rwS vS su :: rwS vB bl :: rwR vR re :: rwR vF sa :: es).Perm (r5 vB vS vR vF bl su re sa es) := r5_s.symm
theorem r5_r0 : (rwR vR re :: rwS vB bl :: rwS vS su :: rwR vF sa :: es).Perm (r5 vB vS vR vF bl su re sa es) := r5_r.symm
theorem r5_sub (es' : List Rw) (h : es'.Sublist es) : (r5 vB vS vR vF bl su re sa es').Sublist (r5 vB vS vR vF bl su re sa es) := by
  unfold r5
  exact (((h.cons_cons _).cons_cons _).cons_cons _).cons_cons _
theorem r5_four : (r5 vB vS vR vF bl su re sa []) = r4 vB vS vR vF bl su re sa := rfl
theorem r5_mem (h : r ∈ es) : r ∈ r5 vB vS vR vF bl su re sa es := by
  unfold r5
  exact List.mem_cons_of_mem _ (List.mem_cons_of_mem _ (List.mem_cons_of_mem _ (List.mem_cons_of_mem _ h)))
/-- a new row takes the old one's place -/
theorem r5_newS : ∃ rs', (rwS v l :: r5 vB vS vR vF bl su re sa es).Perm rs' ∧ (r5 vB v vR vF bl l re sa es).Sublist rs' := ⟨rwS vB bl :: rwS vS su :: rwS v l :: rwR vR re :: rwR vF sa :: es, by
  unfold r5
  exact (List.Perm.swap _ _ _).trans ((List.Perm.swap _ _ _).cons _), by
  unfold r5
  exact List.Sublist.cons_cons _ (List.Sublist.cons _ (List.Sublist.refl _))⟩
theorem r5_newB : ∃ rs', (rwS v l :: r5 vB vS vR vF bl su re sa es).Perm rs' ∧ (r5 v vS vR vF l su re sa es).Sublist rs' := ⟨_, List.Perm.refl _, by
  unfold r5
  exact List.Sublist.cons_cons _ (List.Sublist.cons _ (List.Sublist.refl _))⟩
theorem r5_newF : ∃ rs', (rwR v le :: r5 vB vS vR vF bl su re sa es).Perm rs' ∧ (r5 vB vS vR v bl su re le es).Sublist rs' := ⟨rwS vB bl :: rwS vS su :: rwR vR re :: rwR v le :: rwR vF sa :: es, by
  unfold r5
  exact (List.Perm.swap _ _ _).trans (((List.Perm.swap _ _ _).trans ((List.Perm.swap _ _ _).cons _)).cons _), by
  unfold r5
  exact List.Sublist.cons_cons _ (List.Sublist.cons_cons _ (List.Sublist.cons_cons _ (List.Sublist.cons_cons _ (List.Sublist.cons _ (List.Sublist.refl _)))))⟩
theorem r5_newR : ∃ rs', (rwR v le :: r5 vB vS vR vF bl su re sa es).Perm rs' ∧ (r5 vB vS v vF bl su le sa es).Sublist rs' := ⟨rwS vB bl :: rwS vS su :: rwR v le :: rwR vR re :: rwR vF sa :: es, by
  unfold r5
  exact (List.Perm.swap _ _ _).trans ((List.Perm.swap _ _ _).cons _), by
  unfold r5
  exact List.Sublist.cons_cons _ (List.Sublist.cons_cons _ (List.Sublist.cons_cons _ (List.Sublist.cons _ (List.Sublist.refl _))))⟩
end
section
variable {w W : World} {n m K sh sc arm : Nat} {X : List UInt8 → Prop} {cn : Nat} {L : Fd → List H.Sl → Prop} {vB vS vR vF v : Value} {bl su l : List (List UInt8)} {re sa le : List V.Rc} {es : List Rw}
theorem QP.newS (q : QP w n m K sh sc arm (rwS v l :: r5 vB vS vR vF bl su re sa es) X cn L W) : QP w n m K sh sc arm (r5 vB v vR vF bl l re sa es) X cn L W := by
  obtain ⟨rs', h1, h2⟩ := r5_newS (v := v) (vB := vB) (vS := vS) (vR := vR) (vF := vF) (bl := bl) (su := su) (l := l) (re := re) (sa := sa) (es := es)
  exact (q.perm h1).sub h2
theorem QP.newB (q : QP w n m K sh sc arm (rwS v l :: r5 vB vS vR vF bl su re sa es) X cn L W) : QP w n m K sh sc arm (r5 v vS vR vF l su re sa es) X cn L W := by
  obtain ⟨rs', h1, h2⟩ := r5_newB (v := v) (vB := vB) (vS := vS) (vR := vR) (vF := vF) (bl := bl) (su := su) (l := l) (re := re) (sa := sa) (es := es)
  exact (q.perm h1).sub h2
theorem QP.newF (q : QP w n m K sh sc arm (rwR v le :: r5 vB vS vR vF bl su re sa es) X cn L W) : QP w n m K sh sc arm (r5 vB vS vR v bl su re le es) X cn L W := by
  obtain ⟨rs', h1, h2⟩ := r5_newF (v := v) (vB := vB) (vS := vS) (vR := vR) (vF := vF) (bl := bl) (su := su) (le := le) (re := re) (sa := sa) (es := es)
  exact (q.perm h1).sub h2
theorem QP.newR (q : QP w n m K sh sc arm (rwR v le :: r5 vB vS vR vF bl su re sa es) X cn L W) : QP w n m K sh sc arm (r5 vB vS v vF bl su le sa es) X cn L W := by
  obtain ⟨rs', h1, h2⟩ := r5_newR (v := v) (vB := vB) (vS := vS) (vR := vR) (vF := vF) (bl := bl) (su := su) (le := le) (re := re) (sa := sa) (es := es)
  exact (q.perm h1).sub h2
/-- one row more beside the law's -/
theorem QP.aside {r : Rw} (q : QP w n m K sh sc arm (r :: r5 vB vS vR vF bl su re sa es) X cn L W) : QP w n m K sh sc arm (r5 vB vS vR vF bl su re sa (r :: es)) X cn L W := q.perm (r5_in r)
theorem QP.less {es' : List Rw} (q : QP w n m K sh sc arm (r5 vB vS vR vF bl su re sa es) X cn L W) (h : es'.Sublist es) : QP w n m K sh sc arm (r5 vB vS vR vF bl su re sa es') X cn L W := q.sub (r5_sub es' h)
theorem QP.appB (q : QP w n m K sh sc arm (r5 vB vS vR vF bl su re sa es) X cn L W) (hw : GW w) {W' : World} (hg : W.grownBy W' vB.ownBlock) (ho : W'.ownsRow w.heap.size 9 1 v (bl ++ l).length ((bl ++ l).map encS)) (hv : v.ownBlock = vB.ownBlock ∨ v.ownBlock = some W.heap.size) : QP w n m K sh sc arm (r5 v vS vR vF (bl ++ l) su re sa es) X cn L W' := QP.app (r := rwS vB bl) q hw hg ho hv
theorem QP.appS (q : QP w n m K sh sc arm (r5 vB vS vR vF bl su re sa es) X cn L W) (hw : GW w) {W' : World} (hg : W.grownBy W' vS.ownBlock) (ho : W'.ownsRow w.heap.size 9 1 v (su ++ l).length ((su ++ l).map encS)) (hv : v.ownBlock = vS.ownBlock ∨ v.ownBlock = some W.heap.size) : QP w n m K sh sc arm (r5 vB v vR vF bl (su ++ l) re sa es) X cn L W' :=
  (QP.app (r := rwS vS su) (q.perm r5_s) hw hg ho hv : QP w n m K sh sc arm (rwS v (su ++ l) :: _) X cn L W').perm r5_s0
theorem NA.appR {er : Int} {bl' su' : List (List UInt8)} {re' sa' : List V.Rc} (q : NA w n m K sh sc (r5 vB vS vR vF bl su re sa es) X bl' su' re' sa' W er) (hw : GW w) {W' : World} (hg : W.grownBy W' vR.ownBlock) (ho : W'.ownsRow w.heap.size 41 65 v (re ++ le).length (flR (re ++ le))) (hv : v.ownBlock = vR.ownBlock ∨ v.ownBlock = some W.heap.size) : NA w n m K sh sc (r5 vB vS v vF bl su (re ++ le) sa es) X bl' su' re' sa' W' er :=
  (NA.app (r := rwR vR re) (q.perm r5_r) hw hg ho hv : NA w n m K sh sc (rwR v (re ++ le) :: _) X bl' su' re' sa' W' er).perm r5_r0
end
section
variable {w W : World} {n m K sh sc arm : Nat} {rs : List Rw} {X : List UInt8 → Prop} {cn : Nat} {L : Fd → List H.Sl → Prop} {bl su : List (List UInt8)} {re sa : List V.Rc}
theorem QP.says (q : QP w n m K sh sc arm rs X cn L W) : ∃ F sl, L F sl := by obtain ⟨b, l, a, h, sl, q, e, r, hL⟩ := q; exact ⟨_, _, hL⟩
theorem ts_of {N : Nat} {a : Option Addr} {c : Nat} {ks : List (List UInt8)} (h : W.ownsRow N 9 1 (.slice a ks.length c) ks.length (ks.map encS)) : TS W a ks := by
  obtain ⟨a', c', e, t⟩ := owns_ts h
  cases e; exact t
theorem rl_of {N : Nat} {a : Option Addr} {c : Nat} {ks : List V.Rc} (h32 : ∀ r ∈ ks, Rc32 r) (h : W.ownsRow N 41 65 (.slice a ks.length c) ks.length (flR ks)) : RL W a ks := by
  obtain ⟨a', c', e, t, _⟩ := owns_rl h32 h
  cases e; exact t
theorem owns_len {N k n : Nat} {e : TypeId} {v : Value} {xs : List Value} (h : W.ownsRow N e k v n xs) : n ≤ 9223372036854775807 := by
  obtain ⟨h0, ⟨h1, h2⟩ | ⟨g, cap, cur, h1, h2, h3, h4, h5, h6, h7⟩⟩ := h
  · omega
  · have : cap ≤ 9223372036854775807 := Nat.le_trans h5 (by decide)
    omega
theorem owns_cap {N k n l c : Nat} {a : Option Addr} {e : TypeId} {xs : List Value} (h : W.ownsRow N e k (.slice a l c) n xs) : n ≤ c ∧ l = n := by
  obtain ⟨h0, ⟨h1, h2⟩ | ⟨g, cap, cur, h1, h2, h3, h4, h5, h6, h7⟩⟩ := h
  · cases h1; omega
  · cases h1; omega
/-- a key's record is asked for -/
theorem QP.recKey {qf : List UInt8 → Bool} {D : List (List UInt8)} {le : List V.Rc} (q : QP w n m K sh sc arm rs X cn (Lk qf bl su re sa D le) W) (hm : m ≤ 900000) (d : List UInt8) (hd : d.length = 32) (hD : d ∈ D) :
    Calls Tryz.prog 12 #[.pointer (some ⟨K, 0, none⟩), .agg (dg d)] W fun e' w' => ∃ r : V.Rc, e' = .returned (.tuple #[.agg (rv r), .bool true]) ∧ Rc32 r ∧ r.key = d ∧ r ∈ re ∧ QP w n (m + 5) K sh sc arm rs X cn (Lk qf bl su re sa D (le ++ [r])) w' := by
  refine (q.recAsk hm d hd).mono ?_
  rintro e' w' ⟨r, v, rfl, h1, q'⟩
  obtain ⟨F, sl, hL, h2, h3⟩ := q'.says
  have hv : v = true := by rw [h3]; exact decide_eq_true (hL.d d hD)
  subst hv
  obtain ⟨h4, h5⟩ := h2 rfl
  obtain ⟨sl0, k1, k2, _⟩ := hL.o.l
  refine ⟨r, rfl, h1, h5, (k1.r r).2 (k2 _ h4), q'.imp (fun F sl h => ?_)⟩
  obtain ⟨g1, g2, _⟩ := h
  refine ⟨g1.o, g1.d, g1.k, fun x hx => ?_⟩
  rcases List.mem_append.1 hx with hx | hx
  · exact g1.h x hx
  · have : x = r := by simpa using hx
    rw [this]; exact (g2 rfl).1
theorem ts_one6 (W : World) (s : List UInt8) (T : TypeId) : TS (W.alloc (.cells #[.string (M.bs s)] T)) (some ⟨W.heap.size, 0, none⟩) [s] := fun i t ht => by
  cases i with
  | zero =>
    have e : s = t := by simpa using ht
    subst e
    exact ⟨W.heap.size, 0, rfl, by simp, by rw [Lib.cell_of_heap (heap_alloc_new _ _)]; rfl⟩
  | succ i => simp at ht
theorem rl_one6 (W : World) (r : V.Rc) (hr : Rc32 r) (T : TypeId) : RL (W.alloc (.cells (rvL r).toArray T)) (some ⟨W.heap.size, 0, none⟩) [r] := fun i x hx => by
  cases i with
  | zero =>
    have e : r = x := by simpa using hx
    subst e
    exact ⟨W.heap.size, 0, rfl, by simp, fun j v hv => by rw [Lib.cell_of_heap (heap_alloc_new _ _)]; simpa using hv, hr⟩
  | succ i => simp at hx
end
theorem wl_bs65 {ops : Array Oper} {rest : List Oper} {o : Oper} {a : Act} {w : World} {Q : Exit → Act → World → Prop} (hg : o.guard = none) (x : Operand) (ho : o.op = .buildSlice 35 1 #[(0, x)]) (r : V.Rc) (hr : Rc32 r) (hx : a.eval x = .agg (rvL r).toArray)
    (h : wpList Tryz.prog ops Q rest (a.put o.dst (.slice (some ⟨w.heap.size, 0, none⟩) 1 1)) (w.alloc (.cells (rvL r).toArray 41))) : wpList Tryz.prog ops Q (o :: rest) a w := by
  obtain ⟨i, hi, hz, hs, hb⟩ : ∃ i, Tryz.prog.info? 41 = some i ∧ i.zero = some (.agg (rv V.zr)) ∧ i.size = 65 ∧ i.bytes = 72 :=
    info_parts (show (Tryz.prog.info? 41).map (fun i => (i.zero, i.size, i.bytes)) = some (some (.agg (rv V.zr)), 65, 72) by kernel_rfl)
  refine wpList_buildSlice hg _ 41 1 #[(0, x)] ho (rvL r).toArray i (.agg (rv V.zr)) Tryz.underlying35 hi hz (by rw [hs]; decide) (by rw [hs]; decide) ?_ h
  have hp : ((#[(0, x)] : Array (Nat × Operand)).map fun (i, x) => (i, a.eval x)).toList = [(0, .agg (rvL r).toArray)] := by simp [hx]
  rw [hp, hs]
  obtain ⟨Z, hZ⟩ : ∃ Z, Z = ((Array.range (1 * 65)).map ((Value.agg (rv V.zr)).cells[· % (Value.agg (rv V.zr)).cells.size]!)) := ⟨_, rfl⟩
  have hZs : Z.toList.length = 65 := by rw [hZ]; simp
  have hl := rvL_length hr
  rw [← hZ]
  have e : Z = ([] ++ Z.toList ++ []).toArray := by simp
  rw [e, fill_cons _ [] Z.toList [] 0 _ _ (rvL r) 0 rfl (by simp [hl]) rfl (by rw [hZs, hl])]
  simp [Instr.fill]
/-- a call's text -/
def XT (acts : List A5) : List UInt8 → Prop := fun s => ∃ (j : Nat) (x : A5), j < 70 ∧ acts[j]? = some x ∧ x.text = s
/-- the law between its rounds -/
def RndP (w : World) (acts : List A5) (sh sc i : Nat) (u6 u8 u9 u10 u11 : Value) (W : World) : Prop := ∃ (K arm cn : Nat) (bl su : List (List UInt8)) (re sa : List V.Rc), u6 = .pointer (some ⟨K, 0, none⟩) ∧ bl.length + re.length ≤ i ∧ (∀ t ∈ bl, XT acts t) ∧ (∀ r ∈ re, Rc32 r) ∧ (∀ r ∈ sa, Rc32 r) ∧ QP w 128 (2000 * i + 200) K sh sc arm (r5 u9 u8 u11 u10 bl su re sa []) (XT acts) cn (L4 bl su re sa) W
/-- behind the round's act -/
def ActP (w : World) (acts : List A5) (K sh sc i : Nat) (bx : Rw) (u7 u8 u9 u10 u11 : Value) (W : World) : Prop := ∃ (er : Int) (bl su : List (List UInt8)) (re sa : List V.Rc), u7 = .int .i64 er ∧ bl.length + re.length ≤ i + 1 ∧ (∀ t ∈ bl, XT acts t) ∧ (∀ r ∈ re, Rc32 r) ∧ (∀ r ∈ sa, Rc32 r) ∧ NA w 128 (2000 * i + 210) K sh sc (r5 u9 u8 u11 u10 bl su re sa [bx]) (XT acts) bl su re sa W er
end Go.Proofs.YtlkllcnnnndllaaGreatDoor
