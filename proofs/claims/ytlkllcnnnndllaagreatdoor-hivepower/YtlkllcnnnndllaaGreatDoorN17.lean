/- What the laws know of a store that lies above what came in; a new store. -/
import Derived.Test.YtlkllcnnnndllaaGreatDoorN16
namespace Go.Proofs.YtlkllcnnnndllaaGreatDoor
open Go.RowKit Go.Maps
set_option linter.unusedVariables false
set_option linter.unusedSimpArgs false

/-- a store above w, and rows of digests beside it -/
structure AW (w : World) (life : Nat) (b : HB) (A : Ag) (m : Nat) (qs : List (Nat × List UInt8)) (W : World) : Prop where
  B : BH life b A m W
  o : Below w.heap.size w W
  a : ∀ k, b.mem k → w.heap.size ≤ k
  r : ∀ p ∈ qs, W.heap[p.1]? = some (.cells (dg p.2) 39 (0, 0)) ∧ ¬ b.mem p.1
theorem OffB.below {b : HB} {w W W' : World} (o : OffB b W W') (hB : Below w.heap.size w W) (hm : ∀ k, b.mem k → w.heap.size ≤ k) : Below w.heap.size w W' :=
  ⟨o.os.trans hB.os, o.tape.trans hB.tape, o.output.trans hB.output, Nat.le_trans hB.size o.size, fun k hk => (o.block k (Nat.lt_of_lt_of_le hk hB.size) (fun h => by have := hm k h; omega)).trans (hB.block k hk)⟩
section
variable {w W : World} {life m : Nat} {b : HB} {A : Ag} {qs : List (Nat × List UInt8)}
theorem AW.next (h : AW w life b A m qs W) {A' : Ag} {m' : Nat} {w' : World} (B' : BH life b A' m' w') (o' : OffB b W w') : AW w life b A' m' qs w' :=
  ⟨B', o'.below h.o h.a, h.a, fun p hp => ⟨by rw [o'.block _ (lt_of_heap (h.r p hp).1) (h.r p hp).2]; exact (h.r p hp).1, (h.r p hp).2⟩⟩
theorem AW.step (h : AW w life b A m qs W) {W' : World} (hb : Below W.heap.size W W') : AW w life b A m qs W' := h.next (h.B.step hb) (OffB.of_below hb)
theorem AW.alloc (h : AW w life b A m qs W) (o : Obj) : AW w life b A m qs (W.alloc o) := h.step ((Below.refl _ W).alloc (Nat.le_refl _) _)
theorem AW.drew (h : AW w life b A m qs W) : AW w life b A m qs W.drew := h.step (Below.refl _ _).drew
theorem AW.row (h : AW w life b A m qs W) (d : List UInt8) : AW w life b A m ((W.heap.size, d) :: qs) (W.alloc (.cells (dg d) 39)) := by
  have y := h.alloc (.cells (dg d) 39)
  refine ⟨y.B, y.o, y.a, fun p hp => ?_⟩
  rcases List.mem_cons.1 hp with rfl | hp
  · exact ⟨heap_alloc_new _ _, fun hm => by have := h.B.lt hm; simp at this⟩
  · exact y.r p hp
theorem mem_pin {b : HB} {p k : Nat} (h : (b.pin p).mem k) : k = p ∨ b.mem k := by
  rcases h with h | h | h | h | h | h
  · exact .inr (.inl h)
  · exact .inr (.inr (.inl h))
  · exact .inr (.inr (.inr (.inl h)))
  · exact .inr (.inr (.inr (.inr (.inl h))))
  · exact .inr (.inr (.inr (.inr (.inr (.inl h)))))
  · exact .inl (Option.some.inj h).symm
theorem AW.pinNew (h : AW w life b A m qs W) {p : Nat} (hp : W.heap.size ≤ p) {A' : Ag} {m' : Nat} {w' : World} (B' : BH life (b.pin p) A' m' w') (o' : OffB (b.pin p) W w') : AW w life (b.pin p) A' m' qs w' := by
  have ha : ∀ k, (b.pin p).mem k → w.heap.size ≤ k := fun k hk => by
    rcases mem_pin hk with rfl | hk
    · have := h.o.size; omega
    · exact h.a k hk
  have hr : ∀ x ∈ qs, ¬ (b.pin p).mem x.1 := fun x hx hk => by
    rcases mem_pin hk with e | hk
    · have := lt_of_heap (h.r x hx).1; omega
    · exact (h.r x hx).2 hk
  exact ⟨B', o'.below h.o ha, ha, fun x hx => ⟨by rw [o'.block _ (lt_of_heap (h.r x hx).1) (hr x hx)]; exact (h.r x hx).1, hr x hx⟩⟩
theorem AW.wider (h : AW w life b A m qs W) {m' : Nat} (hm : m ≤ m') : AW w life b A m' qs W := ⟨h.B.wider hm, h.o, h.a, h.r⟩
theorem AW.gw (h : AW w life b A m qs W) : GW W := h.B.gw
end
theorem pin_hvA (life : Nat) (A : Ag) (d : List UInt8) : pinV (hvA life A) (d :: (hvA life A).pins) = hvA life (A.pin d) := rfl
theorem BG.pinned {life m a : Nat} {b b' : HB} {A : Ag} {sl : List H.Sl} {W W' : World} (B : BG life b A m a sl W) {d : List UInt8} (h : HW W b' (hvA life (A.pin d)) (shOf life a sl) W') : BG life b' (A.pin d) m a sl W' := ⟨h.base, B.am, B.um, B.s, B.n, B.l, B.t⟩
/-- Pin of one digest -/
theorem Pin_g {w W : World} {life m : Nat} {b : HB} {A : Ag} {qs : List (Nat × List UInt8)} (h : AW w life b A m qs W) (d : List UInt8) (hd : d.length = 32) (hl : A.pins.length < 1000000) :
    Calls Tryz.prog 23 #[.pointer (some ⟨b.hv, 0, none⟩), .slice (some ⟨W.heap.size, 0, none⟩) 1 1] (W.alloc (.cells (dg d) 39)) fun e' w' => e' = .returned (.tuple #[]) ∧ ∃ b', (b'.hv = b.hv ∧ b'.sh = b.sh ∧ b'.sc = b.sc) ∧ AW w life b' (A.pin d) m qs w' := by
  have y := h.alloc (.cells (dg d) 39)
  have hq : ¬ b.mem W.heap.size := fun hm => by have := h.B.lt hm; omega
  obtain ⟨a, sl, B⟩ := y.B
  cases hp : b.pn with
  | some p =>
    refine (Pin_some B.x hp d hd hl (heap_alloc_new _ _) hq).mono ?_
    rintro e' w' ⟨rfl, z⟩
    rw [pin_hvA] at z
    exact ⟨rfl, b, ⟨rfl, rfl, rfl⟩, y.next ⟨a, sl, B.pinned z⟩ z.o⟩
  | none =>
    have hpins : A.pins = [] := by have := B.x.pn; rw [hp] at this; exact this
    refine (Pin_none B.x hp d hd (heap_alloc_new _ _) hq).mono ?_
    rintro e' w' ⟨rfl, z⟩
    have e : pinV (hvA life A) [d] = hvA life (A.pin d) := by unfold pinV hvA Ag.pin Ag.es; simp [hpins]
    rw [e] at z
    exact ⟨rfl, b.pin _, ⟨rfl, rfl, rfl⟩, y.pinNew (by simp) ⟨a, sl, B.pinned z⟩ z.o⟩
def agN (n : Nat) : Ag := ⟨List.replicate n none, 0, []⟩
theorem ldN_free (f n a : Nat) (sl : List H.Sl) (h : ∀ z ∈ sl, z.text = []) : ∀ k, ldN (ld0 f n a sl) k = ld0 f n a sl
  | 0 => rfl
  | k + 1 => by
    rw [ldN, ldN_free f n a sl h k, ldStep]
    cases hz : (ld0 f n a sl).sl[k]? with
    | none => rfl
    | some z => simp only; rw [if_pos (h z (List.mem_of_getElem? hz))]
theorem hv0_agN (f n : Nat) : hv0 f n = hvA f (agN n) := by simp [hv0, hvA, agN, Ag.es, enG]
theorem agN_none (n i : Nat) (t : List UInt8) (u : Nat) : (agN n).g[i]? ≠ some (some (t, u)) := fun h => by
  have := List.eq_of_mem_replicate (List.mem_of_getElem? h); cases this
/-- Open of a new shelf -/
theorem Open_new {w W : World} {b c n : Nat} (x : SW w b c (new n) W) (hb : w.heap.size ≤ b) (hc : w.heap.size ≤ c) (hg : GW w) (hn : n ≤ 128) :
    Calls Tryz.prog 9 #[.pointer (some ⟨b, 0, none⟩)] W fun e' w' => ∃ k, e' = .returned (.tuple #[.pointer (some ⟨k + 2, 0, none⟩), .int .i64 0]) ∧ AW w 0 (newB b c k) (agN n) 0 [] w' := by
  have hz := hg.z
  have hB : Below w.heap.size w W := x.o.below hb hc (Nat.le_refl _)
  refine (Open_x (f := 0) (a := 0) (sl := List.replicate n s0) (n := n) x (hg.below hB hz) (by omega) (by omega) (Ss.new n) hn (by omega) (by omega)).mono ?_
  rintro e' w' ⟨k, hk, rfl, y⟩
  rw [ldN_free 0 n 0 _ (fun z hz => by rw [List.eq_of_mem_replicate hz]; rfl)] at y
  have y' : HW w (newB b c k) (hvA 0 (agN n)) (shOf 0 0 (List.replicate n s0)) w' := by rw [← hv0_agN]; exact y
  have hs := hB.size
  have ha : ∀ j, (newB b c k).mem j → w.heap.size ≤ j := fun j hj => by
    rcases hj with e | e | e | e | e | hj
    · have : j = b := e; omega
    · have : j = c := e; omega
    · have : j = k + 2 := e; omega
    · have : j = k := e; omega
    · have : j = k + 1 := e; omega
    · cases hj
  refine ⟨k, rfl, ⟨0, List.replicate n s0, y'.base, Nat.le_refl _, Nat.le_refl _, by show Ss (List.replicate n none).length _; rw [List.length_replicate]; exact Ss.new n, by show (List.replicate n none).length ≤ 128; rw [List.length_replicate]; exact hn, by omega, fun i t u h => absurd h (agN_none n i t u)⟩, ?_, ha, fun p hp => by cases hp⟩
  exact OffB.below (W := w) y.o (Below.refl _ _) ha
section
variable {w : World} {life m : Nat} {b : HB} {A : Ag} {qs : List (Nat × List UInt8)}
theorem AW.blobYes {W : World} (h : AW w life b A m qs W) (hm : m ≤ 900000) {d : List UInt8} {i : Nat} (hf : A.fnd d = some i) {t : List UInt8} {u : Nat} (hg : A.g[i]? = some (some (t, u))) :
    Calls Tryz.prog 17 #[.pointer (some ⟨b.hv, 0, none⟩), .agg (dg d)] W fun e' w' => e' = .returned (.tuple #[.string (M.bs t), .bool true]) ∧ AW w life b (A.put i t) (m + 3) qs w' := by
  refine (Blob_yes h.B hm hf hg).mono ?_
  rintro e' w' ⟨rfl, B, o⟩
  exact ⟨rfl, h.next B o⟩
theorem AW.blobNo {W : World} (h : AW w life b A m qs W) {d : List UInt8} (hd : d.length = 32) (hf : A.fnd d = none) :
    Calls Tryz.prog 17 #[.pointer (some ⟨b.hv, 0, none⟩), .agg (dg d)] W fun e' w' => e' = .returned (.tuple #[.string (M.bs []), .bool false]) ∧ AW w life b A (m + 3) qs w' := by
  refine (Blob_no h.B hd hf).mono ?_
  rintro e' w' ⟨rfl, B, o⟩
  exact ⟨rfl, h.next B o⟩
theorem AW.putIs {W : World} (h : AW w life b A m qs W) (hm : m ≤ 900000) (s : List UInt8) (hs : s.length ≤ 512) {i : Nat} (hf : A.fnd (S.sha s) = some i) {t : List UInt8} {u : Nat} (hg : A.g[i]? = some (some (t, u))) :
    Calls Tryz.prog 11 #[.pointer (some ⟨b.hv, 0, none⟩), .string (M.bs s)] W fun e' w' => e' = .returned (.tuple #[.agg (dg (S.sha s)), .int .i64 0]) ∧ AW w life b (A.put i t) (m + 3) qs w' := by
  refine (PutBlob_is h.B hm s hs hf hg).mono ?_
  rintro e' w' ⟨rfl, B, o⟩
  exact ⟨rfl, h.next B o⟩
theorem AW.putNew {W : World} (h : AW w life b A m qs W) (hm : m ≤ 900000) (s : List UInt8) (hs : s.length ≤ 512) (hf : A.fnd (S.sha s) = none) {i : Nat} (hr : A.room = some i) :
    Calls Tryz.prog 11 #[.pointer (some ⟨b.hv, 0, none⟩), .string (M.bs s)] W fun e' w' => e' = .returned (.tuple #[.agg (dg (S.sha s)), .int .i64 0]) ∧ AW w life b (A.put i s) (m + 3) qs w' := by
  refine (PutBlob_new h.B hm s hs hf hr).mono ?_
  rintro e' w' ⟨rfl, B, o⟩
  exact ⟨rfl, h.next B o⟩
theorem AW.putFull {W : World} (h : AW w life b A m qs W) (hm : m ≤ 900000) (s : List UInt8) (hs : s.length ≤ 512) (hf : A.fnd (S.sha s) = none) (hr : A.room = none) :
    Calls Tryz.prog 11 #[.pointer (some ⟨b.hv, 0, none⟩), .string (M.bs s)] W fun e' w' => e' = .returned (.tuple #[.agg zero32, .int .i64 11]) ∧ AW w life b A (m + 3) qs w' := by
  refine (PutBlob_full h.B hm s hs hf hr).mono ?_
  rintro e' w' ⟨rfl, B, o⟩
  exact ⟨rfl, h.next B o⟩
end
/-- a shelf alone above w, and the rows -/
structure AX (w : World) (sh sc : Nat) (st : H.Sh) (qs : List (Nat × List UInt8)) (W : World) : Prop where
  s : SW W sh sc st W
  o : Below w.heap.size w W
  h1 : w.heap.size ≤ sh
  h2 : w.heap.size ≤ sc
  r : ∀ p ∈ qs, W.heap[p.1]? = some (.cells (dg p.2) 39 (0, 0)) ∧ p.1 ≠ sh ∧ p.1 ≠ sc
theorem AX.next {w W : World} {sh sc : Nat} {st : H.Sh} {qs : List (Nat × List UInt8)} (h : AX w sh sc st qs W) {st' : H.Sh} {w' : World} (s' : SW W sh sc st' w') : AX w sh sc st' qs w' :=
  ⟨s'.base, h.o.trans (s'.o.below h.h1 h.h2 h.o.size), h.h1, h.h2, fun p hp => ⟨by rw [s'.o.block _ (lt_of_heap (h.r p hp).1) (h.r p hp).2.1 (h.r p hp).2.2]; exact (h.r p hp).1, (h.r p hp).2⟩⟩
theorem AW.sync {w W : World} {life m : Nat} {b : HB} {A : Ag} {qs : List (Nat × List UInt8)} (h : AW w life b A m qs W) (hm : m ≤ 900000) {t : List UInt8} {u : Nat} (hA : A.g = [some (t, u)]) :
    Calls Tryz.prog 14 #[.pointer (some ⟨b.hv, 0, none⟩)] W fun e' w' => e' = .returned (.int .i64 0) ∧ ∃ a, a ≤ m + 1 ∧ AX w b.sh b.sc (shOf life a [H.settle (V.sealB (V.blobL t))]) qs w' := by
  obtain ⟨a, sl, B⟩ := h.B
  refine (SyncV_x B.x (B.sm hm) rfl rfl (by show (0 : Nat) ≠ 1; decide)).mono ?_
  rintro e' w' ⟨rfl, y⟩
  have hsl : sl.map (fun s => H.settle s.text) = [H.settle (V.sealB (V.blobL t))] := by
    obtain ⟨_, _, z, hz, hzt⟩ := B.t 0 t u (by rw [hA]; rfl)
    have hl := B.s.n
    rw [hA] at hl
    cases sl with
    | nil => simp at hl
    | cons s r =>
      cases r with
      | nil => simp at hz; subst hz; simp [hzt]
      | cons _ _ => simp at hl
  have hst : H.sync (H.act (shOf life a sl)) = shOf life (a + 1) [H.settle (V.sealB (V.blobL t))] := by
    show shOf life (a + 1) (sl.map (fun s => H.settle s.text)) = _
    rw [hsl]
  rw [hst] at y
  have z := h.next (A' := A) (m' := m + 1) ⟨a, sl, B.wider (by omega)⟩ (OffB.refl _ _)
  refine ⟨rfl, a + 1, by have := B.am; omega, y.base.sw, y.o.below h.o h.a, h.a _ (.inl rfl), h.a _ (.inr (.inl rfl)), fun p hp => ?_⟩
  have hr := h.r p hp
  exact ⟨by rw [y.o.block _ (lt_of_heap hr.1) hr.2]; exact hr.1, fun e => hr.2 (.inl e), fun e => hr.2 (.inr (.inl e))⟩
theorem ld_one (f a : Nat) (t : List UInt8) (ht : t.length ≤ 512) : ldN (ld0 f 1 a [H.settle (V.sealB (V.blobL t))]) 1 = ⟨hvA f ⟨[some (t, 1)], 1, []⟩, a, [H.settle (V.sealB (V.blobL t))], false⟩ := by
  have hne : V.sealB (V.blobL t) ≠ [] := fun e => by
    have := congrArg List.length e
    rw [V.sealB, List.length_append, S.sha_length] at this
    simp at this
  show ldStep 0 (ld0 f 1 a [H.settle (V.sealB (V.blobL t))]) = _
  unfold ldStep
  show (if V.sealB (V.blobL t) = [] then _ else match adoptN (List.replicate 1 V.en0) (V.sealB (V.blobL t)) with | none => _ | some e => _) = _
  rw [if_neg hne]
  have : adoptN (List.replicate 1 V.en0) (V.sealB (V.blobL t)) = some (enOf (ctB t)) := by
    unfold adoptN
    rw [V.decode_blob t ht]
    simp only
    rw [find0]
    rfl
  rw [this]
  rfl
/-- Open of a shelf of one slot that has a blob -/
theorem AX.openOne {w W : World} {sh sc f a : Nat} {qs : List (Nat × List UInt8)} {t : List UInt8} (h : AX w sh sc (shOf f a [H.settle (V.sealB (V.blobL t))]) qs W) (ht : t.length ≤ 512) (hg : GW w) (ha : a ≤ 900000) (hf : f ≤ 1000) :
    Calls Tryz.prog 9 #[.pointer (some ⟨sh, 0, none⟩)] W fun e' w' => ∃ k, e' = .returned (.tuple #[.pointer (some ⟨k + 2, 0, none⟩), .int .i64 0]) ∧ AW w f (newB sh sc k) ⟨[some (t, 1)], 1, []⟩ (a + 1) qs w' := by
  have hz := hg.z
  have h1 := h.h1
  have h2 := h.h2
  have hs := seal_len t ht
  have hS : Ss 1 [H.settle (V.sealB (V.blobL t))] := ⟨rfl, fun s hs' => by simp at hs'; subst hs'; exact ⟨hs, hs⟩⟩
  refine (Open_x (f := f) (a := a) (n := 1) h.s (hg.below h.o hz) (by omega) (by omega) hS (by omega) ha (by omega)).mono ?_
  rintro e' w' ⟨k, hk, rfl, y⟩
  rw [ld_one f a t ht] at y
  have hW := h.o.size
  have hm : ∀ j, (newB sh sc k).mem j → w.heap.size ≤ j := fun j hj => by
    rcases hj with e | e | e | e | e | hj
    · have : j = sh := e; omega
    · have : j = sc := e; omega
    · have : j = k + 2 := e; omega
    · have : j = k := e; omega
    · have : j = k + 1 := e; omega
    · cases hj
  have hr : ∀ p ∈ qs, ¬ (newB sh sc k).mem p.1 := fun p hp hj => by
    have hr := h.r p hp
    have hl := lt_of_heap hr.1
    rcases hj with e | e | e | e | e | hj
    · exact hr.2.1 e
    · exact hr.2.2 e
    · have : p.1 = k + 2 := e; omega
    · have : p.1 = k := e; omega
    · have : p.1 = k + 1 := e; omega
    · cases hj
  refine ⟨k, rfl, ⟨a, [H.settle (V.sealB (V.blobL t))], HX.base y, by omega, by show 1 ≤ a + 1; omega, hS, by show 1 ≤ 128; omega, hf, fun i t' u' hi => ?_⟩, y.o.below h.o hm, hm, fun p hp => ⟨by rw [y.o.block _ (lt_of_heap (h.r p hp).1) (hr p hp)]; exact (h.r p hp).1, hr p hp⟩⟩
  cases i with
  | zero =>
    simp at hi
    obtain ⟨rfl, rfl⟩ := hi
    exact ⟨ht, Nat.le_refl _, _, rfl, rfl⟩
  | succ i => simp at hi
theorem AW.keys {w W : World} {life m : Nat} {b : HB} {A : Ag} {qs : List (Nat × List UInt8)} (h : AW w life b A m qs W) : Calls Tryz.prog 20 #[.pointer (some ⟨b.hv, 0, none⟩)] W fun e' w' => e' = .returned (.slice none 0 0) ∧ AW w life b A m qs w' := by
  obtain ⟨a, sl, B⟩ := h.B
  refine (Keys_none B.x (B.en trivial) (fun i e he => ?_)).mono ?_
  · have he' : A.es[i]? = some e := he
    unfold Ag.es at he'
    rw [List.getElem?_map] at he'
    cases hg : A.g[i]? with
    | none => rw [hg] at he'; simp at he'
    | some x =>
      rw [hg] at he'
      simp only [Option.map_some, Option.some.injEq] at he'
      subst he'
      cases x with
      | none => decide
      | some p => show V.kb ≠ V.kr; decide
  · rintro e' w' ⟨rfl, y⟩
    exact ⟨rfl, h.next ⟨a, sl, B.of y⟩ y.o⟩
end Go.Proofs.YtlkllcnnnndllaaGreatDoor
