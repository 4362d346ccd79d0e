/- HivePins' state. -/
import Derived.Test.YtaceemaedpkigaaDoorN19
import Derived.Test.YtaceemaedpkigaaDoorN20
namespace Go.Proofs.YtaceemaedpkigaaDoor
open Go.RowKit Go.Maps
set_option linter.unusedVariables false
set_option linter.unusedSimpArgs false

theorem owns_block {N n k : Nat} {e : TypeId} {v : Value} {xs : List Value} {W W' : World} (h : W.ownsRow N e k v n xs) (hb : ∀ g, v.ownBlock = some g → W'.heap[g]? = W.heap[g]?) : W'.ownsRow N e k v n xs := by
  obtain ⟨h0, h1 | ⟨g, cap, cur, h1, h2, h3, h4⟩⟩ := h
  · exact ⟨h0, Or.inl h1⟩
  · exact ⟨h0, Or.inr ⟨g, cap, cur, h1, h2, by rw [hb g (by rw [h1]; rfl)]; exact h3, h4⟩⟩
theorem HX.keep {w W W' : World} {b : HB} {h : Hv} {em : List V.En} {st : H.Sh} (x : HX w b h em st W) (hg : GW W') (hk : ∀ k, b.mem k → W'.heap[k]? = W.heap[k]?) : HX W' b h em st W' :=
  ⟨by rw [hk _ (.inl rfl)]; exact x.hb, by rw [hk _ (.inr (.inl rfl))]; exact x.hc, by rw [hk _ (.inr (.inr (.inl rfl)))]; exact x.hh, by rw [hk _ (.inr (.inr (.inr (.inl rfl))))]; exact x.hl, x.mp.block (hk _ (.inr (.inr (.inr (.inr (.inl rfl)))))), x.pn.block (fun p hp => hk _ (.inr (.inr (.inr (.inr (.inr hp)))))), x.ok, OffB.refl _ _, hg, x.u, x.e, x.n⟩
theorem BH.keep {life m : Nat} {b : HB} {A : Ag} {W W' : World} (B : BH life b A m W) (hg : GW W') (hk : ∀ k, b.mem k → W'.heap[k]? = W.heap[k]?) : BH life b A m W' := by
  obtain ⟨a, sl, B⟩ := B
  exact ⟨a, sl, HX.keep B.x hg hk, B.am, B.um, B.s, B.n, B.l, B.t⟩
theorem BH.uq {life m : Nat} {b : HB} {A : Ag} {W : World} (B : BH life b A m W) : V.Uq A.es := by
  obtain ⟨a, sl, B⟩ := B
  exact B.x.u
/-- the law's state: the store, the list of what was kept beside it -/
structure PX (w : World) (K m : Nat) (b : HB) (A : Ag) (kept : List (List UInt8)) (v : Value) (W : World) : Prop where
  k : b.hv = K
  x : AW w 0 b A m [] W
  o : W.ownsRow w.heap.size 9 1 v kept.length (kept.map encS)
  d : ∀ g, v.ownBlock = some g → ¬ b.mem g
  g : GW w
section
variable {w W : World} {K m : Nat} {b : HB} {A : Ag} {kept : List (List UInt8)} {v : Value}
theorem PX.next (h : PX w K m b A kept v W) {A' : Ag} {m' : Nat} {w' : World} (B' : BH 0 b A' m' w') (o' : OffB b W w') : PX w K m' b A' kept v w' :=
  ⟨h.k, h.x.next B' o', owns_block h.o (fun g hg => o'.block g (owns_ge h.o hg).2 (h.d g hg)), h.d, h.g⟩
theorem PX.step (h : PX w K m b A kept v W) {W' : World} (hb : Below W.heap.size W W') : PX w K m b A kept v W' := h.next (h.x.B.step hb) (OffB.of_below hb)
theorem PX.alloc (h : PX w K m b A kept v W) (o : Obj) : PX w K m b A kept v (W.alloc o) := h.step ((Below.refl _ W).alloc (Nat.le_refl _) _)
theorem PX.wider (h : PX w K m b A kept v W) {m' : Nat} (hm : m ≤ m') : PX w K m' b A kept v W := ⟨h.k, h.x.wider hm, h.o, h.d, h.g⟩
theorem PX.ts (h : PX w K m b A kept v W) : ∃ a c, v = .slice a kept.length c ∧ TS W a kept := owns_ts h.o
theorem PX.gb (h : PX w K m b A kept v W) : GB w W := ⟨h.x.B.gw, h.x.o⟩
/-- the list grows -/
theorem PX.app (h : PX w K m b A kept v W) {v' : Value} {w' : World} {ks : List (List UInt8)} (hown : w'.ownsRow w.heap.size 9 1 v' ks.length (ks.map encS)) (hg : W.grownBy w' v.ownBlock) (hv : v'.ownBlock = v.ownBlock ∨ v'.ownBlock = some W.heap.size) : PX w K m b A ks v' w' := by
  have hW := h.x.o.size
  have hb : Below w.heap.size w w' := h.x.o.grown hg hW (fun k hk => (owns_ge h.o hk).1)
  have hkeep : ∀ k, b.mem k → w'.heap[k]? = W.heap[k]? := fun k hk => hg.block k (h.x.B.lt hk) (fun e => h.d k e.symm hk)
  exact ⟨h.k, ⟨h.x.B.keep (h.g.below hb h.g.z) hkeep, hb, h.x.a, fun p hp => by cases hp⟩, hown, (fun g hg' hm => by
    rcases hv with e | e
    · exact h.d g (by rw [← e]; exact hg') hm
    · rw [e] at hg'
      cases hg'
      have := h.x.B.lt hm
      omega), h.g⟩
/-- Pin of one digest, beside a list -/
theorem PX.pin (h : PX w K m b A kept v W) {d : List UInt8} (hd : d.length = 32) (hl : A.pins.length < 1000000) :
    Calls Tryd.prog 18 #[.pointer (some ⟨K, 0, none⟩), .slice (some ⟨W.heap.size, 0, none⟩) 1 1] (W.alloc (.cells (dg d) 23)) fun e' w' => e' = .returned (.tuple #[]) ∧ ∃ b', PX w K m b' (A.pin d) kept v w' := by
  have y := h.alloc (.cells (dg d) 23)
  have hq : ¬ b.mem W.heap.size := fun hm => by have := h.x.B.lt hm; omega
  have hk := h.k
  subst hk
  obtain ⟨a, sl, B⟩ := y.x.B
  cases hp : b.pn with
  | some p =>
    refine (Pin_some B.x hp d hd hl (heap_alloc_new _ _) hq).mono ?_
    rintro e' w' ⟨rfl, z⟩
    rw [pin_hvA] at z
    exact ⟨rfl, b, y.next ⟨a, sl, B.pinned z⟩ z.o⟩
  | none =>
    have hpins : A.pins = [] := by have := B.x.pn; rw [hp] at this; exact this
    refine (Pin_none B.x hp d hd (heap_alloc_new _ _) hq).mono ?_
    rintro e' w' ⟨rfl, z⟩
    have e : pinV (hvA 0 A) [d] = hvA 0 (A.pin d) := by unfold pinV hvA Ag.pin Ag.es; simp [hpins]
    rw [e] at z
    have hnm : ∀ g, v.ownBlock = some g → ¬ (b.pin (W.alloc (.cells (dg d) 23)).heap.size).mem g := fun g hg hm => by
      rcases mem_pin hm with e | hm
      · have := (owns_ge y.o hg).2; omega
      · exact h.d g hg hm
    exact ⟨rfl, b.pin _, rfl, y.x.pinNew (Nat.le_refl _) ⟨a, sl, B.pinned z⟩ z.o, owns_block y.o (fun g hg => z.o.block g (owns_ge y.o hg).2 (hnm g hg)), hnm, h.g⟩
theorem PX.putIs (h : PX w K m b A kept v W) (hm : m ≤ 900000) (s : List UInt8) (hs : s.length ≤ 512) {i : Nat} (hf : A.fnd (S.sha s) = some i) {t : List UInt8} {u : Nat} (hg : A.g[i]? = some (some (t, u))) :
    Calls Tryd.prog 16 #[.pointer (some ⟨K, 0, none⟩), .string (M.bs s)] W fun e' w' => e' = .returned (.tuple #[.agg (dg (S.sha s)), .int .i64 0]) ∧ PX w K (m + 3) b (A.put i t) kept v w' := by
  have hk := h.k; subst hk
  refine (PutBlob_is h.x.B hm s hs hf hg).mono ?_
  rintro e' w' ⟨rfl, B, o⟩
  exact ⟨rfl, h.next B o⟩
theorem PX.putNew (h : PX w K m b A kept v W) (hm : m ≤ 900000) (s : List UInt8) (hs : s.length ≤ 512) (hf : A.fnd (S.sha s) = none) {i : Nat} (hr : A.room = some i) :
    Calls Tryd.prog 16 #[.pointer (some ⟨K, 0, none⟩), .string (M.bs s)] W fun e' w' => e' = .returned (.tuple #[.agg (dg (S.sha s)), .int .i64 0]) ∧ PX w K (m + 3) b (A.put i s) kept v w' := by
  have hk := h.k; subst hk
  refine (PutBlob_new h.x.B hm s hs hf hr).mono ?_
  rintro e' w' ⟨rfl, B, o⟩
  exact ⟨rfl, h.next B o⟩
theorem PX.putFull (h : PX w K m b A kept v W) (hm : m ≤ 900000) (s : List UInt8) (hs : s.length ≤ 512) (hf : A.fnd (S.sha s) = none) (hr : A.room = none) :
    Calls Tryd.prog 16 #[.pointer (some ⟨K, 0, none⟩), .string (M.bs s)] W fun e' w' => e' = .returned (.tuple #[.agg (dg V.zd), .int .i64 11]) ∧ PX w K (m + 3) b A kept v w' := by
  have hk := h.k; subst hk
  refine (PutBlob_full h.x.B hm s hs hf hr).mono ?_
  rintro e' w' ⟨rfl, B, o⟩
  exact ⟨rfl, h.next B o⟩
theorem PX.blob (h : PX w K m b A kept v W) (hm : m ≤ 900000) {i : Nat} {t : List UInt8} {u : Nat} (hg : A.g[i]? = some (some (t, u))) :
    Calls Tryd.prog 20 #[.pointer (some ⟨K, 0, none⟩), .agg (dg (S.sha t))] W fun e' w' => e' = .returned (.tuple #[.string (M.bs t), .bool true]) ∧ PX w K (m + 3) b (A.put i t) kept v w' := by
  have hk := h.k; subst hk
  refine (Blob_yes h.x.B hm (Ag.fnd_of h.x.B.uq hg) hg).mono ?_
  rintro e' w' ⟨rfl, B, o⟩
  exact ⟨rfl, h.next B o⟩
theorem PX.lenC (h : PX w K m b A kept v W) : Calls Tryd.prog 19 #[.pointer (some ⟨K, 0, none⟩)] W fun e' w' => e' = .returned (.int .i64 ((V.cntN A.es : Nat) : Int)) ∧ w' = W := by
  have hk := h.k; subst hk
  exact Len_g h.x.B
theorem PX.has (h : PX w K m b A kept v W) (s : List UInt8) (hn : kept.length ≤ 100) : Calls Tryd.prog 17 #[v, .string (M.bs s)] W fun e' w' => e' = .returned (.bool (decide (s ∈ kept))) ∧ w' = W := by
  obtain ⟨a, c, rfl, ht⟩ := h.ts
  exact has_at a c kept s W ht (by omega)
theorem PX.of (h : PX w K m b A kept v W) (t : List UInt8) (T : TypeId) (ht : t.length ≤ 512) : Calls Tryd.prog 21 #[.slice (some ⟨W.heap.size, 0, none⟩) 1 1] (W.alloc (.cells #[.string (M.bs t)] T)) fun e' w' => e' = .returned (.agg (dg (S.sha t))) ∧ PX w K m b A kept v w' := by
  refine (Of_g t T (GB.refl h.x.B.gw) (by omega)).mono ?_
  rintro e' w' ⟨rfl, hg⟩
  exact ⟨rfl, h.step hg.b⟩
end
theorem um_wrap10 (n : Int) : Int.tmod (IntKind.u64.wrap n) 10 = (um n 10 : Int) := um_wrap n 10
end Go.Proofs.YtaceemaedpkigaaDoor
