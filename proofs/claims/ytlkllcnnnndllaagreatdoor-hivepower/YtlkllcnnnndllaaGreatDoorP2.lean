/- A store whatever its slots have: what its calls answer and leave. -/
import Derived.Test.YtlkllcnnnndllaaGreatDoorP1
import Derived.Test.YtlkllcnnnndllaaGreatDoorN17
namespace Go.Proofs.YtlkllcnnnndllaaGreatDoor
open Go.RowKit Go.Maps
set_option linter.unusedVariables false
set_option linter.unusedSimpArgs false

/-- a store of n slots whatever they have, above w; so many acts, lives and uses at most -/
structure GX (w : World) (n m : Nat) (b : HB) (life a : Nat) (h : Hv) (sl : List H.Sl) (W : World) : Prop where
  x : HW W b h (shOf life a sl) W
  s : Ss n sl
  n : n ≤ 128
  li : life = h.life
  lm : life ≤ m
  am : a ≤ m
  um : h.uses ≤ m
  us : ∀ (i : Nat) (e : V.En), h.es[i]? = some e → e.used ≤ h.uses
  o : Below w.heap.size w W
  k : ∀ j, b.mem j → w.heap.size ≤ j
section
variable {w W : World} {n m : Nat} {b : HB} {life a : Nat} {h : Hv} {sl : List H.Sl}
theorem GX.next (g : GX w n m b life a h sl W) {m' a' : Nat} {h' : Hv} {sl' : List H.Sl} {W' : World} (x : HW W b h' (shOf life a' sl') W') (s : Ss n sl') (hl : h'.life = h.life) (hm : m ≤ m') (ha : a' ≤ m') (hu : h'.uses ≤ m') (us : ∀ (i : Nat) (e : V.En), h'.es[i]? = some e → e.used ≤ h'.uses) : GX w n m' b life a' h' sl' W' :=
  ⟨x.base, s, g.n, by rw [hl]; exact g.li, Nat.le_trans g.lm hm, ha, hu, us, x.o.below g.o g.k, g.k⟩
theorem GX.same (g : GX w n m b life a h sl W) {W' : World} (x : HW W b h (shOf life a sl) W') : GX w n m b life a h sl W' := g.next x g.s rfl (Nat.le_refl _) g.am g.um g.us
theorem GX.step (g : GX w n m b life a h sl W) {W' : World} (hb : Below W.heap.size W W') : GX w n m b life a h sl W' := g.same (HX.step g.x hb)
theorem GX.alloc (g : GX w n m b life a h sl W) (o : Obj) : GX w n m b life a h sl (W.alloc o) := g.step ((Below.refl _ W).alloc (Nat.le_refl _) _)
theorem GX.drew (g : GX w n m b life a h sl W) : GX w n m b life a h sl W.drew := g.step (Below.refl _ _).drew
theorem GX.wider (g : GX w n m b life a h sl W) {m' : Nat} (hm : m ≤ m') : GX w n m' b life a h sl W := ⟨g.x, g.s, g.n, g.li, Nat.le_trans g.lm hm, Nat.le_trans g.am hm, Nat.le_trans g.um hm, g.us, g.o, g.k⟩
theorem GX.el (g : GX w n m b life a h sl W) : h.es.length = n := by have h1 : h.es.length = sl.length := g.x.n; rw [h1]; exact g.s.n
theorem GX.en (g : GX w n m b life a h sl W) : h.es.length ≤ 128 := by rw [g.el]; exact g.n
theorem GX.sm (g : GX w n m b life a h sl W) (hm : m ≤ 900000) : Sm (shOf life a sl) := g.s.sm g.n false 0 a life (by have := g.am; omega) (by have := g.lm; omega) (by omega)
theorem GX.slot (g : GX w n m b life a h sl W) {i : Nat} {e : V.En} (he : h.es[i]? = some e) : ∃ s, sl[i]? = some s ∧ s.text.length ≤ 640 := by
  have hi : i < h.es.length := (List.getElem?_eq_some_iff.1 he).1
  have h1 : h.es.length = sl.length := g.x.n
  have hs : sl[i]? = some (sl[i]'(by omega)) := List.getElem?_eq_getElem _
  exact ⟨_, hs, (g.s.t _ (List.mem_of_getElem? hs)).1⟩
theorem use_us {h : Hv} {i : Nat} {e : V.En} (us : ∀ (i : Nat) (e : V.En), h.es[i]? = some e → e.used ≤ h.uses) (he : h.es[i]? = some e) : ∀ (j : Nat) (f : V.En), (useV h i e).es[j]? = some f → f.used ≤ (useV h i e).uses := fun j f hf => by
  have hi : i < h.es.length := (List.getElem?_eq_some_iff.1 he).1
  show f.used ≤ h.uses + 1
  rcases V.set_at _ hi j f hf with ⟨rfl, rfl⟩ | ⟨_, hf'⟩
  · exact Nat.le_refl _
  · have := us j f hf'; omega
theorem fill_us {h : Hv} {i : Nat} (e : V.En) (us : ∀ (i : Nat) (e : V.En), h.es[i]? = some e → e.used ≤ h.uses) : ∀ (j : Nat) (f : V.En), (fillV h i e).es[j]? = some f → f.used ≤ (fillV h i e).uses := fun j f hf => by
  show f.used ≤ h.uses + 1
  have hm := List.mem_or_eq_of_mem_set (List.mem_of_getElem? hf)
  rcases hm with hm | rfl
  · obtain ⟨q, hq⟩ := List.mem_iff_getElem?.1 hm
    have := us q f hq; omega
  · exact Nat.le_refl _
theorem drop_us {h : Hv} (i : Nat) (us : ∀ (i : Nat) (e : V.En), h.es[i]? = some e → e.used ≤ h.uses) : ∀ (j : Nat) (f : V.En), (dropV h i).es[j]? = some f → f.used ≤ (dropV h i).uses := fun j f hf => by
  show f.used ≤ h.uses
  have hm := List.mem_or_eq_of_mem_set (List.mem_of_getElem? hf)
  rcases hm with hm | rfl
  · obtain ⟨q, hq⟩ := List.mem_iff_getElem?.1 hm
    exact us q f hq
  · exact Nat.zero_le _

/-- WHAT LOOK FINDS: the entry, whose slot still has its text; or nothing, and then none of the name is there -/
theorem GX.find (g : GX w n m b life a h sl W) (k d : List UInt8) (hk : k.length ≤ 1) (hd : d.length = 32) :
    (∃ (i : Nat) (e : V.En) (s : H.Sl) (c : V.Ct), V.findN h.es k d = some i ∧ h.es[i]? = some e ∧ e.kind = k ∧ e.dig = d ∧ sl[i]? = some s ∧ V.decode s.text = some c ∧ (c.kind = e.kind ∧ c.dig = e.dig ∧ c.ck = e.ck) ∧
      ∀ w' W', HW w' b h (shOf life a sl) W' → Calls Tryz.prog 34 #[.pointer (some ⟨b.hv, 0, none⟩), .agg (nmv k d)] W' fun e' w'' => e' = .returned (.tuple #[.int .i64 (i : Int), .agg (cv c), .bool true]) ∧ HW w' b h (shOf life a sl) w'') ∨
    (∃ h' : Hv, (h' = h ∨ ∃ i, h' = dropV h i) ∧ V.findN h'.es k d = none ∧
      ∀ w' W', HW w' b h (shOf life a sl) W' → Calls Tryz.prog 34 #[.pointer (some ⟨b.hv, 0, none⟩), .agg (nmv k d)] W' fun e' w'' => e' = .returned (.tuple #[.int .i64 0, .agg (cv zc), .bool false]) ∧ HW w' b h' (shOf life a sl) w'') := by
  cases hf : V.findN h.es k d with
  | none => exact .inr ⟨h, .inl rfl, hf, fun w' W' y => look_none y k d hk hd hf⟩
  | some i =>
    obtain ⟨e, he, h1, h2, h3⟩ := V.findN_some hf
    obtain ⟨s, hs, hsl⟩ := g.slot he
    have hgone : V.findN (dropV h i).es k d = none := by
      have := V.findN_set_gone g.x.u i e V.en0 he rfl h1
      rw [h2, h3] at this
      exact this
    cases hdc : V.decode s.text with
    | none => exact .inr ⟨dropV h i, .inr ⟨i, rfl⟩, hgone, fun w' W' y => look_bad y k d hk hd hf he g.en rfl hs hsl hdc⟩
    | some c =>
      by_cases heq : c.kind = e.kind ∧ c.dig = e.dig ∧ c.ck = e.ck
      · exact .inl ⟨i, e, s, c, rfl, he, h2, h3, hs, hdc, heq, fun w' W' y => look_yes y k d hk hd hf he g.en rfl hs hsl hdc heq⟩
      · exact .inr ⟨dropV h i, .inr ⟨i, rfl⟩, hgone, fun w' W' y => look_mis y k d hk hd hf he g.en rfl hs hsl hdc heq⟩
theorem GX.us' (g : GX w n m b life a h sl W) {h' : Hv} (e : h' = h ∨ ∃ i, h' = dropV h i) : h'.uses = h.uses ∧ h'.life = h.life ∧ h'.pins = h.pins ∧ h'.es.length = h.es.length ∧ ∀ (i : Nat) (f : V.En), h'.es[i]? = some f → f.used ≤ h'.uses := by
  rcases e with rfl | ⟨i, rfl⟩
  · exact ⟨rfl, rfl, rfl, rfl, g.us⟩
  · exact ⟨rfl, rfl, rfl, by simp [dropV], drop_us i g.us⟩
/-- what ask answers -/
theorem GX.ask (g : GX w n m b life a h sl W) (hm : m ≤ 900000) (k d : List UInt8) (hk : k.length ≤ 1) (hd : d.length = 32) :
    (∃ (i : Nat) (e : V.En) (s : H.Sl) (c : V.Ct), V.findN h.es k d = some i ∧ h.es[i]? = some e ∧ e.kind = k ∧ e.dig = d ∧ sl[i]? = some s ∧ V.decode s.text = some c ∧ (c.kind = e.kind ∧ c.dig = e.dig ∧ c.ck = e.ck) ∧
      ∀ w' W', HW w' b h (shOf life a sl) W' → Calls Tryz.prog 30 #[.pointer (some ⟨b.hv, 0, none⟩), .agg (nmv k d)] W' fun e' w'' => e' = .returned (.tuple #[.agg (cv c), .bool true]) ∧ HW w' b (useV h i e) (shOf life a sl) w'') ∨
    (∃ h' : Hv, (h' = h ∨ ∃ i, h' = dropV h i) ∧ V.findN h'.es k d = none ∧
      ∀ w' W', HW w' b h (shOf life a sl) W' → Calls Tryz.prog 30 #[.pointer (some ⟨b.hv, 0, none⟩), .agg (nmv k d)] W' fun e' w'' => e' = .returned (.tuple #[.agg (cv zc), .bool false]) ∧ HW w' b h' (shOf life a sl) w'') := by
  rcases g.find k d hk hd with ⟨i, e, s, c, h1, h2, h3, h4, h5, h6, h7, C⟩ | ⟨h', h1, h2, C⟩
  · exact .inl ⟨i, e, s, c, h1, h2, h3, h4, h5, h6, h7, fun w' W' y => ask_yes y k d hd h2 g.en (by have := g.um; omega) (dec_len h6) (fun W2 y2 => C W2 W2 y2)⟩
  · exact .inr ⟨h', h1, h2, fun w' W' y => ask_no y k d hd (fun W2 y2 => C W2 W2 y2)⟩
theorem GX.useS (g : GX w n m b life a h sl W) {i : Nat} {e : V.En} (he : h.es[i]? = some e) {W' : World} (x : HW W b (useV h i e) (shOf life a sl) W') : GX w n (m + 5) b life a (useV h i e) sl W' :=
  g.next x g.s rfl (by omega) (by have := g.am; omega) (by have := g.um; show h.uses + 1 ≤ _; omega) (use_us g.us he)
theorem GX.dropS (g : GX w n m b life a h sl W) {h' : Hv} (e : h' = h ∨ ∃ i, h' = dropV h i) {W' : World} (x : HW W b h' (shOf life a sl) W') : GX w n (m + 5) b life a h' sl W' := by
  obtain ⟨e1, e2, _, _, e3⟩ := g.us' e
  exact g.next x g.s e2 (by omega) (by have := g.am; omega) (by rw [e1]; have := g.um; omega) e3
/-- WHERE THERE IS ROOM for an entry: what put answers (the entry of a name that isn't there) -/
theorem GX.put (g : GX w n m b life a h sl W) (hm : m ≤ 900000) {h1 : Hv} (hh : h1 = h ∨ ∃ i, h1 = dropV h i) {e : V.En} (e32 : En32 e) (hek : e.kind ≠ []) (hf : V.findN h1.es e.kind e.dig = none) (t : List UInt8) (ht : t.length ≤ 640) :
    ∃ (er : Int) (h2 : Hv) (a2 : Nat) (sl2 : List H.Sl), (er = 0 ∨ er = 11) ∧ h2.life = h.life ∧ a2 ≤ m + 5 ∧ h2.uses ≤ m + 5 ∧ Ss n sl2 ∧ (∀ (i : Nat) (f : V.En), h2.es[i]? = some f → f.used ≤ h2.uses) ∧
      ∀ w' W', HW w' b h1 (shOf life a sl) W' → Calls Tryz.prog 31 #[.pointer (some ⟨b.hv, 0, none⟩), .agg (ev e.kind e.dig e.ck), .string (M.bs t)] W' fun e' w'' => e' = .returned (.int .i64 er) ∧ HW w' b h2 (shOf life a2 sl2) w'' := by
  obtain ⟨q1, q2, q3, q4, q5⟩ := g.us' hh
  have hel : h1.es.length = n := q4.trans g.el
  have hen : h1.es.length ≤ 128 := by rw [hel]; exact g.n
  have hnl : sl.length = n := g.s.n
  have ham := g.am
  have hum := g.um
  have hlm := g.lm
  have hu0 : h1.uses ≤ 1000000 := by rw [q1]; omega
  have hus : ∀ (i : Nat) (f : V.En), h1.es[i]? = some f → f.used ≤ 2000000 := fun i f hf => by have := q5 i f hf; omega
  have hpu : ∀ i, (∀ (j : Nat) (f : V.En), (putV h1 i e).es[j]? = some f → f.used ≤ (putV h1 i e).uses) := fun i => fill_us e (drop_us i q5)
  by_cases hfr : 0 ≤ freeI h1.es
  · obtain ⟨i, hi0⟩ : ∃ i : Nat, freeI h1.es = (i : Int) := ⟨(freeI h1.es).toNat, by omega⟩
    have hi : i < n := by
      rw [← hel]
      unfold freeI at hi0
      split at hi0
      · rename_i j hj
        have := (List.findIdx?_eq_some_iff_getElem.1 hj).1
        omega
      · omega
    obtain ⟨z, hz⟩ : ∃ z, sl[i]? = some z := ⟨sl[i]'(by omega), List.getElem?_eq_getElem _⟩
    refine ⟨0, putV h1 i e, a + 1, wrt sl i t, .inl rfl, q2, by omega, by show h1.uses + 1 ≤ _; omega, g.s.put i t ht, hpu i, fun w' W' y => ?_⟩
    exact put_ok y e32 hek hf hen hu0 t ht i (fun W2 y2 => room_free y2 hen i hi0) (by omega) hz (g.sm hm) rfl (by show (0 : Nat) ≠ 1; decide)
  · have h3 : freeI h1.es = -1 := by
      unfold freeI at hfr ⊢
      split at hfr <;> first | omega | rfl
    cases h2 : (oldS h1.pins h1.es h1.es.length).2 with
    | false =>
      refine ⟨11, h1, a, sl, .inr rfl, q2, by omega, by omega, g.s, q5, fun w' W' y => ?_⟩
      exact put_err y e.kind e.dig e.ck t 11 (by decide) (fun W2 y2 => room_full y2 hen h3 hus (oldS h1.pins h1.es h1.es.length).1 (by rw [← h2]))
    | true =>
      obtain ⟨i, ho⟩ : ∃ i, oldS h1.pins h1.es h1.es.length = (i, true) := ⟨_, by rw [← h2]⟩
      have hi : i < n := by
        have := (oldS_lt h1.pins h1.es h1.es.length h2).2
        rw [ho] at this
        rw [← hel]; exact this
      have S1 : Ss n (wrt sl i []) := g.s.put i [] (by simp)
      have S2 : Ss n ((wrt sl i []).map (fun s : H.Sl => H.settle s.text)) := S1.sync
      obtain ⟨z, hz⟩ : ∃ z, ((wrt sl i []).map (fun s : H.Sl => H.settle s.text))[i]? = some z := ⟨((wrt sl i []).map (fun s : H.Sl => H.settle s.text))[i]'(by rw [S2.n]; exact hi), List.getElem?_eq_getElem _⟩
      refine ⟨0, putV h1 i e, a + 3, wrt ((wrt sl i []).map (fun s : H.Sl => H.settle s.text)) i t, .inl rfl, q2, by omega, by show h1.uses + 1 ≤ _; omega, S2.put i t ht, hpu i, fun w' W' y => ?_⟩
      exact put_ok (st1 := shOf life (a + 2) ((wrt sl i []).map (fun s : H.Sl => H.settle s.text))) y e32 hek hf hen hu0 t ht i
        (fun W2 y2 => room_evict y2 hen h3 hus i ho rfl rfl (g.sm hm) (S1.sm g.n false 0 (a + 1) life (by omega) (by omega) (by omega))) (by omega) hz (S2.sm g.n false 0 (a + 2) life (by omega) (by omega) (by omega)) rfl (by show (0 : Nat) ≠ 1; decide)
end
/-- a store whatever it has -/
def GS (w : World) (n m : Nat) (b : HB) (W : World) : Prop := ∃ life a h sl, GX w n m b life a h sl W
section
variable {w W : World} {n m : Nat} {b : HB}
theorem GS.step (g : GS w n m b W) {W' : World} (hb : Below W.heap.size W W') : GS w n m b W' := by obtain ⟨l, a, h, sl, g⟩ := g; exact ⟨l, a, h, sl, g.step hb⟩
theorem GS.alloc (g : GS w n m b W) (o : Obj) : GS w n m b (W.alloc o) := by obtain ⟨l, a, h, sl, g⟩ := g; exact ⟨l, a, h, sl, g.alloc o⟩
theorem GS.drew (g : GS w n m b W) : GS w n m b W.drew := by obtain ⟨l, a, h, sl, g⟩ := g; exact ⟨l, a, h, sl, g.drew⟩
theorem GS.wider (g : GS w n m b W) {m' : Nat} (hm : m ≤ m') : GS w n m' b W := by obtain ⟨l, a, h, sl, g⟩ := g; exact ⟨l, a, h, sl, g.wider hm⟩
theorem GS.gw (g : GS w n m b W) : GW W := by obtain ⟨l, a, h, sl, g⟩ := g; exact g.x.g
theorem GS.o (g : GS w n m b W) : Below w.heap.size w W := by obtain ⟨l, a, h, sl, g⟩ := g; exact g.o
theorem GS.lt (g : GS w n m b W) {k : Nat} (hk : b.mem k) : k < W.heap.size := by obtain ⟨l, a, h, sl, g⟩ := g; exact HX.lt g.x hk
/-- PutBlob of any text -/
theorem GS.putBlob (g : GS w n m b W) (hm : m ≤ 900000) (t : List UInt8) (ht : t.length ≤ 9223372036854775807) :
    Calls Tryz.prog 11 #[.pointer (some ⟨b.hv, 0, none⟩), .string (M.bs t)] W fun e' w' => (∃ (d : List UInt8) (er : Int), d.length = 32 ∧ e' = .returned (.tuple #[.agg (dg d), .int .i64 er])) ∧ GS w n (m + 5) b w' ∧ OffB b W w' := by
  obtain ⟨life, a, h, sl, g⟩ := g
  have hli : (shOf life a sl).life = h.life := g.li
  by_cases h5 : t.length ≤ 512
  · rcases g.ask hm V.kb (S.sha t) (by decide) (S.sha_length _) with ⟨i, e, s, c, h1, h2, h3, h4, h5', h6, h7, C⟩ | ⟨h', h1, h2, C⟩
    · have hcl := dec_len h6
      refine (PutBlob_there g.x rfl hli t h5 c (cv_size hcl.1 hcl.2.1 hcl.2.2) (fun W' y => C W' W' y)).mono ?_
      rintro e' w' ⟨rfl, y⟩
      exact ⟨⟨_, _, S.sha_length _, rfl⟩, ⟨life, a, _, sl, g.useS h2 y⟩, y.o⟩
    · have e32 : En32 (enN t) := ⟨S.sha_length _, S.sha_length _, by show V.kb.length ≤ 1; decide⟩
      obtain ⟨er, h3, a3, sl3, k1, k2, k3, k4, k5, k6, CP⟩ := g.put hm h1 e32 (by show V.kb ≠ []; decide) h2 (V.sealB (V.blobL t)) (seal_len t h5)
      by_cases her : er = 0
      · subst her
        refine (PutBlob_ok g.x rfl hli t h5 (fun W' y => C W' W' y) (fun W' y => CP W' W' y)).mono ?_
        rintro e' w' ⟨rfl, y⟩
        exact ⟨⟨_, _, S.sha_length _, rfl⟩, ⟨life, a3, h3, sl3, g.next y k5 k2 (by omega) k3 k4 k6⟩, y.o⟩
      · refine (PutBlob_err g.x rfl hli t h5 er her (fun W' y => C W' W' y) (fun W' y => CP W' W' y)).mono ?_
        rintro e' w' ⟨rfl, y⟩
        exact ⟨⟨V.zd, _, zd_length, by rw [zd_dg]⟩, ⟨life, a3, h3, sl3, g.next y k5 k2 (by omega) k3 k4 k6⟩, y.o⟩
  · refine (PutBlob_wide g.x rfl hli t (by omega) ht).mono ?_
    rintro e' w' ⟨rfl, y⟩
    exact ⟨⟨V.zd, _, zd_length, by rw [zd_dg]⟩, ⟨life, a, h, sl, (g.same y).wider (by omega)⟩, y.o⟩
/-- Blob of any digest: what is answered has it -/
theorem GS.blob (g : GS w n m b W) (hm : m ≤ 900000) (d : List UInt8) (hd : d.length = 32) :
    Calls Tryz.prog 17 #[.pointer (some ⟨b.hv, 0, none⟩), .agg (dg d)] W fun e' w' => (∃ (t : List UInt8) (q : Bool), e' = .returned (.tuple #[.string (M.bs t), .bool q]) ∧ t.length ≤ 512 ∧ (q = true → S.sha t = d) ∧ (q = false → t = [])) ∧ GS w n (m + 5) b w' ∧ OffB b W w' := by
  obtain ⟨life, a, h, sl, g⟩ := g
  rcases g.ask hm V.kb d (by decide) hd with ⟨i, e, s, c, h1, h2, h3, h4, h5', h6, h7, C⟩ | ⟨h', h1, h2, C⟩
  · have hcl := dec_len h6
    refine (Blob_x g.x d hd c true (cv_size hcl.1 hcl.2.1 hcl.2.2) (cv_65 hcl.1 hcl.2.1) (fun W' y => C W W' y)).mono ?_
    rintro e' w' ⟨rfl, y⟩
    have hb : c.blob.length ≤ 512 ∧ S.sha c.blob = d := by
      rcases V.decode_some h6 with ⟨q1, q2, q3, _⟩ | ⟨q1, _⟩
      · exact ⟨q3, by rw [← q2, h7.2.1, h4]⟩
      · rw [h7.1, h3] at q1; exact absurd q1 (by decide)
    exact ⟨⟨c.blob, true, rfl, hb.1, fun _ => hb.2, fun h => by cases h⟩, ⟨life, a, _, sl, g.useS h2 y⟩, y.o⟩
  · refine (Blob_x g.x d hd zc false zc_size (cv_65 zd_length zd_length) (fun W' y => C W W' y)).mono ?_
    rintro e' w' ⟨rfl, y⟩
    exact ⟨⟨[], false, rfl, by simp, (fun h => by cases h), fun _ => rfl⟩, ⟨life, a, _, sl, g.dropS h1 y⟩, y.o⟩
/-- PutRecord of any record -/
theorem GS.putRec (g : GS w n m b W) (hm : m ≤ 900000) (r : V.Rc) (hr : Rc32 r) :
    Calls Tryz.prog 13 #[.pointer (some ⟨b.hv, 0, none⟩), .agg (rv r)] W fun e' w' => (∃ er : Int, e' = .returned (.int .i64 er)) ∧ GS w n (m + 5) b w' ∧ OffB b W w' := by
  obtain ⟨life, a, h, sl, g⟩ := g
  have hli : (shOf life a sl).life = h.life := g.li
  cases hc : V.canB r with
  | false =>
    refine (PutRec_arg g.x rfl hli r hr hc).mono ?_
    rintro e' w' ⟨rfl, y⟩
    exact ⟨⟨_, rfl⟩, ⟨life, a, h, sl, (g.same y).wider (by omega)⟩, y.o⟩
  | true =>
    rcases g.find V.kr r.key (by decide) hr.k with ⟨i, e, s, c, h1, h2, h3, h4, h5', h6, h7, C⟩ | ⟨h', h1, h2, C⟩
    · have hcl := dec_len h6
      by_cases heq : c.rc.key = r.key ∧ c.rc.code = r.code ∧ c.rc.out = r.out
      · refine (PutRec_is g.x rfl hli r hr hc c hcl heq h2 g.en (by have := g.um; omega) (fun W' y => C W' W' y)).mono ?_
        rintro e' w' ⟨rfl, y⟩
        exact ⟨⟨_, rfl⟩, ⟨life, a, _, sl, g.useS h2 y⟩, y.o⟩
      · refine (PutRec_twice g.x rfl hli r hr hc c hcl heq (fun W' y => C W' W' y)).mono ?_
        rintro e' w' ⟨rfl, y⟩
        exact ⟨⟨_, rfl⟩, ⟨life, a, h, sl, (g.same y).wider (by omega)⟩, y.o⟩
    · have e32 : En32 (enR r) := ⟨hr.k, S.sha_length _, by show V.kr.length ≤ 1; decide⟩
      obtain ⟨er, h3, a3, sl3, k1, k2, k3, k4, k5, k6, CP⟩ := g.put hm h1 e32 (by show V.kr ≠ []; decide) h2 (V.sealB (V.recL r)) (sealR_len r hr hc)
      refine (PutRec_put g.x rfl hli r hr hc er (fun W' y => C W' W' y) (fun W' y => CP W' W' y)).mono ?_
      rintro e' w' ⟨rfl, y⟩
      exact ⟨⟨_, rfl⟩, ⟨life, a3, h3, sl3, g.next y k5 k2 (by omega) k3 k4 k6⟩, y.o⟩
/-- Record of any key: what is answered has it -/
theorem GS.rec (g : GS w n m b W) (hm : m ≤ 900000) (d : List UInt8) (hd : d.length = 32) :
    Calls Tryz.prog 12 #[.pointer (some ⟨b.hv, 0, none⟩), .agg (dg d)] W fun e' w' => (∃ (r : V.Rc) (q : Bool), e' = .returned (.tuple #[.agg (rv r), .bool q]) ∧ Rc32 r ∧ (q = true → r.key = d) ∧ (q = false → r = V.zr)) ∧ GS w n (m + 5) b w' ∧ OffB b W w' := by
  obtain ⟨life, a, h, sl, g⟩ := g
  rcases g.ask hm V.kr d (by decide) hd with ⟨i, e, s, c, h1, h2, h3, h4, h5', h6, h7, C⟩ | ⟨h', h1, h2, C⟩
  · have hcl := dec_len h6
    refine (Record_x g.x d hd c true hcl (fun W' y => C W' W' y)).mono ?_
    rintro e' w' ⟨rfl, y⟩
    have hb : c.rc.key = d := by
      rcases V.decode_some h6 with ⟨q1, _⟩ | ⟨q1, q2, _⟩
      · rw [h7.1, h3] at q1; exact absurd q1 (by decide)
      · rw [← q2, h7.2.1, h4]
    exact ⟨⟨c.rc, true, rfl, hcl.2.2, fun _ => hb, fun h => by cases h⟩, ⟨life, a, _, sl, g.useS h2 y⟩, y.o⟩
  · refine (Record_x g.x d hd zc false ⟨zd_length, zd_length, zr32⟩ (fun W' y => C W' W' y)).mono ?_
    rintro e' w' ⟨rfl, y⟩
    exact ⟨⟨V.zr, false, rfl, zr32, (fun h => by cases h), fun _ => rfl⟩, ⟨life, a, _, sl, g.dropS h1 y⟩, y.o⟩
end
end Go.Proofs.YtlkllcnnnndllaaGreatDoor
