/- A store that has what its slots say: what its calls do, on lists. -/
import Derived.Test.YtlkllcnnnndllaaGreatDoorP4
namespace Go.Proofs.YtlkllcnnnndllaaGreatDoor
open Go.RowKit Go.Maps
set_option linter.unusedVariables false
set_option linter.unusedSimpArgs false

/-- what an entry's slot says -/
def Says (sl : List H.Sl) (i : Nat) (e : V.En) (c : V.Ct) : Prop := ∃ s, sl[i]? = some s ∧ V.decode s.text = some c ∧ c.kind = e.kind ∧ c.dig = e.dig ∧ c.ck = e.ck
/-- every entry's slot has its text, every free slot has none; the blobs are of X -/
structure Sto (X : List UInt8 → Prop) (es : List V.En) (sl : List H.Sl) : Prop where
  e : ∀ (i : Nat) (e : V.En), es[i]? = some e → e.kind ≠ [] → ∃ c, Says sl i e c ∧ (c.kind = V.kb → X c.blob)
  f : ∀ (i : Nat) (e : V.En), es[i]? = some e → e.kind = [] → ∃ s, sl[i]? = some s ∧ s.text = []
theorem Sto.use {X : List UInt8 → Prop} {h : Hv} {sl : List H.Sl} (st : Sto X h.es sl) {i : Nat} {e : V.En} (he : h.es[i]? = some e) : Sto X (useV h i e).es sl := by
  have hi : i < h.es.length := (List.getElem?_eq_some_iff.1 he).1
  refine ⟨fun j f hf hk => ?_, fun j f hf hk => ?_⟩
  · rcases V.set_at _ hi j f hf with ⟨rfl, rfl⟩ | ⟨_, hf'⟩
    · exact st.e j e he hk
    · exact st.e j f hf' hk
  · rcases V.set_at _ hi j f hf with ⟨rfl, rfl⟩ | ⟨_, hf'⟩
    · exact st.f j e he hk
    · exact st.f j f hf' hk
theorem put_es (h : Hv) (i : Nat) (e : V.En) : (putV h i e).es = h.es.set i { e with used := h.uses + 1 } := by simp [putV, fillV, dropV]
theorem Sto.put {X : List UInt8 → Prop} {h : Hv} {sl : List H.Sl} (st : Sto X h.es sl) {i : Nat} {f e : V.En} (hf : h.es[i]? = some f) (hn : h.es.length = sl.length) (hek : e.kind ≠ []) {t : List UInt8} {c : V.Ct} (hd : V.decode t = some c) (h1 : c.kind = e.kind) (h2 : c.dig = e.dig) (h3 : c.ck = e.ck) (hX : c.kind = V.kb → X c.blob) : Sto X (putV h i e).es (wrt sl i t) := by
  have hi : i < h.es.length := (List.getElem?_eq_some_iff.1 hf).1
  rw [put_es]
  refine ⟨fun j x hx hk => ?_, fun j x hx hk => ?_⟩
  · rcases V.set_at _ hi j x hx with ⟨rfl, rfl⟩ | ⟨hj, hx'⟩
    · obtain ⟨z, hz, hzt⟩ := wrt_self (sl := sl) (i := j) (t := t) (by omega)
      exact ⟨c, ⟨z, hz, by rw [hzt]; exact hd, h1, h2, h3⟩, hX⟩
    · obtain ⟨c', ⟨s, q1, q2⟩, q3⟩ := st.e j x hx' hk
      exact ⟨c', ⟨s, by rw [wrt_at hj]; exact q1, q2⟩, q3⟩
  · rcases V.set_at _ hi j x hx with ⟨rfl, rfl⟩ | ⟨hj, hx'⟩
    · exact absurd hk hek
    · obtain ⟨s, q1, q2⟩ := st.f j x hx' hk
      exact ⟨s, by rw [wrt_at hj]; exact q1, q2⟩
theorem cnt_use {h : Hv} {i : Nat} {e : V.En} (he : h.es[i]? = some e) : V.cntN (useV h i e).es = V.cntN h.es := by
  have := V.cntN_set h.es i e { e with used := h.uses + 1 } he
  exact Nat.add_right_cancel this
theorem cnt_put {h : Hv} {i : Nat} {f e : V.En} (hf : h.es[i]? = some f) (hf0 : f.kind = []) (hek : e.kind ≠ []) : V.cntN (putV h i e).es = V.cntN h.es + 1 := by
  have := V.cntN_set h.es i f { e with used := h.uses + 1 } hf
  rw [if_pos hf0, if_neg (by exact hek)] at this
  rw [put_es]; exact this
theorem room_of {es : List V.En} (h : V.cntN es < es.length) : ∃ i : Nat, freeI es = (i : Int) ∧ ∃ e, es[i]? = some e ∧ e.kind = [] := by
  cases hf : es.findIdx? (fun e => decide (e.kind = [])) with
  | some i =>
    obtain ⟨hi, hp, _⟩ := List.findIdx?_eq_some_iff_getElem.1 hf
    refine ⟨i, by unfold freeI; rw [hf], es[i], List.getElem?_eq_getElem hi, by simpa using hp⟩
  | none =>
    exfalso
    rw [List.findIdx?_eq_none_iff] at hf
    have : es.filter (fun e => decide (e.kind ≠ [])) = es := List.filter_eq_self.2 (fun e he => by have := hf e he; simpa using this)
    unfold V.cntN at h
    rw [this] at h
    omega
theorem find_use {h : Hv} {i : Nat} {e : V.En} (he : h.es[i]? = some e) (k d : List UInt8) : V.findN (useV h i e).es k d = V.findN h.es k d := find_used he _ k d
theorem find_put {h : Hv} {i : Nat} {f e : V.En} (hU : V.Uq h.es) (hU' : V.Uq (putV h i e).es) (hf : h.es[i]? = some f) (hf0 : f.kind = []) (hek : e.kind ≠ []) (hn : V.findN h.es e.kind e.dig = none) (k d : List UInt8) (hk : V.findN h.es k d ≠ none) : V.findN (putV h i e).es k d ≠ none := by
  rw [put_es] at hU' ⊢
  rw [V.findN_set_other hU i f { e with used := h.uses + 1 } hf hU' k d]
  · exact hk
  · rintro ⟨h1, h2⟩
    rw [← h1, hf0, V.findN_free] at hk
    exact hk rfl
  · rintro ⟨h1, h2⟩
    have h1' : e.kind = k := h1
    have h2' : e.dig = d := h2
    rw [← h1', ← h2', hn] at hk
    exact hk rfl
theorem find_self {h : Hv} {i : Nat} {f e : V.En} (hU' : V.Uq (putV h i e).es) (hf : h.es[i]? = some f) (hek : e.kind ≠ []) : V.findN (putV h i e).es e.kind e.dig = some i := by
  rw [put_es] at hU' ⊢
  exact find_fill_same (e := { e with used := h.uses + 1 }) hU' hf hek
/-- a store of good slots, above w; cn entries, and the blobs of dn among them -/
structure QX (w : World) (n m : Nat) (b : HB) (life a : Nat) (h : Hv) (sl : List H.Sl) (X dn : List UInt8 → Prop) (cn : Nat) (W : World) : Prop where
  g : GX w n m b life a h sl W
  s : Sto X h.es sl
  c : V.cntN h.es = cn
  d : ∀ t, dn t → V.findN h.es V.kb (S.sha t) ≠ none
section
variable {w W : World} {n m : Nat} {b : HB} {life a : Nat} {h : Hv} {sl : List H.Sl} {X dn : List UInt8 → Prop} {cn : Nat}
theorem QX.uq (q : QX w n m b life a h sl X dn cn W) : V.Uq h.es := q.g.x.u
/-- what look finds -/
theorem QX.find (q : QX w n m b life a h sl X dn cn W) (k d : List UInt8) (hk : k.length ≤ 1) (hd : d.length = 32) :
    (∃ (i : Nat) (e : V.En) (c : V.Ct), V.findN h.es k d = some i ∧ h.es[i]? = some e ∧ e.kind = k ∧ e.dig = d ∧ Says sl i e c ∧ (c.dig.length = 32 ∧ c.ck.length = 32 ∧ Rc32 c.rc) ∧ (c.kind = V.kb → X c.blob) ∧
      ∀ w' W', HW w' b h (shOf life a sl) W' → Calls Tryz.prog 34 #[.pointer (some ⟨b.hv, 0, none⟩), .agg (nmv k d)] W' fun e' w'' => e' = .returned (.tuple #[.int .i64 (i : Int), .agg (cv c), .bool true]) ∧ HW w' b h (shOf life a sl) w'') ∨
    (V.findN h.es k d = none ∧
      ∀ w' W', HW w' b h (shOf life a sl) W' → Calls Tryz.prog 34 #[.pointer (some ⟨b.hv, 0, none⟩), .agg (nmv k d)] W' fun e' w'' => e' = .returned (.tuple #[.int .i64 0, .agg (cv zc), .bool false]) ∧ HW w' b h (shOf life a sl) w'') := by
  cases hf : V.findN h.es k d with
  | none => exact .inr ⟨rfl, fun w' W' y => look_none y k d hk hd hf⟩
  | some i =>
    obtain ⟨e, he, h1, h2, h3⟩ := V.findN_some hf
    obtain ⟨c, ⟨s, hs, hdc, heq⟩, hX⟩ := q.s.e i e he h1
    have hsl := (q.g.s.t s (List.mem_of_getElem? hs)).1
    exact .inl ⟨i, e, c, rfl, he, h2, h3, ⟨s, hs, hdc, heq⟩, dec_len hdc, hX, fun w' W' y => look_yes y k d hk hd hf he q.g.en rfl hs hsl hdc heq⟩
theorem QX.used (q : QX w n m b life a h sl X dn cn W) {i : Nat} {e : V.En} (he : h.es[i]? = some e) {W' : World} (x : HW W b (useV h i e) (shOf life a sl) W') : QX w n (m + 5) b life a (useV h i e) sl X dn cn W' :=
  ⟨q.g.useS he x, q.s.use he, by rw [cnt_use he]; exact q.c, fun t ht => by rw [find_use he]; exact q.d t ht⟩
theorem QX.same (q : QX w n m b life a h sl X dn cn W) {W' : World} (x : HW W b h (shOf life a sl) W') : QX w n (m + 5) b life a h sl X dn cn W' := ⟨(q.g.same x).wider (by omega), q.s, q.c, q.d⟩
theorem QX.step (q : QX w n m b life a h sl X dn cn W) {W' : World} (hb : Below W.heap.size W W') : QX w n m b life a h sl X dn cn W' := ⟨q.g.step hb, q.s, q.c, q.d⟩
theorem QX.wider (q : QX w n m b life a h sl X dn cn W) {m' : Nat} (hm : m ≤ m') : QX w n m' b life a h sl X dn cn W := ⟨q.g.wider hm, q.s, q.c, q.d⟩
/-- an entry that isn't there is put where there is room -/
theorem QX.put (q : QX w n m b life a h sl X dn cn W) (hm : m ≤ 900000) (hr : cn < n) {e : V.En} (e32 : En32 e) (hek : e.kind ≠ []) (hf : V.findN h.es e.kind e.dig = none) (t : List UInt8) (ht : t.length ≤ 640) {c : V.Ct} (hd : V.decode t = some c) (h1 : c.kind = e.kind) (h2 : c.dig = e.dig) (h3 : c.ck = e.ck) (hX : c.kind = V.kb → X c.blob) :
    ∃ i : Nat, (∀ w' W', HW w' b h (shOf life a sl) W' → Calls Tryz.prog 31 #[.pointer (some ⟨b.hv, 0, none⟩), .agg (ev e.kind e.dig e.ck), .string (M.bs t)] W' fun e' w'' => e' = .returned (.int .i64 0) ∧ HW w' b (putV h i e) (shOf life (a + 1) (wrt sl i t)) w'') ∧
      ∀ W', HW W b (putV h i e) (shOf life (a + 1) (wrt sl i t)) W' → QX w n (m + 5) b life (a + 1) (putV h i e) (wrt sl i t) X dn (cn + 1) W' ∧ V.findN (putV h i e).es e.kind e.dig = some i ∧ ∃ e', (putV h i e).es[i]? = some e' ∧ Says (wrt sl i t) i e' c := by
  have hel := q.g.el
  obtain ⟨i, hfi, f, hff, hf0⟩ := room_of (es := h.es) (by rw [q.c, hel]; exact hr)
  have hi : i < h.es.length := (List.getElem?_eq_some_iff.1 hff).1
  have hnl : sl.length = n := q.g.s.n
  obtain ⟨z, hz⟩ : ∃ z, sl[i]? = some z := ⟨sl[i]'(by omega), List.getElem?_eq_getElem _⟩
  have ham := q.g.am
  have hum := q.g.um
  refine ⟨i, fun w' W' y => put_ok y e32 hek hf q.g.en (by omega) t ht i (fun W2 y2 => room_free y2 q.g.en i hfi) hi hz (q.g.sm hm) rfl (by show (0 : Nat) ≠ 1; decide), fun W' y => ?_⟩
  have hU' : V.Uq (putV h i e).es := y.u
  refine ⟨⟨q.g.next y (q.g.s.put i t ht) rfl (by omega) (by omega) (by show h.uses + 1 ≤ _; omega) (fill_us e (drop_us i q.g.us)), q.s.put hff (by omega) hek hd h1 h2 h3 hX, by rw [cnt_put hff hf0 hek, q.c], fun s hs => find_put q.uq hU' hff hf0 hek hf _ _ (q.d s hs)⟩, find_self hU' hff hek, { e with used := h.uses + 1 }, ?_, ?_⟩
  · rw [put_es, List.getElem?_set_self hi]
  · obtain ⟨z', hz', hzt⟩ := wrt_self (sl := sl) (i := i) (t := t) (by omega)
    exact ⟨z', hz', by rw [hzt]; exact hd, h1, h2, h3⟩
/-- how a record stands -/
def RS (r : V.Rc) (er : Int) (es : List V.En) (sl : List H.Sl) : Prop := (V.canB r = false ∧ er = 1) ∨ (V.canB r = true ∧ ∃ (i : Nat) (e : V.En) (c : V.Ct), V.findN es V.kr r.key = some i ∧ es[i]? = some e ∧ Says sl i e c ∧ (((c.rc.key = r.key ∧ c.rc.code = r.code ∧ c.rc.out = r.out) ∧ er = 0) ∨ (¬ (c.rc.key = r.key ∧ c.rc.code = r.code ∧ c.rc.out = r.out) ∧ er = 21)))
def ctR (r : V.Rc) : V.Ct := ⟨V.kr, r.key, S.sha (M.rowB (V.recL r)), [], r⟩
theorem Says.one {sl : List H.Sl} {i : Nat} {e : V.En} {c c' : V.Ct} (h : Says sl i e c) (h' : Says sl i e c') : c = c' := by
  obtain ⟨s, h1, h2, _⟩ := h
  obtain ⟨s', h1', h2', _⟩ := h'
  rw [h1] at h1'
  cases h1'
  rw [h2] at h2'
  exact Option.some.inj h2'
/-- a record is put, the first time -/
theorem QX.recA (q : QX w n m b life a h sl X dn cn W) (hm : m ≤ 900000) (hr' : cn < n) (r : V.Rc) (hr : Rc32 r) :
    Calls Tryz.prog 13 #[.pointer (some ⟨b.hv, 0, none⟩), .agg (rv r)] W fun e' w' => ∃ (er : Int) (a' : Nat) (h' : Hv) (sl' : List H.Sl) (cn' : Nat), e' = .returned (.int .i64 er) ∧ (er = 0 ∨ er = 1 ∨ er = 21) ∧ cn' ≤ cn + 1 ∧ QX w n (m + 5) b life a' h' sl' X dn cn' w' ∧ RS r er h'.es sl' ∧ OffB b W w' := by
  have hli : (shOf life a sl).life = h.life := q.g.li
  cases hc : V.canB r with
  | false =>
    refine (PutRec_arg q.g.x rfl hli r hr hc).mono ?_
    rintro e' w' ⟨rfl, y⟩
    exact ⟨1, a, h, sl, cn, rfl, .inr (.inl rfl), by omega, q.same y, .inl ⟨hc, rfl⟩, y.o⟩
  | true =>
    rcases q.find V.kr r.key (by decide) hr.k with ⟨i, e, c, h1, h2, h3, h4, h5, hcl, h7, C⟩ | ⟨h1, C⟩
    · by_cases heq : c.rc.key = r.key ∧ c.rc.code = r.code ∧ c.rc.out = r.out
      · refine (PutRec_is q.g.x rfl hli r hr hc c hcl heq h2 q.g.en (by have := q.g.um; omega) (fun W' y => C W' W' y)).mono ?_
        rintro e' w' ⟨rfl, y⟩
        have hi : i < h.es.length := (List.getElem?_eq_some_iff.1 h2).1
        refine ⟨0, a, _, sl, cn, rfl, .inl rfl, by omega, q.used h2 y, .inr ⟨hc, i, { e with used := h.uses + 1 }, c, by rw [find_use h2]; exact h1, ?_, h5, .inl ⟨heq, rfl⟩⟩, y.o⟩
        show (h.es.set i _)[i]? = _
        rw [List.getElem?_set_self hi]
      · refine (PutRec_twice q.g.x rfl hli r hr hc c hcl heq (fun W' y => C W' W' y)).mono ?_
        rintro e' w' ⟨rfl, y⟩
        exact ⟨21, a, h, sl, cn, rfl, .inr (.inr rfl), by omega, q.same y, .inr ⟨hc, i, e, c, h1, h2, h5, .inr ⟨heq, rfl⟩⟩, y.o⟩
    · have e32 : En32 (enR r) := ⟨hr.k, S.sha_length _, by show V.kr.length ≤ 1; decide⟩
      obtain ⟨i, CP, HP⟩ := q.put hm hr' e32 (by show V.kr ≠ []; decide) h1 (V.sealB (V.recL r)) (sealR_len r hr hc) (V.decode_rec r hr.k hr.o hc) rfl rfl rfl (fun h => absurd (show V.kr = V.kb from h) (by decide))
      refine (PutRec_put q.g.x rfl hli r hr hc 0 (fun W' y => C W' W' y) (fun W' y => CP W' W' y)).mono ?_
      rintro e' w' ⟨rfl, y⟩
      obtain ⟨q', hfi, e2, he2, hs2⟩ := HP w' y
      exact ⟨0, _, _, _, cn + 1, rfl, .inl rfl, Nat.le_refl _, q', .inr ⟨hc, i, e2, _, hfi, he2, hs2, .inl ⟨⟨rfl, rfl, rfl⟩, rfl⟩⟩, y.o⟩
/-- and again -/
theorem QX.recB (q : QX w n m b life a h sl X dn cn W) (hm : m ≤ 900000) (r : V.Rc) (hr : Rc32 r) {er : Int} (hs : RS r er h.es sl) :
    Calls Tryz.prog 13 #[.pointer (some ⟨b.hv, 0, none⟩), .agg (rv r)] W fun e' w' => ∃ h' : Hv, e' = .returned (.int .i64 er) ∧ QX w n (m + 5) b life a h' sl X dn cn w' ∧ OffB b W w' := by
  have hli : (shOf life a sl).life = h.life := q.g.li
  rcases hs with ⟨hc, rfl⟩ | ⟨hc, i, e, c, hfi, hei, hsi, ho⟩
  · refine (PutRec_arg q.g.x rfl hli r hr hc).mono ?_
    rintro e' w' ⟨rfl, y⟩
    exact ⟨h, rfl, q.same y, y.o⟩
  · rcases q.find V.kr r.key (by decide) hr.k with ⟨i', e', c', h1, h2, h3, h4, h5, hcl, h7, C⟩ | ⟨h1, C⟩
    · rw [hfi] at h1
      cases h1
      rw [hei] at h2
      cases h2
      obtain rfl := hsi.one h5
      rcases ho with ⟨heq, rfl⟩ | ⟨heq, rfl⟩
      · refine (PutRec_is q.g.x rfl hli r hr hc c hcl heq hei q.g.en (by have := q.g.um; omega) (fun W' y => C W' W' y)).mono ?_
        rintro e' w' ⟨rfl, y⟩
        exact ⟨_, rfl, q.used hei y, y.o⟩
      · refine (PutRec_twice q.g.x rfl hli r hr hc c hcl heq (fun W' y => C W' W' y)).mono ?_
        rintro e' w' ⟨rfl, y⟩
        exact ⟨h, rfl, q.same y, y.o⟩
    · rw [hfi] at h1; cases h1
theorem QX.recG (q : QX w n m b life a h sl X dn cn W) (hm : m ≤ 900000) (d : List UInt8) (hd : d.length = 32) :
    Calls Tryz.prog 12 #[.pointer (some ⟨b.hv, 0, none⟩), .agg (dg d)] W fun e' w' => ∃ (r : V.Rc) (v : Bool) (h' : Hv), e' = .returned (.tuple #[.agg (rv r), .bool v]) ∧ Rc32 r ∧ QX w n (m + 5) b life a h' sl X dn cn w' ∧ OffB b W w' := by
  rcases q.find V.kr d (by decide) hd with ⟨i, e, c, h1, h2, h3, h4, h5, hcl, h7, C⟩ | ⟨h1, C⟩
  · refine (Record_x q.g.x d hd c true hcl (fun W' y => ask_yes y V.kr d hd h2 q.g.en (by have := q.g.um; omega) hcl (fun W2 y2 => C W2 W2 y2))).mono ?_
    rintro e' w' ⟨rfl, y⟩
    exact ⟨c.rc, true, _, rfl, hcl.2.2, q.used h2 y, y.o⟩
  · refine (Record_x q.g.x d hd zc false ⟨zd_length, zd_length, zr32⟩ (fun W' y => ask_no y V.kr d hd (fun W2 y2 => C W2 W2 y2))).mono ?_
    rintro e' w' ⟨rfl, y⟩
    exact ⟨V.zr, false, h, rfl, zr32, q.same y, y.o⟩
/-- a blob that is too wide -/
theorem QX.blobW (q : QX w n m b life a h sl X dn cn W) (t : List UInt8) (ht : 512 < t.length) (ht2 : t.length ≤ 9223372036854775807) :
    Calls Tryz.prog 11 #[.pointer (some ⟨b.hv, 0, none⟩), .string (M.bs t)] W fun e' w' => e' = .returned (.tuple #[.agg zero32, .int .i64 33]) ∧ QX w n (m + 5) b life a h sl X dn cn w' ∧ OffB b W w' := by
  have hli : (shOf life a sl).life = h.life := q.g.li
  refine (PutBlob_wide q.g.x rfl hli t ht ht2).mono ?_
  rintro e' w' ⟨rfl, y⟩
  exact ⟨rfl, q.same y, y.o⟩
/-- a blob is put, the first time -/
theorem QX.blobA (q : QX w n m b life a h sl X dn cn W) (hm : m ≤ 900000) (hr : cn < n) (t : List UInt8) (ht : t.length ≤ 512) (hX : X t) :
    Calls Tryz.prog 11 #[.pointer (some ⟨b.hv, 0, none⟩), .string (M.bs t)] W fun e' w' => ∃ (a' : Nat) (h' : Hv) (sl' : List H.Sl) (cn' : Nat), e' = .returned (.tuple #[.agg (dg (S.sha t)), .int .i64 0]) ∧ cn' ≤ cn + 1 ∧ QX w n (m + 5) b life a' h' sl' X (fun s => dn s ∨ s = t) cn' w' ∧ OffB b W w' := by
  have hli : (shOf life a sl).life = h.life := q.g.li
  rcases q.find V.kb (S.sha t) (by decide) (S.sha_length _) with ⟨i, e, c, h1, h2, h3, h4, h5, hcl, h7, C⟩ | ⟨h1, C⟩
  · refine (PutBlob_there q.g.x rfl hli t ht c (cv_size hcl.1 hcl.2.1 hcl.2.2) (fun W' y => ask_yes y V.kb (S.sha t) (S.sha_length _) h2 q.g.en (by have := q.g.um; omega) hcl (fun W2 y2 => C W2 W2 y2))).mono ?_
    rintro e' w' ⟨rfl, y⟩
    have q' := q.used h2 y
    exact ⟨a, _, sl, cn, rfl, by omega, ⟨q'.g, q'.s, q'.c, fun s hs => hs.elim (q'.d s) (fun e => by rw [e, find_use h2, h1]; simp)⟩, y.o⟩
  · have e32 : En32 (enN t) := ⟨S.sha_length _, S.sha_length _, by show V.kb.length ≤ 1; decide⟩
    obtain ⟨i, CP, HP⟩ := q.put hm hr e32 (by show V.kb ≠ []; decide) h1 (V.sealB (V.blobL t)) (seal_len t ht) (V.decode_blob t ht) rfl rfl rfl (fun _ => hX)
    refine (PutBlob_ok q.g.x rfl hli t ht (fun W' y => ask_no y V.kb (S.sha t) (S.sha_length _) (fun W2 y2 => C W2 W2 y2)) (fun W' y => CP W' W' y)).mono ?_
    rintro e' w' ⟨rfl, y⟩
    obtain ⟨q', hfi, _⟩ := HP w' y
    exact ⟨_, _, _, cn + 1, rfl, Nat.le_refl _, ⟨q'.g, q'.s, q'.c, fun s hs => hs.elim (q'.d s) (fun e => by rw [e]; have : V.findN (putV h i (enN t)).es V.kb (S.sha t) = some i := hfi; rw [this]; simp)⟩, y.o⟩
/-- and again -/
theorem QX.blobB (q : QX w n m b life a h sl X dn cn W) (hm : m ≤ 900000) (t : List UInt8) (ht : t.length ≤ 512) (hd : dn t) :
    Calls Tryz.prog 11 #[.pointer (some ⟨b.hv, 0, none⟩), .string (M.bs t)] W fun e' w' => ∃ h' : Hv, e' = .returned (.tuple #[.agg (dg (S.sha t)), .int .i64 0]) ∧ QX w n (m + 5) b life a h' sl X dn cn w' ∧ OffB b W w' := by
  have hli : (shOf life a sl).life = h.life := q.g.li
  rcases q.find V.kb (S.sha t) (by decide) (S.sha_length _) with ⟨i, e, c, h1, h2, h3, h4, h5, hcl, h7, C⟩ | ⟨h1, C⟩
  · refine (PutBlob_there q.g.x rfl hli t ht c (cv_size hcl.1 hcl.2.1 hcl.2.2) (fun W' y => ask_yes y V.kb (S.sha t) (S.sha_length _) h2 q.g.en (by have := q.g.um; omega) hcl (fun W2 y2 => C W2 W2 y2))).mono ?_
    rintro e' w' ⟨rfl, y⟩
    exact ⟨_, rfl, q.used h2 y, y.o⟩
  · exact absurd h1 (q.d t hd)
/-- a blob is asked for -/
theorem QX.blob (q : QX w n m b life a h sl X dn cn W) (hm : m ≤ 900000) (t : List UInt8) (hX : ∀ s, X s → S.sha s = S.sha t → s = t) (hd : t.length ≤ 512 → dn t) :
    Calls Tryz.prog 17 #[.pointer (some ⟨b.hv, 0, none⟩), .agg (dg (S.sha t))] W fun e' w' => ∃ h' : Hv, e' = .returned (.tuple #[.string (M.bs (if t.length ≤ 512 then t else [])), .bool (decide (t.length ≤ 512))]) ∧ QX w n (m + 5) b life a h' sl X dn cn w' ∧ OffB b W w' := by
  rcases q.find V.kb (S.sha t) (by decide) (S.sha_length _) with ⟨i, e, c, h1, h2, h3, h4, h5, hcl, h7, C⟩ | ⟨h1, C⟩
  · obtain ⟨s, hs, hdc, hk, hg, _⟩ := h5
    have hb : c.blob.length ≤ 512 ∧ c.blob = t := by
      rcases V.decode_some hdc with ⟨q1, q2, q3, _⟩ | ⟨q1, _⟩
      · exact ⟨q3, hX _ (h7 q1) (by rw [← q2, hg, h4])⟩
      · rw [hk, h3] at q1; exact absurd q1 (by decide)
    have ht : t.length ≤ 512 := by rw [← hb.2]; exact hb.1
    refine (Blob_x q.g.x (S.sha t) (S.sha_length _) c true (cv_size hcl.1 hcl.2.1 hcl.2.2) (cv_65 hcl.1 hcl.2.1) (fun W' y => ask_yes y V.kb (S.sha t) (S.sha_length _) h2 q.g.en (by have := q.g.um; omega) hcl (fun W2 y2 => C W2 W2 y2))).mono ?_
    rintro e' w' ⟨rfl, y⟩
    exact ⟨_, by rw [if_pos ht, decide_eq_true ht, hb.2], q.used h2 y, y.o⟩
  · have ht : ¬ t.length ≤ 512 := fun ht => q.d t (hd ht) h1
    refine (Blob_x q.g.x (S.sha t) (S.sha_length _) zc false zc_size (cv_65 zd_length zd_length) (fun W' y => ask_no y V.kb (S.sha t) (S.sha_length _) (fun W2 y2 => C W2 W2 y2))).mono ?_
    rintro e' w' ⟨rfl, y⟩
    exact ⟨h, by rw [if_neg ht, decide_eq_false ht]; rfl, q.same y, y.o⟩
theorem QX.len (q : QX w n m b life a h sl X dn cn W) : Calls Tryz.prog 22 #[.pointer (some ⟨b.hv, 0, none⟩)] W fun e' w' => e' = .returned (.int .i64 (cn : Int)) ∧ w' = W := by
  have := Len_x q.g.x
  rw [q.c] at this
  exact this
end
end Go.Proofs.YtlkllcnnnndllaaGreatDoor
