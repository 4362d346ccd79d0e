/- For HivePower: Arm; how many blobs there are; what the law's four lists say of a store. -/
import Derived.Test.YtlkllcnnnndllaaGreatDoorGY
import Derived.Test.YtlkllcnnnndllaaGreatDoorGV
namespace Go.Proofs.YtlkllcnnnndllaaGreatDoor
open Go.RowKit Go.Maps
set_option linter.unusedVariables false
set_option linter.unusedSimpArgs false

theorem len_le {α : Type} [BEq α] [LawfulBEq α] : ∀ (l l' : List α), l.Nodup → (∀ x ∈ l, x ∈ l') → l.length ≤ l'.length
  | [], l', _, _ => Nat.zero_le _
  | x :: r, l', hn, hs => by
    obtain ⟨h1, h2⟩ := List.nodup_cons.1 hn
    have hx := hs x (List.mem_cons_self ..)
    have := len_le r (l'.erase x) h2 (fun y hy => (List.mem_erase_of_ne (fun e => h1 (by rw [← e]; exact hy))).2 (hs y (List.mem_cons_of_mem _ hy)))
    rw [List.length_erase_of_mem hx] at this
    have h0 : 0 < l'.length := List.length_pos_iff.2 (fun e => by rw [e] at hx; cases hx)
    rw [List.length_cons]; omega
/-- the digests of the blobs -/
def bL (es : List V.En) : List (List UInt8) := (es.filter (fun e => decide (e.kind = V.kb))).map (·.dig)
theorem Uq.tail {x : V.En} {es : List V.En} (h : V.Uq (x :: es)) : V.Uq es := fun i j a b ha hb h1 h2 h3 => by
  have := h (i + 1) (j + 1) a b (by simpa using ha) (by simpa using hb) h1 h2 h3
  omega
theorem bL_nodup : ∀ {es : List V.En}, V.Uq es → (bL es).Nodup
  | [], _ => List.nodup_nil
  | x :: r, h => by
    have hr := bL_nodup (es := r) (Uq.tail h)
    unfold bL at hr ⊢
    by_cases hk : x.kind = V.kb
    · rw [List.filter_cons_of_pos (by simpa using hk), List.map_cons, List.nodup_cons]
      refine ⟨fun hm => ?_, hr⟩
      obtain ⟨y, hy, he⟩ := List.mem_map.1 hm
      obtain ⟨hy1, hy2⟩ := List.mem_filter.1 hy
      obtain ⟨i, hi⟩ := List.mem_iff_getElem?.1 hy1
      have hyk : y.kind = V.kb := by simpa using hy2
      have := h 0 (i + 1) x y rfl (by simpa using hi) (by rw [hk]; decide) (by rw [hk, hyk]) he.symm
      omega
    · rw [List.filter_cons_of_neg (by simpa using hk)]
      exact hr
theorem bL_mem {es : List V.En} {d : List UInt8} : d ∈ bL es ↔ ∃ (i : Nat) (e : V.En), es[i]? = some e ∧ e.kind = V.kb ∧ e.dig = d := by
  unfold bL
  rw [List.mem_map]
  constructor
  · rintro ⟨e, he, rfl⟩
    obtain ⟨h1, h2⟩ := List.mem_filter.1 he
    obtain ⟨i, hi⟩ := List.mem_iff_getElem?.1 h1
    exact ⟨i, e, hi, by simpa using h2, rfl⟩
  · rintro ⟨i, e, hi, h2, rfl⟩
    exact ⟨e, List.mem_filter.2 ⟨List.mem_of_getElem? hi, by simpa using h2⟩, rfl⟩
theorem kL_mem {es : List V.En} {d : List UInt8} : d ∈ kL es ↔ ∃ (i : Nat) (e : V.En), es[i]? = some e ∧ e.kind = V.kr ∧ e.dig = d := by
  unfold kL
  rw [List.mem_map]
  constructor
  · rintro ⟨e, he, rfl⟩
    obtain ⟨h1, h2⟩ := List.mem_filter.1 he
    obtain ⟨i, hi⟩ := List.mem_iff_getElem?.1 h1
    exact ⟨i, e, hi, by simpa using h2, rfl⟩
  · rintro ⟨i, e, hi, h2, rfl⟩
    exact ⟨e, List.mem_filter.2 ⟨List.mem_of_getElem? hi, by simpa using h2⟩, rfl⟩
/-- every entry is a blob or a record -/
theorem cnt_two : ∀ {es : List V.En}, (∀ e ∈ es, e.kind ≠ [] → e.kind = V.kb ∨ e.kind = V.kr) → V.cntN es = (bL es).length + (kL es).length
  | [], _ => rfl
  | x :: r, h => by
    have hr := cnt_two (es := r) (fun e he => h e (List.mem_cons_of_mem _ he))
    have hx := h x (List.mem_cons_self ..)
    unfold V.cntN bL kL at hr ⊢
    by_cases h0 : x.kind = []
    · rw [List.filter_cons_of_neg (by simpa using h0), List.filter_cons_of_neg (by rw [h0]; decide), List.filter_cons_of_neg (by rw [h0]; decide)]
      exact hr
    · rcases hx h0 with hk | hk
      · rw [List.filter_cons_of_pos (by simpa using h0), List.filter_cons_of_pos (by simpa using hk), List.filter_cons_of_neg (by rw [hk]; decide)]
        simp only [List.map_cons, List.length_cons]
        omega
      · rw [List.filter_cons_of_pos (by simpa using h0), List.filter_cons_of_neg (by rw [hk]; decide), List.filter_cons_of_pos (by simpa using hk)]
        simp only [List.map_cons, List.length_cons]
        omega
/-- the texts among the first k that are there, each once -/
def dsN (p : List UInt8 → Bool) (l : List (List UInt8)) : Nat → List (List UInt8)
  | 0 => []
  | k + 1 => match l[k]? with
    | none => dsN p l k
    | some t => if p t && !decide (t ∈ l.take k) then dsN p l k ++ [t] else dsN p l k
theorem dsN_yes {p : List UInt8 → Bool} {l : List (List UInt8)} {k : Nat} {t : List UInt8} (h : l[k]? = some t) (h1 : p t = true) (h2 : decide (t ∈ l.take k) = false) : dsN p l (k + 1) = dsN p l k ++ [t] := by
  show (match l[k]? with | none => _ | some t => _) = _
  rw [h]; simp only [h1, h2]; rfl
theorem dsN_no {p : List UInt8 → Bool} {l : List (List UInt8)} {k : Nat} {t : List UInt8} (h : l[k]? = some t) (h1 : p t = false ∨ decide (t ∈ l.take k) = true) : dsN p l (k + 1) = dsN p l k := by
  show (match l[k]? with | none => _ | some t => _) = _
  rw [h]
  rcases h1 with h1 | h1 <;> simp only [h1] <;> simp
theorem dsN_mem {p : List UInt8 → Bool} {l : List (List UInt8)} : ∀ {k : Nat} {t : List UInt8}, t ∈ dsN p l k ↔ t ∈ l.take k ∧ p t = true
  | 0, t => by simp [dsN]
  | k + 1, t => by
    have ih := dsN_mem (p := p) (l := l) (k := k) (t := t)
    cases h : l[k]? with
    | none =>
      have : dsN p l (k + 1) = dsN p l k := by show (match l[k]? with | none => _ | some t => _) = _; rw [h]
      rw [this, List.take_add_one, h]; simpa using ih
    | some x =>
      rw [List.take_add_one, h]
      by_cases hq : p x = true ∧ decide (x ∈ l.take k) = false
      · rw [dsN_yes h hq.1 hq.2, List.mem_append, ih]
        constructor
        · rintro (⟨a, b⟩ | hm)
          · exact ⟨List.mem_append_left _ a, b⟩
          · have : t = x := by simpa using hm
            subst this; exact ⟨by simp, hq.1⟩
        · rintro ⟨a, b⟩
          rcases List.mem_append.1 a with a | a
          · exact .inl ⟨a, b⟩
          · exact .inr (by simpa using a)
      · have hq' : p x = false ∨ decide (x ∈ l.take k) = true := by
          cases h1 : p x
          · exact .inl rfl
          · cases h2 : decide (x ∈ l.take k)
            · exact absurd ⟨h1, h2⟩ hq
            · exact .inr rfl
        rw [dsN_no h hq', ih]
        constructor
        · rintro ⟨a, b⟩; exact ⟨List.mem_append_left _ a, b⟩
        · rintro ⟨a, b⟩
          rcases List.mem_append.1 a with a | a
          · exact ⟨a, b⟩
          · have : t = x := by simpa using a
            subst this
            rcases hq' with h1 | h1
            · rw [b] at h1; cases h1
            · exact ⟨by simpa using h1, b⟩
theorem dsN_nodup {p : List UInt8 → Bool} {l : List (List UInt8)} : ∀ (k : Nat), (dsN p l k).Nodup
  | 0 => List.nodup_nil
  | k + 1 => by
    have ih := dsN_nodup (p := p) (l := l) k
    cases h : l[k]? with
    | none =>
      have : dsN p l (k + 1) = dsN p l k := by show (match l[k]? with | none => _ | some t => _) = _; rw [h]
      rw [this]; exact ih
    | some x =>
      by_cases hq : p x = true ∧ decide (x ∈ l.take k) = false
      · rw [dsN_yes h hq.1 hq.2, List.nodup_append]
        refine ⟨ih, by simp, fun a ha b hb e => ?_⟩
        have hb' : b = x := by simpa using hb
        subst hb'; subst e
        have := (dsN_mem.1 ha).1
        have h2 := hq.2
        simp only [decide_eq_false_iff_not] at h2
        exact h2 this
      · rw [dsN_no h (by
          cases h1 : p x
          · exact .inl rfl
          · cases h2 : decide (x ∈ l.take k)
            · exact absurd ⟨h1, h2⟩ hq
            · exact .inr rfl)]
        exact ih
theorem dsN_le {p : List UInt8 → Bool} {l : List (List UInt8)} : ∀ (k : Nat), (dsN p l k).length ≤ k
  | 0 => Nat.le_refl _
  | k + 1 => by
    have ih := dsN_le (p := p) (l := l) k
    show (match l[k]? with | none => _ | some t => _ : List (List UInt8)).length ≤ _
    split
    · omega
    · split
      · rw [List.length_append]; simp; omega
      · omega
theorem map_nodup {α β : Type} (f : α → β) : ∀ {l : List α}, l.Nodup → (∀ x ∈ l, ∀ y ∈ l, f x = f y → x = y) → (l.map f).Nodup
  | [], _, _ => List.nodup_nil
  | x :: r, h, hi => by
    obtain ⟨h1, h2⟩ := List.nodup_cons.1 h
    rw [List.map_cons, List.nodup_cons]
    refine ⟨fun hm => ?_, map_nodup f h2 (fun a ha b hb => hi a (List.mem_cons_of_mem _ ha) b (List.mem_cons_of_mem _ hb))⟩
    obtain ⟨y, hy, e⟩ := List.mem_map.1 hm
    exact h1 (by rw [hi x (List.mem_cons_self ..) y (List.mem_cons_of_mem _ hy) e.symm]; exact hy)
section
variable {w W : World} {n m : Nat} {b : HB} {life a arm : Nat} {h : Hv} {sl : List H.Sl} {X : List UInt8 → Prop} {cn : Nat}
/-- what is there is an entry -/
theorem PA.ent (p : PA w n m b life a arm h sl X cn W) {c : V.Ct} (hc : HasC sl c) : ∃ (i : Nat) (e : V.En), h.es[i]? = some e ∧ e.kind = c.kind ∧ e.dig = c.dig ∧ e.kind ≠ [] := by
  obtain ⟨i, s, hs, hd⟩ := hc
  have hi : i < h.es.length := by have h1 : h.es.length = sl.length := p.x.n; have := (List.getElem?_eq_some_iff.1 hs).1; omega
  have he : h.es[i]? = some h.es[i] := List.getElem?_eq_getElem hi
  by_cases hk : h.es[i].kind = []
  · obtain ⟨s2, q1, q2⟩ := p.s.f i _ he hk
    rw [hs] at q1; cases q1
    rw [q2, decode_nil] at hd; cases hd
  · obtain ⟨c2, ⟨s2, q1, q2, q3, q4, _⟩, _⟩ := p.s.e i _ he hk
    rw [hs] at q1; cases q1
    rw [hd] at q2; cases q2
    exact ⟨i, _, he, q3.symm, q4.symm, hk⟩
/-- an entry is there -/
theorem PA.says (p : PA w n m b life a arm h sl X cn W) {i : Nat} {e : V.En} (he : h.es[i]? = some e) (hk : e.kind ≠ []) : (e.kind = V.kb ∧ ∃ t, HasC sl (ctB t) ∧ X t ∧ e.dig = S.sha t) ∨ (e.kind = V.kr ∧ ∃ r, HasC sl (ctR r) ∧ V.canB r = true ∧ Rc32 r ∧ e.dig = r.key) := by
  obtain ⟨c, ⟨s, q1, q2, q3, q4, _⟩, hX⟩ := p.s.e i e he hk
  rcases V.decode_some q2 with ⟨h1, _⟩ | ⟨h1, _⟩
  · have hc := ct_blob q2 h1
    exact .inl ⟨by rw [← q3, h1], c.blob, ⟨i, s, q1, by rw [← hc]; exact q2⟩, hX h1, by rw [← q4]; exact congrArg V.Ct.dig hc⟩
  · have hc := ct_rec q2 h1
    exact .inr ⟨by rw [← q3, h1], c.rc, ⟨i, s, q1, by rw [← hc.1]; exact q2⟩, hc.2.1, hc.2.2, by rw [← q4]; exact congrArg V.Ct.dig hc.1⟩
/-- HOW MANY: the blobs that differ, and the keys -/
theorem PA.count (p : PA w n m b life a arm h sl X cn W) (q : List UInt8 → Bool) (l : List (List UInt8)) (hq : ∀ t ∈ l, q t = true ↔ HasC sl (ctB t)) (hl : ∀ t, HasC sl (ctB t) → t ∈ l) (hI : ∀ x ∈ l, ∀ y ∈ l, S.sha x = S.sha y → x = y) : cn = (dsN q l l.length).length + (kL h.es).length := by
  have hc := p.c
  rw [cnt_two (fun e he hk => by obtain ⟨i, hi⟩ := List.mem_iff_getElem?.1 he; exact (p.says hi hk).imp (·.1) (·.1))] at hc
  have hm : ∀ t, t ∈ dsN q l l.length ↔ t ∈ l ∧ q t = true := fun t => by rw [dsN_mem, List.take_length]
  have h1 := len_le ((dsN q l l.length).map S.sha) (bL h.es) (map_nodup _ (dsN_nodup _) (fun x hx y hy e => hI x ((hm x).1 hx).1 y ((hm y).1 hy).1 e)) (fun d hd => by
    obtain ⟨t, ht, rfl⟩ := List.mem_map.1 hd
    obtain ⟨h1, h2⟩ := (hm t).1 ht
    obtain ⟨i, e, he, k1, k2, _⟩ := p.ent ((hq t h1).1 h2)
    exact bL_mem.2 ⟨i, e, he, k1, k2⟩)
  have h2 := len_le (bL h.es) ((dsN q l l.length).map S.sha) (bL_nodup p.uq) (fun d hd => by
    obtain ⟨i, e, he, k1, rfl⟩ := bL_mem.1 hd
    rcases p.says he (by rw [k1]; decide) with ⟨_, t, ht, _, hg⟩ | ⟨k2, _⟩
    · rw [hg]
      exact List.mem_map.2 ⟨t, (hm t).2 ⟨hl t ht, (hq t (hl t ht)).2 ht⟩, rfl⟩
    · rw [k1] at k2; exact absurd k2 (by decide))
  rw [List.length_map] at h1 h2
  omega
/-- a store is armed -/
theorem PA.armed (p : PA w n m b life a arm h sl X cn W) (k : Nat) (hk : k ≤ 100) :
    Calls Tryz.prog 10 #[.pointer (some ⟨b.sh, 0, none⟩), .int .i64 (k : Int)] W fun e' w' => e' = .returned (.tuple #[]) ∧ PA w n m b life a k h sl X cn w' ∧ OffB b W w' := by
  refine (Arm_at p.x.sw (k : Int) (by omega) (by omega)).mono ?_
  rintro e' w' ⟨rfl, y⟩
  have y' : SW W b.sh b.sc (shA life a k sl) w' := y
  have z : HW W b h (shA life a k sl) w' := HX.shelf p.x y' rfl
  exact ⟨rfl, p.next z p.S rfl (Nat.le_refl _) p.am p.um p.us hk p.s p.u p.c, z.o⟩
end
end Go.Proofs.YtlkllcnnnndllaaGreatDoor
