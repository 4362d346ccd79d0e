/- A store of blobs alone: what its calls do, on lists. -/
import Derived.Test.YtlkllcnnnndllaaGreatDoorN15
namespace Go.Proofs.YtlkllcnnnndllaaGreatDoor
open Go.RowKit Go.Maps
set_option linter.unusedVariables false
set_option linter.unusedSimpArgs false

/-- a slot of a store of blobs -/
def enG : Option (List UInt8 × Nat) → V.En
  | none => V.en0
  | some (t, u) => ⟨V.kb, S.sha t, S.sha (M.rowB (V.blobL t)), u⟩
structure Ag where
  g : List (Option (List UInt8 × Nat))
  uses : Nat
  pins : List (List UInt8)
def Ag.es (A : Ag) : List V.En := A.g.map enG
def Ag.put (A : Ag) (i : Nat) (t : List UInt8) : Ag := { A with g := A.g.set i (some (t, A.uses + 1)), uses := A.uses + 1 }
def Ag.pin (A : Ag) (d : List UInt8) : Ag := { A with pins := d :: A.pins }
def hvA (life : Nat) (A : Ag) : Hv := ⟨life, A.es, A.uses, A.pins⟩
theorem Ag.len (A : Ag) : A.es.length = A.g.length := by simp [Ag.es]
theorem Ag.put_es (A : Ag) (i : Nat) (t : List UInt8) : (A.put i t).es = A.es.set i (enG (some (t, A.uses + 1))) := by simp [Ag.es, Ag.put, List.map_set]
theorem Ag.at (A : Ag) {i : Nat} {x : Option (List UInt8 × Nat)} (h : A.g[i]? = some x) : A.es[i]? = some (enG x) := by simp [Ag.es, h]
theorem use_hvA (life : Nat) (A : Ag) (i : Nat) (t : List UInt8) (u : Nat) : useV (hvA life A) i (enG (some (t, u))) = hvA life (A.put i t) := by
  unfold useV hvA
  rw [Ag.put_es]
  rfl
def enN (t : List UInt8) : V.En := ⟨V.kb, S.sha t, S.sha (M.rowB (V.blobL t)), 0⟩
theorem put_hvA (life : Nat) (A : Ag) (i : Nat) (t : List UInt8) : putV (hvA life A) i (enN t) = hvA life (A.put i t) := by
  unfold putV fillV dropV hvA
  simp only [List.set_set]
  rw [Ag.put_es]
  rfl
def Ag.fnd (A : Ag) (d : List UInt8) : Option Nat := V.findN A.es V.kb d
theorem Ag.fnd_some {A : Ag} {d : List UInt8} {i : Nat} (h : A.fnd d = some i) : ∃ t u, A.g[i]? = some (some (t, u)) ∧ S.sha t = d := by
  obtain ⟨e, he, hk, _, hd⟩ := V.findN_some h
  unfold Ag.es at he
  rw [List.getElem?_map] at he
  cases hg : A.g[i]? with
  | none => rw [hg] at he; simp at he
  | some x =>
    rw [hg] at he
    simp only [Option.map_some, Option.some.injEq] at he
    subst he
    cases x with
    | none => exact absurd rfl hk
    | some p => exact ⟨p.1, p.2, rfl, hd⟩
/-- where a blob that isn't there is written -/
def Ag.room (A : Ag) : Option Nat := if 0 ≤ freeI A.es then some (freeI A.es).toNat else if (oldS A.pins A.es A.es.length).2 = true then some (oldS A.pins A.es A.es.length).1 else none

structure BG (life : Nat) (b : HB) (A : Ag) (m a : Nat) (sl : List H.Sl) (W : World) : Prop where
  x : HW W b (hvA life A) (shOf life a sl) W
  am : a ≤ m
  um : A.uses ≤ m
  s : Ss A.g.length sl
  n : A.g.length ≤ 128
  l : life ≤ 1000
  t : ∀ (i : Nat) (t : List UInt8) (u : Nat), A.g[i]? = some (some (t, u)) → t.length ≤ 512 ∧ u ≤ A.uses ∧ ∃ z : H.Sl, sl[i]? = some z ∧ z.text = V.sealB (V.blobL t)
def BH (life : Nat) (b : HB) (A : Ag) (m : Nat) (W : World) : Prop := ∃ a sl, BG life b A m a sl W
section
variable {life m a : Nat} {b : HB} {A : Ag} {sl : List H.Sl} {W : World}
theorem BG.wider (B : BG life b A m a sl W) {m' : Nat} (h : m ≤ m') : BG life b A m' a sl W := ⟨B.x, Nat.le_trans B.am h, Nat.le_trans B.um h, B.s, B.n, B.l, B.t⟩
theorem BG.en (B : BG life b A m a sl W) (hn : True) : (hvA life A).es.length ≤ 128 := by show A.es.length ≤ 128; rw [A.len]; exact B.n
theorem BG.sm (B : BG life b A m a sl W) (hm : m ≤ 900000) : Sm (shOf life a sl) := B.s.sm B.n false 0 a life (by have := B.am; omega) (by have := B.l; omega) (by omega)
theorem BG.step (B : BG life b A m a sl W) {W' : World} (h : Below W.heap.size W W') : BG life b A m a sl W' := ⟨(HX.step B.x h).base, B.am, B.um, B.s, B.n, B.l, B.t⟩
theorem BG.of (B : BG life b A m a sl W) {W' : World} (h : HW W b (hvA life A) (shOf life a sl) W') : BG life b A m a sl W' := ⟨h.base, B.am, B.um, B.s, B.n, B.l, B.t⟩
theorem BG.used (B : BG life b A m a sl W) {W' : World} {i : Nat} {t : List UInt8} {u : Nat} (hg : A.g[i]? = some (some (t, u))) (h : HW W b (hvA life (A.put i t)) (shOf life a sl) W') : BG life b (A.put i t) (m + 3) a sl W' := by
  have hi : i < A.g.length := (List.getElem?_eq_some_iff.1 hg).1
  refine ⟨h.base, by have := B.am; omega, by have := B.um; show A.uses + 1 ≤ _; omega, by simpa [Ag.put] using B.s, by simpa [Ag.put] using B.n, B.l, fun j t' u' hj => ?_⟩
  by_cases hij : i = j
  · subst hij
    simp only [Ag.put] at hj
    rw [List.getElem?_set_self hi] at hj
    simp only [Option.some.injEq, Prod.mk.injEq] at hj
    obtain ⟨rfl, rfl⟩ := hj
    obtain ⟨h1, _, h3⟩ := B.t i t u hg
    exact ⟨h1, Nat.le_refl _, h3⟩
  · simp only [Ag.put] at hj
    rw [List.getElem?_set_ne hij] at hj
    obtain ⟨h1, h2, h3⟩ := B.t j t' u' hj
    exact ⟨h1, by show u' ≤ A.uses + 1; omega, h3⟩
def wrt (sl : List H.Sl) (i : Nat) (t : List UInt8) : List H.Sl := sl.modify i (fun s => { s with text := t, un := true })
theorem seal_len (t : List UInt8) (h : t.length ≤ 512) : (V.sealB (V.blobL t)).length ≤ 640 := by
  have h1 := M.numB_len 2
  have h2 := M.numB_len V.kb.length
  have h3 := M.numB_len t.length
  have hk : V.kb.length = 1 := rfl
  have hr : (M.rowB [V.kb, t]).length = (M.numB 2).length + ((M.numB V.kb.length).length + V.kb.length + ((M.numB t.length).length + t.length)) := by
    simp [M.rowB, M.textsB, M.textB]; omega
  rw [V.sealB, List.length_append, S.sha_length, V.blobL, hr]
  omega
theorem BG.wrote (B : BG life b A m a sl W) {W' : World} {i : Nat} {t : List UInt8} (hi : i < A.g.length) (ht : t.length ≤ 512) {a' : Nat} {sl' : List H.Sl} (ha : a' ≤ m + 3) (hS : Ss A.g.length sl') (ht1 : ∃ z : H.Sl, sl'[i]? = some z ∧ z.text = V.sealB (V.blobL t)) (hsl : ∀ j, j ≠ i → ∀ z, sl[j]? = some z → ∃ z', sl'[j]? = some z' ∧ z'.text = z.text)
    (h : HW W b (hvA life (A.put i t)) (shOf life a' sl') W') : BG life b (A.put i t) (m + 3) a' sl' W' := by
  refine ⟨h.base, ha, by have := B.um; show A.uses + 1 ≤ _; omega, by simpa [Ag.put] using hS, by simpa [Ag.put] using B.n, B.l, fun j t' u' hj => ?_⟩
  by_cases hij : i = j
  · subst hij
    simp only [Ag.put] at hj
    rw [List.getElem?_set_self hi] at hj
    simp only [Option.some.injEq, Prod.mk.injEq] at hj
    obtain ⟨rfl, rfl⟩ := hj
    exact ⟨ht, Nat.le_refl _, ht1⟩
  · simp only [Ag.put] at hj
    rw [List.getElem?_set_ne hij] at hj
    obtain ⟨h1, h2, z, hz, hzt⟩ := B.t j t' u' hj
    obtain ⟨z', hz', e⟩ := hsl j (fun e => hij e.symm) z hz
    exact ⟨h1, by show u' ≤ A.uses + 1; omega, z', hz', by rw [e, hzt]⟩
theorem BG.useds (B : BG life b A m a sl W) (hm : m ≤ 900000) : ∀ (i : Nat) (e : V.En), A.es[i]? = some e → e.used ≤ 2000000 := fun i e he => by
  unfold Ag.es at he
  rw [List.getElem?_map] at he
  cases hg : A.g[i]? with
  | none => rw [hg] at he; simp at he
  | some x =>
    rw [hg] at he
    simp only [Option.map_some, Option.some.injEq] at he
    subst he
    cases x with
    | none => exact Nat.zero_le _
    | some p =>
      have := (B.t i p.1 p.2 hg).2.1
      have := B.um
      show p.2 ≤ _
      omega

def ctB (t : List UInt8) : V.Ct := ⟨V.kb, S.sha t, S.sha (M.rowB (V.blobL t)), t, V.zr⟩
theorem ctB_len (t : List UInt8) : (ctB t).dig.length = 32 ∧ (ctB t).ck.length = 32 ∧ Rc32 (ctB t).rc := ⟨S.sha_length _, S.sha_length _, zr32⟩
theorem ctB_size (t : List UInt8) : (cv (ctB t)).size = 131 := by
  have h := ctB_len t
  show (cvL (ctB t)).toArray.size = 131
  rw [List.size_toArray]; exact cvL_length h.1 h.2.1 h.2.2
theorem BG.ask_yes (B : BG life b A m a sl W) (hm : m ≤ 900000) {d : List UInt8} {i : Nat} (hf : A.fnd d = some i) {t : List UInt8} {u : Nat} (hg : A.g[i]? = some (some (t, u))) {w' W' : World} (y : HW w' b (hvA life A) (shOf life a sl) W') :
    Calls Tryz.prog 30 #[.pointer (some ⟨b.hv, 0, none⟩), .agg (nmv V.kb d)] W' fun e' w'' => e' = .returned (.tuple #[.agg (cv (ctB t)), .bool true]) ∧ HW w' b (hvA life (A.put i t)) (shOf life a sl) w'' := by
  obtain ⟨t', u', hg', hd⟩ := Ag.fnd_some hf
  rw [hg] at hg'
  simp only [Option.some.injEq, Prod.mk.injEq] at hg'
  obtain ⟨rfl, rfl⟩ := hg'
  have hd32 : d.length = 32 := by rw [← hd]; exact S.sha_length _
  obtain ⟨ht, _, z, hz, hzt⟩ := B.t i t u hg
  have he : (hvA life A).es[i]? = some (enG (some (t, u))) := A.at hg
  have hdc : V.decode z.text = some (ctB t) := by rw [hzt]; exact V.decode_blob t ht
  have := Go.Proofs.YtlkllcnnnndllaaGreatDoor.ask_yes y V.kb d hd32 (c := ctB t) he (B.en trivial) (by have := B.um; show A.uses ≤ _; omega) (ctB_len t)
    (fun W2 y2 => look_yes y2 V.kb d (by decide) hd32 (by exact hf) he (B.en trivial) rfl hz (B.s.t z (List.mem_of_getElem? hz)).1 hdc ⟨rfl, rfl, rfl⟩)
  rw [use_hvA] at this
  exact this
theorem BG.ask_no (B : BG life b A m a sl W) {d : List UInt8} (hd : d.length = 32) (hf : A.fnd d = none) {w' W' : World} (y : HW w' b (hvA life A) (shOf life a sl) W') :
    Calls Tryz.prog 30 #[.pointer (some ⟨b.hv, 0, none⟩), .agg (nmv V.kb d)] W' fun e' w'' => e' = .returned (.tuple #[.agg (cv zc), .bool false]) ∧ HW w' b (hvA life A) (shOf life a sl) w'' :=
  Go.Proofs.YtlkllcnnnndllaaGreatDoor.ask_no y V.kb d hd (fun W2 y2 => look_none y2 V.kb d (by decide) hd hf)
end
section
variable {life m : Nat} {b : HB} {A : Ag} {W : World}
theorem BH.step (B : BH life b A m W) {W' : World} (h : Below W.heap.size W W') : BH life b A m W' := by obtain ⟨a, sl, B⟩ := B; exact ⟨a, sl, B.step h⟩
theorem BH.wider (B : BH life b A m W) {m' : Nat} (h : m ≤ m') : BH life b A m' W := by obtain ⟨a, sl, B⟩ := B; exact ⟨a, sl, B.wider h⟩
theorem BH.lt (B : BH life b A m W) {k : Nat} (hk : b.mem k) : k < W.heap.size := by obtain ⟨a, sl, B⟩ := B; exact HX.lt B.x hk
theorem BH.gw (B : BH life b A m W) : GW W := by obtain ⟨a, sl, B⟩ := B; exact B.x.g
theorem Blob_yes (B : BH life b A m W) (hm : m ≤ 900000) {d : List UInt8} {i : Nat} (hf : A.fnd d = some i) {t : List UInt8} {u : Nat} (hg : A.g[i]? = some (some (t, u))) :
    Calls Tryz.prog 17 #[.pointer (some ⟨b.hv, 0, none⟩), .agg (dg d)] W fun e' w' => e' = .returned (.tuple #[.string (M.bs t), .bool true]) ∧ BH life b (A.put i t) (m + 3) w' ∧ OffB b W w' := by
  obtain ⟨a, sl, B⟩ := B
  obtain ⟨t', u', hg', hd⟩ := Ag.fnd_some hf
  have hd32 : d.length = 32 := by rw [← hd]; exact S.sha_length _
  have h65 := cv_65 (c := ctB t) (ctB_len t).1 (ctB_len t).2.1
  refine (Blob_x B.x d hd32 (ctB t) true (ctB_size t) h65 (fun W' y => B.ask_yes hm hf hg y)).mono ?_
  rintro e' w' ⟨rfl, y⟩
  exact ⟨rfl, ⟨a, sl, B.used hg y⟩, y.o⟩
theorem Blob_no (B : BH life b A m W) {d : List UInt8} (hd : d.length = 32) (hf : A.fnd d = none) :
    Calls Tryz.prog 17 #[.pointer (some ⟨b.hv, 0, none⟩), .agg (dg d)] W fun e' w' => e' = .returned (.tuple #[.string (M.bs []), .bool false]) ∧ BH life b A (m + 3) w' ∧ OffB b W w' := by
  obtain ⟨a, sl, B⟩ := B
  have h65 := cv_65 (c := zc) zd_length zd_length
  refine (Blob_x B.x d hd zc false zc_size h65 (fun W' y => B.ask_no hd hf y)).mono ?_
  rintro e' w' ⟨rfl, y⟩
  exact ⟨rfl, ⟨a, sl, (B.of y).wider (by omega)⟩, y.o⟩
theorem PutBlob_is (B : BH life b A m W) (hm : m ≤ 900000) (s : List UInt8) (hs : s.length ≤ 512) {i : Nat} (hf : A.fnd (S.sha s) = some i) {t : List UInt8} {u : Nat} (hg : A.g[i]? = some (some (t, u))) :
    Calls Tryz.prog 11 #[.pointer (some ⟨b.hv, 0, none⟩), .string (M.bs s)] W fun e' w' => e' = .returned (.tuple #[.agg (dg (S.sha s)), .int .i64 0]) ∧ BH life b (A.put i t) (m + 3) w' ∧ OffB b W w' := by
  obtain ⟨a, sl, B⟩ := B
  refine (PutBlob_there B.x rfl rfl s hs (ctB t) (ctB_size t) (fun W' y => B.ask_yes hm hf hg y)).mono ?_
  rintro e' w' ⟨rfl, y⟩
  exact ⟨rfl, ⟨a, sl, B.used hg y⟩, y.o⟩
theorem PutBlob_full (B : BH life b A m W) (hm : m ≤ 900000) (s : List UInt8) (hs : s.length ≤ 512) (hf : A.fnd (S.sha s) = none) (hr : A.room = none) :
    Calls Tryz.prog 11 #[.pointer (some ⟨b.hv, 0, none⟩), .string (M.bs s)] W fun e' w' => e' = .returned (.tuple #[.agg zero32, .int .i64 11]) ∧ BH life b A (m + 3) w' ∧ OffB b W w' := by
  obtain ⟨a, sl, B⟩ := B
  unfold Ag.room at hr
  have h1 : ¬ 0 ≤ freeI A.es := fun h => by rw [if_pos h] at hr; cases hr
  rw [if_neg h1] at hr
  have h2 : (oldS A.pins A.es A.es.length).2 = false := by
    cases h : (oldS A.pins A.es A.es.length).2 with
    | false => rfl
    | true => rw [h] at hr; simp at hr
  have h3 : freeI A.es = -1 := by
    unfold freeI at h1 ⊢
    split at h1 <;> first | omega | rfl
  refine (PutBlob_err B.x rfl rfl s hs 11 (by decide) (fun W' y => B.ask_no (S.sha_length _) hf y) (fun W' y => put_err y V.kb (S.sha s) (S.sha (M.rowB (V.blobL s))) (V.sealB (V.blobL s)) 11 (by decide) (fun W2 y2 => room_full y2 (B.en trivial) h3 (B.useds hm) _ (by rw [← h2]; rfl)))).mono ?_
  rintro e' w' ⟨rfl, y⟩
  exact ⟨rfl, ⟨a, sl, (B.of y).wider (by omega)⟩, y.o⟩
theorem wrt_at {sl : List H.Sl} {i j : Nat} {t : List UInt8} (h : j ≠ i) : (wrt sl i t)[j]? = sl[j]? := by
  unfold wrt; rw [List.getElem?_modify]; cases sl[j]? <;> simp [Ne.symm h]
theorem wrt_self {sl : List H.Sl} {i : Nat} {t : List UInt8} (h : i < sl.length) : ∃ z, (wrt sl i t)[i]? = some z ∧ z.text = t := by
  unfold wrt; rw [List.getElem?_modify, List.getElem?_eq_getElem h]; exact ⟨{ sl[i] with text := t, un := true }, by simp, rfl⟩
theorem PutBlob_new (B : BH life b A m W) (hm : m ≤ 900000) (s : List UInt8) (hs : s.length ≤ 512) (hf : A.fnd (S.sha s) = none) {i : Nat} (hr : A.room = some i) :
    Calls Tryz.prog 11 #[.pointer (some ⟨b.hv, 0, none⟩), .string (M.bs s)] W fun e' w' => e' = .returned (.tuple #[.agg (dg (S.sha s)), .int .i64 0]) ∧ BH life b (A.put i s) (m + 3) w' ∧ OffB b W w' := by
  obtain ⟨a, sl, B⟩ := B
  have e32 : En32 (enN s) := ⟨S.sha_length _, S.sha_length _, by show V.kb.length ≤ 1; decide⟩
  have hsl := seal_len s hs
  have hnl : sl.length = A.g.length := B.s.n
  have hel := A.len
  have ham := B.am
  have hll := B.l
  unfold Ag.room at hr
  by_cases h1 : 0 ≤ freeI A.es
  · rw [if_pos h1] at hr
    have h2 : freeI A.es = (i : Int) := by simp only [Option.some.injEq] at hr; omega
    have hi : i < A.g.length := by
      rw [← hel]
      unfold freeI at h2
      split at h2
      · rename_i j hj
        have := (List.findIdx?_eq_some_iff_getElem.1 hj).1
        omega
      · omega
    obtain ⟨z, hz⟩ : ∃ z, sl[i]? = some z := ⟨sl[i]'(by omega), List.getElem?_eq_getElem _⟩
    have CP : ∀ W', HW W' b (hvA life A) (shOf life a sl) W' → Calls Tryz.prog 31 #[.pointer (some ⟨b.hv, 0, none⟩), .agg (ev V.kb (S.sha s) (S.sha (M.rowB (V.blobL s)))), .string (M.bs (V.sealB (V.blobL s)))] W' fun e' w' => e' = .returned (.int .i64 0) ∧ HW W' b (hvA life (A.put i s)) (shOf life (a + 1) (wrt sl i (V.sealB (V.blobL s)))) w' := fun W' y => by
      have := put_ok y e32 (by show V.kb ≠ []; decide) hf (B.en trivial) (by have := B.um; show A.uses ≤ _; omega) (V.sealB (V.blobL s)) hsl i (fun W2 y2 => room_free y2 (B.en trivial) i h2) (by show i < A.es.length; omega) hz (B.sm hm) rfl (by show (0 : Nat) ≠ 1; decide)
      rw [put_hvA] at this
      exact this
    refine (PutBlob_ok B.x rfl rfl s hs (fun W' y => B.ask_no (S.sha_length _) hf y) CP).mono ?_
    rintro e' w' ⟨rfl, y⟩
    exact ⟨rfl, ⟨_, _, B.wrote hi hs (by omega) (B.s.put i _ hsl) (wrt_self (by omega)) (fun j hj z hz => ⟨z, (wrt_at hj).trans hz, rfl⟩) y⟩, y.o⟩
  · rw [if_neg h1] at hr
    have h3 : freeI A.es = -1 := by
      unfold freeI at h1 ⊢
      split at h1 <;> first | omega | rfl
    cases h2 : (oldS A.pins A.es A.es.length).2 with
    | false => rw [h2] at hr; simp at hr
    | true =>
      rw [h2, if_pos rfl] at hr
      simp only [Option.some.injEq] at hr
      have ho : oldS A.pins A.es A.es.length = (i, true) := by rw [← hr, ← h2]
      have hi : i < A.g.length := by
        have := (oldS_lt A.pins A.es A.es.length h2).2
        omega
      have S1 : Ss A.g.length (wrt sl i []) := B.s.put i [] (by simp)
      have S2 : Ss A.g.length ((wrt sl i []).map (fun s => H.settle s.text)) := S1.sync
      obtain ⟨z, hz⟩ : ∃ z, ((wrt sl i []).map (fun s => H.settle s.text))[i]? = some z := ⟨((wrt sl i []).map (fun s => H.settle s.text))[i]'(by rw [S2.n]; exact hi), List.getElem?_eq_getElem _⟩
      have CP : ∀ W', HW W' b (hvA life A) (shOf life a sl) W' → Calls Tryz.prog 31 #[.pointer (some ⟨b.hv, 0, none⟩), .agg (ev V.kb (S.sha s) (S.sha (M.rowB (V.blobL s)))), .string (M.bs (V.sealB (V.blobL s)))] W' fun e' w' => e' = .returned (.int .i64 0) ∧ HW W' b (hvA life (A.put i s)) (shOf life (a + 3) (wrt ((wrt sl i []).map (fun s => H.settle s.text)) i (V.sealB (V.blobL s)))) w' := fun W' y => by
        have := put_ok (st1 := shOf life (a + 2) ((wrt sl i []).map (fun s => H.settle s.text))) y e32 (by show V.kb ≠ []; decide) hf (B.en trivial) (by have := B.um; show A.uses ≤ _; omega) (V.sealB (V.blobL s)) hsl i
          (fun W2 y2 => room_evict y2 (B.en trivial) h3 (B.useds hm) i ho rfl rfl (B.sm hm) (S1.sm B.n false 0 (a + 1) life (by omega) (by omega) (by omega))) (by show i < A.es.length; omega) hz (S2.sm B.n false 0 (a + 2) life (by omega) (by omega) (by omega)) rfl (by show (0 : Nat) ≠ 1; decide)
        rw [put_hvA] at this
        exact this
      refine (PutBlob_ok B.x rfl rfl s hs (fun W' y => B.ask_no (S.sha_length _) hf y) CP).mono ?_
      rintro e' w' ⟨rfl, y⟩
      refine ⟨rfl, ⟨_, _, B.wrote hi hs (by omega) (S2.put i _ hsl) (wrt_self (by rw [S2.n]; exact hi)) (fun j hj z hz => ⟨H.settle z.text, ?_, rfl⟩) y⟩, y.o⟩
      refine (wrt_at hj).trans ?_
      rw [List.getElem?_map, wrt_at hj, hz]
      rfl
theorem Len_g (B : BH life b A m W) : Calls Tryz.prog 22 #[.pointer (some ⟨b.hv, 0, none⟩)] W fun e' w' => e' = .returned (.int .i64 ((V.cntN A.es : Nat) : Int)) ∧ w' = W := by
  obtain ⟨a, sl, B⟩ := B
  exact Len_x B.x
end
end Go.Proofs.YtlkllcnnnndllaaGreatDoor
