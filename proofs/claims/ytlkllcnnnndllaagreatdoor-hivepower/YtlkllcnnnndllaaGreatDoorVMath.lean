/- A store as lists: entries' texts, what is read of them; slots that have entries. No program is named here. -/
import Derived.Test.YtlkllcnnnndllaaGreatDoorMath
import Derived.Test.YtlkllcnnnndllaaGreatDoorSMath
import Derived.WalkKit
namespace Go.Proofs.YtlkllcnnnndllaaGreatDoor.V
set_option linter.unusedVariables false

def kb : List UInt8 := [98]
def kr : List UInt8 := [114]
def zd : List UInt8 := List.replicate 32 0
/-- a record -/
structure Rc where
  key : List UInt8
  code : Int
  out : List UInt8
def zr : Rc := ⟨zd, 0, zd⟩
def canB (r : Rc) : Bool := decide (0 ≤ r.code ∧ r.code ≤ 99 ∧ (r.code = 0 ∨ r.out = zd))
/-- an entry's text, of its row -/
def sealB (l : List (List UInt8)) : List UInt8 := S.sha (M.rowB l) ++ M.rowB l
def blobL (b : List UInt8) : List (List UInt8) := [kb, b]
def recL (r : Rc) : List (List UInt8) := [kr, r.key, M.numB r.code, r.out]
/-- what is in a slot's text -/
structure Ct where
  kind : List UInt8
  dig : List UInt8
  ck : List UInt8
  blob : List UInt8
  rc : Rc
/-- a slot of the store: its entry (free: no kind) and when it was used -/
structure En where
  kind : List UInt8
  dig : List UInt8
  ck : List UInt8
  used : Nat
def en0 : En := ⟨[], zd, zd, 0⟩

def unsl (t : List UInt8) : Option (List (List UInt8)) :=
  if t.length < 32 then none else if S.sha (t.drop 32) ≠ t.take 32 then none else
    match M.readRow (t.drop 32) 4 with
    | some (l, []) => some l
    | _ => none
def readBlob : List (List UInt8) → Option (List UInt8)
  | [k, b] => if k = kb ∧ b.length ≤ 512 then some b else none
  | _ => none
def readRec : List (List UInt8) → Option Rc
  | [k, a, n, o] => if k = kr ∧ a.length = 32 ∧ o.length = 32 then
      match M.readNum n with
      | some (c, []) => if canB ⟨a, c, o⟩ then some ⟨a, c, o⟩ else none
      | _ => none
    else none
  | _ => none
def decode (t : List UInt8) : Option Ct :=
  match unsl t with
  | none => none
  | some l =>
    match readBlob l with
    | some b => some ⟨kb, S.sha b, t.take 32, b, zr⟩
    | none =>
      match readRec l with
      | some r => some ⟨kr, r.key, t.take 32, [], r⟩
      | none => none

/-- where the entry of a name is -/
def findN (es : List En) (kind dig : List UInt8) : Option Nat := es.findIdx? (fun e => decide (e.kind ≠ [] ∧ e.kind = kind ∧ e.dig = dig))
/-- no two entries of one name -/
def Uq (es : List En) : Prop := ∀ (i j : Nat) (a b : En), es[i]? = some a → es[j]? = some b → a.kind ≠ [] → a.kind = b.kind → a.dig = b.dig → i = j
/-- how many entries -/
def cntN (es : List En) : Nat := (es.filter (fun e => decide (e.kind ≠ []))).length

theorem findN_some {es : List En} {k d : List UInt8} {i : Nat} (h : findN es k d = some i) : ∃ e, es[i]? = some e ∧ e.kind ≠ [] ∧ e.kind = k ∧ e.dig = d := by
  unfold findN at h
  rw [List.findIdx?_eq_some_iff_getElem] at h
  obtain ⟨hi, hp, _⟩ := h
  simp only [decide_eq_true_eq] at hp
  exact ⟨es[i], List.getElem?_eq_getElem hi, hp⟩
theorem findN_none {es : List En} {k d : List UInt8} (h : findN es k d = none) : ∀ (i : Nat) (e : En), es[i]? = some e → e.kind ≠ [] → e.kind = k → e.dig ≠ d := by
  unfold findN at h
  rw [List.findIdx?_eq_none_iff] at h
  intro i e he h1 h2 h3
  have := h e (List.mem_of_getElem? he)
  simp only [decide_eq_false_iff_not] at this
  exact this ⟨h1, h2, h3⟩
theorem findN_of {es : List En} {i : Nat} {e : En} (hU : Uq es) (he : es[i]? = some e) (h1 : e.kind ≠ []) : findN es e.kind e.dig = some i := by
  cases h : findN es e.kind e.dig with
  | none => exact absurd rfl (findN_none h i e he h1 rfl)
  | some j =>
    obtain ⟨e', he', g1, g2, g3⟩ := findN_some h
    rw [hU j i e' e he' he g1 g2 g3]
theorem findN_free (es : List En) (d : List UInt8) : findN es [] d = none := by
  unfold findN
  rw [List.findIdx?_eq_none_iff]
  intro e _
  simp only [decide_eq_false_iff_not]
  rintro ⟨h1, h2, _⟩
  exact h1 h2
theorem set_at {es : List En} {at' : Nat} (e : En) (h : at' < es.length) (i : Nat) (x : En) (hx : (es.set at' e)[i]? = some x) : (i = at' ∧ x = e) ∨ (i ≠ at' ∧ es[i]? = some x) := by
  by_cases hi : i = at'
  · subst hi
    rw [List.getElem?_set_self h] at hx
    exact .inl ⟨rfl, (Option.some.inj hx).symm⟩
  · rw [List.getElem?_set_ne (fun e => hi e.symm)] at hx
    exact .inr ⟨hi, hx⟩
/-- a slot becomes free -/
theorem Uq.free {es : List En} (hU : Uq es) (i : Nat) (f : En) (hf : f.kind = []) : Uq (es.set i f) := by
  intro a b x y hx hy h1 h2 h3
  by_cases hi : i < es.length
  · rcases set_at f hi a x hx with ⟨rfl, rfl⟩ | ⟨ha, hx'⟩
    · exact absurd hf h1
    · rcases set_at f hi b y hy with ⟨rfl, rfl⟩ | ⟨hb, hy'⟩
      · rw [h2] at h1; exact absurd hf h1
      · exact hU a b x y hx' hy' h1 h2 h3
  · rw [List.set_eq_of_length_le (by omega)] at hx hy
    exact hU a b x y hx hy h1 h2 h3
/-- an entry comes into a slot, whose name isn't there elsewhere -/
theorem Uq.fill {es : List En} (hU : Uq es) (i : Nat) (e : En) (hn : ∀ (j : Nat) (x : En), es[j]? = some x → j ≠ i → x.kind ≠ [] → x.kind = e.kind → x.dig ≠ e.dig) : Uq (es.set i e) := by
  intro a b x y hx hy h1 h2 h3
  by_cases hi : i < es.length
  · rcases set_at e hi a x hx with ⟨rfl, rfl⟩ | ⟨ha, hx'⟩
    · rcases set_at x hi b y hy with ⟨rfl, rfl⟩ | ⟨hb, hy'⟩
      · rfl
      · exact absurd h3.symm (hn b y hy' hb (h2 ▸ h1) h2.symm)
    · rcases set_at e hi b y hy with ⟨rfl, rfl⟩ | ⟨hb, hy'⟩
      · exact absurd h3 (hn a x hx' ha h1 h2)
      · exact hU a b x y hx' hy' h1 h2 h3
  · rw [List.set_eq_of_length_le (by omega)] at hx hy
    exact hU a b x y hx hy h1 h2 h3
theorem cntN_set (es : List En) : ∀ (i : Nat) (a e : En), es[i]? = some a → cntN (es.set i e) + (if a.kind = [] then 0 else 1) = cntN es + (if e.kind = [] then 0 else 1) := by
  induction es with
  | nil => intro i a e h; simp at h
  | cons x r ih =>
    intro i a e h
    cases i with
    | zero =>
      simp at h
      subst h
      by_cases h1 : x.kind = [] <;> by_cases h2 : e.kind = [] <;> simp [cntN, h1, h2]
    | succ i =>
      have h' : r[i]? = some a := by simpa using h
      have := ih i a e h'
      unfold cntN at this ⊢
      by_cases h1 : x.kind = [] <;> simp [h1] <;> simp at this <;> omega
theorem cntN_le (es : List En) : cntN es ≤ es.length := List.length_filter_le _ _
/-- of a slot that is set: what is found -/
theorem findN_set_other {es : List En} (hU : Uq es) (i : Nat) (a e : En) (ha : es[i]? = some a) (hU' : Uq (es.set i e)) (k d : List UInt8) (h1 : ¬ (a.kind = k ∧ a.dig = d)) (h2 : ¬ (e.kind = k ∧ e.dig = d)) : findN (es.set i e) k d = findN es k d := by
  have hi : i < es.length := (List.getElem?_eq_some_iff.1 ha).1
  cases h : findN es k d with
  | none =>
    cases h' : findN (es.set i e) k d with
    | none => rfl
    | some j =>
      obtain ⟨x, hx, g1, g2, g3⟩ := findN_some h'
      rcases set_at e hi j x hx with ⟨rfl, rfl⟩ | ⟨hj, hx'⟩
      · exact absurd ⟨g2, g3⟩ h2
      · exact absurd g3 (findN_none h j x hx' g1 g2)
  | some j =>
    obtain ⟨x, hx, g1, g2, g3⟩ := findN_some h
    have hj : j ≠ i := fun e' => by
      subst e'
      rw [hx] at ha
      cases ha
      exact h1 ⟨g2, g3⟩
    have hx' : (es.set i e)[j]? = some x := by rw [List.getElem?_set_ne (fun e => hj e.symm)]; exact hx
    have := findN_of hU' hx' g1
    rw [g2, g3] at this
    exact this
theorem findN_set_gone {es : List En} (hU : Uq es) (i : Nat) (a f : En) (ha : es[i]? = some a) (hf : f.kind = []) (hk : a.kind ≠ []) : findN (es.set i f) a.kind a.dig = none := by
  have hi : i < es.length := (List.getElem?_eq_some_iff.1 ha).1
  cases h' : findN (es.set i f) a.kind a.dig with
  | none => rfl
  | some j =>
    obtain ⟨x, hx, g1, g2, g3⟩ := findN_some h'
    rcases set_at f hi j x hx with ⟨rfl, rfl⟩ | ⟨hj, hx'⟩
    · exact absurd hf g1
    · exact absurd (hU j i x a hx' ha g1 g2 g3) hj

theorem unsl_seal (l : List (List UInt8)) (h : ∀ t ∈ l, t.length < 9223372036854775808) (hl : l.length ≤ 4) : unsl (sealB l) = some l := by
  have e1 : (sealB l).drop 32 = M.rowB l := List.drop_left' (S.sha_length _)
  have e2 : (sealB l).take 32 = S.sha (M.rowB l) := List.take_left' (S.sha_length _)
  have e3 : ¬ (sealB l).length < 32 := by unfold sealB; rw [List.length_append, S.sha_length]; omega
  unfold unsl
  rw [if_neg e3, e1, e2, if_neg (by simp)]
  have := M.readRow_rowB l [] 4 (by omega) h (by omega)
  rw [List.append_nil] at this
  rw [this]
theorem decode_blob (b : List UInt8) (hb : b.length ≤ 512) : decode (sealB (blobL b)) = some ⟨kb, S.sha b, S.sha (M.rowB (blobL b)), b, zr⟩ := by
  have e2 : (sealB (blobL b)).take 32 = S.sha (M.rowB (blobL b)) := List.take_left' (S.sha_length _)
  unfold decode
  rw [unsl_seal (blobL b) (by intro t ht; simp [blobL, kb] at ht; rcases ht with rfl | rfl <;> first | decide | omega) (by simp [blobL])]
  simp [readBlob, blobL, hb]
  exact e2
theorem decode_rec (r : Rc) (hk : r.key.length = 32) (ho : r.out.length = 32) (hc : canB r = true) : decode (sealB (recL r)) = some ⟨kr, r.key, S.sha (M.rowB (recL r)), [], r⟩ := by
  have hcc : 0 ≤ r.code ∧ r.code ≤ 99 := by unfold canB at hc; simp at hc; omega
  have e2 : (sealB (recL r)).take 32 = S.sha (M.rowB (recL r)) := List.take_left' (S.sha_length _)
  unfold decode
  rw [unsl_seal (recL r) (by intro t ht; simp [recL, kr] at ht; have := M.numB_len r.code; rcases ht with rfl | rfl | rfl | rfl <;> first | decide | omega) (by simp [recL])]
  have hn := M.readNum_numB r.code (by omega) (by omega) []
  rw [List.append_nil] at hn
  have hc' : canB ⟨r.key, r.code, r.out⟩ = true := hc
  simp [readBlob, readRec, recL, hk, ho, hn, hc']
  exact e2
/-- what is read of a text is what it is the text of -/
theorem decode_some {t : List UInt8} {c : Ct} (h : decode t = some c) : (c.kind = kb ∧ c.dig = S.sha c.blob ∧ c.blob.length ≤ 512 ∧ c.rc = zr ∧ t = sealB (blobL c.blob) ∧ c.ck = t.take 32) ∨ (c.kind = kr ∧ c.dig = c.rc.key ∧ c.blob = [] ∧ canB c.rc = true ∧ c.rc.key.length = 32 ∧ c.rc.out.length = 32 ∧ t = sealB (recL c.rc) ∧ c.ck = t.take 32) := by
  unfold decode at h
  cases hu : unsl t with
  | none => rw [hu] at h; simp at h
  | some l =>
    rw [hu] at h
    unfold unsl at hu
    split at hu
    · simp at hu
    · rename_i h32
      split at hu
      · simp at hu
      · rename_i hs
        simp only [ne_eq, Decidable.not_not] at hs
        split at hu
        · rename_i l' hr
          cases hu
          have hrow := (M.readRow_some _ _ _ _ hr).1
          rw [List.append_nil] at hrow
          have ht : t = sealB l := by
            unfold sealB
            rw [hrow, hs, List.take_append_drop]
          simp only at h
          cases hb : readBlob l with
          | some b =>
            rw [hb] at h
            simp only [Option.some.injEq] at h
            subst h
            left
            unfold readBlob at hb
            split at hb
            · split at hb
              · rename_i k b' hkb
                cases hb
                obtain ⟨rfl, h5⟩ := hkb
                exact ⟨rfl, rfl, h5, rfl, ht, rfl⟩
              · simp at hb
            · simp at hb
          | none =>
            rw [hb] at h
            simp only at h
            cases hc : readRec l with
            | none => rw [hc] at h; simp at h
            | some r =>
              rw [hc] at h
              simp only [Option.some.injEq] at h
              subst h
              right
              unfold readRec at hc
              split at hc
              · split at hc
                · rename_i k a n o hh
                  obtain ⟨rfl, h1, h2⟩ := hh
                  split at hc
                  · rename_i c hn
                    split at hc
                    · rename_i hcan
                      cases hc
                      have hnum := (M.readNum_some _ _ _ hn).1
                      rw [List.append_nil] at hnum
                      refine ⟨rfl, rfl, rfl, hcan, h1, h2, ?_, rfl⟩
                      rw [ht]
                      simp [recL, hnum]
                    · simp at hc
                  · simp at hc
                · simp at hc
              · simp at hc
        · simp at hu
end Go.Proofs.YtlkllcnnnndllaaGreatDoor.V
