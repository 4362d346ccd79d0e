/- Calls that come in as a row; contracts for shelves of which only so much is known. -/
import Derived.Test.YtgnajmiccbcacaaDoorH6
namespace Go.Proofs.YtgnajmiccbcacaaDoor
open Go.RowKit
set_option linter.unusedVariables false

/-- a call that came in -/
structure Ac where
  kind : Int
  at' : Int
  text : List UInt8
  fates : Value
/-- calls as a slice, read in a world -/
def AC (w : World) (a : Option Addr) (l : List Ac) : Prop := ∀ i x, l[i]? = some x → ∃ sb off, a = some ⟨sb, off, none⟩ ∧ sb < w.heap.size ∧
  w.cell? ⟨sb, off + i * 4, none⟩ = some (.int .i64 x.kind) ∧ w.cell? ⟨sb, off + i * 4 + 1, none⟩ = some (.int .i64 x.at') ∧ w.cell? ⟨sb, off + i * 4 + 2, none⟩ = some (.string (M.bs x.text)) ∧ w.cell? ⟨sb, off + i * 4 + 3, none⟩ = some x.fates ∧
  (-9223372036854775808 ≤ x.at' ∧ x.at' ≤ 9223372036854775807) ∧ x.text.length ≤ maxLen ∧ (∃ a n c, x.fates = .slice a n c)
/-- so many slots, of so many bytes each -/
structure Ss (n : Nat) (l : List H.Sl) : Prop where
  n : l.length = n
  t : ∀ s ∈ l, s.text.length ≤ 640 ∧ s.sure.length ≤ 640
theorem Ss.sm {n : Nat} {l : List H.Sl} (h : Ss n l) (hn : n ≤ 128) (o : Bool) (m a f : Nat) (h1 : a ≤ 1000000) (h2 : f ≤ 1000000) (h3 : m ≤ 9223372036854775807) : Sm ⟨o, m, a, f, l⟩ :=
  ⟨by show l.length ≤ 128; rw [h.n]; exact hn, fun i s hs => h.t s (List.mem_of_getElem? hs), h1, h2, h3⟩
theorem Ss.new (n : Nat) : Ss n (List.replicate n s0) := ⟨by simp, fun s hs => by rw [List.eq_of_mem_replicate hs]; exact ⟨by decide, by decide⟩⟩
theorem Ss.sync {n : Nat} {l : List H.Sl} (h : Ss n l) : Ss n (l.map (fun s => H.settle s.text)) :=
  ⟨by simp [h.n], fun s hs => by obtain ⟨x, hx, rfl⟩ := List.mem_map.1 hs; exact ⟨(h.t x hx).1, (h.t x hx).1⟩⟩
theorem Ss.put {n : Nat} {l : List H.Sl} (h : Ss n l) (i : Nat) (t : List UInt8) (ht : t.length ≤ 640) : Ss n (l.modify i (fun s => { s with text := t, un := true })) := by
  refine ⟨by simp [h.n], fun s hs => ?_⟩
  obtain ⟨j, hj⟩ := List.mem_iff_getElem?.1 hs
  rw [List.getElem?_modify] at hj
  cases hl : l[j]? with
  | none => rw [hl] at hj; simp at hj
  | some x =>
    have hx := h.t x (List.mem_of_getElem? hl)
    rw [hl] at hj
    by_cases hij : i = j
    · simp [hij] at hj; subst hj; exact ⟨ht, hx.2⟩
    · simp [hij] at hj; subst hj; exact hx
theorem Ss.on {n : Nat} {l : List H.Sl} (h : Ss n l) (F : List Int) : Ss n (l.mapIdx (H.back F l)) := by
  refine ⟨by simp [h.n], fun s hs => ?_⟩
  obtain ⟨j, hj⟩ := List.mem_iff_getElem?.1 hs
  cases hl : l[j]? with
  | none => rw [List.getElem?_mapIdx, hl] at hj; simp at hj
  | some x =>
    have hx := h.t x (List.mem_of_getElem? hl)
    rw [back_at _ _ _ _ hl] at hj
    have := Option.some.inj hj
    subst this
    unfold H.back
    split
    · exact ⟨left_le _ _ hx.1 hx.2, left_le _ _ hx.1 hx.2⟩
    · exact hx
/-- a number, as a plain one, modulo m -/
def um (n : Int) (m : Nat) : Nat := (n % 18446744073709551616).toNat % m
theorem um_lt (n : Int) (m : Nat) (h : 0 < m) : um n m < m := Nat.mod_lt _ h
theorem um_wrap (n : Int) (m : Nat) : Int.tmod (IntKind.u64.wrap n) (m : Int) = (um n m : Int) := by
  have e : IntKind.u64.wrap n = ((n % 18446744073709551616).toNat : Int) := by
    simp only [IntKind.wrap, IntKind.bits, IntKind.signed]; simp; omega
  rw [e, tmod_nat]; rfl
end Go.Proofs.YtgnajmiccbcacaaDoor
