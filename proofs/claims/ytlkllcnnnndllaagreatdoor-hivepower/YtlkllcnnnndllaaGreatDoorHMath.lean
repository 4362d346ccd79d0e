/- A shelf as lists: what its calls do. No program is named here. -/
import Derived.Test.YtlkllcnnnndllaaGreatDoorMath
import Derived.WalkKit
namespace Go.Proofs.YtlkllcnnnndllaaGreatDoor.H

/-- a slot: its text, what was sure, whether it was written since -/
structure Sl where
  text : List UInt8
  sure : List UInt8
  un : Bool
/-- a shelf -/
structure Sh where
  off : Bool
  arm : Nat
  acts : Nat
  life : Nat
  sl : List Sl

/-- slots as cells -/
def slC : List Sl → List Value
  | [] => []
  | s :: r => .string (M.bs s.text) :: .string (M.bs s.sure) :: .bool s.un :: slC r
theorem slC_length (l : List Sl) : (slC l).length = 3 * l.length := by
  induction l with
  | nil => rfl
  | cons s r ih => simp [slC, ih]; omega
theorem slC_at (l : List Sl) : ∀ (i : Nat) (s : Sl), l[i]? = some s → (slC l)[i * 3]? = some (.string (M.bs s.text)) ∧ (slC l)[i * 3 + 1]? = some (.string (M.bs s.sure)) ∧ (slC l)[i * 3 + 2]? = some (.bool s.un) := by
  induction l with
  | nil => intro i s h; simp at h
  | cons x r ih =>
    intro i s h
    cases i with
    | zero => simp at h; subst h; exact ⟨rfl, rfl, rfl⟩
    | succ i =>
      have h' : r[i]? = some s := by simpa using h
      obtain ⟨h1, h2, h3⟩ := ih i s h'
      have e : (i + 1) * 3 = i * 3 + 1 + 1 + 1 := by omega
      have e1 : (i + 1) * 3 + 1 = i * 3 + 1 + 1 + 1 + 1 := by omega
      have e2 : (i + 1) * 3 + 2 = i * 3 + 2 + 1 + 1 + 1 := by omega
      refine ⟨?_, ?_, ?_⟩
      · rw [e]; simpa [slC] using h1
      · rw [e1]; simpa [slC] using h2
      · rw [e2]; simpa [slC] using h3
theorem slC_set (l : List Sl) : ∀ (i : Nat) (s : Sl), l[i]? = some s →
    (∀ t, (slC l).set (i * 3) (.string (M.bs t)) = slC (l.set i { s with text := t })) ∧ (∀ t, (slC l).set (i * 3 + 1) (.string (M.bs t)) = slC (l.set i { s with sure := t })) ∧ (∀ t, (slC l).set (i * 3 + 2) (.bool t) = slC (l.set i { s with un := t })) := by
  induction l with
  | nil => intro i s h; simp at h
  | cons x r ih =>
    intro i s h
    cases i with
    | zero => simp at h; subst h; exact ⟨fun _ => rfl, fun _ => rfl, fun _ => rfl⟩
    | succ i =>
      have h' : r[i]? = some s := by simpa using h
      obtain ⟨h1, h2, h3⟩ := ih i s h'
      have e : (i + 1) * 3 = i * 3 + 1 + 1 + 1 := by omega
      have e1 : (i + 1) * 3 + 1 = i * 3 + 1 + 1 + 1 + 1 := by omega
      have e2 : (i + 1) * 3 + 2 = i * 3 + 2 + 1 + 1 + 1 := by omega
      refine ⟨fun t => ?_, fun t => ?_, fun t => ?_⟩
      · rw [e]; simp [slC, h1 t]
      · rw [e1]; simp [slC, h2 t]
      · rw [e2]; simp [slC, h3 t]
/-- a shelf's own cells; its slots lie in block c -/
def shC (st : Sh) (c : Nat) : List Value := [.bool st.off, .int .i64 (st.arm : Int), .int .i64 (st.acts : Int), .int .i64 (st.life : Int), .slice (some ⟨c, 0, Option.none⟩) st.sl.length st.sl.length]

/-- an act while the power is on: the shelf behind it, and whether the power lasts -/
def act (st : Sh) : Sh := if st.arm = 0 then { st with acts := st.acts + 1 } else if st.arm = 1 then { st with off := true, arm := 0, acts := st.acts + 1, life := st.life + 1 } else { st with arm := st.arm - 1, acts := st.acts + 1 }
def lasts (st : Sh) : Bool := !(decide (st.arm = 1))
def cut (st : Sh) : Sh := if st.off then { st with arm := 0 } else { st with off := true, arm := 0, life := st.life + 1 }
/-- a text comes into a slot -/
def put (st : Sh) (i : Nat) (t : List UInt8) : Sh := { st with sl := st.sl.modify i (fun s => { s with text := t, un := true }) }
def settle (t : List UInt8) : Sl := ⟨t, t, false⟩
/-- all is sure -/
def sync (st : Sh) : Sh := { st with sl := st.sl.map (fun s => settle s.text) }
/-- a remainder from 0 on -/
def rem (n m : Int) : Int := if n.tmod m < 0 then n.tmod m + m else n.tmod m
/-- what a fate leaves of a slot -/
def left (s : Sl) (f : Int) : List UInt8 :=
  if rem f 3 = 0 then s.sure else if rem f 3 = 1 then s.text else
    s.text.take (rem (f.tdiv 3) ((s.text.length : Int) + 1)).toNat ++ s.sure.drop (rem (f.tdiv 3) ((s.text.length : Int) + 1)).toNat
/-- how many of the first k slots are unsure -/
def nx (l : List Sl) (k : Nat) : Nat := ((l.take k).filter (·.un)).length
/-- the i-th slot when the power is back -/
def back (F : List Int) (l : List Sl) (i : Nat) (s : Sl) : Sl := if s.un then settle (left s (F.getD (nx l i % F.length) 0)) else s
def on (F : List Int) (st : Sh) : Sh := { st with off := false, sl := st.sl.mapIdx (back (if F.length = 0 then [0] else F) st.sl) }
theorem nx_succ (l : List Sl) (k : Nat) (s : Sl) (h : l[k]? = some s) : nx l (k + 1) = nx l k + (if s.un then 1 else 0) := by
  unfold nx
  rw [List.take_add_one, h]
  cases hu : s.un <;> simp [hu]
theorem nx_le (l : List Sl) (k : Nat) : nx l k ≤ l.length := by
  unfold nx
  refine Nat.le_trans (List.length_filter_le _ _) ?_
  simp; omega

end Go.Proofs.YtlkllcnnnndllaaGreatDoor.H
