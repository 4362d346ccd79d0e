/- A machine in memory; what its stack's calls do. -/
import Derived.Test.YtodcafmhaleemaaDoorT1
import Derived.Laws.AppendOwnNone
import Derived.Deep.AppendLies
import Derived.Deep.RegionWith
namespace Go.Proofs.YtodcafmhaleemaaDoor
open Go.RowKit
set_option linter.unusedVariables false

theorem heap_setCell_rowM {w : World} {b i : Nat} {C : Array Value} {t : TypeId} {fr : Nat × Nat} {v : Value} (h : w.heap[b]? = some (.cells C t fr)) : (w.setCell ⟨b, i, none⟩ v).heap[b]? = some (.cells (C.setIfInBounds i v) t fr) := by
  show (w.heap.modify b _)[b]? = _
  rw [Array.getElem?_modify, if_pos rfl, h]; rfl
theorem lt_of_heapM {W : World} {b : Nat} {o : Obj} (h : W.heap[b]? = some o) : b < W.heap.size := by
  rcases Nat.lt_or_ge b W.heap.size with h' | h'
  · exact h'
  · rw [Array.getElem?_eq_none h'] at h; simp at h
theorem cell_rowM {w : World} {b : Nat} {C : List Value} {t : TypeId} (h : w.heap[b]? = some (.cells C.toArray t (0, 0))) (i : Nat) : w.cell? ⟨b, i, none⟩ = C[i]? := by
  simp [World.cell?, h]
theorem frozen_rowM {w : World} {b : Nat} {C : Array Value} {t : TypeId} (h : w.heap[b]? = some (.cells C t (0, 0))) (i : Nat) : w.frozen? ⟨b, i, none⟩ = false := by
  simp [World.frozen?, h]

/-- a stack st (the top first) lies in the first cell of the block b, whose other cells are r; its texts lie behind that block; what lay in the world w lies there still -/
structure SX (w : World) (b : Nat) (r : List Value) (st : List (List UInt8)) (v : Value) (W : World) : Prop where
  row : W.heap[b]? = some (.cells (v :: r).toArray 45 (0, 0))
  own : W.ownsRow (b + 1) 9 1 v st.length (st.reverse.map encS)
  g : GB w W
  hb : w.heap.size ≤ b
  z : 2 ≤ w.heap.size
  ok : Q.Oks st
section
variable {w W : World} {b : Nat} {r : List Value} {st : List (List UInt8)} {v : Value}
theorem SX.lt (h : SX w b r st v W) : b < W.heap.size := lt_of_heapM h.row
theorem SX.step (h : SX w b r st v W) {W' : World} (hb : Below W.heap.size W W') : SX w b r st v W' :=
  ⟨by rw [hb.block b h.lt]; exact h.row, ownsRow_below h.own hb, h.g.step hb, h.hb, h.z, h.ok⟩
theorem SX.alloc (h : SX w b r st v W) (o : Obj) : SX w b r st v (W.alloc o) := h.step ((Below.refl _ W).alloc (Nat.le_refl _) _)
theorem SX.drewN (h : SX w b r st v W) (n : Nat) : SX w b r st v (W.drewN n) := h.step (below_drewN (Below.refl _ _) n)
theorem SX.drew (h : SX w b r st v W) : SX w b r st v W.drew := h.step (Below.refl _ _).drew
theorem SX.c0 (h : SX w b r st v W) : W.cell? ⟨b, 0, none⟩ = some v := by rw [cell_rowM h.row]; rfl
theorem SX.fb (h : SX w b r st v W) (i : Nat) : W.frozen? ⟨b, i, none⟩ = false := frozen_rowM h.row i
theorem SX.shape (h : SX w b r st v W) : ∃ a c, v = .slice a st.length c := by
  have := h.own
  rw [show st.length = st.reverse.length by simp] at this
  obtain ⟨a, c, e⟩ := (strs_of_owns this).shape
  exact ⟨a, c, by rw [e]; simp⟩
theorem set0 (h1 : w.heap.size ≤ b) (h2 : 2 ≤ w.heap.size) (h3 : W.heap[b]? = some (.cells (v :: r).toArray 45 (0, 0))) (h4 : GB w W) (v' : Value) (st' : List (List UInt8)) (hown : W.ownsRow (b + 1) 9 1 v' st'.length (st'.reverse.map encS)) (hok : Q.Oks st') : SX w b r st' v' (W.setCell ⟨b, 0, none⟩ v') := by
  exact ⟨by rw [heap_setCell_rowM h3]; rfl, ownsRow_setCell_below hown (show b < b + 1 by omega) _, ⟨h4.g.below (Below.setCell (Below.refl b W) (Nat.le_refl _) _) (by omega), h4.b.trans (Below.setCell (Below.refl _ W) h1 _)⟩, h1, h2, hok⟩
theorem SX.set0 (h : SX w b r st v W) (v' : Value) (st' : List (List UInt8)) (hown : W.ownsRow (b + 1) 9 1 v' st'.length (st'.reverse.map encS)) (hok : Q.Oks st') : SX w b r st' v' (W.setCell ⟨b, 0, none⟩ v') :=
  Go.Proofs.YtodcafmhaleemaaDoor.set0 h.hb h.z h.row h.g v' st' hown hok
/-- a stack that is not empty: its block, its capacity, its top -/
theorem SX.cons {t : List UInt8} (h : SX w b r (t :: st) v W) : ∃ g cap, v = .slice (some ⟨g, 0, none⟩) (st.length + 1) cap ∧ b < g ∧ W.cell? ⟨g, st.length, none⟩ = some (.string (M.bs t)) ∧ W.ownsRow (b + 1) 9 1 (.slice (some ⟨g, 0, none⟩) st.length cap) st.length (st.reverse.map encS) := by
  obtain ⟨h0, ⟨_, h2⟩ | ⟨g, cap, cur, h1, h2, h3, h4, h5, h6, h7⟩⟩ := h.own
  · simp at h2
  · have hc : cur.size = cap := by omega
    have e : cur.toList.take (st.length + 1) = st.reverse.map encS ++ [encS t] := by
      have := h7; simp only [Nat.mul_one, List.length_cons, List.reverse_cons, List.map_append, List.map_cons, List.map_nil] at this; exact this
    have e1 : cur.toList.take st.length = st.reverse.map encS := by
      have := congrArg (List.take st.length) e
      rw [List.take_take, Nat.min_eq_left (by omega), List.take_append_of_le_length (by simp)] at this
      rw [this, List.take_of_length_le (by simp)]
    have e2 : cur[st.length]? = some (encS t) := by
      have := congrArg (fun l => l[st.length]?) e
      simp only [List.getElem?_take, List.getElem?_append_right (show (st.reverse.map encS).length ≤ st.length by simp)] at this
      simpa using this
    refine ⟨g, cap, h1, by omega, ?_, ⟨by simp, .inr ⟨g, cap, cur, rfl, h2, h3, by simp at h4; omega, h5, h6, by simpa using e1⟩⟩⟩
    simp only [World.cell?, h3]
    simpa [encS] using e2
end

set_option maxHeartbeats 1000000 in
theorem take_nil {w W : World} {b : Nat} {r : List Value} {v : Value} (h : SX w b r [] v W) :
    Calls Tryd.prog 27 #[.pointer (some ⟨b, 0, none⟩)] W fun e w' => e = .returned (.tuple #[.string ⟨#[]⟩, .bool false]) ∧ w' = W := by
  obtain ⟨a, c, rfl⟩ := h.shape
  have k0 := h.c0
  simp only [List.length_nil] at k0
  clear h
  go_enter Tryd.func27, Tryd.ntmps27
  go_wp2_with fail
  go_ret2
  exact ⟨rfl, rfl⟩
set_option maxHeartbeats 1000000 in
theorem take_cons {w W : World} {b : Nat} {r : List Value} {v : Value} {t : List UInt8} {st : List (List UInt8)} (h : SX w b r (t :: st) v W) :
    Calls Tryd.prog 27 #[.pointer (some ⟨b, 0, none⟩)] W fun e w' => e = .returned (.tuple #[.string (M.bs t), .bool true]) ∧ ∃ v', w' = W.setCell ⟨b, 0, none⟩ v' ∧ SX w b r st v' w' := by
  obtain ⟨g, cap, rfl, hg, kt, hown⟩ := h.cons
  have k0 := h.c0
  have f := h.fb
  have hn := h.ok.1
  simp only [List.length_cons] at hn
  have HS : Hid (SX w b r st (.slice (some ⟨g, 0, none⟩) st.length cap) (W.setCell ⟨b, 0, none⟩ (.slice (some ⟨g, 0, none⟩) st.length cap))) := h.set0 _ _ hown h.ok.tail
  have hcap : st.length + 1 ≤ cap := by
    obtain ⟨h0, ⟨h1, h2⟩ | ⟨g', cap', cur, h1, h2, h3, h4, h5⟩⟩ := h.own
    · simp at h1
    · simp only [Value.slice.injEq] at h1; simp at h4; omega
  clear h hown
  go_enter Tryd.func27, Tryd.ntmps27
  go_wp2_with fail
  go_ret2
  exact ⟨rfl, _, rfl, HS.out⟩
theorem info_partsM {o : Option TypeInfo} {z : Option Value} {s b : Nat} (h : o.map (fun i => (i.zero, i.size, i.bytes)) = some (z, s, b)) : ∃ i, o = some i ∧ i.zero = z ∧ i.size = s ∧ i.bytes = b := by
  cases o with
  | none => cases h
  | some i => simp only [Option.map_some, Option.some.injEq, Prod.mk.injEq] at h; exact ⟨i, rfl, h⟩
set_option maxHeartbeats 1000000 in
set_option maxRecDepth 8000 in
theorem put_at {w W : World} {b : Nat} {r : List Value} {v : Value} {st : List (List UInt8)} (t : List UInt8) (h : SX w b r st v W) (ht : t.length ≤ 1000000) :
    Calls Tryd.prog 38 #[.pointer (some ⟨b, 0, none⟩), .string (M.bs t)] W fun e w' => e = .returned (.int .i64 ((Q.put st t).1 : Int)) ∧ ∃ v', SX w b r (Q.put st t).2 v' w' := by
  obtain ⟨a, c, rfl⟩ := h.shape
  have k0 := h.c0
  have hn := h.ok.1
  have hs := M.bs_size t
  by_cases h8 : 8 ≤ st.length
  · have e : Q.put st t = (31, st) := by unfold Q.put; rw [if_pos h8]
    rw [e]
    have HH : Hid (SX w b r st (.slice a st.length c) W) := h
    clear h e
    go_enter Tryd.func38, Tryd.ntmps38
    go_wp2_with fail
    go_ret
    exact ⟨rfl, _, HH.out⟩
  · by_cases h5 : 512 < t.length
    · have e : Q.put st t = (33, st) := by unfold Q.put; rw [if_neg h8, if_pos h5]
      rw [e]
      have HH : Hid (SX w b r st (.slice a st.length c) W) := h
      clear h e
      go_enter Tryd.func38, Tryd.ntmps38
      go_wp2_with fail
      go_ret
      exact ⟨rfl, _, HH.out⟩
    · have e : Q.put st t = (0, t :: st) := by unfold Q.put; rw [if_neg h8, if_neg h5]
      have HOK : Hid (Q.Oks (t :: st)) := by
        have := Q.put_ok h.ok t
        rw [e] at this; exact this
      rw [e]
      clear e
      obtain ⟨i0, hi, hz0, hz1, hz2⟩ := info_partsM (show (Tryd.prog.info? 9).map (fun i => (i.zero, i.size, i.bytes)) = some (some (.string ByteArray.empty), 1, 16) by kernel_rfl)
      have HOW : Hid ((W.alloc (.cells #[.string (M.bs t)] 9)).ownsRow (b + 1) 9 1 (.slice a st.length c) st.length (st.reverse.map encS)) := World.ownsRow.alloc (w := W) h.own _
      have HA : Hid (SX w b r st (.slice a st.length c) (W.alloc (.cells #[.string (M.bs t)] 9))) := h.alloc _
      have hlt := h.lt
      have HLT : Hid (∀ q, (Value.slice a st.length c).ownBlock = some q → b + 1 ≤ q) := fun q hq => (h.own.lt q hq).1
      clear h
      go_enter Tryd.func38, Tryd.ntmps38
      go_wp2_with (at_builtin; refine wpList_append_own _ rfl _ _ 43 rfl (b + 1) 9 i0 (.string ByteArray.empty) 1 16 (by kernel_rfl) hi hz0 hz1 hz2 rfl (by decide) _ _ _ rfl HOW.out ⟨W.heap.size, 0, none⟩ 1 1 [.string (M.bs t)] rfl rfl (cell_one_new _ _ _) (fun x hx => by simp at hx; subst hx; rfl) (by unfold maxLen; omega) (by omega) (by simp; omega) ?_)
      intro v' w5 hown5 hg5 _
      have hsz5 : W.heap.size + 1 ≤ w5.heap.size := by have := hg5.size; simpa using this
      have hbl : w5.heap[b]? = some (.cells (.slice a st.length c :: r).toArray 45 (0, 0)) := by
        rw [hg5.block b (by simp; omega) (fun e => by have := HLT.out b e.symm; omega)]; exact HA.out.row
      have hG : GB w w5 := by
        have h1 := HA.out.hb
        have h2 := HA.out.z
        have hbe : Below b (W.alloc (.cells #[.string (M.bs t)] 9)) w5 := (Below.refl _ _).grown hg5 (by simp; omega) (fun q hq => by have := HLT.out q hq; omega)
        exact ⟨HA.out.g.g.below hbe (by omega), HA.out.g.b.trans (hbe.mono h1)⟩
      have HS : Hid (SX w b r (t :: st) v' (w5.setCell ⟨b, 0, none⟩ v')) := Go.Proofs.YtodcafmhaleemaaDoor.set0 HA.out.hb HA.out.z hbl hG v' (t :: st) (by simpa [encS] using hown5) HOK.out
      obtain ⟨a', c', rfl⟩ := HS.out.shape
      have k5 : w5.cell? ⟨b, 0, none⟩ = some (.slice a st.length c) := by rw [cell_rowM hbl]; rfl
      have f5 := frozen_rowM hbl
      clear hown5 hg5 hbl hG HOW HA HLT HOK
      go_wp2_with fail
      go_ret
      exact ⟨rfl, _, HS.out⟩
theorem drop_at {w W : World} {b : Nat} {r : List Value} {v : Value} {st : List (List UInt8)} (h : SX w b r st v W) :
    Calls Tryd.prog 43 #[.pointer (some ⟨b, 0, none⟩)] W fun e w' => e = .returned (.int .i64 ((Q.drop st).1 : Int)) ∧ ∃ v', SX w b r (Q.drop st).2 v' w' := by
  have HH : Hid (SX w b r st v W) := h
  clear h
  rcases st with _ | ⟨t, st⟩
  · unfold Q.drop
    go_enter Tryd.func43, Tryd.ntmps43
    go_wp2_with (go_at_call 27; refine (take_nil HH.out).mono ?_; rintro e w' ⟨rfl, rfl⟩)
    go_ret
    exact ⟨rfl, _, HH.out⟩
  · unfold Q.drop
    go_enter Tryd.func43, Tryd.ntmps43
    go_wp2_with (go_at_call 27; refine (take_cons HH.out).mono ?_; rintro e w' ⟨rfl, v', hw', HS⟩; clear hw')
    go_ret
    exact ⟨rfl, _, HS⟩
set_option maxHeartbeats 1000000 in
theorem double_at {w W : World} {b : Nat} {r : List Value} {v : Value} {st : List (List UInt8)} (h : SX w b r st v W) :
    Calls Tryd.prog 41 #[.pointer (some ⟨b, 0, none⟩)] W fun e w' => e = .returned (.int .i64 ((Q.double st).1 : Int)) ∧ ∃ v', SX w b r (Q.double st).2 v' w' := by
  rcases st with _ | ⟨t, st⟩
  · obtain ⟨a, c, rfl⟩ := h.shape
    have k0 := h.c0
    simp only [List.length_nil] at k0
    have HH : Hid (SX w b r [] (.slice a 0 c) W) := h
    clear h
    unfold Q.double
    go_enter Tryd.func41, Tryd.ntmps41
    go_wp2_with fail
    go_ret
    exact ⟨rfl, _, HH.out⟩
  · obtain ⟨g, cap, rfl, hg, kt, hown⟩ := h.cons
    have k0 := h.c0
    have hn := h.ok.1
    have ht := h.ok.2 t (by simp)
    simp only [List.length_cons] at hn
    have HH : Hid (SX w b r (t :: st) (.slice (some ⟨g, 0, none⟩) (st.length + 1) cap) W) := h
    have CP : Hid (∀ W', SX w b r (t :: st) (.slice (some ⟨g, 0, none⟩) (st.length + 1) cap) W' → Calls Tryd.prog 38 #[.pointer (some ⟨b, 0, none⟩), .string (M.bs t)] W' fun e w' => e = .returned (.int .i64 ((Q.double (t :: st)).1 : Int)) ∧ ∃ v', SX w b r (Q.double (t :: st)).2 v' w') := fun W' h => put_at t h (by omega)
    clear h hown
    generalize Q.double (t :: st) = R at *
    generalize st.length = k at *
    have hq : ((k : Int) + 1 == 0) = false := by simp; omega
    have hw1 : IntKind.i64.wrap (k : Int) = (k : Int) := by simp only [IntKind.wrap, IntKind.bits, IntKind.signed]; simp; omega
    have i0 : (0 : Int) ≤ (k : Int) := by omega
    have i1 : (k : Int) < (k : Int) + 1 := by omega
    go_enter Tryd.func41, Tryd.ntmps41
    go_wp2_with fail
    go_region_with (go_at_call 38; refine (CP.out _ (by first | exact HH.out | exact HH.out.drew)).mono ?_; rintro e w' ⟨rfl, HS⟩)
    all_goals go_wp2_with fail
    all_goals go_ret
    all_goals exact ⟨rfl, HS⟩
end Go.Proofs.YtodcafmhaleemaaDoor
