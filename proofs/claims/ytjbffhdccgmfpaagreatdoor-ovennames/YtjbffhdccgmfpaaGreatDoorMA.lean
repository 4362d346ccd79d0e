/- The texts T1 T2 T3 T4 T5 T6 as one. -/
import Derived.Test.YtjbffhdccgmfpaaGreatDoorQMath
import Derived.Test.YtjbffhdccgmfpaaGreatDoorGT
import Derived.Laws.AppendOwnNone
import Derived.Deep.AppendLies
import Derived.Deep.RegionWith
import Derived.BigRegion
import Derived.Lib.ConvBytes
/- Leaves of mill: number, width, stepAt, wide, joined, compared. -/
namespace Go.Proofs.YtjbffhdccgmfpaaGreatDoor
open Go.RowKit
set_option linter.unusedVariables false

theorem idx_at (s : List UInt8) (k : Nat) (x : UInt8) (h : s[k]? = some x) (W : World) : (Instr.index 9 (.string (M.bs s)) (.int .i64 (k : Int))).run Tryz.prog W = .ok (.int .u8 (x.toNat : Int)) W := by
  have hk : k < s.length := (List.getElem?_eq_some_iff.1 h).1
  have hs := M.bs_size s
  simp [Instr.index, run_underlying Tryz.underlying9, asIntOf, go_sem, hk, hs]
  have : (M.bs s)[k]'(by rw [hs]; exact hk) = x := by
    have h2 := getB (M.bs s) k (by rw [hs]; exact hk)
    rw [M.bs_toList, h] at h2
    exact (Option.some.inj h2).symm
  rw [this]
theorem idx_0 (s : List UInt8) (x : UInt8) (h : s[0]? = some x) (W : World) : (Instr.index 9 (.string (M.bs s)) (.int .i64 0)).run Tryz.prog W = .ok (.int .u8 (x.toNat : Int)) W := idx_at s 0 x h W
theorem idx_1 (s : List UInt8) (x : UInt8) (h : s[1]? = some x) (W : World) : (Instr.index 9 (.string (M.bs s)) (.int .i64 1)).run Tryz.prog W = .ok (.int .u8 (x.toNat : Int)) W := idx_at s 1 x h W

theorem numberM_at (s : List UInt8) (x : UInt8) (h : s[1]? = some x) (W : World) : Calls Tryz.prog 119 #[.string (M.bs s)] W fun e w' => e = .returned (.int .i64 (x.toNat : Int)) ∧ w' = W := by
  have hi := idx_1 s x h
  have hx := x.toNat_lt
  go_enter Tryz.func119, Tryz.ntmps119
  go_wp2_with fail
  go_ret
  exact ⟨rfl, rfl⟩
theorem wide_is (t : List UInt8) (h : t.length ≤ 9223372036854775807) (W : World) : Calls Tryz.prog 89 #[.string (M.bs t)] W fun e w' => e = .returned (.bool (decide (512 < t.length))) ∧ w' = W := by
  have hs := M.bs_size t
  have hq : decide ((512 : Int) < (t.length : Int)) = decide (512 < t.length) := by congr 1; simp; omega
  obtain ⟨q, hq2⟩ : ∃ q, decide (512 < t.length) = q := ⟨_, rfl⟩
  rw [hq2] at hq ⊢
  clear hq2
  go_enter Tryz.func89, Tryz.ntmps89
  go_wp2_with fail
  go_ret
  exact ⟨rfl, rfl⟩
theorem u8_is (c d : UInt8) : ((c.toNat : Int) = (d.toNat : Int)) = (c = d) := by
  apply propext
  constructor
  · intro h; exact UInt8.toNat_inj.1 (by omega)
  · rintro rfl; rfl
/-- width, by the byte's number -/
def wid (c : Int) (n : Nat) (k : Nat) : Nat :=
  if c = 99 ∨ c = 100 ∨ c = 115 ∨ c = 120 ∨ c = 114 ∨ c = 104 ∨ c = 108 ∨ c = 61 then 1 else if c = 105 ∨ c = 116 ∨ c = 107 ∨ c = 106 ∨ c = 103 then 2 else if c = 112 then (if n < 2 then 2 else 2 + k) else 0
theorem wid_is (s : List UInt8) (c : UInt8) (h0 : s[0]? = some c) : Q.width s = wid (c.toNat : Int) s.length (s.getD 1 0).toNat := by
  have hg : s.getD 0 0 = c := by rw [List.getD_eq_getElem?_getD, h0]; rfl
  have key : ∀ d : UInt8, ((c.toNat : Int) = (d.toNat : Int)) = (c = d) := u8_is c
  have e0 : ((c.toNat : Int) = 99) = (c = 99) := key 99
  have e1 : ((c.toNat : Int) = 100) = (c = 100) := key 100
  have e2 : ((c.toNat : Int) = 115) = (c = 115) := key 115
  have e3 : ((c.toNat : Int) = 120) = (c = 120) := key 120
  have e4 : ((c.toNat : Int) = 114) = (c = 114) := key 114
  have e5 : ((c.toNat : Int) = 104) = (c = 104) := key 104
  have e6 : ((c.toNat : Int) = 108) = (c = 108) := key 108
  have e7 : ((c.toNat : Int) = 61) = (c = 61) := key 61
  have e8 : ((c.toNat : Int) = 105) = (c = 105) := key 105
  have e9 : ((c.toNat : Int) = 116) = (c = 116) := key 116
  have e10 : ((c.toNat : Int) = 107) = (c = 107) := key 107
  have e11 : ((c.toNat : Int) = 106) = (c = 106) := key 106
  have e12 : ((c.toNat : Int) = 103) = (c = 103) := key 103
  have e13 : ((c.toNat : Int) = 112) = (c = 112) := key 112
  unfold Q.width wid Q.one Q.two
  rw [hg]
  simp only [Bool.or_eq_true, beq_iff_eq, e0, e1, e2, e3, e4, e5, e6, e7, e8, e9, e10, e11, e12, e13, or_assoc]
set_option maxRecDepth 8000 in
set_option maxHeartbeats 1000000 in
theorem width_at (s : List UInt8) (c : UInt8) (h0 : s[0]? = some c) (hl : s.length ≤ 9223372036854775807) (W : World) : Calls Tryz.prog 117 #[.string (M.bs s)] W fun e w' => e = .returned (.int .i64 (Q.width s : Int)) ∧ w' = W := by
  have hi := idx_0 s c h0
  have hs := M.bs_size s
  have HW : Hid (Q.width s = wid (c.toNat : Int) s.length (s.getD 1 0).toNat) := wid_is s c h0
  have CN : Hid (2 ≤ s.length → ∀ W, Calls Tryz.prog 119 #[.string (M.bs s)] W fun e w' => e = .returned (.int .i64 ((s.getD 1 0).toNat : Int)) ∧ w' = W) := fun h2 W => by
    have h1 : s[1]? = some (s.getD 1 0) := by rw [List.getD_eq_getElem?_getD, List.getElem?_eq_getElem (by omega)]; rfl
    exact numberM_at s _ h1 W
  have hb := (s.getD 1 0).toNat_lt
  generalize (s.getD 1 0).toNat = k at *
  generalize Q.width s = wd at *
  generalize (c.toNat : Int) = cc at *
  clear h0
  go_enter Tryz.func117, Tryz.ntmps117
  go_wp2_with (go_at_call 119; refine (CN.out (by omega) _).mono ?_; rintro e w' ⟨rfl, rfl⟩)
  all_goals go_ret
  all_goals refine ⟨?_, rfl⟩
  all_goals (rw [HW.out]; clear HW CN; unfold wid)
  all_goals (refine congrArg Ending.returned (congrArg (Value.int IntKind.i64) ?_); simp only [beq_iff_eq, beq_eq_false_iff_ne, ne_eq] at *; repeat' split)
  all_goals first | rfl | omega

/-- what stepAt answers -/
def saV : Option (List UInt8) → Value
  | none => .tuple #[.string ⟨#[]⟩, .bool false]
  | some s => .tuple #[.string (M.bs s), .bool true]
theorem cut_bs (s : List UInt8) (a b : Nat) : (M.bs s).extract a b = M.bs ((s.drop a).take (b - a)) := by
  rw [Lib.extract_eq]
  simp [M.bs]
set_option maxRecDepth 8000 in
set_option maxHeartbeats 1000000 in
theorem stepAt_at (code : List UInt8) (k : Nat) (hl : code.length ≤ 1000) (hk : k ≤ 1000000) (W : World) :
    Calls Tryz.prog 107 #[.string (M.bs code), .int .i64 (k : Int)] W fun e w' => e = .returned (saV (Q.stepAt code k)) ∧ w' = W := by
  have hs := M.bs_size code
  by_cases h1 : code.length ≤ k
  · have e : Q.stepAt code k = none := by unfold Q.stepAt Q.first; rw [if_pos (List.drop_of_length_le h1)]
    rw [e]
    clear e
    unfold saV
    go_enter Tryz.func107, Tryz.ntmps107
    go_wp2_with fail
    go_ret2
    exact ⟨rfl, rfl⟩
  · have hd : (code.drop k).length = code.length - k := by simp
    have hne : code.drop k ≠ [] := fun e => by rw [e] at hd; simp at hd; omega
    obtain ⟨c, hc⟩ : ∃ c, (code.drop k)[0]? = some c := ⟨(code.drop k)[0]'(by omega), List.getElem?_eq_getElem (by omega)⟩
    have hx : (M.bs code).extract k code.length = M.bs (code.drop k) := by rw [← hs]; exact drop_bs code k
    have CW : Hid (∀ W, Calls Tryz.prog 117 #[.string (M.bs (code.drop k))] W fun e w' => e = .returned (.int .i64 (Q.width (code.drop k) : Int)) ∧ w' = W) := fun W => width_at _ c hc (by omega) W
    have hwl : Q.width (code.drop k) ≤ 300 := by
      unfold Q.width
      have := ((code.drop k).getD 1 0).toNat_lt
      repeat' split
      all_goals omega
    have HQ : Hid (Q.stepAt code k = if Q.width (code.drop k) = 0 ∨ (code.drop k).length < Q.width (code.drop k) then none else some ((code.drop k).take (Q.width (code.drop k)))) := by
      show _ = _
      unfold Q.stepAt Q.first; rw [if_neg hne]
    have hy : ∀ z : Nat, (M.bs code).extract k (k + z) = M.bs ((code.drop k).take z) := fun z => by rw [cut_bs]; congr 3; omega
    generalize Q.width (code.drop k) = z at *
    have HY : Hid ((M.bs code).extract k (k + z) = M.bs ((code.drop k).take z)) := hy z
    clear hc hne hy
    generalize code.drop k = d at *
    by_cases h2 : z = 0
    · subst h2
      rw [HQ.out, if_pos (Or.inl rfl)]
      clear HQ
      unfold saV
      go_enter Tryz.func107, Tryz.ntmps107
      go_wp2_with (go_at_call 117; refine (CW.out _).mono ?_; rintro e w' ⟨rfl, rfl⟩)
      go_ret2
      exact ⟨rfl, rfl⟩
    · have q0 : ((z : Int) == 0) = false := by simp; omega
      by_cases h3 : d.length < z
      · rw [HQ.out, if_pos (Or.inr h3)]
        clear HQ
        unfold saV
        go_enter Tryz.func107, Tryz.ntmps107
        go_wp2_with (go_at_call 117; refine (CW.out _).mono ?_; rintro e w' ⟨rfl, rfl⟩)
        go_ret2
        exact ⟨rfl, rfl⟩
      · rw [HQ.out, if_neg (by omega)]
        clear HQ
        unfold saV
        go_enter Tryz.func107, Tryz.ntmps107
        go_wp2_with (go_at_call 117; refine (CW.out _).mono ?_; rintro e w' ⟨rfl, rfl⟩)
        go_ret2
        exact ⟨by rw [← HY.out]; rfl, rfl⟩
end Go.Proofs.YtjbffhdccgmfpaaGreatDoor

/- A machine in memory; what its stack's calls do. -/
namespace Go.Proofs.YtjbffhdccgmfpaaGreatDoor
open Go.RowKit
set_option linter.unusedVariables false

theorem heap_setCell_rowM {w : World} {b i : Nat} {C : Array Value} {t : TypeId} {fr : Nat × Nat} {v : Value} (h : w.heap[b]? = some (.cells C t fr)) : (w.setCell ⟨b, i, none⟩ v).heap[b]? = some (.cells (C.setIfInBounds i v) t fr) := by
  show (w.heap.modify b _)[b]? = _
  rw [Array.getElem?_modify, if_pos rfl, h]; rfl
theorem lt_of_heapM {W : World} {b : Nat} {o : Obj} (h : W.heap[b]? = some o) : b < W.heap.size := by
  rcases Nat.lt_or_ge b W.heap.size with h' | h'
  · exact h'
  · rw [Array.getElem?_eq_none h'] at h; simp at h
theorem cell_rowM {w : World} {b : Nat} {C : List Value} {t : TypeId} (h : w.heap[b]? = some (.cells C.toArray t (0, 0))) (i : Nat) : w.cell? ⟨b, i, none⟩ = C[i]? := by
  simp [World.cell?, h]
theorem frozen_rowM {w : World} {b : Nat} {C : Array Value} {t : TypeId} (h : w.heap[b]? = some (.cells C t (0, 0))) (i : Nat) : w.frozen? ⟨b, i, none⟩ = false := by
  simp [World.frozen?, h]

/-- a stack st (the top first) lies in the first cell of the block b, whose other cells are r; its texts lie behind that block; what lay in the world w lies there still -/
structure SX (w : World) (b : Nat) (r : List Value) (st : List (List UInt8)) (v : Value) (W : World) : Prop where
  row : W.heap[b]? = some (.cells (v :: r).toArray 150 (0, 0))
  own : W.ownsRow (b + 1) 9 1 v st.length (st.reverse.map encS)
  g : GB w W
  hb : w.heap.size ≤ b
  z : 2 ≤ w.heap.size
  ok : Q.Oks st
section
variable {w W : World} {b : Nat} {r : List Value} {st : List (List UInt8)} {v : Value}
theorem SX.lt (h : SX w b r st v W) : b < W.heap.size := lt_of_heapM h.row
theorem SX.step (h : SX w b r st v W) {W' : World} (hb : Below W.heap.size W W') : SX w b r st v W' :=
  ⟨by rw [hb.block b h.lt]; exact h.row, ownsRow_below h.own hb, h.g.step hb, h.hb, h.z, h.ok⟩
theorem SX.alloc (h : SX w b r st v W) (o : Obj) : SX w b r st v (W.alloc o) := h.step ((Below.refl _ W).alloc (Nat.le_refl _) _)
theorem SX.drewN (h : SX w b r st v W) (n : Nat) : SX w b r st v (W.drewN n) := h.step (below_drewN (Below.refl _ _) n)
theorem SX.drew (h : SX w b r st v W) : SX w b r st v W.drew := h.step (Below.refl _ _).drew
theorem SX.c0 (h : SX w b r st v W) : W.cell? ⟨b, 0, none⟩ = some v := by rw [cell_rowM h.row]; rfl
theorem SX.fb (h : SX w b r st v W) (i : Nat) : W.frozen? ⟨b, i, none⟩ = false := frozen_rowM h.row i
theorem SX.shape (h : SX w b r st v W) : ∃ a c, v = .slice a st.length c := by
  have := h.own
  rw [show st.length = st.reverse.length by simp] at this
  obtain ⟨a, c, e⟩ := (strs_of_owns this).shape
  exact ⟨a, c, by rw [e]; simp⟩
theorem set0 (h1 : w.heap.size ≤ b) (h2 : 2 ≤ w.heap.size) (h3 : W.heap[b]? = some (.cells (v :: r).toArray 150 (0, 0))) (h4 : GB w W) (v' : Value) (st' : List (List UInt8)) (hown : W.ownsRow (b + 1) 9 1 v' st'.length (st'.reverse.map encS)) (hok : Q.Oks st') : SX w b r st' v' (W.setCell ⟨b, 0, none⟩ v') := by
  exact ⟨by rw [heap_setCell_rowM h3]; rfl, ownsRow_setCell_below hown (show b < b + 1 by omega) _, ⟨h4.g.below (Below.setCell (Below.refl b W) (Nat.le_refl _) _) (by omega), h4.b.trans (Below.setCell (Below.refl _ W) h1 _)⟩, h1, h2, hok⟩
theorem SX.set0 (h : SX w b r st v W) (v' : Value) (st' : List (List UInt8)) (hown : W.ownsRow (b + 1) 9 1 v' st'.length (st'.reverse.map encS)) (hok : Q.Oks st') : SX w b r st' v' (W.setCell ⟨b, 0, none⟩ v') :=
  Go.Proofs.YtjbffhdccgmfpaaGreatDoor.set0 h.hb h.z h.row h.g v' st' hown hok
/-- a stack that is not empty: its block, its capacity, its top -/
theorem SX.cons {t : List UInt8} (h : SX w b r (t :: st) v W) : ∃ g cap, v = .slice (some ⟨g, 0, none⟩) (st.length + 1) cap ∧ b < g ∧ W.cell? ⟨g, st.length, none⟩ = some (.string (M.bs t)) ∧ W.ownsRow (b + 1) 9 1 (.slice (some ⟨g, 0, none⟩) st.length cap) st.length (st.reverse.map encS) := by
  obtain ⟨h0, ⟨_, h2⟩ | ⟨g, cap, cur, h1, h2, h3, h4, h5, h6, h7⟩⟩ := h.own
  · simp at h2
  · have hc : cur.size = cap := by omega
    have e : cur.toList.take (st.length + 1) = st.reverse.map encS ++ [encS t] := by
      have := h7; simp only [Nat.mul_one, List.length_cons, List.reverse_cons, List.map_append, List.map_cons, List.map_nil] at this; exact this
    have e1 : cur.toList.take st.length = st.reverse.map encS := by
      have := congrArg (List.take st.length) e
      rw [List.take_take, Nat.min_eq_left (by omega), List.take_append_of_le_length (by simp)] at this
      rw [this, List.take_of_length_le (by simp)]
    have e2 : cur[st.length]? = some (encS t) := by
      have := congrArg (fun l => l[st.length]?) e
      simp only [List.getElem?_take, List.getElem?_append_right (show (st.reverse.map encS).length ≤ st.length by simp)] at this
      simpa using this
    refine ⟨g, cap, h1, by omega, ?_, ⟨by simp, .inr ⟨g, cap, cur, rfl, h2, h3, by simp at h4; omega, h5, h6, by simpa using e1⟩⟩⟩
    simp only [World.cell?, h3]
    simpa [encS] using e2
end

set_option maxHeartbeats 1000000 in
theorem take_nil {w W : World} {b : Nat} {r : List Value} {v : Value} (h : SX w b r [] v W) :
    Calls Tryz.prog 109 #[.pointer (some ⟨b, 0, none⟩)] W fun e w' => e = .returned (.tuple #[.string ⟨#[]⟩, .bool false]) ∧ w' = W := by
  obtain ⟨a, c, rfl⟩ := h.shape
  have k0 := h.c0
  simp only [List.length_nil] at k0
  clear h
  go_enter Tryz.func109, Tryz.ntmps109
  go_wp2_with fail
  go_ret2
  exact ⟨rfl, rfl⟩
set_option maxHeartbeats 1000000 in
theorem take_cons {w W : World} {b : Nat} {r : List Value} {v : Value} {t : List UInt8} {st : List (List UInt8)} (h : SX w b r (t :: st) v W) :
    Calls Tryz.prog 109 #[.pointer (some ⟨b, 0, none⟩)] W fun e w' => e = .returned (.tuple #[.string (M.bs t), .bool true]) ∧ ∃ v', w' = W.setCell ⟨b, 0, none⟩ v' ∧ SX w b r st v' w' := by
  obtain ⟨g, cap, rfl, hg, kt, hown⟩ := h.cons
  have k0 := h.c0
  have f := h.fb
  have hn := h.ok.1
  simp only [List.length_cons] at hn
  have HS : Hid (SX w b r st (.slice (some ⟨g, 0, none⟩) st.length cap) (W.setCell ⟨b, 0, none⟩ (.slice (some ⟨g, 0, none⟩) st.length cap))) := h.set0 _ _ hown h.ok.tail
  have hcap : st.length + 1 ≤ cap := by
    obtain ⟨h0, ⟨h1, h2⟩ | ⟨g', cap', cur, h1, h2, h3, h4, h5⟩⟩ := h.own
    · simp at h1
    · simp only [Value.slice.injEq] at h1; simp at h4; omega
  clear h hown
  go_enter Tryz.func109, Tryz.ntmps109
  go_wp2_with fail
  go_ret2
  exact ⟨rfl, _, rfl, HS.out⟩
theorem info_partsM {o : Option TypeInfo} {z : Option Value} {s b : Nat} (h : o.map (fun i => (i.zero, i.size, i.bytes)) = some (z, s, b)) : ∃ i, o = some i ∧ i.zero = z ∧ i.size = s ∧ i.bytes = b := by
  cases o with
  | none => cases h
  | some i => simp only [Option.map_some, Option.some.injEq, Prod.mk.injEq] at h; exact ⟨i, rfl, h⟩
set_option maxHeartbeats 1000000 in
set_option maxRecDepth 8000 in
theorem put_at {w W : World} {b : Nat} {r : List Value} {v : Value} {st : List (List UInt8)} (t : List UInt8) (h : SX w b r st v W) (ht : t.length ≤ 1000000) :
    Calls Tryz.prog 120 #[.pointer (some ⟨b, 0, none⟩), .string (M.bs t)] W fun e w' => e = .returned (.int .i64 ((Q.put st t).1 : Int)) ∧ ∃ v', SX w b r (Q.put st t).2 v' w' := by
  obtain ⟨a, c, rfl⟩ := h.shape
  have k0 := h.c0
  have hn := h.ok.1
  have hs := M.bs_size t
  by_cases h8 : 8 ≤ st.length
  · have e : Q.put st t = (31, st) := by unfold Q.put; rw [if_pos h8]
    rw [e]
    have HH : Hid (SX w b r st (.slice a st.length c) W) := h
    clear h e
    go_enter Tryz.func120, Tryz.ntmps120
    go_wp2_with fail
    go_ret
    exact ⟨rfl, _, HH.out⟩
  · by_cases h5 : 512 < t.length
    · have e : Q.put st t = (33, st) := by unfold Q.put; rw [if_neg h8, if_pos h5]
      rw [e]
      have HH : Hid (SX w b r st (.slice a st.length c) W) := h
      clear h e
      go_enter Tryz.func120, Tryz.ntmps120
      go_wp2_with fail
      go_ret
      exact ⟨rfl, _, HH.out⟩
    · have e : Q.put st t = (0, t :: st) := by unfold Q.put; rw [if_neg h8, if_neg h5]
      have HOK : Hid (Q.Oks (t :: st)) := by
        have := Q.put_ok h.ok t
        rw [e] at this; exact this
      rw [e]
      clear e
      obtain ⟨i0, hi, hz0, hz1, hz2⟩ := info_partsM (show (Tryz.prog.info? 9).map (fun i => (i.zero, i.size, i.bytes)) = some (some (.string ByteArray.empty), 1, 16) by kernel_rfl)
      have HOW : Hid ((W.alloc (.cells #[.string (M.bs t)] 9)).ownsRow (b + 1) 9 1 (.slice a st.length c) st.length (st.reverse.map encS)) := World.ownsRow.alloc (w := W) h.own _
      have HA : Hid (SX w b r st (.slice a st.length c) (W.alloc (.cells #[.string (M.bs t)] 9))) := h.alloc _
      have hlt := h.lt
      have HLT : Hid (∀ q, (Value.slice a st.length c).ownBlock = some q → b + 1 ≤ q) := fun q hq => (h.own.lt q hq).1
      clear h
      go_enter Tryz.func120, Tryz.ntmps120
      go_wp2_with (at_builtin; refine wpList_append_own _ rfl _ _ 148 rfl (b + 1) 9 i0 (.string ByteArray.empty) 1 16 (by kernel_rfl) hi hz0 hz1 hz2 rfl (by decide) _ _ _ rfl HOW.out ⟨W.heap.size, 0, none⟩ 1 1 [.string (M.bs t)] rfl rfl (cell_one_new _ _ _) (fun x hx => by simp at hx; subst hx; rfl) (by unfold maxLen; omega) (by omega) (by simp; omega) ?_)
      intro v' w5 hown5 hg5 _
      have hsz5 : W.heap.size + 1 ≤ w5.heap.size := by have := hg5.size; simpa using this
      have hbl : w5.heap[b]? = some (.cells (.slice a st.length c :: r).toArray 150 (0, 0)) := by
        rw [hg5.block b (by simp; omega) (fun e => by have := HLT.out b e.symm; omega)]; exact HA.out.row
      have hG : GB w w5 := by
        have h1 := HA.out.hb
        have h2 := HA.out.z
        have hbe : Below b (W.alloc (.cells #[.string (M.bs t)] 9)) w5 := (Below.refl _ _).grown hg5 (by simp; omega) (fun q hq => by have := HLT.out q hq; omega)
        exact ⟨HA.out.g.g.below hbe (by omega), HA.out.g.b.trans (hbe.mono h1)⟩
      have HS : Hid (SX w b r (t :: st) v' (w5.setCell ⟨b, 0, none⟩ v')) := Go.Proofs.YtjbffhdccgmfpaaGreatDoor.set0 HA.out.hb HA.out.z hbl hG v' (t :: st) (by simpa [encS] using hown5) HOK.out
      obtain ⟨a', c', rfl⟩ := HS.out.shape
      have k5 : w5.cell? ⟨b, 0, none⟩ = some (.slice a st.length c) := by rw [cell_rowM hbl]; rfl
      have f5 := frozen_rowM hbl
      clear hown5 hg5 hbl hG HOW HA HLT HOK
      go_wp2_with fail
      go_ret
      exact ⟨rfl, _, HS.out⟩
theorem drop_at {w W : World} {b : Nat} {r : List Value} {v : Value} {st : List (List UInt8)} (h : SX w b r st v W) :
    Calls Tryz.prog 125 #[.pointer (some ⟨b, 0, none⟩)] W fun e w' => e = .returned (.int .i64 ((Q.drop st).1 : Int)) ∧ ∃ v', SX w b r (Q.drop st).2 v' w' := by
  have HH : Hid (SX w b r st v W) := h
  clear h
  rcases st with _ | ⟨t, st⟩
  · unfold Q.drop
    go_enter Tryz.func125, Tryz.ntmps125
    go_wp2_with (go_at_call 109; refine (take_nil HH.out).mono ?_; rintro e w' ⟨rfl, rfl⟩)
    go_ret
    exact ⟨rfl, _, HH.out⟩
  · unfold Q.drop
    go_enter Tryz.func125, Tryz.ntmps125
    go_wp2_with (go_at_call 109; refine (take_cons HH.out).mono ?_; rintro e w' ⟨rfl, v', hw', HS⟩; clear hw')
    go_ret
    exact ⟨rfl, _, HS⟩
set_option maxHeartbeats 1000000 in
theorem double_at {w W : World} {b : Nat} {r : List Value} {v : Value} {st : List (List UInt8)} (h : SX w b r st v W) :
    Calls Tryz.prog 123 #[.pointer (some ⟨b, 0, none⟩)] W fun e w' => e = .returned (.int .i64 ((Q.double st).1 : Int)) ∧ ∃ v', SX w b r (Q.double st).2 v' w' := by
  rcases st with _ | ⟨t, st⟩
  · obtain ⟨a, c, rfl⟩ := h.shape
    have k0 := h.c0
    simp only [List.length_nil] at k0
    have HH : Hid (SX w b r [] (.slice a 0 c) W) := h
    clear h
    unfold Q.double
    go_enter Tryz.func123, Tryz.ntmps123
    go_wp2_with fail
    go_ret
    exact ⟨rfl, _, HH.out⟩
  · obtain ⟨g, cap, rfl, hg, kt, hown⟩ := h.cons
    have k0 := h.c0
    have hn := h.ok.1
    have ht := h.ok.2 t (by simp)
    simp only [List.length_cons] at hn
    have HH : Hid (SX w b r (t :: st) (.slice (some ⟨g, 0, none⟩) (st.length + 1) cap) W) := h
    have CP : Hid (∀ W', SX w b r (t :: st) (.slice (some ⟨g, 0, none⟩) (st.length + 1) cap) W' → Calls Tryz.prog 120 #[.pointer (some ⟨b, 0, none⟩), .string (M.bs t)] W' fun e w' => e = .returned (.int .i64 ((Q.double (t :: st)).1 : Int)) ∧ ∃ v', SX w b r (Q.double (t :: st)).2 v' w') := fun W' h => put_at t h (by omega)
    clear h hown
    generalize Q.double (t :: st) = R at *
    generalize st.length = k at *
    have hq : ((k : Int) + 1 == 0) = false := by simp; omega
    have hw1 : IntKind.i64.wrap (k : Int) = (k : Int) := by simp only [IntKind.wrap, IntKind.bits, IntKind.signed]; simp; omega
    have i0 : (0 : Int) ≤ (k : Int) := by omega
    have i1 : (k : Int) < (k : Int) + 1 := by omega
    go_enter Tryz.func123, Tryz.ntmps123
    go_wp2_with fail
    go_region_with (go_at_call 120; refine (CP.out _ (by first | exact HH.out | exact HH.out.drew)).mono ?_; rintro e w' ⟨rfl, HS⟩)
    all_goals go_wp2_with fail
    all_goals go_ret
    all_goals exact ⟨rfl, HS⟩
end Go.Proofs.YtjbffhdccgmfpaaGreatDoor

/- The stack's swap. -/
namespace Go.Proofs.YtjbffhdccgmfpaaGreatDoor
open Go.RowKit
set_option linter.unusedVariables false

/-- a stack with two at its top -/
theorem SX.cons2 {w W : World} {b : Nat} {r : List Value} {v : Value} {t u : List UInt8} {st : List (List UInt8)} (h : SX w b r (t :: u :: st) v W) :
    ∃ g cap, v = .slice (some ⟨g, 0, none⟩) (st.length + 2) cap ∧ b < g ∧ W.cell? ⟨g, st.length + 1, none⟩ = some (.string (M.bs t)) ∧ W.cell? ⟨g, st.length, none⟩ = some (.string (M.bs u)) ∧ (∀ i, W.frozen? ⟨g, i, none⟩ = false) ∧
      ((W.setCell ⟨g, st.length, none⟩ (.string (M.bs t))).setCell ⟨g, st.length + 1, none⟩ (.string (M.bs u))).ownsRow (b + 1) 9 1 v (st.length + 2) ((u :: t :: st).reverse.map encS) := by
  obtain ⟨h0, ⟨_, h2⟩ | ⟨g, cap, cur, h1, h2, h3, h4, h5, h6, h7⟩⟩ := h.own
  · simp at h2
  · have hc : cur.size = cap := by omega
    simp only [List.length_cons] at h4
    have e : cur.toList.take (st.length + 2) = st.reverse.map encS ++ [encS u, encS t] := by
      have := h7; simp only [Nat.mul_one, List.length_cons, List.reverse_cons, List.map_append, List.map_cons, List.map_nil, List.append_assoc, List.cons_append, List.nil_append] at this; exact this
    have at' : ∀ i, i < st.length + 2 → cur[i]? = (st.reverse.map encS ++ [encS u, encS t])[i]? := fun i hi => by
      have := congrArg (fun l => l[i]?) e
      simp only [List.getElem?_take, if_pos hi] at this
      simpa using this
    have eu : cur[st.length]? = some (encS u) := by rw [at' _ (by omega), List.getElem?_append_right (by simp)]; simp
    have et : cur[st.length + 1]? = some (encS t) := by rw [at' _ (by omega), List.getElem?_append_right (by simp)]; simp
    refine ⟨g, cap, h1, by omega, ?_, ?_, frozen_rowM h3, ⟨by simp, .inr ⟨g, cap, (cur.setIfInBounds st.length (encS t)).setIfInBounds (st.length + 1) (encS u), h1, h2, ?_, by omega, h5, by simpa using h6, ?_⟩⟩⟩
    · simp only [World.cell?, h3]; simpa [encS] using et
    · simp only [World.cell?, h3]; simpa [encS] using eu
    · exact heap_setCell_rowM (heap_setCell_rowM h3)
    · apply List.ext_getElem?
      intro i
      by_cases hi : i < st.length + 2
      · rw [List.getElem?_take, if_pos (by omega), Array.getElem?_toList, Array.getElem?_setIfInBounds, Array.getElem?_setIfInBounds]
        simp only [Array.size_setIfInBounds]
        have er : (u :: t :: st).reverse.map encS = st.reverse.map encS ++ [encS t, encS u] := by simp
        rw [er]
        rcases (by omega : i < st.length ∨ i = st.length ∨ i = st.length + 1) with hi' | hi' | hi'
        · rw [if_neg (by omega), if_neg (by omega), at' i hi, List.getElem?_append_left (by simpa using hi'), List.getElem?_append_left (by simpa using hi')]
        · subst hi'
          rw [if_neg (by omega), if_pos rfl, if_pos (by omega), List.getElem?_append_right (by simp)]; simp
        · subst hi'
          rw [if_pos rfl, if_pos (by omega), List.getElem?_append_right (by simp)]; simp
      · rw [List.getElem?_eq_none (by rw [List.length_take, Array.length_toList]; simp; omega), List.getElem?_eq_none (by simp; omega)]

set_option maxRecDepth 8000 in
set_option maxHeartbeats 4000000 in
theorem swap_at {w W : World} {b : Nat} {r : List Value} {v : Value} {st : List (List UInt8)} (h : SX w b r st v W) :
    Calls Tryz.prog 124 #[.pointer (some ⟨b, 0, none⟩)] W fun e w' => e = .returned (.int .i64 ((Q.swap st).1 : Int)) ∧ ∃ v', SX w b r (Q.swap st).2 v' w' := by
  rcases st with _ | ⟨t, _ | ⟨u, st⟩⟩
  · obtain ⟨a, c, rfl⟩ := h.shape
    have k0 := h.c0
    simp only [List.length_nil] at k0
    have HH : Hid (SX w b r [] (.slice a 0 c) W) := h
    clear h
    unfold Q.swap
    go_enter Tryz.func124, Tryz.ntmps124
    go_wp2_with fail
    go_ret
    exact ⟨rfl, _, HH.out⟩
  · obtain ⟨a, c, rfl⟩ := h.shape
    have k0 := h.c0
    simp only [List.length_cons, List.length_nil] at k0
    have HH : Hid (SX w b r [t] (.slice a 1 c) W) := h
    clear h
    unfold Q.swap
    go_enter Tryz.func124, Tryz.ntmps124
    go_wp2_with fail
    go_ret
    exact ⟨rfl, _, HH.out⟩
  · obtain ⟨g, cap, rfl, hg, kt, ku, fg, hown⟩ := h.cons2
    have k0 := h.c0
    have hn := h.ok.1
    simp only [List.length_cons] at hn
    have HS : Hid (SX w b r (u :: t :: st) (.slice (some ⟨g, 0, none⟩) (st.length + 2) cap) ((W.setCell ⟨g, st.length, none⟩ (.string (M.bs t))).setCell ⟨g, st.length + 1, none⟩ (.string (M.bs u)))) := by
      have h1 := h.hb
      have h2 := h.z
      have hb2 : Below g W ((W.setCell ⟨g, st.length, none⟩ (.string (M.bs t))).setCell ⟨g, st.length + 1, none⟩ (.string (M.bs u))) := ((Below.refl g W).setCell (Nat.le_refl _) _).setCell (Nat.le_refl _) _
      exact ⟨by rw [hb2.block b hg]; exact h.row, hown, ⟨h.g.g.below hb2 (by omega), h.g.b.trans (hb2.mono (by omega))⟩, h1, h2, Q.swap_ok h.ok⟩
    have HD : Hid (∀ W', SX w b r (u :: t :: st) (.slice (some ⟨g, 0, none⟩) (st.length + 2) cap) W' → SX w b r (u :: t :: st) (.slice (some ⟨g, 0, none⟩) (st.length + 2) cap) W'.drew) := fun W' h => h.drew
    clear h hown
    unfold Q.swap
    generalize st.length = k at *
    have hw1 : IntKind.i64.wrap (k : Int) = (k : Int) := by simp only [IntKind.wrap, IntKind.bits, IntKind.signed]; simp; omega
    have hw2 : IntKind.i64.wrap ((k : Int) + 1) = (k : Int) + 1 := by simp only [IntKind.wrap, IntKind.bits, IntKind.signed]; simp; omega
    have i0 : (0 : Int) ≤ (k : Int) := by omega
    have i1 : (k : Int) < (k : Int) + 2 := by omega
    have i2 : (k : Int) + 1 < (k : Int) + 2 := by omega
    have i3 : (0 : Int) ≤ (k : Int) + 1 := by omega
    go_enter Tryz.func124, Tryz.ntmps124
    go_wp2_with fail
    go_region
    all_goals go_wp2_with fail
    all_goals go_ret
    all_goals exact ⟨rfl, _, HS.out.drew⟩
end Go.Proofs.YtjbffhdccgmfpaaGreatDoor

/- The stack's change and fold: what a function makes of the top. -/
namespace Go.Proofs.YtjbffhdccgmfpaaGreatDoor
open Go.RowKit
set_option linter.unusedVariables false

set_option maxRecDepth 8000 in
set_option maxHeartbeats 1000000 in
/-- a function f, of this program's number k, with what it has captured; P: what must hold of memory for it -/
theorem change_at {w W : World} {b : Nat} {r : List Value} {v : Value} {st : List (List UInt8)} (k : FuncId) (caps : Array Value) (P : World → Prop) (f : List UInt8 → List UInt8)
    (hent : ∀ args w, (callFunc k args).run Tryz.prog w = .ok (.enter k args) w)
    (hP : P W) (hset : ∀ v', P W → P (W.setCell ⟨b, 0, none⟩ v')) (hl : ∀ t, t.length ≤ 512 → (f t).length ≤ 1000000)
    (hf : ∀ W' t, t.length ≤ 512 → GB w W' → P W' → Calls Tryz.prog k (#[.string (M.bs t)] ++ caps) W' fun e w' => e = .returned (.string (M.bs (f t))) ∧ Below W'.heap.size W' w')
    (h : SX w b r st v W) :
    Calls Tryz.prog 126 #[.pointer (some ⟨b, 0, none⟩), .func (.func k) #[] caps] W fun e w' => e = .returned (.int .i64 ((Q.change f st).1 : Int)) ∧ ∃ v', SX w b r (Q.change f st).2 v' w' := by
  have HH : Hid (SX w b r st v W) := h
  rcases st with _ | ⟨t, st⟩
  · clear h hf hP hset hl
    unfold Q.change
    go_enter Tryz.func126, Tryz.ntmps126
    go_wp2_with (go_at_call 109; refine (take_nil HH.out).mono ?_; rintro e w' ⟨rfl, rfl⟩)
    go_ret
    exact ⟨rfl, _, HH.out⟩
  · have ht := h.ok.2 t (by simp)
    have CT : Hid (Calls Tryz.prog 109 #[.pointer (some ⟨b, 0, none⟩)] W fun e w' => e = .returned (.tuple #[.string (M.bs t), .bool true]) ∧ ∃ v', SX w b r st v' w' ∧ P w') := by
      refine (take_cons h).mono ?_
      rintro e w' ⟨rfl, v', rfl, hs⟩
      exact ⟨rfl, v', hs, hset v' hP⟩
    have CF : Hid (∀ W' v', SX w b r st v' W' → P W' → Calls Tryz.prog k (#[.string (M.bs t)] ++ caps) W' fun e w' => e = .returned (.string (M.bs (f t))) ∧ SX w b r st v' w') := fun W' v' hs hp => by
      refine (hf W' t ht hs.g hp).mono ?_
      rintro e w' ⟨rfl, hb⟩
      exact ⟨rfl, hs.step hb⟩
    have CP : Hid (∀ W' v', SX w b r st v' W' → Calls Tryz.prog 120 #[.pointer (some ⟨b, 0, none⟩), .string (M.bs (f t))] W' fun e w' => e = .returned (.int .i64 ((Q.change f (t :: st)).1 : Int)) ∧ ∃ v', SX w b r (Q.change f (t :: st)).2 v' w') := fun W' v' hs => put_at (f t) hs (hl t ht)
    clear h hf hP hset hl HH
    generalize Q.change f (t :: st) = R at *
    generalize f t = ft at *
    go_enter Tryz.func126, Tryz.ntmps126
    go_wp2_with (first
      | (go_at_call 109; refine CT.out.mono ?_; clear CT; rintro e w' ⟨rfl, v1, HS, HP⟩)
      | (go_at_call 120; refine (CP.out _ _ HS).mono ?_; clear CP; rintro e w' ⟨rfl, HE⟩)
      | (go_at_fn k; refine (CF.out _ _ HS HP).mono ?_; clear CF HS HP; rintro e w' ⟨rfl, HS⟩))
    go_ret
    exact ⟨rfl, HE⟩
end Go.Proofs.YtjbffhdccgmfpaaGreatDoor

/- The stack's fold. -/
namespace Go.Proofs.YtjbffhdccgmfpaaGreatDoor
open Go.RowKit
set_option linter.unusedVariables false

theorem fold1_at (k : FuncId) (f : List UInt8 → List UInt8 → List UInt8) (c1 c2 : Nat) (x t : List UInt8) (W : World) (hent : ∀ args w, (callFunc k args).run Tryz.prog w = .ok (.enter k args) w)
    (h1 : W.cell? ⟨c1, 0, none⟩ = some (.func (.func k) #[] #[])) (h2 : W.cell? ⟨c2, 0, none⟩ = some (.string (M.bs t)))
    (hf : Calls Tryz.prog k #[.string (M.bs x), .string (M.bs t)] W fun e w' => e = .returned (.string (M.bs (f x t))) ∧ Below W.heap.size W w') :
    Calls Tryz.prog 139 #[.string (M.bs x), .pointer (some ⟨c1, 0, none⟩), .pointer (some ⟨c2, 0, none⟩)] W fun e w' => e = .returned (.string (M.bs (f x t))) ∧ Below W.heap.size W w' := by
  have CF : Hid (Calls Tryz.prog k #[.string (M.bs x), .string (M.bs t)] W fun e w' => e = .returned (.string (M.bs (f x t))) ∧ Below W.heap.size W w') := hf
  clear hf
  generalize f x t = y at *
  go_enter Tryz.func139, Tryz.ntmps139
  go_wp2_with (go_at_fn k; refine CF.out.mono ?_; rintro e w' ⟨rfl, HB⟩)
  go_ret
  exact ⟨rfl, HB⟩

set_option maxRecDepth 8000 in
set_option maxHeartbeats 1000000 in
theorem fold_at {w W : World} {b : Nat} {r : List Value} {v : Value} {st : List (List UInt8)} (k : FuncId) (f : List UInt8 → List UInt8 → List UInt8)
    (hent : ∀ args w, (callFunc k args).run Tryz.prog w = .ok (.enter k args) w)
    (hl : ∀ x t, x.length ≤ 512 → t.length ≤ 512 → (f x t).length ≤ 1000000)
    (hf : ∀ W' x t, x.length ≤ 512 → t.length ≤ 512 → GB w W' → Calls Tryz.prog k #[.string (M.bs x), .string (M.bs t)] W' fun e w' => e = .returned (.string (M.bs (f x t))) ∧ Below W'.heap.size W' w')
    (h : SX w b r st v W) :
    Calls Tryz.prog 121 #[.pointer (some ⟨b, 0, none⟩), .func (.func k) #[] #[]] W fun e w' => e = .returned (.int .i64 ((Q.fold f st).1 : Int)) ∧ ∃ v', SX w b r (Q.fold f st).2 v' w' := by
  have HH : Hid (SX w b r st v (W.alloc (.cells #[.func (.func k) #[] #[]] 175))) := h.alloc _
  have hmf : ∀ (fn : Fn) (first cap : Array Value) (w : World), (Instr.makeFunc fn first cap).run Tryz.prog w = .ok (.func fn first cap) w := fun _ _ _ _ => rfl
  have hlt := h.lt
  rcases st with _ | ⟨t, st⟩
  · clear h hf hl
    unfold Q.fold
    go_enter Tryz.func121, Tryz.ntmps121
    go_wp2_with (go_at_call 109; refine (take_nil HH.out).mono ?_; rintro e w' ⟨rfl, rfl⟩)
    go_ret
    exact ⟨rfl, _, HH.out.alloc _⟩
  · have ht := h.ok.2 t (by simp)
    have hne : W.heap.size ≠ b := by omega
    have CT : Hid (Calls Tryz.prog 109 #[.pointer (some ⟨b, 0, none⟩)] (W.alloc (.cells #[.func (.func k) #[] #[]] 175)) fun e w' => e = .returned (.tuple #[.string (M.bs t), .bool true]) ∧ ∃ v', SX w b r st v' w' ∧ w'.cell? ⟨W.heap.size, 0, none⟩ = some (.func (.func k) #[] #[])) := by
      refine (take_cons HH.out).mono ?_
      rintro e w' ⟨rfl, v', hw', hs⟩
      refine ⟨rfl, v', hs, ?_⟩
      rw [hw', World.cell?_of_block (w := W.alloc (.cells #[.func (.func k) #[] #[]] 175)) (Below.heap_setCell _ _ _ _ hne)]
      exact cell_new1 _ _ _
    have CC : Hid (∀ w' v', SX w b r st v' w' → w'.cell? ⟨W.heap.size, 0, none⟩ = some (.func (.func k) #[] #[]) → Calls Tryz.prog 126 #[.pointer (some ⟨b, 0, none⟩), .func (.func 139) #[] #[.pointer (some ⟨W.heap.size, 0, none⟩), .pointer (some ⟨w'.heap.size, 0, none⟩)]] (w'.alloc (.cells #[.string (M.bs t)] 9)) fun e w'' => e = .returned (.int .i64 ((Q.fold f (t :: st)).1 : Int)) ∧ ∃ v'', SX w b r (Q.fold f (t :: st)).2 v'' w'') := fun w' v' hs hc => by
      have hcl : W.heap.size < w'.heap.size := World.block_lt_of_cell? w' ⟨W.heap.size, 0, none⟩ hc
      have hsl := hs.lt
      refine change_at (st := st) 139 _ (fun W' => W'.cell? ⟨W.heap.size, 0, none⟩ = some (.func (.func k) #[] #[]) ∧ W'.cell? ⟨w'.heap.size, 0, none⟩ = some (.string (M.bs t))) (fun x => f x t) (enters_of Tryz.func139 (by kernel_rfl) rfl) ⟨?_, cell_new1 _ _ _⟩ ?_ (fun x hx => hl x t hx ht) ?_ (hs.alloc _)
      · rw [World.cell?_of_block (w := w') (Below.heap_alloc _ _ _ hcl)]; exact hc
      · rintro v2 ⟨h1, h2⟩
        refine ⟨?_, ?_⟩
        · rw [World.cell?_of_block (w := w'.alloc (.cells #[.string (M.bs t)] 9)) (Below.heap_setCell _ _ _ _ hne)]; exact h1
        · rw [World.cell?_of_block (w := w'.alloc (.cells #[.string (M.bs t)] 9)) (Below.heap_setCell _ _ _ _ (show w'.heap.size ≠ b by omega))]; exact h2
      · rintro W' x hx hg ⟨h1, h2⟩
        exact fold1_at k f _ _ x t W' hent h1 h2 (hf W' x t hx ht hg)
    clear HH h hf hl
    generalize Q.fold f (t :: st) = R at *
    go_enter Tryz.func121, Tryz.ntmps121
    go_wp2_with (first
      | (go_at_call 109; refine CT.out.mono ?_; clear CT; rintro e w' ⟨rfl, v', HS, HC⟩; have HS : Hid (SX w b r st v' w') := HS; have HC : Hid (w'.cell? ⟨W.heap.size, 0, none⟩ = some (.func (.func k) #[] #[])) := HC)
      | (go_at_call 126; refine (CC.out _ _ HS.out HC.out).mono ?_; clear CC; rintro e w' ⟨rfl, HE⟩))
    go_ret
    exact ⟨rfl, HE⟩
end Go.Proofs.YtjbffhdccgmfpaaGreatDoor

/- What reverses a text's bytes. -/
namespace Go.Proofs.YtjbffhdccgmfpaaGreatDoor
open Go.RowKit
set_option linter.unusedVariables false

/-- the byte x of a list that is turned round so far -/
def rvA (l : List UInt8) (k x : Nat) : UInt8 := if x < k ∨ l.length - 1 - x < k then l.getD (l.length - 1 - x) 0 else l.getD x 0
structure RV (q : Nat) (l : List UInt8) (k : Nat) (w W : World) : Prop where
  c : ∀ x, x < l.length → W.cell? ⟨q, x, none⟩ = some (.int .u8 ((rvA l k x).toNat : Int))
  f : ∀ x, x < l.length → W.frozen? ⟨q, x, none⟩ = false
  o : Off q w W
theorem RV.drewN {q k n : Nat} {l : List UInt8} {w W : World} (h : RV q l k w W) : RV q l k w (W.drewN n) := ⟨h.c, h.f, ⟨h.o.os, h.o.tape, h.o.output, h.o.size, h.o.block⟩⟩
theorem RV.drew {q k : Nat} {l : List UInt8} {w W : World} (h : RV q l k w W) : RV q l k w W.drew := ⟨h.c, h.f, ⟨h.o.os, h.o.tape, h.o.output, h.o.size, h.o.block⟩⟩
theorem RV.set {q k : Nat} {l : List UInt8} {w W : World} (h : RV q l k w W) (hk : k < l.length - 1 - k) :
    RV q l (k + 1) w ((W.setCell ⟨q, k, none⟩ (.int .u8 ((l.getD (l.length - 1 - k) 0).toNat : Int))).setCell ⟨q, l.length - 1 - k, none⟩ (.int .u8 ((l.getD k 0).toNat : Int))) := by
  refine ⟨fun x hx => ?_, fun x hx => ?_, (h.o.setCell _ _).setCell _ _⟩
  · have hk' := h.c k (by omega)
    have hj' := h.c (l.length - 1 - k) (by omega)
    by_cases h1 : x = l.length - 1 - k
    · subst h1
      have e : (W.setCell ⟨q, k, none⟩ (.int .u8 ((l.getD (l.length - 1 - k) 0).toNat : Int))).cell? ⟨q, l.length - 1 - k, none⟩ = _ := (World.cell?_setCell_other _ _ _ _ (by intro e; injection e with e1 e2 e3; omega)).trans hj'
      rw [World.cell?_setCell_same _ _ _ e]
      have er : rvA l (k + 1) (l.length - 1 - k) = l.getD k 0 := by
        unfold rvA
        rw [if_pos (by omega), show l.length - 1 - (l.length - 1 - k) = k by omega]
      rw [er]
    · rw [World.cell?_setCell_other _ _ _ _ (by intro e; injection e with e1 e2 e3; omega)]
      by_cases h2 : x = k
      · subst h2
        rw [World.cell?_setCell_same _ _ _ hk']
        have er : rvA l (x + 1) x = l.getD (l.length - 1 - x) 0 := by unfold rvA; rw [if_pos (by omega)]
        rw [er]
      · rw [World.cell?_setCell_other _ _ _ _ (by intro e; injection e with e1 e2 e3; omega), h.c x hx]
        have er : rvA l (k + 1) x = rvA l k x := by
          unfold rvA
          by_cases h3 : x < k ∨ l.length - 1 - x < k
          · rw [if_pos h3, if_pos (by omega)]
          · rw [if_neg h3, if_neg (by omega)]
        rw [er]
  · simp only [World.frozen?_setCell]; exact h.f x hx
theorem rvA_end (l : List UInt8) (k x : Nat) (hx : x < l.length) (hk : ¬ (k : Int) < (l.length : Int) - 1 - k) : rvA l k x = l.reverse.getD x 0 := by
  have e : l.reverse.getD x 0 = l.getD (l.length - 1 - x) 0 := by
    simp only [List.getD_eq_getElem?_getD]
    rw [List.getElem?_reverse hx]
  rw [e]
  unfold rvA
  by_cases h : x < k ∨ l.length - 1 - x < k
  · rw [if_pos h]
  · rw [if_neg h, show l.length - 1 - x = x by omega]

set_option maxRecDepth 8000 in
set_option maxHeartbeats 4000000 in
theorem Reverse_at (q cap : Nat) (l : List UInt8) (W : World) (hl : l.length ≤ 1000000) (h : RV q l 0 W W) :
    Calls Tryz.prog 140 #[.slice (some ⟨q, 0, none⟩) l.length cap] W fun e w' => e = .returned (.tuple #[]) ∧ ∃ k : Nat, ¬ (k : Int) < (l.length : Int) - 1 - k ∧ RV q l k W w' := by
  have HH : Hid (RV q l 0 W W) := h
  clear h
  go_enter Tryz.func140, Tryz.ntmps140
  go_wp2_with fail
  go_loopw [2, 3] (fun u2 u3 wr => ∃ k : Nat, k ≤ l.length ∧ u2 = .int .i64 (k : Int) ∧ u3 = .int .i64 ((l.length : Int) - 1 - (k : Int)) ∧ RV q l k W wr) (fun u2 _ _ => l.length - (intOf u2).toNat)
  case atStart => exact ⟨0, Nat.zero_le _, rfl, by simp, HH.out⟩
  case round =>
    obtain ⟨k, hk, rfl, rfl, hr⟩ := hrel
    clear HH
    by_cases hlt : (k : Int) < (l.length : Int) - 1 - k
    · have e1 : rvA l k k = l.getD k 0 := by unfold rvA; rw [if_neg (by omega)]
      have e2 : rvA l k (l.length - 1 - k) = l.getD (l.length - 1 - k) 0 := by unfold rvA; rw [if_neg (by omega)]
      have k1 := hr.c k (by omega)
      have k2 := hr.c (l.length - 1 - k) (by omega)
      rw [e1] at k1
      rw [e2] at k2
      have f1 := hr.f k (by omega)
      have f2 := hr.f (l.length - 1 - k) (by omega)
      have HS : Hid (RV q l (k + 1) W ((wr.setCell ⟨q, k, none⟩ (.int .u8 ((l.getD (l.length - 1 - k) 0).toNat : Int))).setCell ⟨q, l.length - 1 - k, none⟩ (.int .u8 ((l.getD k 0).toNat : Int)))) := hr.set (by omega)
      obtain ⟨j, hj⟩ : ∃ j, j = l.length - 1 - k := ⟨_, rfl⟩
      rw [← hj] at k2 f2 HS
      have hj1 : (l.length : Int) - 1 - (k : Int) = (j : Int) := by omega
      have hj2 : (k : Int) < (j : Int) := by omega
      have hj3 : (j : Int) < (l.length : Int) := by omega
      have hj4 : (k : Int) < (l.length : Int) := by omega
      have hw1 : IntKind.i64.wrap (k : Int) = (k : Int) := by simp only [IntKind.wrap, IntKind.bits, IntKind.signed]; simp; omega
      have hw2 : IntKind.i64.wrap (j : Int) = (j : Int) := by simp only [IntKind.wrap, IntKind.bits, IntKind.signed]; simp; omega
      have i0 : (0 : Int) ≤ (k : Int) := by omega
      have i1 : (0 : Int) ≤ (j : Int) := by omega
      have hkj : k ≠ j := by omega
      have HJ : Hid (j = l.length - 1 - k) := hj
      have hll : (l.length : Int) ≤ 1000000 := by omega
      have hK2 : Hid (∃ v', (wr.drew.setCell ⟨q, k, none⟩ (.int .u8 ((l.getD j 0).toNat : Int))).cell? ⟨q, j, none⟩ = some v') := cell?_setCell_some (w := wr.drew) (by exact k2)
      generalize (l.getD k 0).toNat = x1 at *
      generalize (l.getD j 0).toNat = x2 at *
      rw [hj1]
      clear hr e1 e2 hj
      go_wp2_with fail
      obtain ⟨v', hy'⟩ := hK2.out
      go_region
      all_goals go_wp2_with fail
      all_goals go_roundw
      case rel => exact ⟨k + 1, by omega, by go_num, by have := HJ.out; congr 1; omega, HS.out.drew⟩
      case measure => simp [intOf]; omega
    · have HR : Hid (RV q l k W wr) := hr
      have HL : Hid (¬ (k : Int) < (l.length : Int) - 1 - k) := hlt
      clear hr
      have hd : decide ((k : Int) < (l.length : Int) - 1 - k) = false := by simpa using hlt
      go_wp2_with fail
      refine bodyPost_end (results_none rfl _ _ _) rfl ?_
      exact ⟨rfl, k, HL.out, HR.out⟩
end Go.Proofs.YtjbffhdccgmfpaaGreatDoor
