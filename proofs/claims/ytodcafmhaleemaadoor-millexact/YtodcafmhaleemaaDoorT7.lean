/- What the functions make of a top: reversed, digest, length, joined, compared, cut. -/
import Derived.Test.YtodcafmhaleemaaDoorT6
import Derived.Test.YtodcafmhaleemaaDoorShI
import Derived.Lib.AppendIntMem
namespace Go.Proofs.YtodcafmhaleemaaDoor
open Go.RowKit
set_option linter.unusedVariables false

theorem bytesW_below (w : World) (e : TypeId) (s : ByteArray) : Below w.heap.size w (Lib.bytesWorld w e s) :=
  ⟨rfl, rfl, rfl, by rw [Lib.bytesWorld_size]; omega, fun k hk => Lib.bytesWorld_at_old w e s k hk⟩
theorem bytesW_rv (w : World) (e : TypeId) (l : List UInt8) : RV w.heap.size l 0 (Lib.bytesWorld w e (M.bs l)) (Lib.bytesWorld w e (M.bs l)) := by
  refine ⟨fun x hx => ?_, fun x hx => ?_, Off.refl _ _⟩
  · rw [Lib.bytesWorld_cell w e (M.bs l) x (by rw [M.bs_size]; exact hx), M.bs_toList]
    unfold rvA
    rw [if_neg (by omega)]
  · simp only [World.frozen?, Lib.bytesWorld_at_new]
    have : x < (Lib.bytesCells w e (M.bs l)).size := by
      simp only [Lib.bytesCells, Array.size_append, Array.size_map]
      have h2 : (M.bs l).data.size = l.length := M.bs_size l
      omega
    simp; omega
set_option maxRecDepth 8000 in
set_option maxHeartbeats 1000000 in
theorem reversed_at (t : List UInt8) (W : World) (ht : t.length ≤ 1000000) :
    Calls Tryd.prog 45 #[.string (M.bs t)] W fun e w' => e = .returned (.string (M.bs t.reverse)) ∧ Below W.heap.size W w' := by
  have hs := M.bs_size t
  have hcv : (convert 9 35 (.string (M.bs t))).run Tryd.prog W = .ok (.slice (some ⟨W.heap.size, 0, none⟩) t.length (grownCap W t.length 0 5)) (Lib.bytesWorld W 5 (M.bs t)) := by
    have := Lib.run_convert_string_bytes (P := Tryd.prog) W 9 35 5 (M.bs t) Tryd.underlying9 Tryd.underlying35 Tryd.underlying5
    rwa [hs] at this
  have hb := bytesW_below W 5 (M.bs t)
  have hsz := Lib.bytesWorld_size W 5 (M.bs t)
  have hrv := bytesW_rv W 5 t
  generalize Lib.bytesWorld W 5 (M.bs t) = W1 at *
  generalize grownCap W t.length 0 5 = cap at *
  have CR : Hid (Calls Tryd.prog 57 #[.slice (some ⟨W.heap.size, 0, none⟩) t.length cap] W1 fun e w' => e = .returned (.tuple #[]) ∧ Below W.heap.size W w' ∧ (convert 35 9 (.slice (some ⟨W.heap.size, 0, none⟩) t.length cap)).run Tryd.prog w' = .ok (.string (M.bs t.reverse)) w') := by
    refine (Reverse_at W.heap.size cap t W1 ht hrv).mono ?_
    rintro e w' ⟨rfl, k, hk, hr⟩
    refine ⟨rfl, hb.trans (hr.o.below (Nat.le_refl _) (by omega)), ?_⟩
    have := run_convert_bytes_back (P := Tryd.prog) w' 35 9 5 ⟨W.heap.size, 0, none⟩ cap t.reverse Tryd.underlying35 Tryd.underlying5 Tryd.underlying9 (fun j hj => by
      rw [Addr.add_mid, Nat.zero_add, hr.c j (by simpa using hj), rvA_end t k j (by simpa using hj) hk]
      rw [List.getD_eq_getElem?_getD, List.getElem?_eq_getElem hj]; rfl)
    rw [List.length_reverse] at this
    exact this
  clear hb hsz hrv
  go_enter Tryd.func45, Tryd.ntmps45
  go_wp2_with (go_at_call 57; refine CR.out.mono ?_; clear CR; rintro e w' ⟨rfl, HB, hcv2⟩)
  go_ret
  exact ⟨rfl, HB⟩
theorem joined_at (a t : List UInt8) (W : World) (h : a.length + t.length ≤ 1000000) :
    Calls Tryd.prog 40 #[.string (M.bs a), .string (M.bs t)] W fun e w' => e = .returned (.string (M.bs (a ++ t))) ∧ Below W.heap.size W w' := by
  have h1 := M.bs_size a
  have h2 := M.bs_size t
  have happ : M.bs a ++ M.bs t = M.bs (a ++ t) := bs_append a t
  have HB : Hid (Below W.heap.size W W) := Below.refl _ _
  go_enter Tryd.func40, Tryd.ntmps40
  go_wp2_with fail
  go_ret
  exact ⟨rfl, HB.out⟩
theorem bs_eqM (a b : List UInt8) : ((M.bs a).toList == (M.bs b).toList) = decide (a = b) := by
  rw [Lib.toList_data, Lib.toList_data, M.bs_toList, M.bs_toList]
  by_cases h : a = b
  · subst h; simp
  · rw [decide_eq_false h]; simpa using h
theorem compared_at (a t : List UInt8) (W : World) :
    Calls Tryd.prog 50 #[.string (M.bs a), .string (M.bs t)] W fun e w' => e = .returned (.string (M.bs (Q.cmp a t))) ∧ Below W.heap.size W w' := by
  have hq := bs_eqM a t
  have HB : Hid (Below W.heap.size W W) := Below.refl _ _
  by_cases h : a = t
  · rw [decide_eq_true h] at hq
    have e : Q.cmp a t = [49] := by unfold Q.cmp; rw [if_pos h]
    rw [e]
    clear h e
    go_enter Tryd.func50, Tryd.ntmps50
    go_wp2_with fail
    go_ret
    exact ⟨rfl, HB.out⟩
  · rw [decide_eq_false h] at hq
    have e : Q.cmp a t = [] := by unfold Q.cmp; rw [if_neg h]
    rw [e]
    clear h e
    go_enter Tryd.func50, Tryd.ntmps50
    go_wp2_with fail
    go_ret
    exact ⟨rfl, HB.out⟩
/-- the table of powers of ten lies in its variable -/
def Tab (w : World) : Prop := Lib.TabIs Tryd.prog w "internal/strconv.uint64pow10" .u64 Lib.pow10Tab
theorem Tab.below {w w' : World} (h : Tab w) (hb : Below w.heap.size w w') : Tab w' := Lib.tabBelow_of_tabIs h w' hb
theorem length_at (t : List UInt8) (W : World) (ht : t.length ≤ 1000000) (hT : Tab W) :
    Calls Tryd.prog 47 #[.string (M.bs t)] W fun e w' => e = .returned (.string (M.bs (Q.len t))) ∧ Below W.heap.size W w' := by
  have hs := M.bs_size t
  have CI : Hid (Calls Tryd.prog 58 #[.int .i64 (t.length : Int)] W fun e w' => e = .returned (.string (M.bs (Q.len t))) ∧ Below W.heap.size W w') := by
    refine (Tryd.strconv_Itoa (t.length : Int) (by omega) (by omega) W hT).mono ?_
    rintro e w' ⟨rfl, k, os, rfl⟩
    exact ⟨rfl, Lib.below_grow _ _ (Nat.le_refl _) k os⟩
  generalize Q.len t = L at *
  clear hT
  go_enter Tryd.func47, Tryd.ntmps47
  go_wp2_with (go_at_call 58; refine CI.out.mono ?_; rintro e w' ⟨rfl, HB⟩)
  go_ret
  exact ⟨rfl, HB⟩
theorem cut1_at (s t : List UInt8) (x : UInt8) (c : Nat) (W : World) (hx : s[1]? = some x) (ht : t.length ≤ 1000000) (hc : W.cell? ⟨c, 0, none⟩ = some (.string (M.bs s))) :
    Calls Tryd.prog 48 #[.string (M.bs t), .pointer (some ⟨c, 0, none⟩)] W fun e w' => e = .returned (.string (M.bs (t.take x.toNat))) ∧ Below W.heap.size W w' := by
  have hs := M.bs_size t
  have CN : Hid (∀ W, Calls Tryd.prog 37 #[.string (M.bs s)] W fun e w' => e = .returned (.int .i64 (x.toNat : Int)) ∧ w' = W) := fun W => number_at s x hx W
  have hx8 := x.toNat_lt
  have HB : Hid (Below W.heap.size W W) := Below.refl _ _
  generalize x.toNat = k at *
  obtain ⟨m, hm⟩ : ∃ m, m = min t.length k := ⟨_, rfl⟩
  have hmi : min (t.length : Int) (k : Int) = (m : Int) := by omega
  have htk : (M.bs t).extract 0 m = M.bs (t.take k) := by
    rw [cut_bs, List.drop_zero, Nat.sub_zero, hm]
    congr 1
    rcases Nat.le_total t.length k with h | h
    · rw [Nat.min_eq_left h, List.take_of_length_le (Nat.le_refl _), List.take_of_length_le h]
    · rw [Nat.min_eq_right h]
  have hm1 : m ≤ t.length := by omega
  clear hm hx
  go_enter Tryd.func48, Tryd.ntmps48
  go_wp2_with (go_at_call 37; refine (CN.out _).mono ?_; rintro e w' ⟨rfl, rfl⟩)
  go_ret
  exact ⟨rfl, HB.out⟩
theorem cut2_at (s t : List UInt8) (x : UInt8) (c : Nat) (W : World) (hx : s[1]? = some x) (ht : t.length ≤ 1000000) (hc : W.cell? ⟨c, 0, none⟩ = some (.string (M.bs s))) :
    Calls Tryd.prog 49 #[.string (M.bs t), .pointer (some ⟨c, 0, none⟩)] W fun e w' => e = .returned (.string (M.bs (t.drop x.toNat))) ∧ Below W.heap.size W w' := by
  have hs := M.bs_size t
  have CN : Hid (∀ W, Calls Tryd.prog 37 #[.string (M.bs s)] W fun e w' => e = .returned (.int .i64 (x.toNat : Int)) ∧ w' = W) := fun W => number_at s x hx W
  have hx8 := x.toNat_lt
  have HB : Hid (Below W.heap.size W W) := Below.refl _ _
  generalize x.toNat = k at *
  obtain ⟨m, hm⟩ : ∃ m, m = min t.length k := ⟨_, rfl⟩
  have hmi : min (t.length : Int) (k : Int) = (m : Int) := by omega
  have htk : (M.bs t).extract m t.length = M.bs (t.drop k) := by
    have := drop_bs t m
    rw [hs] at this
    rw [this, hm]
    congr 1
    rcases Nat.le_total t.length k with h | h
    · rw [Nat.min_eq_left h, List.drop_of_length_le (Nat.le_refl _), List.drop_of_length_le h]
    · rw [Nat.min_eq_right h]
  have hm1 : m ≤ t.length := by omega
  clear hm hx
  go_enter Tryd.func49, Tryd.ntmps49
  go_wp2_with (go_at_call 37; refine (CN.out _).mono ?_; rintro e w' ⟨rfl, rfl⟩)
  go_ret
  exact ⟨rfl, HB.out⟩
end Go.Proofs.YtodcafmhaleemaaDoor
