/- What sap.Row answers, for every row of texts: its bytes (as long as they are at most 2^47). -/
import Derived.Test.YtfbjakhanjbaeaaDoorW3
namespace Go.Proofs.YtfbjakhanjbaeaaDoor
open Go.RowKit
set_option linter.unusedVariables false

/-- a value that is the texts l, in memory below block B -/
def Strs (B : Nat) (w : World) (v : Value) (l : List (List UInt8)) : Prop :=
  (l = [] ∧ ∃ a c, v = .slice a 0 c) ∨
  ∃ b off cap, v = .slice (some ⟨b, off, none⟩) l.length cap ∧ b < B ∧ ∀ i t, l[i]? = some t → w.cell? ⟨b, off + i, none⟩ = some (.string (M.bs t))
theorem Strs.below {B B' : Nat} {w w' : World} {v : Value} {l : List (List UInt8)} (h : Strs B w v l) (hb : Below B w w') (hB : B ≤ B') : Strs B' w' v l := by
  rcases h with h | ⟨b, off, cap, h1, h2, h3⟩
  · exact Or.inl h
  · exact Or.inr ⟨b, off, cap, h1, by omega, fun i t ht => by rw [hb.cell (p := ⟨b, off + i, none⟩) h2]; exact h3 i t ht⟩

theorem ownsRow_below {B : Nat} {e : TypeId} {v : Value} {n : Nat} {xs : List Value} {w w' : World} (h : w.ownsRow B e 1 v n xs) (hb : Below w.heap.size w w') : w'.ownsRow B e 1 v n xs := by
  obtain ⟨h0, h1 | ⟨g, cap, cur, h1, h2, h3, h4⟩⟩ := h
  · exact ⟨h0, Or.inl h1⟩
  · have hg : g < w.heap.size := by
      rcases Nat.lt_or_ge g w.heap.size with h | h
      · exact h
      · rw [Array.getElem?_eq_none h] at h3; simp at h3
    exact ⟨h0, Or.inr ⟨g, cap, cur, h1, h2, by rw [hb.block g hg]; exact h3, h4⟩⟩
theorem builder_below {T e : TypeId} {B b : Nat} {bs : List Value} {w w' : World} (h : Lib.IsBuilder T e B b bs w) (hb : Below w.heap.size w w') : Lib.IsBuilder T e B b bs w' := by
  have go : ∀ p, Lib.BuilderAt T e B b p bs w → Lib.BuilderAt T e B b p bs w' := by
    intro p h
    have hlt := h.lt
    obtain ⟨h1, v, h2, h3, h4⟩ := h
    exact ⟨h1, v, by rw [hb.block b hlt]; exact h2, ownsRow_below h3 hb, h4⟩
  rcases h with h | h
  · exact Or.inl (go _ h)
  · exact Or.inr (go _ h)

theorem isB_lt {T e : TypeId} {B b : Nat} {bs : List Value} {w : World} (h : Lib.IsBuilder T e B b bs w) : b < w.heap.size := by
  rcases h with h | h
  · exact h.lt
  · exact h.lt

theorem writeString (B b : Nat) (pre : List UInt8) (t : List UInt8) (w : World) (h : Lib.IsBuilder 84 5 B b (Lib.byteCells pre) w) (hlen : pre.length + t.length ≤ 140737488355328) (hBw : B ≤ w.heap.size) :
    Calls Tryd.prog 56 #[.pointer (some ⟨b, 0, none⟩), .string (M.bs t)] w fun e w' => e = .returned (.tuple #[.int .i64 t.length, .nilIface]) ∧ Lib.IsBuilder 84 5 B b (Lib.byteCells (pre ++ t)) w' ∧ Below B w w' := by
  refine (Tryd.Builder_WriteString B b (Lib.byteCells pre) (M.bs t) w h (by rw [Lib.byteCells_length, M.bs_size]; exact hlen) hBw).mono ?_
  rintro e w' ⟨rfl, h1, h2⟩
  refine ⟨by rw [M.bs_size], Or.inr ?_, h2⟩
  rw [Lib.byteCells_append]
  exact h1

/-- the bytes that are written when k texts are -/
def pre (l : List (List UInt8)) (k : Nat) : List UInt8 := M.numB l.length ++ M.textsB (l.take k)
theorem pre_zero (l : List (List UInt8)) : pre l 0 = M.numB l.length := by simp [pre, M.textsB]
theorem pre_all (l : List (List UInt8)) : pre l l.length = M.rowB l := by simp [pre, M.rowB]
theorem pre_succ (l : List (List UInt8)) (k : Nat) (t : List UInt8) (h : l[k]? = some t) : pre l (k + 1) = (pre l k ++ M.numB t.length) ++ t := by
  unfold pre
  rw [List.take_add_one, h]
  simp [M.textsB, M.textB]
theorem pre_le (l : List (List UInt8)) (k : Nat) : (pre l k).length ≤ (M.rowB l).length := by
  have e : M.textsB l = M.textsB (l.take k) ++ M.textsB (l.drop k) := by
    unfold M.textsB
    rw [← List.flatten_append, ← List.map_append, List.take_append_drop]
  unfold pre M.rowB
  rw [e]
  simp only [List.length_append]
  omega

set_option maxHeartbeats 800000 in
theorem row_ne (b off cap : Nat) (l : List (List UInt8)) (w : World) (hb : b < w.heap.size) (hc : ∀ i t, l[i]? = some t → w.cell? ⟨b, off + i, none⟩ = some (.string (M.bs t)))
    (hlen : (M.rowB l).length ≤ 140737488355328) (hn : l.length ≤ 140737488355328) :
    Calls Tryd.prog 41 #[.slice (some ⟨b, off, none⟩) l.length cap] w fun e w' => e = .returned (.string (M.bs (M.rowB l))) ∧ Below w.heap.size w w' := by
  have Hc : Hid (∀ i t, l[i]? = some t → w.cell? ⟨b, off + i, none⟩ = some (.string (M.bs t))) := hc
  clear hc
  have hfr := Lib.fresh_isBuilder 84 5 w
  go_enter Tryd.func41, Tryd.ntmps41
  go_wp2_with (go_at_call 40; refine (num_any _ _ (by omega) (by omega)).mono ?_)
  rintro e w1 ⟨rfl, hb1⟩
  have hbd1 : Lib.IsBuilder 84 5 w.heap.size w.heap.size (Lib.byteCells []) w1 := builder_below hfr hb1
  have hbe1 : Below w.heap.size w w1 := ((Below.refl _ w).alloc (Nat.le_refl _) _).trans (hb1.mono (by simp))
  clear hfr hb1
  have HB : Hid (Below w.heap.size w w1) := hbe1
  have hsz1 : w.heap.size ≤ w1.heap.size := hbe1.size
  clear hbe1
  have hp0 := pre_le l 0
  rw [pre_zero] at hp0
  go_wp2_with (go_at_call 56; refine (writeString _ _ [] _ _ hbd1 (by simp; omega) hsz1).mono ?_)
  rintro e w2 ⟨rfl, hbd2, hb2⟩
  have hbe2 : Below w.heap.size w w2 := HB.out.trans hb2
  have HB2 : Hid (Below w.heap.size w w2) := hbe2
  have HD2 : Hid (Lib.IsBuilder 84 5 w.heap.size w.heap.size (Lib.byteCells (pre l 0)) w2) := by
    show Lib.IsBuilder _ _ _ _ _ _
    rw [pre_zero]; exact hbd2
  clear HB hbd1 hb2 hbe2 hbd2 hsz1 hp0
  go_wp2
  go_loopw [5, 12] (fun u5 u12 wr => ∃ k : Nat, k ≤ l.length ∧ u12 = .int .i64 k ∧ Lib.IsBuilder 84 5 w.heap.size w.heap.size (Lib.byteCells (pre l k)) wr ∧ Below w.heap.size w wr) (fun _ u12 _ => l.length - (intOf u12).toNat)
  case atStart => exact ⟨0, Nat.zero_le _, rfl, HD2.out, HB2.out⟩
  case round =>
    obtain ⟨k, hk, rfl, hbd, hbe⟩ := hrel
    clear HD2 HB2
    have hsz := hbe.size
    have HBD : Hid (Lib.IsBuilder 84 5 w.heap.size w.heap.size (Lib.byteCells (pre l k)) wr) := hbd
    have HBE : Hid (Below w.heap.size w wr) := hbe
    clear hbd hbe
    by_cases hlt : k < l.length
    · obtain ⟨t, ht⟩ : ∃ t, l[k]? = some t := ⟨l[k], List.getElem?_eq_getElem hlt⟩
      have hcell : wr.cell? ⟨b, off + k, none⟩ = some (.string (M.bs t)) := by
        rw [HBE.out.cell (p := ⟨b, off + k, none⟩) hb]; exact Hc.out k t ht
      have hps := pre_succ l k t ht
      have hpl := pre_le l (k + 1)
      rw [hps] at hpl
      have HPS : Hid (pre l (k + 1) = (pre l k ++ M.numB t.length) ++ t) := hps
      simp only [List.length_append] at hpl
      clear hps ht
      have hbsz := M.bs_size t
      go_wp2_with (go_at_call 40; refine (num_any _ _ (by omega) (by omega)).mono ?_)
      rintro e w3 ⟨rfl, hb3⟩
      have hbd3 := builder_below HBD.out hb3
      have HB3 : Hid (Below w.heap.size wr w3) := hb3.mono hsz
      have hsz3 : w.heap.size ≤ w3.heap.size := Nat.le_trans hsz hb3.size
      clear hb3
      go_wp2_with (go_at_call 56; refine (writeString _ _ _ _ _ hbd3 (by omega) hsz3).mono ?_)
      rintro e w4 ⟨rfl, hbd4, hb4⟩
      have hsz4 : w.heap.size ≤ w4.heap.size := Nat.le_trans hsz3 hb4.size
      have HB4 : Hid (Below w.heap.size wr w4) := HB3.out.trans hb4
      clear hb4 HB3 hbd3
      go_wp2_with (go_at_call 56; refine (writeString _ _ _ _ _ hbd4 (by rw [List.length_append]; omega) hsz4).mono ?_)
      rintro e w5 ⟨rfl, hbd5, hb5⟩
      have HD5 : Hid (Lib.IsBuilder 84 5 w.heap.size w.heap.size (Lib.byteCells (pre l (k + 1))) w5) := by
        show Lib.IsBuilder _ _ _ _ _ _
        rw [HPS.out]; exact hbd5
      have HB5 : Hid (Below w.heap.size w w5) := HBE.out.trans (HB4.out.trans hb5)
      clear hbd5 hb5 HB4 hbd4
      go_wp2
      go_roundw
      case rel => exact ⟨k + 1, by omega, by go_num, HD5.out, HB5.out⟩
      case measure => simp [intOf]; omega
    · obtain rfl : k = l.length := by omega
      go_wp2_with (go_at_call 57; refine (Tryd.Builder_String_any _ _ _ _ HBD.out hsz).mono ?_)
      rintro e w3 ⟨rfl, hb3⟩
      have HB3 : Hid (Below w.heap.size w w3) := HBE.out.trans hb3
      clear hb3
      go_wp2
      go_ret
      exact ⟨by rw [← pre_all]; rfl, HB3.out⟩

set_option maxHeartbeats 800000 in
theorem row_nil (a : Option Addr) (cap : Nat) (w : World) :
    Calls Tryd.prog 41 #[.slice a 0 cap] w fun e w' => e = .returned (.string (M.bs (M.rowB []))) ∧ Below w.heap.size w w' := by
  have hfr := Lib.fresh_isBuilder 84 5 w
  go_enter Tryd.func41, Tryd.ntmps41
  go_wp2_with (go_at_call 40; refine (num_any _ _ (by omega) (by omega)).mono ?_)
  rintro e w1 ⟨rfl, hb1⟩
  have hbd1 : Lib.IsBuilder 84 5 w.heap.size w.heap.size (Lib.byteCells []) w1 := builder_below hfr hb1
  have hbe1 : Below w.heap.size w w1 := ((Below.refl _ w).alloc (Nat.le_refl _) _).trans (hb1.mono (by simp))
  clear hfr hb1
  have HB : Hid (Below w.heap.size w w1) := hbe1
  have hsz1 : w.heap.size ≤ w1.heap.size := hbe1.size
  clear hbe1
  go_wp2_with (go_at_call 56; refine (writeString _ _ [] _ _ hbd1 (by have := M.numB_len 0; simp; omega) hsz1).mono ?_)
  rintro e w2 ⟨rfl, hbd2, hb2⟩
  have hbe2 : Below w.heap.size w w2 := HB.out.trans hb2
  have hsz2 := hbe2.size
  have HB2 : Hid (Below w.heap.size w w2) := hbe2
  have HD2 : Hid (Lib.IsBuilder 84 5 w.heap.size w.heap.size (Lib.byteCells (M.rowB [])) w2) := hbd2
  clear HB hbd1 hb2 hbe2 hbd2 hsz1
  go_wp2
  go_loopw [5, 12] (fun u5 u12 wr => u12 = .int .i64 0 ∧ wr = w2) (fun _ u12 _ => 0)
  case atStart => exact ⟨rfl, rfl⟩
  case round =>
    obtain ⟨rfl, rfl⟩ := hrel
    go_wp2_with (go_at_call 57; refine (Tryd.Builder_String_any _ _ _ _ HD2.out hsz2).mono ?_)
    rintro e w3 ⟨rfl, hb3⟩
    have HB3 : Hid (Below w.heap.size w w3) := HB2.out.trans hb3
    clear hb3
    go_wp2
    go_ret
    exact ⟨rfl, HB3.out⟩

theorem row_any (v : Value) (l : List (List UInt8)) (w : World) (hv : Strs w.heap.size w v l) (hlen : (M.rowB l).length ≤ 140737488355328) (hn : l.length ≤ 140737488355328) :
    Calls Tryd.prog 41 #[v] w fun e w' => e = .returned (.string (M.bs (M.rowB l))) ∧ Below w.heap.size w w' := by
  rcases hv with ⟨rfl, a, c, rfl⟩ | ⟨b, off, cap, rfl, hb, hc⟩
  · exact row_nil a c w
  · exact row_ne b off cap l w hb hc hlen hn

end Go.Proofs.YtfbjakhanjbaeaaDoor
