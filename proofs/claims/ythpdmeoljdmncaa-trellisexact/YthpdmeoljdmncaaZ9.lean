/- trellis: namesIn, slices.Sort at a row of one's own, Needs. -/
import Derived.Test.YthpdmeoljdmncaaZ8
import Derived.Test.YthpdmeoljdmncaaShS
import Derived.Shelf.Slices.In.SortNone
import Derived.Lib.OwnBridge
namespace Go.Proofs.Ythpdmeoljdmncaa
open Go.RowKit
set_option linter.unusedVariables false
set_option linter.unusedSimpArgs false

/-- the names of a set, among the first k -/
def nin (l : List (List UInt8)) (s k : Nat) : List (List UInt8) := (List.range k).filterMap fun i => if s.testBit i then l[i]? else none
theorem nin_succ (l : List (List UInt8)) (s k : Nat) (t : List UInt8) (h : l[k]? = some t) : nin l s (k + 1) = nin l s k ++ (if s.testBit k then [t] else []) := by
  unfold nin
  rw [List.range_succ, List.filterMap_append]
  congr 1
  by_cases hb : s.testBit k = true
  · simp [hb, h]
  · simp [hb]
theorem nin_le (l : List (List UInt8)) (s k : Nat) : (nin l s k).length ≤ k := by
  unfold nin
  have := List.length_filterMap_le (fun i => if s.testBit i then l[i]? else none) (List.range k)
  simpa using this
set_option maxRecDepth 8000 in
set_option maxHeartbeats 2000000 in
theorem namesIn_x {w W : World} {b : Nat} {g : RC.Gr} {sa aa : Option Addr} {sc ac : Nat} {vn vo : Value} {st : TR.St} (h : KX w b g sa sc aa ac vn vo st W) (s : Nat) (hs : s < 4294967296) :
    Calls Try.prog 29 #[.pointer (some ⟨b, 0, none⟩), su s] W fun e w' => ∃ v, e = .returned v ∧ w'.ownsRow W.heap.size 9 1 v (nin (TR.nm g) s (TR.nm g).length).length ((nin (TR.nm g) s (TR.nm g).length).map encS) ∧ Bl W w' := by
  obtain ⟨na, nc, rfl, _⟩ := h.v.ns
  have h2 := h.c2
  have hbl := h.lt
  have hl := h.v.nmle
  have HSA : Hid (∀ W', Bl W W' → SA W' na (TR.nm g)) := fun W' hb => by
    obtain ⟨na', nc', e, hs⟩ := (h.step hb).v.ns
    simp only [Value.slice.injEq] at e
    rw [e.1]; exact hs
  have CH : Hid (∀ W' (n : Nat), n < (TR.nm g).length → Calls Try.prog 37 #[su s, .int .i64 (n : Int)] W' fun e w' => e = .returned (.bool (s.testBit n)) ∧ w' = W') := fun W' n hn => has_at s n hs (by omega) W'
  clear h
  generalize TR.nm g = l at *
  go_enter Try.func29, Try.ntmps29
  go_wp2_with fail
  go_loopw [5, 6, 7, 13] (fun u5 u6 u7 u13 wr => ∃ k : Nat, k ≤ l.length ∧ u13 = .int .i64 k ∧ wr.ownsRow W.heap.size 9 1 u5 (nin l s k).length ((nin l s k).map encS) ∧ Bl W wr) (fun _ _ _ u13 _ => l.length - (intOf u13).toNat)
  case atStart => exact ⟨0, Nat.zero_le _, rfl, ⟨rfl, Or.inl ⟨rfl, rfl⟩⟩, Bl.refl W⟩
  case round =>
    obtain ⟨k, hk, rfl, ho, hb⟩ := hrel
    have HO : Hid (wr.ownsRow W.heap.size 9 1 u5 (nin l s k).length ((nin l s k).map encS)) := ho
    have HB : Hid (Bl W wr) := hb
    clear ho hb
    by_cases hlt : k < l.length
    · obtain ⟨t, ht⟩ : ∃ t, l[k]? = some t := ⟨l[k], List.getElem?_eq_getElem hlt⟩
      obtain ⟨b2, off2, rfl, hc⟩ := HSA.out _ HB.out k t ht
      have hsu := nin_succ l s k t ht
      have hle := nin_le l s k
      have CHk : Hid (Calls Try.prog 37 #[su s, .int .i64 (k : Int)] wr fun e w' => e = .returned (.bool (s.testBit k)) ∧ w' = wr) := CH.out wr k hlt
      obtain ⟨q, hq⟩ : ∃ q, s.testBit k = q := ⟨_, rfl⟩
      rw [hq] at CHk hsu
      clear ht hq
      cases q
      · have HS : Hid (nin l s (k + 1) = nin l s k) := by show _ = _; rw [hsu]; simp
        clear hsu
        go_wp2_with (go_at_call 37; refine CHk.out.mono ?_; rintro e w' ⟨rfl, hw'⟩; rw [hw']; clear hw' w')
        go_roundw
        case rel => exact ⟨k + 1, by omega, by go_num, by rw [HS.out]; exact HO.out, HB.out⟩
        case measure => simp [intOf]; omega
      · have HS : Hid (nin l s (k + 1) = nin l s k ++ [t]) := by show _ = _; rw [hsu]; simp
        clear hsu
        have OWN : Hid ((wr.alloc (.cells #[.string (M.bs t)] 9)).ownsRow W.heap.size 9 1 u5 (nin l s k).length ((nin l s k).map encS)) := ownsRow_belowT HO.out ((Bl.refl wr).alloc _)
        have NEW : Hid (TA.TS (wr.alloc (.cells #[.string (M.bs t)] 9)) (some ⟨wr.heap.size, 0, none⟩) [t]) := by
          show TA.TS _ _ _
          have := TA.ts_new wr [t] 9
          simpa [encS] using this
        have hsz : W.heap.size ≤ (wr.alloc (.cells #[.string (M.bs t)] 9)).heap.size := by
          have := Below.size HB.out
          simp; omega
        have FIN : Hid (∀ v' w8, w8.ownsRow W.heap.size 9 1 v' (nin l s k ++ [t]).length ((nin l s k ++ [t]).map encS) → (wr.alloc (.cells #[.string (M.bs t)] 9)).grownBy w8 u5.ownBlock → w8.ownsRow W.heap.size 9 1 v' (nin l s (k + 1)).length ((nin l s (k + 1)).map encS) ∧ Bl W w8) := fun v' w8 h3 h4 => by
          rw [HS.out]
          exact ⟨h3, Below.grown (HB.out.alloc _) h4 hsz (fun q hq => (TA.owns_ge HO.out hq).1)⟩
        clear HO
        go_wp2_with (first
          | (go_at_call 37; refine CHk.out.mono ?_; rintro e w' ⟨rfl, hw'⟩; rw [hw']; clear hw' w')
          | (refine TA.wl_app rfl _ _ rfl W.heap.size (nin l s k) u5 rfl OWN.out (some ⟨wr.heap.size, 0, none⟩) [t] 1 1 rfl rfl NEW.out hsz (by simp; omega) (fun v' w8 ho8 hg8 => ?_); obtain ⟨HO8, HB8⟩ := FIN.out _ _ ho8 hg8; clear FIN OWN NEW ho8 hg8))
        go_roundw
        case rel => exact ⟨k + 1, by omega, by go_num, HO8, HB8⟩
        case measure => simp [intOf]; omega
    · obtain rfl : k = l.length := by omega
      go_wp2_with fail
      go_ret
      exact ⟨_, rfl, HO.out, HB.out⟩

/-- texts, sorted -/
def srt (l : List (List UInt8)) : List (List UInt8) := l.mergeSort fun x y => decide (x ≤ y)
theorem bl_grow (W : World) (n : Nat) (os : Array Obj) : Bl W (Go.Sort.grow (Go.Sort.ahead W n) os) :=
  ⟨rfl, rfl, rfl, by simp [Go.Sort.grow, Go.Sort.ahead], fun k hk => by simp [Go.Sort.grow, Go.Sort.ahead, Array.getElem?_append_left hk]⟩
theorem Sort_x (ks : List (List UInt8)) (v : Value) {N : Nat} {w W : World} (ho : W.ownsRow N 9 1 v ks.length (ks.map encS)) (hN : w.heap.size ≤ N) (HB : Bl w W) (hn : ks.length ≤ 100) :
    Calls Try.prog 30 #[v] W fun e w' => e = .returned (.tuple #[]) ∧ w'.ownsRow N 9 1 v (srt ks).length ((srt ks).map encS) ∧ Bl w w' := by
  by_cases hv : v = .slice none 0 0
  · subst hv
    have hk : ks = [] := by
      obtain ⟨h0, ⟨_, h1⟩ | ⟨g', cap, cur, h1, _⟩⟩ := ho
      · exact List.length_eq_zero_iff.1 h1
      · simp at h1
    subst hk
    refine (Any.slices_Sort_string_none Try.lays190 none 0 W).mono ?_
    rintro e w' ⟨rfl, rfl⟩
    exact ⟨rfl, by simpa [srt] using ho, HB⟩
  · obtain ⟨g, cap, rfl, h1, h2, h3, h4, h5, h6⟩ := Lib.holds_of_ownsRow (enc := Go.Proofs.encStr) (zs := ks) ho hv
    refine (Try.slices_Sort_string g 0 cap ks W h6 h2 (by omega)).mono ?_
    rintro e w' ⟨rfl, n, os, rfl⟩
    have hl : (srt ks).length = ks.length := by simp [srt]
    have h7 := Lib.ownsRow_putRow (enc := Go.Proofs.encStr) (q := n) (k := ks.length) (ys := srt ks) ho hl (Nat.le_refl _)
    have h8 : Bl w (Go.Sort.putRow Go.Proofs.encStr (Go.Sort.ahead W n) g 0 (srt ks).toArray) := Lib.below_putRow HB (Nat.le_trans hN h1)
    have h9 := bl_grow (Go.Sort.putRow Go.Proofs.encStr (Go.Sort.ahead W n) g 0 (srt ks).toArray) 0 os
    rw [← hl, List.take_length] at h7
    refine ⟨rfl, ?_, h8.step h9⟩
    have h10 := ownsRow_belowT h7 h9
    rw [hl] at h10 ⊢
    exact h10
end Go.Proofs.Ythpdmeoljdmncaa
