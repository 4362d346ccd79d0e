/- trellis: what is known of a build, in memory; number, setOf, hasTwins. -/
import Derived.Test.YthpdmeoljdmncaaZ1
import Derived.Test.YthpdmeoljdmncaaL11
namespace Go.Proofs.Ythpdmeoljdmncaa
open Go.RowKit
set_option linter.unusedVariables false

def encI (n : Nat) : Value := .int .i64 (n : Int)
/-- the cells of what is known of a build -/
def kC (g : RC.Gr) (sa : Option Addr) (sc : Nat) (aa : Option Addr) (ac : Nat) (vn vo : Value) (st : TR.St) : List Value :=
  [.slice sa g.1.length sc, .slice aa g.2.length ac, vn, su st.there, vo] ++ st.needs.map su
/-- what is known of a build: its rows -/
structure KV (w : World) (g : RC.Gr) (sa : Option Addr) (sc : Nat) (aa : Option Addr) (ac : Nat) (vn vo : Value) (st : TR.St) (W : World) : Prop where
  n : W.ownsRow w.heap.size 9 1 vn (TR.nm g).length ((TR.nm g).map encS)
  o : W.ownsRow w.heap.size 3 1 vo st.order.length (st.order.map encI)
  ga : GA w.heap.size w g sa sc aa ac
  bl : Bl w W
  len : st.needs.length = 12
  l1 : g.1.length ≤ 8
  l2 : g.2.length ≤ 12
  ol : st.order.length ≤ 12
  olt : ∀ x ∈ st.order, x < 12
  tl : st.there < 4294967296
  ndl : ∀ o, TR.ndAt st.needs o < 4294967296
  gk : grOk g
/-- what is known of a build, in block b -/
structure KX (w : World) (b : Nat) (g : RC.Gr) (sa : Option Addr) (sc : Nat) (aa : Option Addr) (ac : Nat) (vn vo : Value) (st : TR.St) (W : World) : Prop where
  v : KV w g sa sc aa ac vn vo st W
  blk : W.heap[b]? = some (.cells (kC g sa sc aa ac vn vo st).toArray 53 (0, 0))
  wb : w.heap.size ≤ b
section
variable {w W W' : World} {b : Nat} {g : RC.Gr} {sa aa : Option Addr} {sc ac : Nat} {vn vo : Value} {st : TR.St}
theorem KV.step (h : KV w g sa sc aa ac vn vo st W) (hb : Bl W W') : KV w g sa sc aa ac vn vo st W' :=
  ⟨ownsRow_belowT h.n hb, ownsRow_belowT h.o hb, h.ga, h.bl.step hb, h.len, h.l1, h.l2, h.ol, h.olt, h.tl, h.ndl, h.gk⟩
theorem KX.step (h : KX w b g sa sc aa ac vn vo st W) (hb : Bl W W') : KX w b g sa sc aa ac vn vo st W' :=
  ⟨h.v.step hb, by rw [Below.block hb b (TA.lt_heap h.blk)]; exact h.blk, h.wb⟩
theorem KX.lt (h : KX w b g sa sc aa ac vn vo st W) : b < W.heap.size := TA.lt_heap h.blk
theorem KX.c0 (h : KX w b g sa sc aa ac vn vo st W) : W.cell? ⟨b, 0, none⟩ = some (.slice sa g.1.length sc) := by rw [Lib.cell_of_heap h.blk]; rfl
theorem KX.c1 (h : KX w b g sa sc aa ac vn vo st W) : W.cell? ⟨b, 1, none⟩ = some (.slice aa g.2.length ac) := by rw [Lib.cell_of_heap h.blk]; rfl
theorem KX.c2 (h : KX w b g sa sc aa ac vn vo st W) : W.cell? ⟨b, 2, none⟩ = some vn := by rw [Lib.cell_of_heap h.blk]; rfl
theorem KX.c3 (h : KX w b g sa sc aa ac vn vo st W) : W.cell? ⟨b, 3, none⟩ = some (su st.there) := by rw [Lib.cell_of_heap h.blk]; rfl
theorem KX.c4 (h : KX w b g sa sc aa ac vn vo st W) : W.cell? ⟨b, 4, none⟩ = some vo := by rw [Lib.cell_of_heap h.blk]; rfl
theorem KX.cn (h : KX w b g sa sc aa ac vn vo st W) {p : Nat} (hp : p < 12) : W.cell? ⟨b, 5 + p, none⟩ = some (su (TR.ndAt st.needs p)) := by
  rw [Lib.cell_of_heap h.blk]
  have h1 : p < st.needs.length := by rw [h.v.len]; exact hp
  simp only [kC, List.getElem?_toArray]
  rw [List.getElem?_append_right (by simp)]
  simp [TR.ndAt, List.getElem?_eq_getElem h1]
theorem KX.fz (h : KX w b g sa sc aa ac vn vo st W) (i : Nat) : W.frozen? ⟨b, i, none⟩ = false := by simp [World.frozen?, h.blk]
theorem KX.gaW (h : KX w b g sa sc aa ac vn vo st W) : GA W.heap.size W g sa sc aa ac := h.v.ga.bl h.v.bl
theorem KV.nmle (h : KV w g sa sc aa ac vn vo st W) : (TR.nm g).length ≤ 20 := by rw [TR.nm_len]; have := h.l1; have := h.l2; omega
/-- its names -/
theorem KV.ns (h : KV w g sa sc aa ac vn vo st W) : ∃ na nc, vn = .slice na (TR.nm g).length nc ∧ SA W na (TR.nm g) := by
  obtain ⟨a', c', rfl, _, hs⟩ := Strs.ofOwns h.n
  exact ⟨a', c', rfl, (Strs.sa hs).2⟩
theorem KV.set_lt (h : KV w g sa sc aa ac vn vo st W) (xs : List (List UInt8)) : TR.setOf (TR.nm g) xs < 4294967296 := TR.lt32 (TR.setOf_lt _ _) (by have := h.nmle; omega)
end

set_option maxHeartbeats 1000000 in
theorem number_at {w W : World} {b : Nat} {g : RC.Gr} {sa aa : Option Addr} {sc ac : Nat} {vn vo : Value} {st : TR.St} (h : KX w b g sa sc aa ac vn vo st W) (p : Nat) (hp : p < 12) :
    Calls Try.prog 38 #[.pointer (some ⟨b, 0, none⟩), .int .i64 (p : Int)] W fun e w' => e = .returned (.int .i64 ((g.1.length + p : Nat) : Int)) ∧ w' = W := by
  have h0 := h.c0
  have hl := h.v.l1
  have hb := h.lt
  clear h
  go_enter Try.func38, Try.ntmps38
  go_wp2_with fail
  go_ret
  exact ⟨by go_num, rfl⟩

theorem si_shl {i : Nat} (h : 2 ^ i < 4294967296) : (2 : Int) ^ i % 4294967296 = si (2 ^ i) := by
  have e : (2 : Int) ^ i = ((2 ^ i : Nat) : Int) := by simp
  rw [e]
  unfold si
  exact Int.emod_eq_of_lt (Int.natCast_nonneg _) (by omega)
theorem setOf_take (l xs : List (List UInt8)) (k : Nat) (x : List UInt8) (h : xs[k]? = some x) : TR.setOf l (xs.take (k + 1)) = TR.setOf l (xs.take k) ||| TR.bit l x := by
  rw [List.take_add_one, h]; exact TR.setOf_snoc _ _ _

set_option maxRecDepth 8000 in
set_option maxHeartbeats 1000000 in
theorem setOf_at {w W : World} {b : Nat} {g : RC.Gr} {sa aa : Option Addr} {sc ac : Nat} {vn vo : Value} {st : TR.St} (h : KX w b g sa sc aa ac vn vo st W) (xs : List (List UInt8)) (a : Option Addr) (c : Nat) (hx : SA W a xs) (hn : xs.length ≤ maxLen) :
    Calls Try.prog 33 #[.pointer (some ⟨b, 0, none⟩), .slice a xs.length c] W fun e w' => e = .returned (su (TR.setOf (TR.nm g) xs)) ∧ w' = W := by
  obtain ⟨na, nc, rfl, hs⟩ := h.v.ns
  have h2 := h.c2
  have hb := h.lt
  have hl := h.v.nmle
  have HX : Hid (SA W a xs) := hx
  have HSL : Hid (∀ k, TR.setOf (TR.nm g) (xs.take k) < 4294967296) := fun k => h.v.set_lt _
  have HS : Hid (SA W na (TR.nm g)) := hs
  have HE : Hid (TR.setOf (TR.nm g) (xs.take xs.length) = TR.setOf (TR.nm g) xs) := by show _ = _; rw [List.take_length]
  clear h hx hs
  generalize TR.nm g = l at *
  unfold maxLen at hn
  go_enter Try.func33, Try.ntmps33
  go_wp2_with fail
  go_loop [5, 7, 8, 11] (fun u5 u7 u8 u11 => ∃ k : Nat, k ≤ xs.length ∧ u11 = .int .i64 k ∧ u5 = su (TR.setOf l (xs.take k))) (fun _ _ _ u11 => xs.length - (intOf u11).toNat)
  case atStart => exact ⟨0, Nat.zero_le _, rfl, rfl⟩
  case round =>
    obtain ⟨k, hk, rfl, rfl⟩ := hrel
    by_cases hlt : k < xs.length
    · obtain ⟨t, ht⟩ : ∃ t, xs[k]? = some t := ⟨xs[k], List.getElem?_eq_getElem hlt⟩
      obtain ⟨b2, off2, rfl, hc⟩ := HX.out k t ht
      have hst := setOf_take l xs k t ht
      have CI : Hid (∀ i, idxI (fun x => decide (x = t)) l = i → Calls Try.prog 50 #[.slice na l.length nc, .string (M.bs t)] W fun e w' => e = .returned (.int .i64 i) ∧ w' = W) := fun i e => by
        rw [← e]; exact Index_at l na nc t W HS.out (by unfold maxLen; omega)
      have hs1 := HSL.out k
      cases hp : TR.pos l t with
      | none =>
        have hb0 : TR.bit l t = 0 := by unfold TR.bit; rw [hp]
        rw [hb0, Nat.or_zero] at hst
        have CN : Hid (Calls Try.prog 50 #[.slice na l.length nc, .string (M.bs t)] W fun e w' => e = .returned (.int .i64 (-1)) ∧ w' = W) := CI.out _ (by rw [idx_pos, hp])
        have HST : Hid (TR.setOf l (xs.take (k + 1)) = TR.setOf l (xs.take k)) := hst
        clear CI ht hp hst hb0
        go_wp2_with (go_at_call 50; refine CN.out.mono ?_; rintro e w' ⟨rfl, rfl⟩)
        go_round
        case rel => exact ⟨k + 1, by omega, by go_num, by rw [HST.out]⟩
        case measure => simp [intOf]; omega
      | some i =>
        have hi : i < l.length := (TR.pos_some hp).2
        have hb0 : TR.bit l t = 2 ^ i := by unfold TR.bit; rw [hp]
        have hbl : (2 : Nat) ^ i < 4294967296 := Nat.lt_of_le_of_lt (Nat.pow_le_pow_right (by omega) (show i ≤ 20 by omega)) (by decide)
        have hsh := si_shl hbl
        have hor := si_or hs1 hbl
        rw [hb0] at hst
        rw [← hst] at hor
        have CN : Hid (Calls Try.prog 50 #[.slice na l.length nc, .string (M.bs t)] W fun e w' => e = .returned (.int .i64 (i : Int)) ∧ w' = W) := CI.out _ (by rw [idx_pos, hp])
        clear CI ht hp hst hb0
        go_wp2_with (go_at_call 50; refine CN.out.mono ?_; rintro e w' ⟨rfl, rfl⟩)
        go_round
        case rel => exact ⟨k + 1, by omega, by go_num, rfl⟩
        case measure => simp [intOf]; omega
    · obtain rfl : k = xs.length := by omega
      go_wp2_with fail
      go_ret
      exact ⟨rfl, rfl⟩

set_option maxRecDepth 8000 in
set_option maxHeartbeats 1000000 in
theorem hasTwins_at {w W : World} {b : Nat} {g : RC.Gr} {sa aa : Option Addr} {sc ac : Nat} {vn vo : Value} {st : TR.St} (h : KX w b g sa sc aa ac vn vo st W) :
    Calls Try.prog 41 #[.pointer (some ⟨b, 0, none⟩)] W fun e w' => e = .returned (.bool (!decide (TR.nm g).Nodup)) ∧ w' = W := by
  obtain ⟨na, nc, rfl, hs⟩ := h.v.ns
  have h2 := h.c2
  have hb := h.lt
  have hl := h.v.nmle
  have HS : Hid (SA W na (TR.nm g)) := hs
  clear h hs
  generalize TR.nm g = l at *
  go_enter Try.func41, Try.ntmps41
  go_wp2_with fail
  go_loop [3, 4, 10] (fun u3 u4 u10 => ∃ k : Nat, k ≤ l.length ∧ u10 = .int .i64 k ∧ ∀ i x, i < k → l[i]? = some x → TR.pos l x = some i) (fun _ _ u10 => l.length - (intOf u10).toNat)
  case atStart => exact ⟨0, Nat.zero_le _, rfl, fun i e hi => by omega⟩
  case round =>
    obtain ⟨k, hk, rfl, hpre⟩ := hrel
    have HP : Hid (∀ i x, i < k → l[i]? = some x → TR.pos l x = some i) := hpre
    clear hpre
    by_cases hlt : k < l.length
    · obtain ⟨t, ht⟩ : ∃ t, l[k]? = some t := ⟨l[k], List.getElem?_eq_getElem hlt⟩
      obtain ⟨b2, off2, rfl, hc⟩ := HS.out k t ht
      obtain ⟨i, hp⟩ := TR.pos_mem (List.mem_of_getElem? ht)
      have hi : i < l.length := (TR.pos_some hp).2
      have CN : Hid (Calls Try.prog 50 #[.slice (some ⟨b2, off2, none⟩) l.length nc, .string (M.bs t)] W fun e w' => e = .returned (.int .i64 (i : Int)) ∧ w' = W) := by
        have := Index_at l (some ⟨b2, off2, none⟩) nc t W HS.out (by unfold maxLen; omega)
        rw [idx_pos, hp] at this; exact this
      by_cases hik : i = k
      · have HE : Hid (∀ j x, j < k + 1 → l[j]? = some x → TR.pos l x = some j) := fun j x hj hx => by
          rcases (by omega : j < k ∨ j = k) with h' | rfl
          · exact HP.out j x h' hx
          · rw [ht] at hx; cases hx; rw [hp, hik]
        subst hik
        have hq : ((i : Int) != (i : Int)) = false := by simp
        clear ht hp HP
        go_wp2_with (go_at_call 50; refine CN.out.mono ?_; rintro e w' ⟨rfl, rfl⟩)
        go_round
        case rel => exact ⟨i + 1, by omega, by go_num, HE.out⟩
        case measure => simp [intOf]; omega
      · have hq : ((i : Int) != (k : Int)) = true := by rw [bne_iff_ne]; omega
        have HN : Hid (¬ l.Nodup) := fun hn => hik (by have := TR.pos_of hn ht; rw [hp] at this; simpa using this)
        clear ht hp HP hik
        go_wp2_with (go_at_call 50; refine CN.out.mono ?_; rintro e w' ⟨rfl, rfl⟩)
        go_ret
        exact ⟨by rw [decide_eq_false HN.out]; rfl, rfl⟩
    · obtain rfl : k = l.length := by omega
      have HN : Hid l.Nodup := TR.nodup_of_pos fun i x hx => HP.out i x (List.getElem?_eq_some_iff.1 hx).1 hx
      go_wp2_with fail
      go_ret
      exact ⟨by rw [decide_eq_true HN.out]; rfl, rfl⟩
end Go.Proofs.Ythpdmeoljdmncaa
