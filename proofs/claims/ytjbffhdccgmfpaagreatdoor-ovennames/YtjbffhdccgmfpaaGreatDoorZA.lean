/- The texts Z1 Z2 Z3 Z4 as one. -/
import Derived.Test.YtjbffhdccgmfpaaGreatDoorLA
import Derived.Test.YtjbffhdccgmfpaaGreatDoorTMath
import Derived.Laws.BitsAllLaws
import Derived.Test.YtjbffhdccgmfpaaGreatDoorLB
import Derived.Test.YtjbffhdccgmfpaaGreatDoorRegT
/- trellis: sets of names (has, meets, isWithin); slices.Index and slices.Contains at texts. -/
namespace Go.Proofs.YtjbffhdccgmfpaaGreatDoor
open Go.RowKit
set_option linter.unusedVariables false

/-- a set as a number (its own name, so that no rule of numbers opens it) -/
def si (n : Nat) : Int := (n : Int)
abbrev su (n : Nat) : Value := .int .u32 (si n)
theorem si_and {a b : Nat} (ha : a < 4294967296) (hb : b < 4294967296) : bits .and .u32 (si a) (si b) = si (a &&& b) := u32_and_nat a b ha hb
theorem si_or {a b : Nat} (ha : a < 4294967296) (hb : b < 4294967296) : bits .or .u32 (si a) (si b) = si (a ||| b) := u32_or_nat a b ha hb
theorem si_nz (a : Nat) : (si a != 0) = !decide (a = 0) := by
  unfold si
  rw [Bool.eq_iff_iff, bne_iff_ne, Bool.not_eq_true', decide_eq_false_iff_not]; omega
theorem si_z (a : Nat) : (si a == 0) = decide (a = 0) := by
  unfold si
  rw [Bool.eq_iff_iff, beq_iff_eq, decide_eq_true_eq]; omega
theorem si_one (a : Nat) : (si a == 1) = decide (a = 1) := by
  unfold si
  rw [Bool.eq_iff_iff, beq_iff_eq, decide_eq_true_eq]; omega

theorem meets_at (a b : Nat) (ha : a < 4294967296) (hb : b < 4294967296) (w : World) :
    Calls Tryz.prog 103 #[su a, su b] w fun e w' => e = .returned (.bool (!decide (a &&& b = 0))) ∧ w' = w := by
  have h1 := si_and ha hb
  have h2 := si_nz (a &&& b)
  go_enter Tryz.func103, Tryz.ntmps103
  go_wp2_with fail
  go_ret
  exact ⟨rfl, rfl⟩
theorem isWithin_at (a b : Nat) (ha : a < 4294967296) (hb : b < 4294967296) (w : World) :
    Calls Tryz.prog 104 #[su a, su b] w fun e w' => e = .returned (.bool (TR.sub a b)) ∧ w' = w := by
  have h1 : bits .andNot .u32 (si a) (si b) = si (a &&& (4294967295 - b)) := u32_andNot_nat a b ha hb
  have h2 := si_z (a &&& (4294967295 - b))
  rw [TR.sub_not ha hb] at h2
  go_enter Tryz.func104, Tryz.ntmps104
  go_wp2_with fail
  go_ret
  exact ⟨rfl, rfl⟩
theorem has_at (s n : Nat) (hs : s < 4294967296) (hn : n ≤ 31) (w : World) :
    Calls Tryz.prog 105 #[su s, .int .i64 (n : Int)] w fun e w' => e = .returned (.bool (s.testBit n)) ∧ w' = w := by
  have h1 : si s / 2 ^ n = si (s / 2 ^ n) := by unfold si; simp
  have hd : s / 2 ^ n < 4294967296 := Nat.lt_of_le_of_lt (Nat.div_le_self _ _) hs
  have h2 : bits .and .u32 (si (s / 2 ^ n)) 1 = si (s / 2 ^ n % 2) := by
    have := si_and hd (show 1 < 4294967296 by decide)
    rw [Nat.and_one_is_mod] at this
    exact this
  have h3 := si_one (s / 2 ^ n % 2)
  rw [TR.has_t] at h3
  go_enter Tryz.func105, Tryz.ntmps105
  go_wp2_with fail
  go_ret
  exact ⟨rfl, rfl⟩

theorem idx_pos (l : List (List UInt8)) (s : List UInt8) : idxI (fun x => decide (x = s)) l = match TR.pos l s with | some i => (i : Int) | none => -1 := rfl
set_option maxRecDepth 8000 in
set_option maxHeartbeats 1000000 in
theorem Index_at (l : List (List UInt8)) (a : Option Addr) (c : Nat) (s : List UInt8) (w : World) (hv : SA w a l) (hn : l.length ≤ maxLen) :
    Calls Tryz.prog 82 #[.slice a l.length c, .string (M.bs s)] w fun e w' => e = .returned (.int .i64 (idxI (fun x => decide (x = s)) l)) ∧ w' = w := by
  have HV : Hid (SA w a l) := hv
  clear hv
  unfold maxLen at hn
  go_enter Tryz.func82, Tryz.ntmps82
  go_wp2_with fail
  go_loop [5, 8] (fun u5 u8 => ∃ k : Nat, k ≤ l.length ∧ u8 = .int .i64 k ∧ ∀ i e, i < k → l[i]? = some e → decide (e = s) = false) (fun _ u8 => l.length - (intOf u8).toNat)
  case atStart => exact ⟨0, Nat.zero_le _, rfl, fun i e hi => by omega⟩
  case round =>
    obtain ⟨k, hk, rfl, hpre⟩ := hrel
    have HP : Hid (∀ i e, i < k → l[i]? = some e → decide (e = s) = false) := hpre
    clear hpre
    by_cases hlt : k < l.length
    · obtain ⟨t, ht⟩ : ∃ t, l[k]? = some t := ⟨l[k], List.getElem?_eq_getElem hlt⟩
      obtain ⟨b, off, rfl, hc⟩ := HV.out k t ht
      obtain ⟨q, hq, hb⟩ : ∃ q, decide (t = s) = q ∧ ((M.bs s).toList == (M.bs t).toList) = q := by
        refine ⟨_, rfl, ?_⟩
        simp only [Lib.toList_data, M.bs_toList]
        rw [Bool.eq_iff_iff, beq_iff_eq, decide_eq_true_eq]
        exact eq_comm
      have HF : Hid (q = true → idxI (fun x => decide (x = s)) l = (k : Int)) := fun h => idxI_of (p := fun x => decide (x = s)) HP.out ht (by show decide (t = s) = true; rw [hq]; exact h)
      have HE : Hid (q = false → ∀ i e, i < k + 1 → l[i]? = some e → decide (e = s) = false) := fun h i e hi he => by
        rcases (by omega : i < k ∨ i = k) with h' | rfl
        · exact HP.out i e h' he
        · rw [ht] at he; cases he; rw [hq]; exact h
      clear ht hq
      cases q
      · go_wp2_with fail
        go_round
        case rel => exact ⟨k + 1, by omega, by go_num, HE.out rfl⟩
        case measure => simp [intOf]; omega
      · go_wp2_with fail
        go_ret
        exact ⟨by rw [HF.out trivial]; rfl, rfl⟩
    · obtain rfl : k = l.length := by omega
      have HF : Hid (idxI (fun x => decide (x = s)) l = -1) := idxI_none (p := fun x => decide (x = s)) HP.out
      go_wp2_with fail
      go_ret
      exact ⟨by rw [HF.out]; rfl, rfl⟩
theorem any_mem (l : List (List UInt8)) (s : List UInt8) : (l.any fun x => decide (x = s)) = decide (s ∈ l) := by
  rw [Bool.eq_iff_iff, List.any_eq_true, decide_eq_true_eq]
  constructor
  · rintro ⟨x, hx, h⟩; simp at h; exact h ▸ hx
  · intro h; exact ⟨s, h, by simp⟩
theorem Contains_at (l : List (List UInt8)) (a : Option Addr) (c : Nat) (s : List UInt8) (w : World) (hv : SA w a l) (hn : l.length ≤ maxLen) :
    Calls Tryz.prog 85 #[.slice a l.length c, .string (M.bs s)] w fun e w' => e = .returned (.bool (decide (s ∈ l))) ∧ w' = w := by
  obtain ⟨i, hi⟩ : ∃ i, idxI (fun x => decide (x = s)) l = i := ⟨_, rfl⟩
  have CI : Hid (∀ W, W = w → Calls Tryz.prog 82 #[.slice a l.length c, .string (M.bs s)] W fun e w' => e = .returned (.int .i64 i) ∧ w' = W) := fun W e => by
    subst e; rw [← hi]; exact Index_at l a c s W hv hn
  have HA : Hid (decide (0 ≤ i) = decide (s ∈ l)) := by show _ = _; rw [← hi, ← any_mem]; exact idxI_any _ l
  clear hi hv
  go_enter Tryz.func85, Tryz.ntmps85
  go_wp2_with (go_at_call 82; refine (CI.out _ rfl).mono ?_; rintro e w' ⟨rfl, rfl⟩)
  go_ret
  exact ⟨by rw [← HA.out]; rfl, rfl⟩
end Go.Proofs.YtjbffhdccgmfpaaGreatDoor

/- trellis: what is known of a build, in memory; number, setOf, hasTwins. -/
namespace Go.Proofs.YtjbffhdccgmfpaaGreatDoor
open Go.RowKit
set_option linter.unusedVariables false

def encI (n : Nat) : Value := .int .i64 (n : Int)
/-- the cells of what is known of a build -/
def kC (g : RC.Gr) (sa : Option Addr) (sc : Nat) (aa : Option Addr) (ac : Nat) (vn vo : Value) (st : TR.St) : List Value :=
  [.slice sa g.1.length sc, .slice aa g.2.length ac, vn, su st.there, vo] ++ st.needs.map su
/-- what is known of a build: its rows -/
structure KV (w : World) (g : RC.Gr) (sa : Option Addr) (sc : Nat) (aa : Option Addr) (ac : Nat) (vn vo : Value) (st : TR.St) (W : World) : Prop where
  n : W.ownsRow w.heap.size 9 1 vn (TR.nm g).length ((TR.nm g).map encS)
  o : W.ownsRow w.heap.size 3 1 vo st.order.length (st.order.map encI)
  ga : GA w.heap.size w g sa sc aa ac
  bl : Bl w W
  len : st.needs.length = 12
  l1 : g.1.length ≤ 8
  l2 : g.2.length ≤ 12
  ol : st.order.length ≤ 12
  olt : ∀ x ∈ st.order, x < 12
  tl : st.there < 4294967296
  ndl : ∀ o, TR.ndAt st.needs o < 4294967296
  gk : grOk g
/-- what is known of a build, in block b -/
structure KX (w : World) (b : Nat) (g : RC.Gr) (sa : Option Addr) (sc : Nat) (aa : Option Addr) (ac : Nat) (vn vo : Value) (st : TR.St) (W : World) : Prop where
  v : KV w g sa sc aa ac vn vo st W
  blk : W.heap[b]? = some (.cells (kC g sa sc aa ac vn vo st).toArray 88 (0, 0))
  wb : w.heap.size ≤ b
section
variable {w W W' : World} {b : Nat} {g : RC.Gr} {sa aa : Option Addr} {sc ac : Nat} {vn vo : Value} {st : TR.St}
theorem KV.step (h : KV w g sa sc aa ac vn vo st W) (hb : Bl W W') : KV w g sa sc aa ac vn vo st W' :=
  ⟨ownsRow_belowT h.n hb, ownsRow_belowT h.o hb, h.ga, h.bl.step hb, h.len, h.l1, h.l2, h.ol, h.olt, h.tl, h.ndl, h.gk⟩
theorem KX.step (h : KX w b g sa sc aa ac vn vo st W) (hb : Bl W W') : KX w b g sa sc aa ac vn vo st W' :=
  ⟨h.v.step hb, by rw [Below.block hb b (TA.lt_heap h.blk)]; exact h.blk, h.wb⟩
theorem KX.lt (h : KX w b g sa sc aa ac vn vo st W) : b < W.heap.size := TA.lt_heap h.blk
theorem KX.c0 (h : KX w b g sa sc aa ac vn vo st W) : W.cell? ⟨b, 0, none⟩ = some (.slice sa g.1.length sc) := by rw [Lib.cell_of_heap h.blk]; rfl
theorem KX.c1 (h : KX w b g sa sc aa ac vn vo st W) : W.cell? ⟨b, 1, none⟩ = some (.slice aa g.2.length ac) := by rw [Lib.cell_of_heap h.blk]; rfl
theorem KX.c2 (h : KX w b g sa sc aa ac vn vo st W) : W.cell? ⟨b, 2, none⟩ = some vn := by rw [Lib.cell_of_heap h.blk]; rfl
theorem KX.c3 (h : KX w b g sa sc aa ac vn vo st W) : W.cell? ⟨b, 3, none⟩ = some (su st.there) := by rw [Lib.cell_of_heap h.blk]; rfl
theorem KX.c4 (h : KX w b g sa sc aa ac vn vo st W) : W.cell? ⟨b, 4, none⟩ = some vo := by rw [Lib.cell_of_heap h.blk]; rfl
theorem KX.cn (h : KX w b g sa sc aa ac vn vo st W) {p : Nat} (hp : p < 12) : W.cell? ⟨b, 5 + p, none⟩ = some (su (TR.ndAt st.needs p)) := by
  rw [Lib.cell_of_heap h.blk]
  have h1 : p < st.needs.length := by rw [h.v.len]; exact hp
  simp only [kC, List.getElem?_toArray]
  rw [List.getElem?_append_right (by simp)]
  simp [TR.ndAt, List.getElem?_eq_getElem h1]
theorem KX.fz (h : KX w b g sa sc aa ac vn vo st W) (i : Nat) : W.frozen? ⟨b, i, none⟩ = false := by simp [World.frozen?, h.blk]
theorem KX.gaW (h : KX w b g sa sc aa ac vn vo st W) : GA W.heap.size W g sa sc aa ac := h.v.ga.bl h.v.bl
theorem KV.nmle (h : KV w g sa sc aa ac vn vo st W) : (TR.nm g).length ≤ 20 := by rw [TR.nm_len]; have := h.l1; have := h.l2; omega
/-- its names -/
theorem KV.ns (h : KV w g sa sc aa ac vn vo st W) : ∃ na nc, vn = .slice na (TR.nm g).length nc ∧ SA W na (TR.nm g) := by
  obtain ⟨a', c', rfl, _, hs⟩ := Strs.ofOwns h.n
  exact ⟨a', c', rfl, (Strs.sa hs).2⟩
theorem KV.set_lt (h : KV w g sa sc aa ac vn vo st W) (xs : List (List UInt8)) : TR.setOf (TR.nm g) xs < 4294967296 := TR.lt32 (TR.setOf_lt _ _) (by have := h.nmle; omega)
end

set_option maxHeartbeats 1000000 in
theorem number_at {w W : World} {b : Nat} {g : RC.Gr} {sa aa : Option Addr} {sc ac : Nat} {vn vo : Value} {st : TR.St} (h : KX w b g sa sc aa ac vn vo st W) (p : Nat) (hp : p < 12) :
    Calls Tryz.prog 106 #[.pointer (some ⟨b, 0, none⟩), .int .i64 (p : Int)] W fun e w' => e = .returned (.int .i64 ((g.1.length + p : Nat) : Int)) ∧ w' = W := by
  have h0 := h.c0
  have hl := h.v.l1
  have hb := h.lt
  clear h
  go_enter Tryz.func106, Tryz.ntmps106
  go_wp2_with fail
  go_ret
  exact ⟨by go_num, rfl⟩

theorem si_shl {i : Nat} (h : 2 ^ i < 4294967296) : (2 : Int) ^ i % 4294967296 = si (2 ^ i) := by
  have e : (2 : Int) ^ i = ((2 ^ i : Nat) : Int) := by simp
  rw [e]
  unfold si
  exact Int.emod_eq_of_lt (Int.natCast_nonneg _) (by omega)
theorem setOf_take (l xs : List (List UInt8)) (k : Nat) (x : List UInt8) (h : xs[k]? = some x) : TR.setOf l (xs.take (k + 1)) = TR.setOf l (xs.take k) ||| TR.bit l x := by
  rw [List.take_add_one, h]; exact TR.setOf_snoc _ _ _

set_option maxRecDepth 8000 in
set_option maxHeartbeats 1000000 in
theorem setOf_at {w W : World} {b : Nat} {g : RC.Gr} {sa aa : Option Addr} {sc ac : Nat} {vn vo : Value} {st : TR.St} (h : KX w b g sa sc aa ac vn vo st W) (xs : List (List UInt8)) (a : Option Addr) (c : Nat) (hx : SA W a xs) (hn : xs.length ≤ maxLen) :
    Calls Tryz.prog 86 #[.pointer (some ⟨b, 0, none⟩), .slice a xs.length c] W fun e w' => e = .returned (su (TR.setOf (TR.nm g) xs)) ∧ w' = W := by
  obtain ⟨na, nc, rfl, hs⟩ := h.v.ns
  have h2 := h.c2
  have hb := h.lt
  have hl := h.v.nmle
  have HX : Hid (SA W a xs) := hx
  have HSL : Hid (∀ k, TR.setOf (TR.nm g) (xs.take k) < 4294967296) := fun k => h.v.set_lt _
  have HS : Hid (SA W na (TR.nm g)) := hs
  have HE : Hid (TR.setOf (TR.nm g) (xs.take xs.length) = TR.setOf (TR.nm g) xs) := by show _ = _; rw [List.take_length]
  clear h hx hs
  generalize TR.nm g = l at *
  unfold maxLen at hn
  go_enter Tryz.func86, Tryz.ntmps86
  go_wp2_with fail
  go_loop [5, 7, 8, 11] (fun u5 u7 u8 u11 => ∃ k : Nat, k ≤ xs.length ∧ u11 = .int .i64 k ∧ u5 = su (TR.setOf l (xs.take k))) (fun _ _ _ u11 => xs.length - (intOf u11).toNat)
  case atStart => exact ⟨0, Nat.zero_le _, rfl, rfl⟩
  case round =>
    obtain ⟨k, hk, rfl, rfl⟩ := hrel
    by_cases hlt : k < xs.length
    · obtain ⟨t, ht⟩ : ∃ t, xs[k]? = some t := ⟨xs[k], List.getElem?_eq_getElem hlt⟩
      obtain ⟨b2, off2, rfl, hc⟩ := HX.out k t ht
      have hst := setOf_take l xs k t ht
      have CI : Hid (∀ i, idxI (fun x => decide (x = t)) l = i → Calls Tryz.prog 82 #[.slice na l.length nc, .string (M.bs t)] W fun e w' => e = .returned (.int .i64 i) ∧ w' = W) := fun i e => by
        rw [← e]; exact Index_at l na nc t W HS.out (by unfold maxLen; omega)
      have hs1 := HSL.out k
      cases hp : TR.pos l t with
      | none =>
        have hb0 : TR.bit l t = 0 := by unfold TR.bit; rw [hp]
        rw [hb0, Nat.or_zero] at hst
        have CN : Hid (Calls Tryz.prog 82 #[.slice na l.length nc, .string (M.bs t)] W fun e w' => e = .returned (.int .i64 (-1)) ∧ w' = W) := CI.out _ (by rw [idx_pos, hp])
        have HST : Hid (TR.setOf l (xs.take (k + 1)) = TR.setOf l (xs.take k)) := hst
        clear CI ht hp hst hb0
        go_wp2_with (go_at_call 82; refine CN.out.mono ?_; rintro e w' ⟨rfl, rfl⟩)
        go_round
        case rel => exact ⟨k + 1, by omega, by go_num, by rw [HST.out]⟩
        case measure => simp [intOf]; omega
      | some i =>
        have hi : i < l.length := (TR.pos_some hp).2
        have hb0 : TR.bit l t = 2 ^ i := by unfold TR.bit; rw [hp]
        have hbl : (2 : Nat) ^ i < 4294967296 := Nat.lt_of_le_of_lt (Nat.pow_le_pow_right (by omega) (show i ≤ 20 by omega)) (by decide)
        have hsh := si_shl hbl
        have hor := si_or hs1 hbl
        rw [hb0] at hst
        rw [← hst] at hor
        have CN : Hid (Calls Tryz.prog 82 #[.slice na l.length nc, .string (M.bs t)] W fun e w' => e = .returned (.int .i64 (i : Int)) ∧ w' = W) := CI.out _ (by rw [idx_pos, hp])
        clear CI ht hp hst hb0
        go_wp2_with (go_at_call 82; refine CN.out.mono ?_; rintro e w' ⟨rfl, rfl⟩)
        go_round
        case rel => exact ⟨k + 1, by omega, by go_num, rfl⟩
        case measure => simp [intOf]; omega
    · obtain rfl : k = xs.length := by omega
      go_wp2_with fail
      go_ret
      exact ⟨rfl, rfl⟩

set_option maxRecDepth 8000 in
set_option maxHeartbeats 1000000 in
theorem hasTwins_at {w W : World} {b : Nat} {g : RC.Gr} {sa aa : Option Addr} {sc ac : Nat} {vn vo : Value} {st : TR.St} (h : KX w b g sa sc aa ac vn vo st W) :
    Calls Tryz.prog 60 #[.pointer (some ⟨b, 0, none⟩)] W fun e w' => e = .returned (.bool (!decide (TR.nm g).Nodup)) ∧ w' = W := by
  obtain ⟨na, nc, rfl, hs⟩ := h.v.ns
  have h2 := h.c2
  have hb := h.lt
  have hl := h.v.nmle
  have HS : Hid (SA W na (TR.nm g)) := hs
  clear h hs
  generalize TR.nm g = l at *
  go_enter Tryz.func60, Tryz.ntmps60
  go_wp2_with fail
  go_loop [3, 4, 10] (fun u3 u4 u10 => ∃ k : Nat, k ≤ l.length ∧ u10 = .int .i64 k ∧ ∀ i x, i < k → l[i]? = some x → TR.pos l x = some i) (fun _ _ u10 => l.length - (intOf u10).toNat)
  case atStart => exact ⟨0, Nat.zero_le _, rfl, fun i e hi => by omega⟩
  case round =>
    obtain ⟨k, hk, rfl, hpre⟩ := hrel
    have HP : Hid (∀ i x, i < k → l[i]? = some x → TR.pos l x = some i) := hpre
    clear hpre
    by_cases hlt : k < l.length
    · obtain ⟨t, ht⟩ : ∃ t, l[k]? = some t := ⟨l[k], List.getElem?_eq_getElem hlt⟩
      obtain ⟨b2, off2, rfl, hc⟩ := HS.out k t ht
      obtain ⟨i, hp⟩ := TR.pos_mem (List.mem_of_getElem? ht)
      have hi : i < l.length := (TR.pos_some hp).2
      have CN : Hid (Calls Tryz.prog 82 #[.slice (some ⟨b2, off2, none⟩) l.length nc, .string (M.bs t)] W fun e w' => e = .returned (.int .i64 (i : Int)) ∧ w' = W) := by
        have := Index_at l (some ⟨b2, off2, none⟩) nc t W HS.out (by unfold maxLen; omega)
        rw [idx_pos, hp] at this; exact this
      by_cases hik : i = k
      · have HE : Hid (∀ j x, j < k + 1 → l[j]? = some x → TR.pos l x = some j) := fun j x hj hx => by
          rcases (by omega : j < k ∨ j = k) with h' | rfl
          · exact HP.out j x h' hx
          · rw [ht] at hx; cases hx; rw [hp, hik]
        subst hik
        have hq : ((i : Int) != (i : Int)) = false := by simp
        clear ht hp HP
        go_wp2_with (go_at_call 82; refine CN.out.mono ?_; rintro e w' ⟨rfl, rfl⟩)
        go_round
        case rel => exact ⟨i + 1, by omega, by go_num, HE.out⟩
        case measure => simp [intOf]; omega
      · have hq : ((i : Int) != (k : Int)) = true := by rw [bne_iff_ne]; omega
        have HN : Hid (¬ l.Nodup) := fun hn => hik (by have := TR.pos_of hn ht; rw [hp] at this; simpa using this)
        clear ht hp HP hik
        go_wp2_with (go_at_call 82; refine CN.out.mono ?_; rintro e w' ⟨rfl, rfl⟩)
        go_ret
        exact ⟨by rw [decide_eq_false HN.out]; rfl, rfl⟩
    · obtain rfl : k = l.length := by omega
      have HN : Hid l.Nodup := TR.nodup_of_pos fun i x hx => HP.out i x (List.getElem?_eq_some_iff.1 hx).1 hx
      go_wp2_with fail
      go_ret
      exact ⟨by rw [decide_eq_true HN.out]; rfl, rfl⟩
end Go.Proofs.YtjbffhdccgmfpaaGreatDoor

/- slices.IndexFunc and slices.ContainsFunc at a function value with its receiver or what it captured. -/
namespace Go.Proofs.YtjbffhdccgmfpaaGreatDoor
open Go.RowKit
set_option linter.unusedVariables false

set_option maxRecDepth 8000 in
set_option maxHeartbeats 2000000 in
theorem IndexA_b (f : FuncId) (r : Value) (p : RC.Ac → Bool) (l : List RC.Ac) (a : Option Addr) (c : Nat) {w W : World} (HB : Bl w W)
    (hent : ∀ args w, (callFunc f args).run Tryz.prog w = .ok (.enter f args) w) (hv : Acts W.heap.size W a l) (hn : l.length ≤ maxLen)
    (hf : ∀ (W' : World) (t : RC.Ac) (x : Option Addr) (c : Nat), t ∈ l → Bl W W' → Strs W'.heap.size W' (.slice x t.2.1.length c) t.2.1 → Calls Tryz.prog f #[r, .agg (acL t x c).toArray] W' fun e w' => e = .returned (.bool (p t)) ∧ Bl W' w') :
    Calls Tryz.prog 83 #[.slice a l.length c, .func (.func f) #[r] #[]] W fun e w' => e = .returned (.int .i64 (idxI p l)) ∧ Bl w w' := by
  have HV : Hid (Acts W.heap.size W a l) := hv
  have HF0 : Hid (∀ (W' : World) (t : RC.Ac) (x : Option Addr) (c : Nat), t ∈ l → Bl W W' → Strs W'.heap.size W' (.slice x t.2.1.length c) t.2.1 → Calls Tryz.prog f #[r, .agg (acL t x c).toArray] W' fun e w' => e = .returned (.bool (p t)) ∧ Bl W' w') := hf
  have HB0 : Hid (Bl w W) := HB
  obtain ⟨fs, hum⟩ := undAc
  clear hv hf HB
  unfold maxLen at hn
  go_enter Tryz.func83, Tryz.ntmps83
  go_wp2_with fail
  go_loopw [5, 8] (fun u5 u8 wr => ∃ k : Nat, k ≤ l.length ∧ u8 = .int .i64 k ∧ (∀ i e, i < k → l[i]? = some e → p e = false) ∧ Bl W wr) (fun _ u8 _ => l.length - (intOf u8).toNat)
  case atStart => exact ⟨0, Nat.zero_le _, rfl, fun i e hi => by omega, Bl.refl W⟩
  case round =>
    obtain ⟨k, hk, rfl, hpre, hbl⟩ := hrel
    have HP : Hid (∀ i e, i < k → l[i]? = some e → p e = false) := hpre
    have HBR : Hid (Bl W wr) := hbl
    clear hpre hbl
    by_cases hlt : k < l.length
    · obtain ⟨t, ht⟩ : ∃ t, l[k]? = some t := ⟨l[k], List.getElem?_eq_getElem hlt⟩
      obtain ⟨b, off, x, c2, rfl, hb, hr, hs⟩ := HV.out.bl HBR.out k t ht
      have HR : Hid (wr.rangeAt b (off + k * 3) (acL t x c2)) := hr
      obtain ⟨q, hq⟩ : ∃ q, p t = q := ⟨_, rfl⟩
      have CN : Hid (Calls Tryz.prog f #[r, .agg (acL t x c2).toArray] wr fun e w' => e = .returned (.bool q) ∧ Bl W w') := by
        show Calls _ _ _ _ _
        rw [← hq]
        refine (HF0.out wr t x c2 (List.mem_of_getElem? ht) HBR.out hs).mono ?_
        rintro e w' ⟨rfl, hb'⟩
        exact ⟨rfl, HBR.out.step hb'⟩
      have HF : Hid (q = true → idxI p l = (k : Int)) := fun h => idxI_of HP.out ht (by rw [hq]; exact h)
      have HE : Hid (q = false → ∀ i e, i < k + 1 → l[i]? = some e → p e = false) := fun h i e hi he => by
        rcases (by omega : i < k ∨ i = k) with h' | rfl
        · exact HP.out i e h' he
        · rw [ht] at he; cases he; rw [hq]; exact h
      have hi := infoAc t x c2
      clear ht hq hr hs HF0 HV
      generalize acL t x c2 = SL at *
      cases q
      · go_wp2_with (first
          | (refine wpList_load_mid rfl 43 _ rfl b (off + k * 3) rfl SL _ HR.out hum rfl hi ?_)
          | (go_at_fn f; refine CN.out.mono ?_; rintro e w' ⟨rfl, hy⟩))
        go_roundw
        case rel => exact ⟨k + 1, by omega, by go_num, HE.out trivial, hy⟩
        case measure => simp [intOf]; omega
      · go_wp2_with (first
          | (refine wpList_load_mid rfl 43 _ rfl b (off + k * 3) rfl SL _ HR.out hum rfl hi ?_)
          | (go_at_fn f; refine CN.out.mono ?_; rintro e w' ⟨rfl, hy⟩))
        go_ret
        exact ⟨by rw [HF.out trivial]; rfl, HB0.out.step hy⟩
    · obtain rfl : k = l.length := by omega
      have HF : Hid (idxI p l = -1) := idxI_none HP.out
      go_wp2_with fail
      go_ret
      exact ⟨by rw [HF.out]; rfl, HB0.out.step HBR.out⟩
theorem ContainsA_b (f : FuncId) (r : Value) (p : RC.Ac → Bool) (l : List RC.Ac) (a : Option Addr) (c : Nat) {w W : World}
    (CI : Calls Tryz.prog 83 #[.slice a l.length c, .func (.func f) #[r] #[]] W fun e w' => e = .returned (.int .i64 (idxI p l)) ∧ Bl w w') :
    Calls Tryz.prog 61 #[.slice a l.length c, .func (.func f) #[r] #[]] W fun e w' => e = .returned (.bool (l.any p)) ∧ Bl w w' := by
  have HA : Hid (decide (0 ≤ idxI p l) = l.any p) := idxI_any _ l
  generalize idxI p l = i at *
  have CX : Hid (Calls Tryz.prog 83 #[.slice a l.length c, .func (.func f) #[r] #[]] W fun e w' => e = .returned (.int .i64 i) ∧ Bl w w') := CI
  clear CI
  go_enter Tryz.func61, Tryz.ntmps61
  go_wp2_with (go_at_call 83; refine CX.out.mono ?_; rintro e w' ⟨rfl, HB⟩)
  go_ret
  exact ⟨by rw [← HA.out]; rfl, HB⟩
set_option maxRecDepth 8000 in
set_option maxHeartbeats 2000000 in
theorem IndexA_c (f : FuncId) (caps : Array Value) (p : RC.Ac → Bool) (l : List RC.Ac) (a : Option Addr) (c : Nat) {w W : World} (HB : Bl w W)
    (hent : ∀ args w, (callFunc f args).run Tryz.prog w = .ok (.enter f args) w) (hv : Acts W.heap.size W a l) (hn : l.length ≤ maxLen)
    (hf : ∀ (W' : World) (t : RC.Ac) (x : Option Addr) (c : Nat), t ∈ l → Bl W W' → Strs W'.heap.size W' (.slice x t.2.1.length c) t.2.1 → Calls Tryz.prog f (#[.agg (acL t x c).toArray] ++ caps) W' fun e w' => e = .returned (.bool (p t)) ∧ Bl W' w') :
    Calls Tryz.prog 83 #[.slice a l.length c, .func (.func f) #[] caps] W fun e w' => e = .returned (.int .i64 (idxI p l)) ∧ Bl w w' := by
  have HV : Hid (Acts W.heap.size W a l) := hv
  have HF0 : Hid (∀ (W' : World) (t : RC.Ac) (x : Option Addr) (c : Nat), t ∈ l → Bl W W' → Strs W'.heap.size W' (.slice x t.2.1.length c) t.2.1 → Calls Tryz.prog f (#[.agg (acL t x c).toArray] ++ caps) W' fun e w' => e = .returned (.bool (p t)) ∧ Bl W' w') := hf
  have HB0 : Hid (Bl w W) := HB
  obtain ⟨fs, hum⟩ := undAc
  clear hv hf HB
  unfold maxLen at hn
  go_enter Tryz.func83, Tryz.ntmps83
  go_wp2_with fail
  go_loopw [5, 8] (fun u5 u8 wr => ∃ k : Nat, k ≤ l.length ∧ u8 = .int .i64 k ∧ (∀ i e, i < k → l[i]? = some e → p e = false) ∧ Bl W wr) (fun _ u8 _ => l.length - (intOf u8).toNat)
  case atStart => exact ⟨0, Nat.zero_le _, rfl, fun i e hi => by omega, Bl.refl W⟩
  case round =>
    obtain ⟨k, hk, rfl, hpre, hbl⟩ := hrel
    have HP : Hid (∀ i e, i < k → l[i]? = some e → p e = false) := hpre
    have HBR : Hid (Bl W wr) := hbl
    clear hpre hbl
    by_cases hlt : k < l.length
    · obtain ⟨t, ht⟩ : ∃ t, l[k]? = some t := ⟨l[k], List.getElem?_eq_getElem hlt⟩
      obtain ⟨b, off, x, c2, rfl, hb, hr, hs⟩ := HV.out.bl HBR.out k t ht
      have HR : Hid (wr.rangeAt b (off + k * 3) (acL t x c2)) := hr
      obtain ⟨q, hq⟩ : ∃ q, p t = q := ⟨_, rfl⟩
      have CN : Hid (Calls Tryz.prog f (#[.agg (acL t x c2).toArray] ++ caps) wr fun e w' => e = .returned (.bool q) ∧ Bl W w') := by
        show Calls _ _ _ _ _
        rw [← hq]
        refine (HF0.out wr t x c2 (List.mem_of_getElem? ht) HBR.out hs).mono ?_
        rintro e w' ⟨rfl, hb'⟩
        exact ⟨rfl, HBR.out.step hb'⟩
      have HF : Hid (q = true → idxI p l = (k : Int)) := fun h => idxI_of HP.out ht (by rw [hq]; exact h)
      have HE : Hid (q = false → ∀ i e, i < k + 1 → l[i]? = some e → p e = false) := fun h i e hi he => by
        rcases (by omega : i < k ∨ i = k) with h' | rfl
        · exact HP.out i e h' he
        · rw [ht] at he; cases he; rw [hq]; exact h
      have hi := infoAc t x c2
      clear ht hq hr hs HF0 HV
      generalize acL t x c2 = SL at *
      cases q
      · go_wp2_with (first
          | (refine wpList_load_mid rfl 43 _ rfl b (off + k * 3) rfl SL _ HR.out hum rfl hi ?_)
          | (go_at_fn f; refine CN.out.mono ?_; rintro e w' ⟨rfl, hy⟩))
        go_roundw
        case rel => exact ⟨k + 1, by omega, by go_num, HE.out trivial, hy⟩
        case measure => simp [intOf]; omega
      · go_wp2_with (first
          | (refine wpList_load_mid rfl 43 _ rfl b (off + k * 3) rfl SL _ HR.out hum rfl hi ?_)
          | (go_at_fn f; refine CN.out.mono ?_; rintro e w' ⟨rfl, hy⟩))
        go_ret
        exact ⟨by rw [HF.out trivial]; rfl, HB0.out.step hy⟩
    · obtain rfl : k = l.length := by omega
      have HF : Hid (idxI p l = -1) := idxI_none HP.out
      go_wp2_with fail
      go_ret
      exact ⟨by rw [HF.out]; rfl, HB0.out.step HBR.out⟩
set_option maxRecDepth 8000 in
set_option maxHeartbeats 2000000 in
theorem IndexS_c (f : FuncId) (caps : Array Value) (p : List UInt8 → Bool) (l : List (List UInt8)) (a : Option Addr) (c : Nat) (W : World)
    (hent : ∀ args w, (callFunc f args).run Tryz.prog w = .ok (.enter f args) w) (hv : SA W a l) (hn : l.length ≤ maxLen)
    (hf : ∀ (t : List UInt8), t ∈ l → Calls Tryz.prog f (#[.string (M.bs t)] ++ caps) W fun e w' => e = .returned (.bool (p t)) ∧ w' = W) :
    Calls Tryz.prog 40 #[.slice a l.length c, .func (.func f) #[] caps] W fun e w' => e = .returned (.int .i64 (idxI p l)) ∧ w' = W := by
  have HV : Hid (SA W a l) := hv
  have HF0 : Hid (∀ (t : List UInt8), t ∈ l → Calls Tryz.prog f (#[.string (M.bs t)] ++ caps) W fun e w' => e = .returned (.bool (p t)) ∧ w' = W) := hf
  clear hv hf
  unfold maxLen at hn
  go_enter Tryz.func40, Tryz.ntmps40
  go_wp2_with fail
  go_loop [5, 8] (fun u5 u8 => ∃ k : Nat, k ≤ l.length ∧ u8 = .int .i64 k ∧ ∀ i e, i < k → l[i]? = some e → p e = false) (fun _ u8 => l.length - (intOf u8).toNat)
  case atStart => exact ⟨0, Nat.zero_le _, rfl, fun i e hi => by omega⟩
  case round =>
    obtain ⟨k, hk, rfl, hpre⟩ := hrel
    have HP : Hid (∀ i e, i < k → l[i]? = some e → p e = false) := hpre
    clear hpre
    by_cases hlt : k < l.length
    · obtain ⟨t, ht⟩ : ∃ t, l[k]? = some t := ⟨l[k], List.getElem?_eq_getElem hlt⟩
      obtain ⟨b, off, rfl, hc⟩ := HV.out k t ht
      obtain ⟨q, hq⟩ : ∃ q, p t = q := ⟨_, rfl⟩
      have CN : Hid (Calls Tryz.prog f (#[.string (M.bs t)] ++ caps) W fun e w' => e = .returned (.bool q) ∧ w' = W) := by
        show Calls _ _ _ _ _
        rw [← hq]; exact HF0.out t (List.mem_of_getElem? ht)
      have HF : Hid (q = true → idxI p l = (k : Int)) := fun h => idxI_of HP.out ht (by rw [hq]; exact h)
      have HE : Hid (q = false → ∀ i e, i < k + 1 → l[i]? = some e → p e = false) := fun h i e hi he => by
        rcases (by omega : i < k ∨ i = k) with h' | rfl
        · exact HP.out i e h' he
        · rw [ht] at he; cases he; rw [hq]; exact h
      clear ht hq HF0 HV
      cases q
      · go_wp2_with (go_at_fn f; refine CN.out.mono ?_; rintro e w' ⟨rfl, rfl⟩)
        go_round
        case rel => exact ⟨k + 1, by omega, by go_num, HE.out trivial⟩
        case measure => simp [intOf]; omega
      · go_wp2_with (go_at_fn f; refine CN.out.mono ?_; rintro e w' ⟨rfl, rfl⟩)
        go_ret
        exact ⟨by rw [HF.out trivial]; rfl, rfl⟩
    · obtain rfl : k = l.length := by omega
      have HF : Hid (idxI p l = -1) := idxI_none HP.out
      go_wp2_with fail
      go_ret
      exact ⟨by rw [HF.out]; rfl, rfl⟩
theorem ContainsS_c (f : FuncId) (caps : Array Value) (p : List UInt8 → Bool) (l : List (List UInt8)) (a : Option Addr) (c : Nat) (W : World)
    (CI : Calls Tryz.prog 40 #[.slice a l.length c, .func (.func f) #[] caps] W fun e w' => e = .returned (.int .i64 (idxI p l)) ∧ w' = W) :
    Calls Tryz.prog 23 #[.slice a l.length c, .func (.func f) #[] caps] W fun e w' => e = .returned (.bool (l.any p)) ∧ w' = W := by
  have HA : Hid (decide (0 ≤ idxI p l) = l.any p) := idxI_any _ l
  generalize idxI p l = i at *
  have CX : Hid (Calls Tryz.prog 40 #[.slice a l.length c, .func (.func f) #[] caps] W fun e w' => e = .returned (.int .i64 i) ∧ w' = W) := CI
  clear CI
  go_enter Tryz.func23, Tryz.ntmps23
  go_wp2_with (go_at_call 40; refine CX.out.mono ?_; rintro e w' ⟨rfl, rfl⟩)
  go_ret
  exact ⟨by rw [← HA.out]; rfl, rfl⟩
end Go.Proofs.YtjbffhdccgmfpaaGreatDoor

/- trellis: misses, isReady. -/
namespace Go.Proofs.YtjbffhdccgmfpaaGreatDoor
open Go.RowKit
set_option linter.unusedVariables false
set_option linter.unusedSimpArgs false

set_option maxHeartbeats 1000000 in
theorem miss1_at {w W : World} {b : Nat} {g : RC.Gr} {sa aa : Option Addr} {sc ac : Nat} {vn vo : Value} {st : TR.St} (h : KX w b g sa sc aa ac vn vo st W) (cb : Nat) (hc : W.cell? ⟨cb, 0, none⟩ = some (.pointer (some ⟨b, 0, none⟩))) (s : List UInt8) :
    Calls Tryz.prog 84 #[.string (M.bs s), .pointer (some ⟨cb, 0, none⟩)] W fun e w' => e = .returned (.bool (!decide (s ∈ TR.nm g))) ∧ w' = W := by
  obtain ⟨na, nc, rfl, hs⟩ := h.v.ns
  have h2 := h.c2
  have hb := h.lt
  have hl := h.v.nmle
  have CC : Hid (Calls Tryz.prog 85 #[.slice na (TR.nm g).length nc, .string (M.bs s)] W fun e w' => e = .returned (.bool (decide (s ∈ TR.nm g))) ∧ w' = W) := Contains_at _ na nc s W hs (by unfold maxLen; omega)
  obtain ⟨q, hq⟩ : ∃ q, decide (s ∈ TR.nm g) = q := ⟨_, rfl⟩
  rw [hq] at CC ⊢
  clear h hs hq
  generalize (TR.nm g).length = n at *
  go_enter Tryz.func84, Tryz.ntmps84
  go_wp2_with (go_at_call 85; refine CC.out.mono ?_; rintro e w' ⟨rfl, rfl⟩)
  go_ret
  exact ⟨rfl, rfl⟩
set_option maxHeartbeats 1000000 in
theorem misses_at {w W : World} {b : Nat} {g : RC.Gr} {sa aa : Option Addr} {sc ac : Nat} {vn vo : Value} {st : TR.St} (h : KX w b g sa sc aa ac vn vo st W) (t : RC.Ac) (x : Option Addr) (c : Nat) (hv : Strs W.heap.size W (.slice x t.2.1.length c) t.2.1) (hn : t.2.1.length ≤ maxLen) :
    Calls Tryz.prog 62 #[.pointer (some ⟨b, 0, none⟩), .agg (acL t x c).toArray] W fun e w' => e = .returned (.bool (TR.missA (TR.nm g) t)) ∧ Bl W w' := by
  have CC : Hid (∀ T1 o, Calls Tryz.prog 23 #[.slice x t.2.1.length c, .func (.func 84) #[] #[.pointer (some ⟨W.heap.size, 0, none⟩)]] ((W.alloc (.cells #[.pointer (some ⟨b, 0, none⟩)] T1)).alloc o) fun e w' => e = .returned (.bool (TR.missA (TR.nm g) t)) ∧ w' = (W.alloc (.cells #[.pointer (some ⟨b, 0, none⟩)] T1)).alloc o) := fun T1 o => by
    have hB : Bl W ((W.alloc (.cells #[.pointer (some ⟨b, 0, none⟩)] T1)).alloc o) := ((Bl.refl W).alloc _).alloc _
    have hcell : ((W.alloc (.cells #[.pointer (some ⟨b, 0, none⟩)] T1)).alloc o).cell? ⟨W.heap.size, 0, none⟩ = some (.pointer (some ⟨b, 0, none⟩)) := by
      rw [Bl.cell ((Bl.refl (W.alloc (.cells #[.pointer (some ⟨b, 0, none⟩)] T1))).alloc o) (by simp), Lib.cell_of_heap (heap_alloc_new W _)]; rfl
    refine ContainsS_c _ _ _ _ _ _ _ (IndexS_c _ _ (fun s => !decide (s ∈ TR.nm g)) t.2.1 x c _ (enters_of Tryz.func84 (by kernel_rfl) rfl) (Strs.sa (hv.bl hB)).2 hn (fun s hs => ?_))
    exact miss1_at (h.step hB) W.heap.size hcell s
  have HF : Hid (∀ o1 o2, Bl W ((W.alloc o1).alloc o2)) := fun o1 o2 => ((Bl.refl W).alloc _).alloc _
  obtain ⟨q, hq⟩ : ∃ q, TR.missA (TR.nm g) t = q := ⟨_, rfl⟩
  rw [hq] at CC ⊢
  clear h hv hq hn
  unfold acL
  go_enter Tryz.func62, Tryz.ntmps62
  go_wp2_with (go_at_call 23; refine (CC.out _ _).mono ?_; rintro e w' ⟨rfl, rfl⟩)
  go_ret
  exact ⟨rfl, HF.out _ _⟩
set_option maxRecDepth 8000 in
set_option maxHeartbeats 2000000 in
theorem isReady_no {w W : World} {b : Nat} {g : RC.Gr} {sa aa : Option Addr} {sc ac : Nat} {vn vo : Value} {st : TR.St} (h : KX w b g sa sc aa ac vn vo st W) (t : RC.Ac) (x : Option Addr) (c : Nat) (hv : Strs W.heap.size W (.slice x t.2.1.length c) t.2.1) (hn : t.2.1.length ≤ maxLen) (hq : decide (TR.setOf (TR.nm g) [t.1] &&& st.there = 0) = false) :
    Calls Tryz.prog 87 #[.pointer (some ⟨b, 0, none⟩), .agg (acL t x c).toArray] W fun e w' => e = .returned (.bool false) ∧ Bl W w' := by
  obtain ⟨n, ins, code⟩ := t
  simp only [] at hv hn hq ⊢
  have hbl := h.lt
  have h3 := h.c3
  have HBA : Bl W (W.alloc (.cells #[.string (M.bs n), .slice x ins.length c, .string (M.bs code)] 43)) := (Bl.refl W).alloc _
  have HD : Hid (Bl (W.alloc (.cells #[.string (M.bs n), .slice x ins.length c, .string (M.bs code)] 43)) (W.alloc (.cells #[.string (M.bs n), .slice x ins.length c, .string (M.bs code)] 43)).drew) := (Bl.refl (W.alloc (.cells #[.string (M.bs n), .slice x ins.length c, .string (M.bs code)] 43))).drewN 1
  have KP : Hid (∀ U, Bl (W.alloc (.cells #[.string (M.bs n), .slice x ins.length c, .string (M.bs code)] 43)) U → U.cell? ⟨b, 3, none⟩ = some (su st.there) ∧ U.cell? ⟨W.heap.size, 0, none⟩ = some (.string (M.bs n)) ∧ U.cell? ⟨W.heap.size, 1, none⟩ = some (.slice x ins.length c)) := fun U hU => by
    have hz : W.heap.size < (W.alloc (.cells #[.string (M.bs n), .slice x ins.length c, .string (M.bs code)] 43)).heap.size := by simp
    refine ⟨?_, ?_, ?_⟩
    · rw [Bl.cell (HBA.step hU) hbl]; exact h3
    · rw [Bl.cell hU hz, Lib.cell_of_heap (heap_alloc_new W _)]; rfl
    · rw [Bl.cell hU hz, Lib.cell_of_heap (heap_alloc_new W _)]; rfl
  have AL : Hid (∀ U o, Bl (W.alloc (.cells #[.string (M.bs n), .slice x ins.length c, .string (M.bs code)] 43)) U → Bl (W.alloc (.cells #[.string (M.bs n), .slice x ins.length c, .string (M.bs code)] 43)) (U.alloc o)) := fun U o hU => hU.alloc o
  have hBB : Bl (W.alloc (.cells #[.string (M.bs n), .slice x ins.length c, .string (M.bs code)] 43)) ((W.alloc (.cells #[.string (M.bs n), .slice x ins.length c, .string (M.bs code)] 43)).drew.alloc (.cells #[.string (M.bs n)] 9)) := HD.out.alloc _
  have C1 : Hid (Calls Tryz.prog 86 #[.pointer (some ⟨b, 0, none⟩), .slice (some ⟨W.heap.size + 1, 0, none⟩) 1 1] ((W.alloc (.cells #[.string (M.bs n), .slice x ins.length c, .string (M.bs code)] 43)).drew.alloc (.cells #[.string (M.bs n)] 9)) fun e w' => e = .returned (su (TR.setOf (TR.nm g) [n])) ∧ Bl (W.alloc (.cells #[.string (M.bs n), .slice x ins.length c, .string (M.bs code)] 43)) w') := by
    have hsa : SA ((W.alloc (.cells #[.string (M.bs n), .slice x ins.length c, .string (M.bs code)] 43)).drew.alloc (.cells #[.string (M.bs n)] 9)) (some ⟨W.heap.size + 1, 0, none⟩) [n] := by
      intro i u hu
      have hz : (W.alloc (.cells #[.string (M.bs n), .slice x ins.length c, .string (M.bs code)] 43)).drew.heap.size = W.heap.size + 1 := by simp
      refine ⟨W.heap.size + 1, 0, rfl, ?_⟩
      rw [← hz, Lib.cell_of_heap (heap_alloc_new _ _)]
      rcases i with _ | i
      · cases hu; rfl
      · simp at hu
    have := setOf_at (h.step (HBA.step hBB)) [n] (some ⟨W.heap.size + 1, 0, none⟩) 1 hsa (by unfold maxLen; simp)
    refine Calls.mono this ?_
    rintro e w' ⟨rfl, rfl⟩
    exact ⟨rfl, hBB⟩
  have C2 : Hid (∀ U, Bl (W.alloc (.cells #[.string (M.bs n), .slice x ins.length c, .string (M.bs code)] 43)) U → Calls Tryz.prog 103 #[su (TR.setOf (TR.nm g) [n]), su st.there] U fun e w' => e = .returned (.bool (!false)) ∧ Bl (W.alloc (.cells #[.string (M.bs n), .slice x ins.length c, .string (M.bs code)] 43)) w') := fun U hU => by
    rw [← hq]
    refine (meets_at _ _ (h.v.set_lt _) h.v.tl U).mono ?_
    rintro e w' ⟨rfl, rfl⟩
    exact ⟨rfl, hU⟩
  have FIN : Hid (∀ U, Bl (W.alloc (.cells #[.string (M.bs n), .slice x ins.length c, .string (M.bs code)] 43)) U → Bl W U) := fun U hU => HBA.step hU
  clear h hv hn hq HBA hBB
  generalize TR.sub (TR.setOf (TR.nm g) ins) st.there = R at *
  generalize TR.setOf (TR.nm g) [n] = s1 at *
  generalize TR.setOf (TR.nm g) ins = s2 at *
  generalize st.there = th at *
  unfold acL
  simp only []
  go_enter Tryz.func87, Tryz.ntmps87
  go_wp2_with fail
  refine wp_region_noPanic ?_
  refine wp_region_held_drew (S := fun U => U.cell? ⟨b, 3, none⟩ = some (su th) ∧ U.cell? ⟨W.heap.size, 0, none⟩ = some (.string (M.bs n)) ∧ U.cell? ⟨W.heap.size, 1, none⟩ = some (.slice x ins.length c)) (by kernel_rfl) (KP.out _ (HD.out)) (fun hHeld => ?_)
  refine wpAnyH_take (i := 0) rfl (by kernel_rfl) (by kernel_rfl) (by kernel_rfl) (fun _ _ _ h => h) (yi_move (by kernel_rfl) rfl rfl) (by assumption) ?_
  simp only [Act.put, List.getElem_toArray, List.getElem_cons_succ, List.getElem_cons_zero, List.setIfInBounds_toArray, List.set_cons_zero, List.set_cons_succ]
  refine wpAnyH_take (i := 1) (v := ?_) rfl (by kernel_rfl) (by kernel_rfl) (by kernel_rfl) (fun _ _ _ h => h) (Or.inl ⟨by kernel_rfl, ?_⟩) (by assumption) ?_
  rotate_left
  · (intro w hSw; (try dsimp only at hSw); go_simp; (try with_reducible rfl))
  simp only [Act.put, List.getElem_toArray, List.getElem_cons_succ, List.getElem_cons_zero, List.setIfInBounds_toArray, List.set_cons_zero, List.set_cons_succ]
  refine wpAnyH_take (i := 2) (v := ?_) rfl (by kernel_rfl) (by kernel_rfl) (by kernel_rfl) (fun _ _ _ h => h) (Or.inl ⟨by kernel_rfl, ?_⟩) (by assumption) ?_
  rotate_left
  · (intro w hSw; (try dsimp only at hSw); go_simp; (try with_reducible rfl))
  simp only [Act.put, List.getElem_toArray, List.getElem_cons_succ, List.getElem_cons_zero, List.setIfInBounds_toArray, List.set_cons_zero, List.set_cons_succ]
  refine wpAnyH_take (i := 3) (v := ?_) rfl (by kernel_rfl) (by kernel_rfl) (by kernel_rfl) (fun _ _ _ h => h) (Or.inl ⟨by kernel_rfl, ?_⟩) (by assumption) ?_
  rotate_left
  · (intro w hSw; (try dsimp only at hSw); go_simp; (try with_reducible rfl))
  simp only [Act.put, List.getElem_toArray, List.getElem_cons_succ, List.getElem_cons_zero, List.setIfInBounds_toArray, List.set_cons_zero, List.set_cons_succ]
  refine wpAnyH_take (i := 6) rfl (by kernel_rfl) (by kernel_rfl) (by kernel_rfl) (fun _ _ _ h => h) (yi_move (by kernel_rfl) rfl rfl) (by assumption) ?_
  simp only [Act.put, List.getElem_toArray, List.getElem_cons_succ, List.getElem_cons_zero, List.setIfInBounds_toArray, List.set_cons_zero, List.set_cons_succ]
  refine wpAnyH_take (i := 7) (v := ?_) rfl (by kernel_rfl) (by kernel_rfl) (by kernel_rfl) (fun _ _ _ h => h) (Or.inl ⟨by kernel_rfl, ?_⟩) (by assumption) ?_
  rotate_left
  · (intro w hSw; (try dsimp only at hSw); go_simp; (try with_reducible rfl))
  simp only [Act.put, List.getElem_toArray, List.getElem_cons_succ, List.getElem_cons_zero, List.setIfInBounds_toArray, List.set_cons_zero, List.set_cons_succ]
  refine wpAnyH_take (i := 8) (v := ?_) rfl (by kernel_rfl) (by kernel_rfl) (by kernel_rfl) (fun _ _ _ h => h) (Or.inl ⟨by kernel_rfl, ?_⟩) (by assumption) ?_
  rotate_left
  · (intro w hSw; (try dsimp only at hSw); go_simp; (try with_reducible rfl))
  simp only [Act.put, List.getElem_toArray, List.getElem_cons_succ, List.getElem_cons_zero, List.setIfInBounds_toArray, List.set_cons_zero, List.set_cons_succ]
  refine wpAnyH_take (i := 9) (v := ?_) rfl (by kernel_rfl) (by kernel_rfl) (by kernel_rfl) (fun _ _ _ h => h) (Or.inl ⟨by kernel_rfl, ?_⟩) (by assumption) ?_
  rotate_left
  · (intro w hSw; (try dsimp only at hSw); go_simp; (try with_reducible rfl))
  simp only [Act.put, List.getElem_toArray, List.getElem_cons_succ, List.getElem_cons_zero, List.setIfInBounds_toArray, List.set_cons_zero, List.set_cons_succ]
  refine wpAnyH_ready (rs := [4]) (by kernel_rfl) (by simp) ?_
  refine AllReadyH.cons (o := _) rfl (fun K hK => ?_) AllReadyH.nil
  go_simp
  refine hK.out _ _ (KP.out _ ((AL.out _ _ HD.out))) (fun hHeld => ?_)
  clear hK K
  (try simp only [Act.put, List.getElem_toArray, List.getElem_cons_succ, List.getElem_cons_zero, List.setIfInBounds_toArray, List.set_cons_zero, List.set_cons_succ])
  refine wpAnyH_ready (rs := [5]) (by kernel_rfl) (by simp) ?_
  refine AllReadyH.cons (o := _) rfl (fun K hK => ?_) AllReadyH.nil
  go_simp
  go_at_call 86; refine C1.out.mono ?_; rintro e w' ⟨rfl, HB10⟩
  refine hK.out _ _ (KP.out _ (HB10)) (fun hHeld => ?_)
  clear hK K
  (try simp only [Act.put, List.getElem_toArray, List.getElem_cons_succ, List.getElem_cons_zero, List.setIfInBounds_toArray, List.set_cons_zero, List.set_cons_succ])
  refine wpAnyH_ready (rs := [10]) (by kernel_rfl) (by simp) ?_
  refine AllReadyH.cons (o := _) rfl (fun K hK => ?_) AllReadyH.nil
  go_simp
  go_at_call 103; refine (C2.out _ HB10).mono ?_; rintro e w' ⟨rfl, HB11⟩
  refine hK.out _ _ (KP.out _ (HB11)) (fun hHeld => ?_)
  clear hK K
  (try simp only [Act.put, List.getElem_toArray, List.getElem_cons_succ, List.getElem_cons_zero, List.setIfInBounds_toArray, List.set_cons_zero, List.set_cons_succ])
  refine wpAnyH_take (i := 11) (v := ?_) rfl (by kernel_rfl) (by kernel_rfl) (by kernel_rfl) (fun _ _ _ h => h) (Or.inl ⟨by kernel_rfl, ?_⟩) (by assumption) ?_
  rotate_left
  · (intro w hSw; (try dsimp only at hSw); go_simp; (try with_reducible rfl))
  simp only [Act.put, List.getElem_toArray, List.getElem_cons_succ, List.getElem_cons_zero, List.setIfInBounds_toArray, List.set_cons_zero, List.set_cons_succ]
  refine wpAnyH_take (i := 12) rfl (by kernel_rfl) (by kernel_rfl) (by kernel_rfl) (fun _ _ _ h => h) (yi_move (by kernel_rfl) rfl rfl) (by assumption) ?_
  simp only [Act.put, List.getElem_toArray, List.getElem_cons_succ, List.getElem_cons_zero, List.setIfInBounds_toArray, List.set_cons_zero, List.set_cons_succ]
  refine wpAnyH_take (i := 13) (v := undef) rfl (by kernel_rfl) (by kernel_rfl) (by kernel_rfl) (fun _ _ _ h => h) (Or.inr ⟨by kernel_rfl, rfl⟩) (by assumption) ?_
  simp only [Act.put, List.getElem_toArray, List.getElem_cons_succ, List.getElem_cons_zero, List.setIfInBounds_toArray, List.set_cons_zero, List.set_cons_succ]
  refine wpAnyH_take (i := 14) (v := undef) rfl (by kernel_rfl) (by kernel_rfl) (by kernel_rfl) (fun _ _ _ h => h) (Or.inr ⟨by kernel_rfl, rfl⟩) (by assumption) ?_
  simp only [Act.put, List.getElem_toArray, List.getElem_cons_succ, List.getElem_cons_zero, List.setIfInBounds_toArray, List.set_cons_zero, List.set_cons_succ]
  refine wpAnyH_take (i := 15) (v := undef) rfl (by kernel_rfl) (by kernel_rfl) (by kernel_rfl) (fun _ _ _ h => h) (Or.inr ⟨by kernel_rfl, rfl⟩) (by assumption) ?_
  simp only [Act.put, List.getElem_toArray, List.getElem_cons_succ, List.getElem_cons_zero, List.setIfInBounds_toArray, List.set_cons_zero, List.set_cons_succ]
  refine wpAnyH_take (i := 16) (v := undef) rfl (by kernel_rfl) (by kernel_rfl) (by kernel_rfl) (fun _ _ _ h => h) (Or.inr ⟨by kernel_rfl, rfl⟩) (by assumption) ?_
  simp only [Act.put, List.getElem_toArray, List.getElem_cons_succ, List.getElem_cons_zero, List.setIfInBounds_toArray, List.set_cons_zero, List.set_cons_succ]
  refine wpAnyH_take (i := 17) (v := undef) rfl (by kernel_rfl) (by kernel_rfl) (by kernel_rfl) (fun _ _ _ h => h) (Or.inr ⟨by kernel_rfl, rfl⟩) (by assumption) ?_
  simp only [Act.put, List.getElem_toArray, List.getElem_cons_succ, List.getElem_cons_zero, List.setIfInBounds_toArray, List.set_cons_zero, List.set_cons_succ]
  refine wpAnyH_take (i := 18) (v := undef) rfl (by kernel_rfl) (by kernel_rfl) (by kernel_rfl) (fun _ _ _ h => h) (Or.inr ⟨by kernel_rfl, rfl⟩) (by assumption) ?_
  simp only [Act.put, List.getElem_toArray, List.getElem_cons_succ, List.getElem_cons_zero, List.setIfInBounds_toArray, List.set_cons_zero, List.set_cons_succ]
  refine wpAnyH_take (i := 19) (v := undef) rfl (by kernel_rfl) (by kernel_rfl) (by kernel_rfl) (fun _ _ _ h => h) (Or.inr ⟨by kernel_rfl, rfl⟩) (by assumption) ?_
  simp only [Act.put, List.getElem_toArray, List.getElem_cons_succ, List.getElem_cons_zero, List.setIfInBounds_toArray, List.set_cons_zero, List.set_cons_succ]
  refine wpAnyH_take (i := 20) (v := undef) rfl (by kernel_rfl) (by kernel_rfl) (by kernel_rfl) (fun _ _ _ h => h) (Or.inr ⟨by kernel_rfl, rfl⟩) (by assumption) ?_
  simp only [Act.put, List.getElem_toArray, List.getElem_cons_succ, List.getElem_cons_zero, List.setIfInBounds_toArray, List.set_cons_zero, List.set_cons_succ]
  refine wpAnyH_take (i := 21) (v := undef) rfl (by kernel_rfl) (by kernel_rfl) (by kernel_rfl) (fun _ _ _ h => h) (Or.inr ⟨by kernel_rfl, rfl⟩) (by assumption) ?_
  simp only [Act.put, List.getElem_toArray, List.getElem_cons_succ, List.getElem_cons_zero, List.setIfInBounds_toArray, List.set_cons_zero, List.set_cons_succ]
  refine wpAnyH_take (i := 22) (v := ?_) rfl (by kernel_rfl) (by kernel_rfl) (by kernel_rfl) (fun _ _ _ h => h) (Or.inl ⟨by kernel_rfl, ?_⟩) (by assumption) ?_
  rotate_left
  · (intro w hSw; (try dsimp only at hSw); go_simp; (try with_reducible rfl))
  simp only [Act.put, List.getElem_toArray, List.getElem_cons_succ, List.getElem_cons_zero, List.setIfInBounds_toArray, List.set_cons_zero, List.set_cons_succ]
  refine wpAnyH_take (i := 23) rfl (by kernel_rfl) (by kernel_rfl) (by kernel_rfl) (fun _ _ _ h => h) (yi_assign (by kernel_rfl) rfl rfl) (by assumption) ?_
  simp only [Act.put, List.getElem_toArray, List.getElem_cons_succ, List.getElem_cons_zero, List.setIfInBounds_toArray, List.set_cons_zero, List.set_cons_succ]
  refine wpAnyH_done (by kernel_rfl) ?_ _
  refine NoPanic.normal ?_
  go_wp2_with fail
  go_ret
  exact ⟨rfl, FIN.out _ HB11⟩
set_option maxRecDepth 8000 in
set_option maxHeartbeats 2000000 in
theorem isReady_yes {w W : World} {b : Nat} {g : RC.Gr} {sa aa : Option Addr} {sc ac : Nat} {vn vo : Value} {st : TR.St} (h : KX w b g sa sc aa ac vn vo st W) (t : RC.Ac) (x : Option Addr) (c : Nat) (hv : Strs W.heap.size W (.slice x t.2.1.length c) t.2.1) (hn : t.2.1.length ≤ maxLen) (hq : decide (TR.setOf (TR.nm g) [t.1] &&& st.there = 0) = true) :
    Calls Tryz.prog 87 #[.pointer (some ⟨b, 0, none⟩), .agg (acL t x c).toArray] W fun e w' => e = .returned (.bool (TR.sub (TR.setOf (TR.nm g) t.2.1) st.there)) ∧ Bl W w' := by
  obtain ⟨n, ins, code⟩ := t
  simp only [] at hv hn hq ⊢
  have hbl := h.lt
  have h3 := h.c3
  have HBA : Bl W (W.alloc (.cells #[.string (M.bs n), .slice x ins.length c, .string (M.bs code)] 43)) := (Bl.refl W).alloc _
  have HD : Hid (Bl (W.alloc (.cells #[.string (M.bs n), .slice x ins.length c, .string (M.bs code)] 43)) (W.alloc (.cells #[.string (M.bs n), .slice x ins.length c, .string (M.bs code)] 43)).drew) := (Bl.refl (W.alloc (.cells #[.string (M.bs n), .slice x ins.length c, .string (M.bs code)] 43))).drewN 1
  have KP : Hid (∀ U, Bl (W.alloc (.cells #[.string (M.bs n), .slice x ins.length c, .string (M.bs code)] 43)) U → U.cell? ⟨b, 3, none⟩ = some (su st.there) ∧ U.cell? ⟨W.heap.size, 0, none⟩ = some (.string (M.bs n)) ∧ U.cell? ⟨W.heap.size, 1, none⟩ = some (.slice x ins.length c)) := fun U hU => by
    have hz : W.heap.size < (W.alloc (.cells #[.string (M.bs n), .slice x ins.length c, .string (M.bs code)] 43)).heap.size := by simp
    refine ⟨?_, ?_, ?_⟩
    · rw [Bl.cell (HBA.step hU) hbl]; exact h3
    · rw [Bl.cell hU hz, Lib.cell_of_heap (heap_alloc_new W _)]; rfl
    · rw [Bl.cell hU hz, Lib.cell_of_heap (heap_alloc_new W _)]; rfl
  have AL : Hid (∀ U o, Bl (W.alloc (.cells #[.string (M.bs n), .slice x ins.length c, .string (M.bs code)] 43)) U → Bl (W.alloc (.cells #[.string (M.bs n), .slice x ins.length c, .string (M.bs code)] 43)) (U.alloc o)) := fun U o hU => hU.alloc o
  have hBB : Bl (W.alloc (.cells #[.string (M.bs n), .slice x ins.length c, .string (M.bs code)] 43)) ((W.alloc (.cells #[.string (M.bs n), .slice x ins.length c, .string (M.bs code)] 43)).drew.alloc (.cells #[.string (M.bs n)] 9)) := HD.out.alloc _
  have C1 : Hid (Calls Tryz.prog 86 #[.pointer (some ⟨b, 0, none⟩), .slice (some ⟨W.heap.size + 1, 0, none⟩) 1 1] ((W.alloc (.cells #[.string (M.bs n), .slice x ins.length c, .string (M.bs code)] 43)).drew.alloc (.cells #[.string (M.bs n)] 9)) fun e w' => e = .returned (su (TR.setOf (TR.nm g) [n])) ∧ Bl (W.alloc (.cells #[.string (M.bs n), .slice x ins.length c, .string (M.bs code)] 43)) w') := by
    have hsa : SA ((W.alloc (.cells #[.string (M.bs n), .slice x ins.length c, .string (M.bs code)] 43)).drew.alloc (.cells #[.string (M.bs n)] 9)) (some ⟨W.heap.size + 1, 0, none⟩) [n] := by
      intro i u hu
      have hz : (W.alloc (.cells #[.string (M.bs n), .slice x ins.length c, .string (M.bs code)] 43)).drew.heap.size = W.heap.size + 1 := by simp
      refine ⟨W.heap.size + 1, 0, rfl, ?_⟩
      rw [← hz, Lib.cell_of_heap (heap_alloc_new _ _)]
      rcases i with _ | i
      · cases hu; rfl
      · simp at hu
    have := setOf_at (h.step (HBA.step hBB)) [n] (some ⟨W.heap.size + 1, 0, none⟩) 1 hsa (by unfold maxLen; simp)
    refine Calls.mono this ?_
    rintro e w' ⟨rfl, rfl⟩
    exact ⟨rfl, hBB⟩
  have C2 : Hid (∀ U, Bl (W.alloc (.cells #[.string (M.bs n), .slice x ins.length c, .string (M.bs code)] 43)) U → Calls Tryz.prog 103 #[su (TR.setOf (TR.nm g) [n]), su st.there] U fun e w' => e = .returned (.bool (!true)) ∧ Bl (W.alloc (.cells #[.string (M.bs n), .slice x ins.length c, .string (M.bs code)] 43)) w') := fun U hU => by
    rw [← hq]
    refine (meets_at _ _ (h.v.set_lt _) h.v.tl U).mono ?_
    rintro e w' ⟨rfl, rfl⟩
    exact ⟨rfl, hU⟩
  have C3 : Hid (∀ U, Bl (W.alloc (.cells #[.string (M.bs n), .slice x ins.length c, .string (M.bs code)] 43)) U → Calls Tryz.prog 86 #[.pointer (some ⟨b, 0, none⟩), .slice x ins.length c] U fun e w' => e = .returned (su (TR.setOf (TR.nm g) ins)) ∧ Bl (W.alloc (.cells #[.string (M.bs n), .slice x ins.length c, .string (M.bs code)] 43)) w') := fun U hU => by
    refine (setOf_at (h.step (HBA.step hU)) ins x c (Strs.sa (hv.bl (HBA.step hU))).2 hn).mono ?_
    rintro e w' ⟨rfl, rfl⟩
    exact ⟨rfl, hU⟩
  have C4 : Hid (∀ U, Bl (W.alloc (.cells #[.string (M.bs n), .slice x ins.length c, .string (M.bs code)] 43)) U → Calls Tryz.prog 104 #[su (TR.setOf (TR.nm g) ins), su st.there] U fun e w' => e = .returned (.bool (TR.sub (TR.setOf (TR.nm g) ins) st.there)) ∧ Bl (W.alloc (.cells #[.string (M.bs n), .slice x ins.length c, .string (M.bs code)] 43)) w') := fun U hU => by
    refine (isWithin_at _ _ (h.v.set_lt _) h.v.tl U).mono ?_
    rintro e w' ⟨rfl, rfl⟩
    exact ⟨rfl, hU⟩
  have FIN : Hid (∀ U, Bl (W.alloc (.cells #[.string (M.bs n), .slice x ins.length c, .string (M.bs code)] 43)) U → Bl W U) := fun U hU => HBA.step hU
  clear h hv hn hq HBA hBB
  generalize TR.sub (TR.setOf (TR.nm g) ins) st.there = R at *
  generalize TR.setOf (TR.nm g) [n] = s1 at *
  generalize TR.setOf (TR.nm g) ins = s2 at *
  generalize st.there = th at *
  unfold acL
  simp only []
  go_enter Tryz.func87, Tryz.ntmps87
  go_wp2_with fail
  refine wp_region_noPanic ?_
  refine wp_region_held_drew (S := fun U => U.cell? ⟨b, 3, none⟩ = some (su th) ∧ U.cell? ⟨W.heap.size, 0, none⟩ = some (.string (M.bs n)) ∧ U.cell? ⟨W.heap.size, 1, none⟩ = some (.slice x ins.length c)) (by kernel_rfl) (KP.out _ (HD.out)) (fun hHeld => ?_)
  refine wpAnyH_take (i := 0) rfl (by kernel_rfl) (by kernel_rfl) (by kernel_rfl) (fun _ _ _ h => h) (yi_move (by kernel_rfl) rfl rfl) (by assumption) ?_
  simp only [Act.put, List.getElem_toArray, List.getElem_cons_succ, List.getElem_cons_zero, List.setIfInBounds_toArray, List.set_cons_zero, List.set_cons_succ]
  refine wpAnyH_take (i := 1) (v := ?_) rfl (by kernel_rfl) (by kernel_rfl) (by kernel_rfl) (fun _ _ _ h => h) (Or.inl ⟨by kernel_rfl, ?_⟩) (by assumption) ?_
  rotate_left
  · (intro w hSw; (try dsimp only at hSw); go_simp; (try with_reducible rfl))
  simp only [Act.put, List.getElem_toArray, List.getElem_cons_succ, List.getElem_cons_zero, List.setIfInBounds_toArray, List.set_cons_zero, List.set_cons_succ]
  refine wpAnyH_take (i := 2) (v := ?_) rfl (by kernel_rfl) (by kernel_rfl) (by kernel_rfl) (fun _ _ _ h => h) (Or.inl ⟨by kernel_rfl, ?_⟩) (by assumption) ?_
  rotate_left
  · (intro w hSw; (try dsimp only at hSw); go_simp; (try with_reducible rfl))
  simp only [Act.put, List.getElem_toArray, List.getElem_cons_succ, List.getElem_cons_zero, List.setIfInBounds_toArray, List.set_cons_zero, List.set_cons_succ]
  refine wpAnyH_take (i := 3) (v := ?_) rfl (by kernel_rfl) (by kernel_rfl) (by kernel_rfl) (fun _ _ _ h => h) (Or.inl ⟨by kernel_rfl, ?_⟩) (by assumption) ?_
  rotate_left
  · (intro w hSw; (try dsimp only at hSw); go_simp; (try with_reducible rfl))
  simp only [Act.put, List.getElem_toArray, List.getElem_cons_succ, List.getElem_cons_zero, List.setIfInBounds_toArray, List.set_cons_zero, List.set_cons_succ]
  refine wpAnyH_take (i := 6) rfl (by kernel_rfl) (by kernel_rfl) (by kernel_rfl) (fun _ _ _ h => h) (yi_move (by kernel_rfl) rfl rfl) (by assumption) ?_
  simp only [Act.put, List.getElem_toArray, List.getElem_cons_succ, List.getElem_cons_zero, List.setIfInBounds_toArray, List.set_cons_zero, List.set_cons_succ]
  refine wpAnyH_take (i := 7) (v := ?_) rfl (by kernel_rfl) (by kernel_rfl) (by kernel_rfl) (fun _ _ _ h => h) (Or.inl ⟨by kernel_rfl, ?_⟩) (by assumption) ?_
  rotate_left
  · (intro w hSw; (try dsimp only at hSw); go_simp; (try with_reducible rfl))
  simp only [Act.put, List.getElem_toArray, List.getElem_cons_succ, List.getElem_cons_zero, List.setIfInBounds_toArray, List.set_cons_zero, List.set_cons_succ]
  refine wpAnyH_take (i := 8) (v := ?_) rfl (by kernel_rfl) (by kernel_rfl) (by kernel_rfl) (fun _ _ _ h => h) (Or.inl ⟨by kernel_rfl, ?_⟩) (by assumption) ?_
  rotate_left
  · (intro w hSw; (try dsimp only at hSw); go_simp; (try with_reducible rfl))
  simp only [Act.put, List.getElem_toArray, List.getElem_cons_succ, List.getElem_cons_zero, List.setIfInBounds_toArray, List.set_cons_zero, List.set_cons_succ]
  refine wpAnyH_take (i := 9) (v := ?_) rfl (by kernel_rfl) (by kernel_rfl) (by kernel_rfl) (fun _ _ _ h => h) (Or.inl ⟨by kernel_rfl, ?_⟩) (by assumption) ?_
  rotate_left
  · (intro w hSw; (try dsimp only at hSw); go_simp; (try with_reducible rfl))
  simp only [Act.put, List.getElem_toArray, List.getElem_cons_succ, List.getElem_cons_zero, List.setIfInBounds_toArray, List.set_cons_zero, List.set_cons_succ]
  refine wpAnyH_ready (rs := [4]) (by kernel_rfl) (by simp) ?_
  refine AllReadyH.cons (o := _) rfl (fun K hK => ?_) AllReadyH.nil
  go_simp
  refine hK.out _ _ (KP.out _ ((AL.out _ _ HD.out))) (fun hHeld => ?_)
  clear hK K
  (try simp only [Act.put, List.getElem_toArray, List.getElem_cons_succ, List.getElem_cons_zero, List.setIfInBounds_toArray, List.set_cons_zero, List.set_cons_succ])
  refine wpAnyH_ready (rs := [5]) (by kernel_rfl) (by simp) ?_
  refine AllReadyH.cons (o := _) rfl (fun K hK => ?_) AllReadyH.nil
  go_simp
  go_at_call 86; refine C1.out.mono ?_; rintro e w' ⟨rfl, HB10⟩
  refine hK.out _ _ (KP.out _ (HB10)) (fun hHeld => ?_)
  clear hK K
  (try simp only [Act.put, List.getElem_toArray, List.getElem_cons_succ, List.getElem_cons_zero, List.setIfInBounds_toArray, List.set_cons_zero, List.set_cons_succ])
  refine wpAnyH_ready (rs := [10]) (by kernel_rfl) (by simp) ?_
  refine AllReadyH.cons (o := _) rfl (fun K hK => ?_) AllReadyH.nil
  go_simp
  go_at_call 103; refine (C2.out _ HB10).mono ?_; rintro e w' ⟨rfl, HB11⟩
  refine hK.out _ _ (KP.out _ (HB11)) (fun hHeld => ?_)
  clear hK K
  (try simp only [Act.put, List.getElem_toArray, List.getElem_cons_succ, List.getElem_cons_zero, List.setIfInBounds_toArray, List.set_cons_zero, List.set_cons_succ])
  refine wpAnyH_take (i := 11) (v := ?_) rfl (by kernel_rfl) (by kernel_rfl) (by kernel_rfl) (fun _ _ _ h => h) (Or.inl ⟨by kernel_rfl, ?_⟩) (by assumption) ?_
  rotate_left
  · (intro w hSw; (try dsimp only at hSw); go_simp; (try with_reducible rfl))
  simp only [Act.put, List.getElem_toArray, List.getElem_cons_succ, List.getElem_cons_zero, List.setIfInBounds_toArray, List.set_cons_zero, List.set_cons_succ]
  refine wpAnyH_take (i := 12) rfl (by kernel_rfl) (by kernel_rfl) (by kernel_rfl) (fun _ _ _ h => h) (yi_move (by kernel_rfl) rfl rfl) (by assumption) ?_
  simp only [Act.put, List.getElem_toArray, List.getElem_cons_succ, List.getElem_cons_zero, List.setIfInBounds_toArray, List.set_cons_zero, List.set_cons_succ]
  refine wpAnyH_take (i := 13) rfl (by kernel_rfl) (by kernel_rfl) (by kernel_rfl) (fun _ _ _ h => h) (yi_move (by kernel_rfl) rfl rfl) (by assumption) ?_
  simp only [Act.put, List.getElem_toArray, List.getElem_cons_succ, List.getElem_cons_zero, List.setIfInBounds_toArray, List.set_cons_zero, List.set_cons_succ]
  refine wpAnyH_take (i := 14) (v := ?_) rfl (by kernel_rfl) (by kernel_rfl) (by kernel_rfl) (fun _ _ _ h => h) (Or.inl ⟨by kernel_rfl, ?_⟩) (by assumption) ?_
  rotate_left
  · (intro w hSw; (try dsimp only at hSw); go_simp; (try with_reducible rfl))
  simp only [Act.put, List.getElem_toArray, List.getElem_cons_succ, List.getElem_cons_zero, List.setIfInBounds_toArray, List.set_cons_zero, List.set_cons_succ]
  refine wpAnyH_take (i := 15) (v := ?_) rfl (by kernel_rfl) (by kernel_rfl) (by kernel_rfl) (fun _ _ _ h => h) (Or.inl ⟨by kernel_rfl, ?_⟩) (by assumption) ?_
  rotate_left
  · (intro w hSw; (try dsimp only at hSw); go_simp; (try with_reducible rfl))
  simp only [Act.put, List.getElem_toArray, List.getElem_cons_succ, List.getElem_cons_zero, List.setIfInBounds_toArray, List.set_cons_zero, List.set_cons_succ]
  refine wpAnyH_take (i := 17) rfl (by kernel_rfl) (by kernel_rfl) (by kernel_rfl) (fun _ _ _ h => h) (yi_move (by kernel_rfl) rfl rfl) (by assumption) ?_
  simp only [Act.put, List.getElem_toArray, List.getElem_cons_succ, List.getElem_cons_zero, List.setIfInBounds_toArray, List.set_cons_zero, List.set_cons_succ]
  refine wpAnyH_take (i := 18) (v := ?_) rfl (by kernel_rfl) (by kernel_rfl) (by kernel_rfl) (fun _ _ _ h => h) (Or.inl ⟨by kernel_rfl, ?_⟩) (by assumption) ?_
  rotate_left
  · (intro w hSw; (try dsimp only at hSw); go_simp; (try with_reducible rfl))
  simp only [Act.put, List.getElem_toArray, List.getElem_cons_succ, List.getElem_cons_zero, List.setIfInBounds_toArray, List.set_cons_zero, List.set_cons_succ]
  refine wpAnyH_take (i := 19) (v := ?_) rfl (by kernel_rfl) (by kernel_rfl) (by kernel_rfl) (fun _ _ _ h => h) (Or.inl ⟨by kernel_rfl, ?_⟩) (by assumption) ?_
  rotate_left
  · (intro w hSw; (try dsimp only at hSw); go_simp; (try with_reducible rfl))
  simp only [Act.put, List.getElem_toArray, List.getElem_cons_succ, List.getElem_cons_zero, List.setIfInBounds_toArray, List.set_cons_zero, List.set_cons_succ]
  refine wpAnyH_take (i := 20) (v := ?_) rfl (by kernel_rfl) (by kernel_rfl) (by kernel_rfl) (fun _ _ _ h => h) (Or.inl ⟨by kernel_rfl, ?_⟩) (by assumption) ?_
  rotate_left
  · (intro w hSw; (try dsimp only at hSw); go_simp; (try with_reducible rfl))
  simp only [Act.put, List.getElem_toArray, List.getElem_cons_succ, List.getElem_cons_zero, List.setIfInBounds_toArray, List.set_cons_zero, List.set_cons_succ]
  refine wpAnyH_ready (rs := [16]) (by kernel_rfl) (by simp) ?_
  refine AllReadyH.cons (o := _) rfl (fun K hK => ?_) AllReadyH.nil
  go_simp
  go_at_call 86; refine (C3.out _ HB11).mono ?_; rintro e w' ⟨rfl, HB21⟩
  refine hK.out _ _ (KP.out _ (HB21)) (fun hHeld => ?_)
  clear hK K
  (try simp only [Act.put, List.getElem_toArray, List.getElem_cons_succ, List.getElem_cons_zero, List.setIfInBounds_toArray, List.set_cons_zero, List.set_cons_succ])
  refine wpAnyH_ready (rs := [21]) (by kernel_rfl) (by simp) ?_
  refine AllReadyH.cons (o := _) rfl (fun K hK => ?_) AllReadyH.nil
  go_simp
  go_at_call 104; refine (C4.out _ HB21).mono ?_; rintro e w' ⟨rfl, HB22⟩
  refine hK.out _ _ (KP.out _ (HB22)) (fun hHeld => ?_)
  clear hK K
  (try simp only [Act.put, List.getElem_toArray, List.getElem_cons_succ, List.getElem_cons_zero, List.setIfInBounds_toArray, List.set_cons_zero, List.set_cons_succ])
  refine wpAnyH_take (i := 22) (v := ?_) rfl (by kernel_rfl) (by kernel_rfl) (by kernel_rfl) (fun _ _ _ h => h) (Or.inl ⟨by kernel_rfl, ?_⟩) (by assumption) ?_
  rotate_left
  · (intro w hSw; (try dsimp only at hSw); go_simp; (try with_reducible rfl))
  simp only [Act.put, List.getElem_toArray, List.getElem_cons_succ, List.getElem_cons_zero, List.setIfInBounds_toArray, List.set_cons_zero, List.set_cons_succ]
  refine wpAnyH_take (i := 23) rfl (by kernel_rfl) (by kernel_rfl) (by kernel_rfl) (fun _ _ _ h => h) (yi_assign (by kernel_rfl) rfl rfl) (by assumption) ?_
  simp only [Act.put, List.getElem_toArray, List.getElem_cons_succ, List.getElem_cons_zero, List.setIfInBounds_toArray, List.set_cons_zero, List.set_cons_succ]
  refine wpAnyH_done (by kernel_rfl) ?_ _
  refine NoPanic.normal ?_
  go_wp2_with fail
  go_ret
  exact ⟨rfl, FIN.out _ HB22⟩
end Go.Proofs.YtjbffhdccgmfpaaGreatDoor
