/- The texts T7 T8 T9 T10 T11 as one. -/
import Derived.Test.YtjbffhdccgmfpaaGreatDoorMA
import Derived.Test.YtjbffhdccgmfpaaGreatDoorShI
import Derived.Lib.AppendIntMem
/- What the functions make of a top: reversed, digest, length, joined, compared, cut. -/
namespace Go.Proofs.YtjbffhdccgmfpaaGreatDoor
open Go.RowKit
set_option linter.unusedVariables false

theorem bytesW_below (w : World) (e : TypeId) (s : ByteArray) : Below w.heap.size w (Lib.bytesWorld w e s) :=
  ⟨rfl, rfl, rfl, by rw [Lib.bytesWorld_size]; omega, fun k hk => Lib.bytesWorld_at_old w e s k hk⟩
theorem bytesW_rv (w : World) (e : TypeId) (l : List UInt8) : RV w.heap.size l 0 (Lib.bytesWorld w e (M.bs l)) (Lib.bytesWorld w e (M.bs l)) := by
  refine ⟨fun x hx => ?_, fun x hx => ?_, Off.refl _ _⟩
  · rw [Lib.bytesWorld_cell w e (M.bs l) x (by rw [M.bs_size]; exact hx), M.bs_toList]
    unfold rvA
    rw [if_neg (by omega)]
  · simp only [World.frozen?, Lib.bytesWorld_at_new]
    have : x < (Lib.bytesCells w e (M.bs l)).size := by
      simp only [Lib.bytesCells, Array.size_append, Array.size_map]
      have h2 : (M.bs l).data.size = l.length := M.bs_size l
      omega
    simp; omega
set_option maxRecDepth 8000 in
set_option maxHeartbeats 1000000 in
theorem reversed_at (t : List UInt8) (W : World) (ht : t.length ≤ 1000000) :
    Calls Tryz.prog 127 #[.string (M.bs t)] W fun e w' => e = .returned (.string (M.bs t.reverse)) ∧ Below W.heap.size W w' := by
  have hs := M.bs_size t
  have hcv : (convert 9 82 (.string (M.bs t))).run Tryz.prog W = .ok (.slice (some ⟨W.heap.size, 0, none⟩) t.length (grownCap W t.length 0 5)) (Lib.bytesWorld W 5 (M.bs t)) := by
    have := Lib.run_convert_string_bytes (P := Tryz.prog) W 9 82 5 (M.bs t) Tryz.underlying9 Tryz.underlying82 Tryz.underlying5
    rwa [hs] at this
  have hb := bytesW_below W 5 (M.bs t)
  have hsz := Lib.bytesWorld_size W 5 (M.bs t)
  have hrv := bytesW_rv W 5 t
  generalize Lib.bytesWorld W 5 (M.bs t) = W1 at *
  generalize grownCap W t.length 0 5 = cap at *
  have CR : Hid (Calls Tryz.prog 140 #[.slice (some ⟨W.heap.size, 0, none⟩) t.length cap] W1 fun e w' => e = .returned (.tuple #[]) ∧ Below W.heap.size W w' ∧ (convert 82 9 (.slice (some ⟨W.heap.size, 0, none⟩) t.length cap)).run Tryz.prog w' = .ok (.string (M.bs t.reverse)) w') := by
    refine (Reverse_at W.heap.size cap t W1 ht hrv).mono ?_
    rintro e w' ⟨rfl, k, hk, hr⟩
    refine ⟨rfl, hb.trans (hr.o.below (Nat.le_refl _) (by omega)), ?_⟩
    have := run_convert_bytes_back (P := Tryz.prog) w' 82 9 5 ⟨W.heap.size, 0, none⟩ cap t.reverse Tryz.underlying82 Tryz.underlying5 Tryz.underlying9 (fun j hj => by
      rw [Addr.add_mid, Nat.zero_add, hr.c j (by simpa using hj), rvA_end t k j (by simpa using hj) hk]
      rw [List.getD_eq_getElem?_getD, List.getElem?_eq_getElem hj]; rfl)
    rw [List.length_reverse] at this
    exact this
  clear hb hsz hrv
  go_enter Tryz.func127, Tryz.ntmps127
  go_wp2_with (go_at_call 140; refine CR.out.mono ?_; clear CR; rintro e w' ⟨rfl, HB, hcv2⟩)
  go_ret
  exact ⟨rfl, HB⟩
theorem joined_at (a t : List UInt8) (W : World) (h : a.length + t.length ≤ 1000000) :
    Calls Tryz.prog 122 #[.string (M.bs a), .string (M.bs t)] W fun e w' => e = .returned (.string (M.bs (a ++ t))) ∧ Below W.heap.size W w' := by
  have h1 := M.bs_size a
  have h2 := M.bs_size t
  have happ : M.bs a ++ M.bs t = M.bs (a ++ t) := bs_append a t
  have HB : Hid (Below W.heap.size W W) := Below.refl _ _
  go_enter Tryz.func122, Tryz.ntmps122
  go_wp2_with fail
  go_ret
  exact ⟨rfl, HB.out⟩
theorem bs_eqM (a b : List UInt8) : ((M.bs a).toList == (M.bs b).toList) = decide (a = b) := by
  rw [Lib.toList_data, Lib.toList_data, M.bs_toList, M.bs_toList]
  by_cases h : a = b
  · subst h; simp
  · rw [decide_eq_false h]; simpa using h
theorem compared_at (a t : List UInt8) (W : World) :
    Calls Tryz.prog 132 #[.string (M.bs a), .string (M.bs t)] W fun e w' => e = .returned (.string (M.bs (Q.cmp a t))) ∧ Below W.heap.size W w' := by
  have hq := bs_eqM a t
  have HB : Hid (Below W.heap.size W W) := Below.refl _ _
  by_cases h : a = t
  · rw [decide_eq_true h] at hq
    have e : Q.cmp a t = [49] := by unfold Q.cmp; rw [if_pos h]
    rw [e]
    clear h e
    go_enter Tryz.func132, Tryz.ntmps132
    go_wp2_with fail
    go_ret
    exact ⟨rfl, HB.out⟩
  · rw [decide_eq_false h] at hq
    have e : Q.cmp a t = [] := by unfold Q.cmp; rw [if_neg h]
    rw [e]
    clear h e
    go_enter Tryz.func132, Tryz.ntmps132
    go_wp2_with fail
    go_ret
    exact ⟨rfl, HB.out⟩
/-- the table of powers of ten lies in its variable -/
def Tab (w : World) : Prop := Lib.TabIs Tryz.prog w "internal/strconv.uint64pow10" .u64 Lib.pow10Tab
theorem Tab.below {w w' : World} (h : Tab w) (hb : Below w.heap.size w w') : Tab w' := Lib.tabBelow_of_tabIs h w' hb
theorem length_at (t : List UInt8) (W : World) (ht : t.length ≤ 1000000) (hT : Tab W) :
    Calls Tryz.prog 129 #[.string (M.bs t)] W fun e w' => e = .returned (.string (M.bs (Q.len t))) ∧ Below W.heap.size W w' := by
  have hs := M.bs_size t
  have CI : Hid (Calls Tryz.prog 141 #[.int .i64 (t.length : Int)] W fun e w' => e = .returned (.string (M.bs (Q.len t))) ∧ Below W.heap.size W w') := by
    refine (Tryz.strconv_Itoa (t.length : Int) (by omega) (by omega) W hT).mono ?_
    rintro e w' ⟨rfl, k, os, rfl⟩
    exact ⟨rfl, Lib.below_grow _ _ (Nat.le_refl _) k os⟩
  generalize Q.len t = L at *
  clear hT
  go_enter Tryz.func129, Tryz.ntmps129
  go_wp2_with (go_at_call 141; refine CI.out.mono ?_; rintro e w' ⟨rfl, HB⟩)
  go_ret
  exact ⟨rfl, HB⟩
theorem cut1_at (s t : List UInt8) (x : UInt8) (c : Nat) (W : World) (hx : s[1]? = some x) (ht : t.length ≤ 1000000) (hc : W.cell? ⟨c, 0, none⟩ = some (.string (M.bs s))) :
    Calls Tryz.prog 130 #[.string (M.bs t), .pointer (some ⟨c, 0, none⟩)] W fun e w' => e = .returned (.string (M.bs (t.take x.toNat))) ∧ Below W.heap.size W w' := by
  have hs := M.bs_size t
  have CN : Hid (∀ W, Calls Tryz.prog 119 #[.string (M.bs s)] W fun e w' => e = .returned (.int .i64 (x.toNat : Int)) ∧ w' = W) := fun W => numberM_at s x hx W
  have hx8 := x.toNat_lt
  have HB : Hid (Below W.heap.size W W) := Below.refl _ _
  generalize x.toNat = k at *
  obtain ⟨m, hm⟩ : ∃ m, m = min t.length k := ⟨_, rfl⟩
  have hmi : min (t.length : Int) (k : Int) = (m : Int) := by omega
  have htk : (M.bs t).extract 0 m = M.bs (t.take k) := by
    rw [cut_bs, List.drop_zero, Nat.sub_zero, hm]
    congr 1
    rcases Nat.le_total t.length k with h | h
    · rw [Nat.min_eq_left h, List.take_of_length_le (Nat.le_refl _), List.take_of_length_le h]
    · rw [Nat.min_eq_right h]
  have hm1 : m ≤ t.length := by omega
  clear hm hx
  go_enter Tryz.func130, Tryz.ntmps130
  go_wp2_with (go_at_call 119; refine (CN.out _).mono ?_; rintro e w' ⟨rfl, rfl⟩)
  go_ret
  exact ⟨rfl, HB.out⟩
theorem cut2_at (s t : List UInt8) (x : UInt8) (c : Nat) (W : World) (hx : s[1]? = some x) (ht : t.length ≤ 1000000) (hc : W.cell? ⟨c, 0, none⟩ = some (.string (M.bs s))) :
    Calls Tryz.prog 131 #[.string (M.bs t), .pointer (some ⟨c, 0, none⟩)] W fun e w' => e = .returned (.string (M.bs (t.drop x.toNat))) ∧ Below W.heap.size W w' := by
  have hs := M.bs_size t
  have CN : Hid (∀ W, Calls Tryz.prog 119 #[.string (M.bs s)] W fun e w' => e = .returned (.int .i64 (x.toNat : Int)) ∧ w' = W) := fun W => numberM_at s x hx W
  have hx8 := x.toNat_lt
  have HB : Hid (Below W.heap.size W W) := Below.refl _ _
  generalize x.toNat = k at *
  obtain ⟨m, hm⟩ : ∃ m, m = min t.length k := ⟨_, rfl⟩
  have hmi : min (t.length : Int) (k : Int) = (m : Int) := by omega
  have htk : (M.bs t).extract m t.length = M.bs (t.drop k) := by
    have := drop_bs t m
    rw [hs] at this
    rw [this, hm]
    congr 1
    rcases Nat.le_total t.length k with h | h
    · rw [Nat.min_eq_left h, List.drop_of_length_le (Nat.le_refl _), List.drop_of_length_le h]
    · rw [Nat.min_eq_right h]
  have hm1 : m ≤ t.length := by omega
  clear hm hx
  go_enter Tryz.func131, Tryz.ntmps131
  go_wp2_with (go_at_call 119; refine (CN.out _).mono ?_; rintro e w' ⟨rfl, rfl⟩)
  go_ret
  exact ⟨rfl, HB.out⟩
end Go.Proofs.YtjbffhdccgmfpaaGreatDoor

/- What mill.digest answers. -/
namespace Go.Proofs.YtjbffhdccgmfpaaGreatDoor
open Go.RowKit
set_option linter.unusedVariables false
attribute [local go_sem ↓] zero27

set_option maxRecDepth 8000 in
set_option maxHeartbeats 1000000 in
theorem digest_at (t : List UInt8) (W : World) (ht : t.length ≤ 1000000) (hG : GW W) :
    Calls Tryz.prog 128 #[.string (M.bs t)] W fun e w' => e = .returned (.string (M.bs (S.sha t))) ∧ Below W.heap.size W w' := by
  have CO : Hid (Calls Tryz.prog 37 #[.slice (some ⟨W.heap.size, 0, none⟩) 1 1] (W.alloc (.cells #[.string (M.bs t)] 9)) fun e w' => e = .returned (.agg (dg (S.sha t))) ∧ Below W.heap.size W w') := by
    refine (Of_g t 9 (GB.refl hG) (by omega)).mono ?_
    rintro e w' ⟨rfl, h⟩
    exact ⟨rfl, h.b⟩
  have hl : (S.sha t).length = 32 := S.sha_length t
  have hD : Hid (∀ j (hj : j < (S.sha t).length), (dg (S.sha t))[j]? = some (.int .u8 ((S.sha t)[j].toNat : Int))) := fun j hj => by
    unfold dg
    rw [List.getElem?_toArray, List.getElem?_map, List.getElem?_eq_getElem hj]; rfl
  have hsD : (dg (S.sha t)).size = 32 := by rw [dg_size, hl]
  have h1 : Hid ((dg (S.sha t)).all (·.oneCell') = true) := by
    show _ = true
    rw [Array.all_eq_true_iff_forall_mem]
    intro v hv
    unfold dg at hv
    simp only [List.mem_toArray, List.mem_map] at hv
    obtain ⟨x, _, rfl⟩ := hv
    rfl
  generalize S.sha t = d at *
  generalize dg d = D at *
  clear hG
  have HST : Hid (∀ w' : World, (w'.alloc (.cells zero32 51)).heap[w'.heap.size]? = some (.cells zero32 51 (0, 0))) := fun w' => heap_alloc_new _ _
  have HCV : Hid (∀ w' : World, (convert 82 9 (.slice (some ⟨w'.heap.size, 0, none⟩) 32 32)).run Tryz.prog (w'.alloc (.cells D 51)) = .ok (.string (M.bs d)) (w'.alloc (.cells D 51))) := fun w' => by
    have := run_convert_bytes_back (P := Tryz.prog) (w'.alloc (.cells D 51)) 82 9 5 ⟨w'.heap.size, 0, none⟩ 32 d Tryz.underlying82 Tryz.underlying5 Tryz.underlying9 (fun j hj => by
      rw [Addr.add_mid, Nat.zero_add, cell_of_row _ _ j D _ _ (heap_alloc_new _ _)]; exact hD.out j hj)
    rw [hl] at this
    exact this
  have hz := zero32_size
  go_enter Tryz.func128, Tryz.ntmps128
  go_wp2_with (first
    | (go_at_call 37; refine CO.out.mono ?_; clear CO; rintro e w' ⟨rfl, HB⟩; have HB : Hid (Below W.heap.size W w') := HB; have hcv := HCV.out w')
    | (refine wpList_store_row rfl 51 _ _ rfl w'.heap.size D rfl rfl 51 zero32 (HST.out w') (by rw [hsD]; exact info27) (by rw [hz, hsD]) h1.out ?_; clear HST; rw [World.setRow_alloc_new]))
  go_ret
  exact ⟨rfl, HB.out.alloc HB.out.size _⟩
end Go.Proofs.YtjbffhdccgmfpaaGreatDoor

/- A machine's step: what is known of it in memory. -/
namespace Go.Proofs.YtjbffhdccgmfpaaGreatDoor
open Go.RowKit
set_option linter.unusedVariables false

theorem Q.len_le (t : List UInt8) (h : t.length ≤ 512) : (Q.len t).length ≤ 1000000 := by
  unfold Q.len Lib.itoa
  rw [if_neg (by omega), Lib.decDigits_length]
  show Lib.nDigits t.length ≤ _
  generalize t.length = u at *
  by_cases h1 : u < 10
  · rw [Lib.nDigits_small h1]; omega
  · rw [Lib.nDigits_big h1]
    by_cases h2 : u / 10 < 10
    · rw [Lib.nDigits_small h2]; omega
    · rw [Lib.nDigits_big h2, Lib.nDigits_small (by omega)]; omega
/-- the cells of a machine behind its stack -/
def rowM (code : List UInt8) (a : Option Addr) (il c place n : Nat) : List Value := [.string (M.bs code), .slice a il c, .int .i64 (place : Int), .int .i64 (n : Int)]
theorem SX.setR {w W : World} {b : Nat} {r r' : List Value} {st : List (List UInt8)} {v : Value} (h : SX w b r st v W) (i : Nat) (x : Value) (e : r.set i x = r') : SX w b r' st v (W.setCell ⟨b, i + 1, none⟩ x) := by
  have h1 := h.hb
  have h2 := h.z
  refine ⟨?_, ownsRow_setCell_below h.own (show b < b + 1 by omega) _, ⟨h.g.g.below (Below.setCell (Below.refl b W) (Nat.le_refl _) _) (by omega), h.g.b.trans (Below.setCell (Below.refl _ W) h1 _)⟩, h1, h2, h.ok⟩
  rw [heap_setCell_rowM h.row, ← e]
  simp
section
variable {w W : World} {b : Nat} {code : List UInt8} {a : Option Addr} {il c place n : Nat} {st : List (List UInt8)} {v : Value}
theorem SX.m1 (h : SX w b (rowM code a il c place n) st v W) : W.cell? ⟨b, 1, none⟩ = some (.string (M.bs code)) := by rw [cell_rowM h.row]; rfl
theorem SX.m2 (h : SX w b (rowM code a il c place n) st v W) : W.cell? ⟨b, 2, none⟩ = some (.slice a il c) := by rw [cell_rowM h.row]; rfl
theorem SX.m3 (h : SX w b (rowM code a il c place n) st v W) : W.cell? ⟨b, 3, none⟩ = some (.int .i64 (place : Int)) := by rw [cell_rowM h.row]; rfl
theorem SX.m4 (h : SX w b (rowM code a il c place n) st v W) : W.cell? ⟨b, 4, none⟩ = some (.int .i64 (n : Int)) := by rw [cell_rowM h.row]; rfl
theorem SX.setP (h : SX w b (rowM code a il c place n) st v W) (k : Nat) : SX w b (rowM code a il c k n) st v (W.setCell ⟨b, 3, none⟩ (.int .i64 (k : Int))) := h.setR 2 _ rfl
theorem SX.setN (h : SX w b (rowM code a il c place n) st v W) (k : Nat) : SX w b (rowM code a il c place k) st v (W.setCell ⟨b, 4, none⟩ (.int .i64 (k : Int))) := h.setR 3 _ rfl
end

/-- what 'do' does first: the step is boxed and counted, the place moves on -/
theorem SX.pre {w W : World} {b : Nat} {code : List UInt8} {a : Option Addr} {il c place n : Nat} {st : List (List UInt8)} {v : Value} (h : SX w b (rowM code a il c place n) st v W) (sx : ByteArray) (L : Nat) (Li : Int) (hL : (L : Int) = Li) :
    SX w b (rowM code a il c (place + L) (n + 1)) st v ((((W.setCell ⟨b, 4, none⟩ (.int .i64 ((n : Int) + 1))).setCell ⟨b, 3, none⟩ (.int .i64 ((place : Int) + Li))).alloc (.cells #[.string sx] 9)).drew) ∧
    ((((W.setCell ⟨b, 4, none⟩ (.int .i64 ((n : Int) + 1))).setCell ⟨b, 3, none⟩ (.int .i64 ((place : Int) + Li))).alloc (.cells #[.string sx] 9)).drew).cell? ⟨W.heap.size, 0, none⟩ = some (.string sx) := by
  have h1 := h.setN (n + 1)
  have h2 := h1.setP (place + L)
  rw [show ((n + 1 : Nat) : Int) = (n : Int) + 1 by omega, show ((place + L : Nat) : Int) = (place : Int) + Li by omega] at h2
  refine ⟨(h2.alloc _).drew, ?_⟩
  have := cell_new1 ((W.setCell ⟨b, 4, none⟩ (.int .i64 ((n : Int) + 1))).setCell ⟨b, 3, none⟩ (.int .i64 ((place : Int) + Li))) (.string sx) 9
  simpa using this

/-- inputs that came in, in the world w -/
structure IN (w : World) (a : Option Addr) (ins : List (List UInt8)) : Prop where
  t : TX w a ins
  n : ins.length ≤ 4
  l : ∀ t ∈ ins, t.length ≤ 512
set_option maxRecDepth 8000 in
set_option maxHeartbeats 2000000 in
theorem putInput_at {w W : World} {b : Nat} {code : List UInt8} {a : Option Addr} {c place n : Nat} {ins st : List (List UInt8)} {v : Value} (h : SX w b (rowM code a ins.length c place n) st v W) (hin : IN w a ins) (k : Nat) (hk : k ≤ 255) :
    Calls Tryz.prog 118 #[.pointer (some ⟨b, 0, none⟩), .int .i64 (k : Int)] W fun e w' => e = .returned (.int .i64 ((if ins.length ≤ k then (32, st) else Q.put st (ins.getD k [])).1 : Nat)) ∧ ∃ v', SX w b (rowM code a ins.length c place n) (if ins.length ≤ k then (32, st) else Q.put st (ins.getD k [])).2 v' w' := by
  have k2 := h.m2
  have h4 := hin.n
  by_cases hlt : ins.length ≤ k
  · rw [if_pos hlt]
    have HH : Hid (SX w b (rowM code a ins.length c place n) st v W) := h
    clear h hin
    go_enter Tryz.func118, Tryz.ntmps118
    go_wp2_with fail
    go_ret
    exact ⟨rfl, _, HH.out⟩
  · rw [if_neg hlt]
    obtain ⟨t, ht⟩ : ∃ t, ins[k]? = some t := ⟨ins[k]'(by omega), List.getElem?_eq_getElem (by omega)⟩
    have hg : ins.getD k [] = t := by rw [List.getD_eq_getElem?_getD, ht]; rfl
    rw [hg]
    have htl := hin.l t (List.mem_of_getElem? ht)
    obtain ⟨sb, off, rfl, hsb, hc⟩ := hin.t k t ht
    have kc : W.cell? ⟨sb, off + k, none⟩ = some (.string (M.bs t)) := by rw [h.g.b.cell (p := ⟨sb, off + k, none⟩) hsb]; exact hc
    have CP : Hid (∀ W', SX w b (rowM code (some ⟨sb, off, none⟩) ins.length c place n) st v W' → Calls Tryz.prog 120 #[.pointer (some ⟨b, 0, none⟩), .string (M.bs t)] W' fun e w' => e = .returned (.int .i64 ((Q.put st t).1 : Int)) ∧ ∃ v', SX w b (rowM code (some ⟨sb, off, none⟩) ins.length c place n) (Q.put st t).2 v' w') := fun W' h => put_at t h (by omega)
    have HH : Hid (SX w b (rowM code (some ⟨sb, off, none⟩) ins.length c place n) st v W) := h
    clear h hin hg ht hc
    generalize Q.put st t = R at *
    have hw1 : IntKind.i64.wrap (k : Int) = (k : Int) := by simp only [IntKind.wrap, IntKind.bits, IntKind.signed]; simp; omega
    have i0 : (0 : Int) ≤ (k : Int) := by omega
    have i1 : (k : Int) < (ins.length : Int) := by omega
    have i2 : ¬ (ins.length : Int) ≤ (k : Int) := by omega
    go_enter Tryz.func118, Tryz.ntmps118
    go_wp2_with fail
    go_region_with (go_at_call 120; refine (CP.out _ (by first | exact HH.out | exact HH.out.drew)).mono ?_; rintro e w' ⟨rfl, HS⟩)
    all_goals go_wp2_with fail
    all_goals go_ret
    all_goals exact ⟨rfl, HS⟩
set_option maxRecDepth 8000 in
set_option maxHeartbeats 2000000 in
theorem goIf_at {w W : World} {b : Nat} {code : List UInt8} {a : Option Addr} {il c place n : Nat} {st : List (List UInt8)} {v : Value} (h : SX w b (rowM code a il c place n) st v W) (k : Nat) (hk : k ≤ 255) :
    Calls Tryz.prog 133 #[.pointer (some ⟨b, 0, none⟩), .int .i64 (k : Int)] W fun e w' => e = .returned (.int .i64 ((Q.drop st).1 : Int)) ∧ ∃ v', SX w b (rowM code a il c (if Q.isE st then k else place) n) (Q.drop st).2 v' w' := by
  have HH : Hid (SX w b (rowM code a il c place n) st v W) := h
  clear h
  rcases st with _ | ⟨t, st⟩
  · unfold Q.drop Q.isE
    go_enter Tryz.func133, Tryz.ntmps133
    go_wp2_with (go_at_call 109; refine (take_nil HH.out).mono ?_; rintro e w' ⟨rfl, rfl⟩)
    go_ret
    exact ⟨rfl, _, HH.out⟩
  · have CT : Hid (Calls Tryz.prog 109 #[.pointer (some ⟨b, 0, none⟩)] W fun e w' => e = .returned (.tuple #[.string (M.bs t), .bool true]) ∧ ∃ v', SX w b (rowM code a il c place n) st v' w') := by
      refine (take_cons HH.out).mono ?_
      rintro e w' ⟨rfl, v', hw', hs⟩
      exact ⟨rfl, v', hs⟩
    clear HH
    rcases t with _ | ⟨x, t⟩
    · have hq := bs_nil
      have hE : Q.isE ([] :: st) = true := rfl
      rw [hE, if_pos rfl]
      clear hE
      unfold Q.drop
      generalize M.bs [] = B at *
      go_enter Tryz.func133, Tryz.ntmps133
      go_wp2_with (go_at_call 109; refine CT.out.mono ?_; clear CT; rintro e w' ⟨rfl, v', HS⟩; have HF := (SX.setP HS k); have k3 := HS.m3; have f3 := HS.fb)
      go_ret
      exact ⟨rfl, _, HF⟩
    · have hq := bs_ne (x :: t) (by simp)
      have hE : Q.isE ((x :: t) :: st) = false := rfl
      rw [hE, if_neg (by simp)]
      clear hE
      unfold Q.drop
      generalize M.bs (x :: t) = B at *
      go_enter Tryz.func133, Tryz.ntmps133
      go_wp2_with (go_at_call 109; refine CT.out.mono ?_; clear CT; rintro e w' ⟨rfl, v', HS⟩)
      go_ret
      exact ⟨rfl, _, HS⟩
end Go.Proofs.YtjbffhdccgmfpaaGreatDoor

/- What a machine's step does, letter by letter (one byte). -/
namespace Go.Proofs.YtjbffhdccgmfpaaGreatDoor
open Go.RowKit
set_option linter.unusedVariables false

set_option maxRecDepth 8000 in
set_option maxHeartbeats 2000000 in
theorem do_c {w W : World} {b : Nat} {code : List UInt8} {a : Option Addr} {c place n : Nat} {ins st : List (List UInt8)} {v : Value} (h : SX w b (rowM code a ins.length c place n) st v W) (hin : IN w a ins) (hT : Tab w) (hn : n ≤ 300) (hp : place ≤ 1000)  :
    Calls Tryz.prog 108 #[.pointer (some ⟨b, 0, none⟩), .string (M.bs [99])] W fun e w' => e = .returned (.int .i64 ((Q.act ins st [99]).1 : Int)) ∧ ∃ v', SX w b (rowM code a ins.length c (Q.next ⟨st, place, n⟩ [99]) (n + 1)) (Q.act ins st [99]).2 v' w' := by
  have e1 : Q.act ins st [99] = (Q.fold (fun a b => a ++ b) st) := by unfold Q.act; simp
  have e2 : Q.next ⟨st, place, n⟩ [99] = (place + 1) := by unfold Q.next; simp
  rw [e1, e2]
  clear e1 e2
  have hsz : (M.bs [99]).size = 1 := M.bs_size [99]
  have hi := idx_0 [99] 99 rfl
  have k3 := h.m3
  have k4 := h.m4
  have fb := h.fb
  have hlt := h.lt
  have CX : Hid (∀ W2, SX w b (rowM code a ins.length c (place + 1) (n + 1)) st v W2 → W2.cell? ⟨W.heap.size, 0, none⟩ = some (.string (M.bs [99])) → Calls Tryz.prog 121 #[.pointer (some ⟨b, 0, none⟩), .func (.func 122) #[] #[]] W2 fun e w' => e = .returned (.int .i64 ((Q.fold (fun a b => a ++ b) st).1 : Nat)) ∧ ∃ v', SX w b (rowM code a ins.length c (place + 1) (n + 1)) (Q.fold (fun a b => a ++ b) st).2 v' w') := fun W2 hs hc => fold_at 122 (fun a b => a ++ b) (enters_of Tryz.func122 (by kernel_rfl) rfl) (fun x t hx ht => by rw [List.length_append]; omega) (fun W2 x t hx ht _ => joined_at x t W2 (by omega)) hs
  generalize (Q.fold (fun a b => a ++ b) st) = R at *
  obtain ⟨hS, hC⟩ := h.pre (M.bs [99]) 1 1 rfl
  generalize M.bs [99] = bsx at *
  have HS : Hid _ := hS
  have HC : Hid _ := hC
  clear hS hC h hin hT
  go_enter Tryz.func108, Tryz.ntmps108
  go_wp2_with fail
  go_region
  go_wp2_with (first
    | (go_at_call 121; refine (CX.out _ HS.out HC.out).mono ?_; rintro e w' ⟨rfl, HE⟩))
  go_ret
  exact ⟨rfl, HE⟩
set_option maxRecDepth 8000 in
set_option maxHeartbeats 2000000 in
theorem do_e {w W : World} {b : Nat} {code : List UInt8} {a : Option Addr} {c place n : Nat} {ins st : List (List UInt8)} {v : Value} (h : SX w b (rowM code a ins.length c place n) st v W) (hin : IN w a ins) (hT : Tab w) (hn : n ≤ 300) (hp : place ≤ 1000)  :
    Calls Tryz.prog 108 #[.pointer (some ⟨b, 0, none⟩), .string (M.bs [61])] W fun e w' => e = .returned (.int .i64 ((Q.act ins st [61]).1 : Int)) ∧ ∃ v', SX w b (rowM code a ins.length c (Q.next ⟨st, place, n⟩ [61]) (n + 1)) (Q.act ins st [61]).2 v' w' := by
  have e1 : Q.act ins st [61] = (Q.fold Q.cmp st) := by unfold Q.act; simp
  have e2 : Q.next ⟨st, place, n⟩ [61] = (place + 1) := by unfold Q.next; simp
  rw [e1, e2]
  clear e1 e2
  have hsz : (M.bs [61]).size = 1 := M.bs_size [61]
  have hi := idx_0 [61] 61 rfl
  have k3 := h.m3
  have k4 := h.m4
  have fb := h.fb
  have hlt := h.lt
  have CX : Hid (∀ W2, SX w b (rowM code a ins.length c (place + 1) (n + 1)) st v W2 → W2.cell? ⟨W.heap.size, 0, none⟩ = some (.string (M.bs [61])) → Calls Tryz.prog 121 #[.pointer (some ⟨b, 0, none⟩), .func (.func 132) #[] #[]] W2 fun e w' => e = .returned (.int .i64 ((Q.fold Q.cmp st).1 : Nat)) ∧ ∃ v', SX w b (rowM code a ins.length c (place + 1) (n + 1)) (Q.fold Q.cmp st).2 v' w') := fun W2 hs hc => fold_at 132 Q.cmp (enters_of Tryz.func132 (by kernel_rfl) rfl) (fun x t hx ht => by unfold Q.cmp; split <;> simp) (fun W2 x t hx ht _ => compared_at x t W2) hs
  generalize (Q.fold Q.cmp st) = R at *
  obtain ⟨hS, hC⟩ := h.pre (M.bs [61]) 1 1 rfl
  generalize M.bs [61] = bsx at *
  have HS : Hid _ := hS
  have HC : Hid _ := hC
  clear hS hC h hin hT
  go_enter Tryz.func108, Tryz.ntmps108
  go_wp2_with fail
  go_region
  go_wp2_with (first
    | (go_at_call 121; refine (CX.out _ HS.out HC.out).mono ?_; rintro e w' ⟨rfl, HE⟩))
  go_ret
  exact ⟨rfl, HE⟩
set_option maxRecDepth 8000 in
set_option maxHeartbeats 2000000 in
theorem do_d {w W : World} {b : Nat} {code : List UInt8} {a : Option Addr} {c place n : Nat} {ins st : List (List UInt8)} {v : Value} (h : SX w b (rowM code a ins.length c place n) st v W) (hin : IN w a ins) (hT : Tab w) (hn : n ≤ 300) (hp : place ≤ 1000)  :
    Calls Tryz.prog 108 #[.pointer (some ⟨b, 0, none⟩), .string (M.bs [100])] W fun e w' => e = .returned (.int .i64 ((Q.act ins st [100]).1 : Int)) ∧ ∃ v', SX w b (rowM code a ins.length c (Q.next ⟨st, place, n⟩ [100]) (n + 1)) (Q.act ins st [100]).2 v' w' := by
  have e1 : Q.act ins st [100] = (Q.double st) := by unfold Q.act; simp
  have e2 : Q.next ⟨st, place, n⟩ [100] = (place + 1) := by unfold Q.next; simp
  rw [e1, e2]
  clear e1 e2
  have hsz : (M.bs [100]).size = 1 := M.bs_size [100]
  have hi := idx_0 [100] 100 rfl
  have k3 := h.m3
  have k4 := h.m4
  have fb := h.fb
  have hlt := h.lt
  have CX : Hid (∀ W2, SX w b (rowM code a ins.length c (place + 1) (n + 1)) st v W2 → W2.cell? ⟨W.heap.size, 0, none⟩ = some (.string (M.bs [100])) → Calls Tryz.prog 123 #[.pointer (some ⟨b, 0, none⟩)] W2 fun e w' => e = .returned (.int .i64 ((Q.double st).1 : Nat)) ∧ ∃ v', SX w b (rowM code a ins.length c (place + 1) (n + 1)) (Q.double st).2 v' w') := fun W2 hs hc => double_at hs
  generalize (Q.double st) = R at *
  obtain ⟨hS, hC⟩ := h.pre (M.bs [100]) 1 1 rfl
  generalize M.bs [100] = bsx at *
  have HS : Hid _ := hS
  have HC : Hid _ := hC
  clear hS hC h hin hT
  go_enter Tryz.func108, Tryz.ntmps108
  go_wp2_with fail
  go_region
  go_wp2_with (first
    | (go_at_call 123; refine (CX.out _ HS.out HC.out).mono ?_; rintro e w' ⟨rfl, HE⟩))
  go_ret
  exact ⟨rfl, HE⟩
set_option maxRecDepth 8000 in
set_option maxHeartbeats 2000000 in
theorem do_s {w W : World} {b : Nat} {code : List UInt8} {a : Option Addr} {c place n : Nat} {ins st : List (List UInt8)} {v : Value} (h : SX w b (rowM code a ins.length c place n) st v W) (hin : IN w a ins) (hT : Tab w) (hn : n ≤ 300) (hp : place ≤ 1000)  :
    Calls Tryz.prog 108 #[.pointer (some ⟨b, 0, none⟩), .string (M.bs [115])] W fun e w' => e = .returned (.int .i64 ((Q.act ins st [115]).1 : Int)) ∧ ∃ v', SX w b (rowM code a ins.length c (Q.next ⟨st, place, n⟩ [115]) (n + 1)) (Q.act ins st [115]).2 v' w' := by
  have e1 : Q.act ins st [115] = (Q.swap st) := by unfold Q.act; simp
  have e2 : Q.next ⟨st, place, n⟩ [115] = (place + 1) := by unfold Q.next; simp
  rw [e1, e2]
  clear e1 e2
  have hsz : (M.bs [115]).size = 1 := M.bs_size [115]
  have hi := idx_0 [115] 115 rfl
  have k3 := h.m3
  have k4 := h.m4
  have fb := h.fb
  have hlt := h.lt
  have CX : Hid (∀ W2, SX w b (rowM code a ins.length c (place + 1) (n + 1)) st v W2 → W2.cell? ⟨W.heap.size, 0, none⟩ = some (.string (M.bs [115])) → Calls Tryz.prog 124 #[.pointer (some ⟨b, 0, none⟩)] W2 fun e w' => e = .returned (.int .i64 ((Q.swap st).1 : Nat)) ∧ ∃ v', SX w b (rowM code a ins.length c (place + 1) (n + 1)) (Q.swap st).2 v' w') := fun W2 hs hc => swap_at hs
  generalize (Q.swap st) = R at *
  obtain ⟨hS, hC⟩ := h.pre (M.bs [115]) 1 1 rfl
  generalize M.bs [115] = bsx at *
  have HS : Hid _ := hS
  have HC : Hid _ := hC
  clear hS hC h hin hT
  go_enter Tryz.func108, Tryz.ntmps108
  go_wp2_with fail
  go_region
  go_wp2_with (first
    | (go_at_call 124; refine (CX.out _ HS.out HC.out).mono ?_; rintro e w' ⟨rfl, HE⟩))
  go_ret
  exact ⟨rfl, HE⟩
set_option maxRecDepth 8000 in
set_option maxHeartbeats 2000000 in
theorem do_x {w W : World} {b : Nat} {code : List UInt8} {a : Option Addr} {c place n : Nat} {ins st : List (List UInt8)} {v : Value} (h : SX w b (rowM code a ins.length c place n) st v W) (hin : IN w a ins) (hT : Tab w) (hn : n ≤ 300) (hp : place ≤ 1000)  :
    Calls Tryz.prog 108 #[.pointer (some ⟨b, 0, none⟩), .string (M.bs [120])] W fun e w' => e = .returned (.int .i64 ((Q.act ins st [120]).1 : Int)) ∧ ∃ v', SX w b (rowM code a ins.length c (Q.next ⟨st, place, n⟩ [120]) (n + 1)) (Q.act ins st [120]).2 v' w' := by
  have e1 : Q.act ins st [120] = (Q.drop st) := by unfold Q.act; simp
  have e2 : Q.next ⟨st, place, n⟩ [120] = (place + 1) := by unfold Q.next; simp
  rw [e1, e2]
  clear e1 e2
  have hsz : (M.bs [120]).size = 1 := M.bs_size [120]
  have hi := idx_0 [120] 120 rfl
  have k3 := h.m3
  have k4 := h.m4
  have fb := h.fb
  have hlt := h.lt
  have CX : Hid (∀ W2, SX w b (rowM code a ins.length c (place + 1) (n + 1)) st v W2 → W2.cell? ⟨W.heap.size, 0, none⟩ = some (.string (M.bs [120])) → Calls Tryz.prog 125 #[.pointer (some ⟨b, 0, none⟩)] W2 fun e w' => e = .returned (.int .i64 ((Q.drop st).1 : Nat)) ∧ ∃ v', SX w b (rowM code a ins.length c (place + 1) (n + 1)) (Q.drop st).2 v' w') := fun W2 hs hc => drop_at hs
  generalize (Q.drop st) = R at *
  obtain ⟨hS, hC⟩ := h.pre (M.bs [120]) 1 1 rfl
  generalize M.bs [120] = bsx at *
  have HS : Hid _ := hS
  have HC : Hid _ := hC
  clear hS hC h hin hT
  go_enter Tryz.func108, Tryz.ntmps108
  go_wp2_with fail
  go_region
  go_wp2_with (first
    | (go_at_call 125; refine (CX.out _ HS.out HC.out).mono ?_; rintro e w' ⟨rfl, HE⟩))
  go_ret
  exact ⟨rfl, HE⟩
set_option maxRecDepth 8000 in
set_option maxHeartbeats 2000000 in
theorem do_r {w W : World} {b : Nat} {code : List UInt8} {a : Option Addr} {c place n : Nat} {ins st : List (List UInt8)} {v : Value} (h : SX w b (rowM code a ins.length c place n) st v W) (hin : IN w a ins) (hT : Tab w) (hn : n ≤ 300) (hp : place ≤ 1000)  :
    Calls Tryz.prog 108 #[.pointer (some ⟨b, 0, none⟩), .string (M.bs [114])] W fun e w' => e = .returned (.int .i64 ((Q.act ins st [114]).1 : Int)) ∧ ∃ v', SX w b (rowM code a ins.length c (Q.next ⟨st, place, n⟩ [114]) (n + 1)) (Q.act ins st [114]).2 v' w' := by
  have e1 : Q.act ins st [114] = (Q.change List.reverse st) := by unfold Q.act; simp
  have e2 : Q.next ⟨st, place, n⟩ [114] = (place + 1) := by unfold Q.next; simp
  rw [e1, e2]
  clear e1 e2
  have hsz : (M.bs [114]).size = 1 := M.bs_size [114]
  have hi := idx_0 [114] 114 rfl
  have k3 := h.m3
  have k4 := h.m4
  have fb := h.fb
  have hlt := h.lt
  have CX : Hid (∀ W2, SX w b (rowM code a ins.length c (place + 1) (n + 1)) st v W2 → W2.cell? ⟨W.heap.size, 0, none⟩ = some (.string (M.bs [114])) → Calls Tryz.prog 126 #[.pointer (some ⟨b, 0, none⟩), .func (.func 127) #[] #[]] W2 fun e w' => e = .returned (.int .i64 ((Q.change List.reverse st).1 : Nat)) ∧ ∃ v', SX w b (rowM code a ins.length c (place + 1) (n + 1)) (Q.change List.reverse st).2 v' w') := fun W2 hs hc => change_at 127 #[] (fun _ => True) List.reverse (enters_of Tryz.func127 (by kernel_rfl) rfl) trivial (fun _ _ => trivial) (fun t ht => by rw [List.length_reverse]; omega) (fun W2 t ht hg _ => by simpa using reversed_at t W2 (by omega)) hs
  generalize (Q.change List.reverse st) = R at *
  obtain ⟨hS, hC⟩ := h.pre (M.bs [114]) 1 1 rfl
  generalize M.bs [114] = bsx at *
  have HS : Hid _ := hS
  have HC : Hid _ := hC
  clear hS hC h hin hT
  go_enter Tryz.func108, Tryz.ntmps108
  go_wp2_with fail
  go_region
  go_wp2_with (first
    | (go_at_call 126; refine (CX.out _ HS.out HC.out).mono ?_; rintro e w' ⟨rfl, HE⟩))
  go_ret
  exact ⟨rfl, HE⟩
set_option maxRecDepth 8000 in
set_option maxHeartbeats 2000000 in
theorem do_h {w W : World} {b : Nat} {code : List UInt8} {a : Option Addr} {c place n : Nat} {ins st : List (List UInt8)} {v : Value} (h : SX w b (rowM code a ins.length c place n) st v W) (hin : IN w a ins) (hT : Tab w) (hn : n ≤ 300) (hp : place ≤ 1000)  :
    Calls Tryz.prog 108 #[.pointer (some ⟨b, 0, none⟩), .string (M.bs [104])] W fun e w' => e = .returned (.int .i64 ((Q.act ins st [104]).1 : Int)) ∧ ∃ v', SX w b (rowM code a ins.length c (Q.next ⟨st, place, n⟩ [104]) (n + 1)) (Q.act ins st [104]).2 v' w' := by
  have e1 : Q.act ins st [104] = (Q.change S.sha st) := by unfold Q.act; simp
  have e2 : Q.next ⟨st, place, n⟩ [104] = (place + 1) := by unfold Q.next; simp
  rw [e1, e2]
  clear e1 e2
  have hsz : (M.bs [104]).size = 1 := M.bs_size [104]
  have hi := idx_0 [104] 104 rfl
  have k3 := h.m3
  have k4 := h.m4
  have fb := h.fb
  have hlt := h.lt
  have CX : Hid (∀ W2, SX w b (rowM code a ins.length c (place + 1) (n + 1)) st v W2 → W2.cell? ⟨W.heap.size, 0, none⟩ = some (.string (M.bs [104])) → Calls Tryz.prog 126 #[.pointer (some ⟨b, 0, none⟩), .func (.func 128) #[] #[]] W2 fun e w' => e = .returned (.int .i64 ((Q.change S.sha st).1 : Nat)) ∧ ∃ v', SX w b (rowM code a ins.length c (place + 1) (n + 1)) (Q.change S.sha st).2 v' w') := fun W2 hs hc => change_at 128 #[] (fun _ => True) S.sha (enters_of Tryz.func128 (by kernel_rfl) rfl) trivial (fun _ _ => trivial) (fun t ht => by rw [S.sha_length]; omega) (fun W2 t ht hg _ => by simpa using digest_at t W2 (by omega) hg.g) hs
  generalize (Q.change S.sha st) = R at *
  obtain ⟨hS, hC⟩ := h.pre (M.bs [104]) 1 1 rfl
  generalize M.bs [104] = bsx at *
  have HS : Hid _ := hS
  have HC : Hid _ := hC
  clear hS hC h hin hT
  go_enter Tryz.func108, Tryz.ntmps108
  go_wp2_with fail
  go_region
  go_wp2_with (first
    | (go_at_call 126; refine (CX.out _ HS.out HC.out).mono ?_; rintro e w' ⟨rfl, HE⟩))
  go_ret
  exact ⟨rfl, HE⟩
set_option maxRecDepth 8000 in
set_option maxHeartbeats 2000000 in
theorem do_l {w W : World} {b : Nat} {code : List UInt8} {a : Option Addr} {c place n : Nat} {ins st : List (List UInt8)} {v : Value} (h : SX w b (rowM code a ins.length c place n) st v W) (hin : IN w a ins) (hT : Tab w) (hn : n ≤ 300) (hp : place ≤ 1000)  :
    Calls Tryz.prog 108 #[.pointer (some ⟨b, 0, none⟩), .string (M.bs [108])] W fun e w' => e = .returned (.int .i64 ((Q.act ins st [108]).1 : Int)) ∧ ∃ v', SX w b (rowM code a ins.length c (Q.next ⟨st, place, n⟩ [108]) (n + 1)) (Q.act ins st [108]).2 v' w' := by
  have e1 : Q.act ins st [108] = (Q.change Q.len st) := by unfold Q.act; simp
  have e2 : Q.next ⟨st, place, n⟩ [108] = (place + 1) := by unfold Q.next; simp
  rw [e1, e2]
  clear e1 e2
  have hsz : (M.bs [108]).size = 1 := M.bs_size [108]
  have hi := idx_0 [108] 108 rfl
  have k3 := h.m3
  have k4 := h.m4
  have fb := h.fb
  have hlt := h.lt
  have CX : Hid (∀ W2, SX w b (rowM code a ins.length c (place + 1) (n + 1)) st v W2 → W2.cell? ⟨W.heap.size, 0, none⟩ = some (.string (M.bs [108])) → Calls Tryz.prog 126 #[.pointer (some ⟨b, 0, none⟩), .func (.func 129) #[] #[]] W2 fun e w' => e = .returned (.int .i64 ((Q.change Q.len st).1 : Nat)) ∧ ∃ v', SX w b (rowM code a ins.length c (place + 1) (n + 1)) (Q.change Q.len st).2 v' w') := fun W2 hs hc => change_at 129 #[] (fun _ => True) Q.len (enters_of Tryz.func129 (by kernel_rfl) rfl) trivial (fun _ _ => trivial) (fun t ht => Q.len_le t ht) (fun W2 t ht hg _ => by simpa using length_at t W2 (by omega) (hT.below hg.b)) hs
  generalize (Q.change Q.len st) = R at *
  obtain ⟨hS, hC⟩ := h.pre (M.bs [108]) 1 1 rfl
  generalize M.bs [108] = bsx at *
  have HS : Hid _ := hS
  have HC : Hid _ := hC
  clear hS hC h hin hT
  go_enter Tryz.func108, Tryz.ntmps108
  go_wp2_with fail
  go_region
  go_wp2_with (first
    | (go_at_call 126; refine (CX.out _ HS.out HC.out).mono ?_; rintro e w' ⟨rfl, HE⟩))
  go_ret
  exact ⟨rfl, HE⟩
end Go.Proofs.YtjbffhdccgmfpaaGreatDoor

/- What a machine's step does, letter by letter (two bytes and more). -/
namespace Go.Proofs.YtjbffhdccgmfpaaGreatDoor
open Go.RowKit
set_option linter.unusedVariables false

set_option maxRecDepth 8000 in
set_option maxHeartbeats 2000000 in
theorem do_t {w W : World} {b : Nat} {code : List UInt8} {a : Option Addr} {c place n : Nat} {ins st : List (List UInt8)} {v : Value} (h : SX w b (rowM code a ins.length c place n) st v W) (hin : IN w a ins) (hT : Tab w) (hn : n ≤ 300) (hp : place ≤ 1000) (x : UInt8) :
    Calls Tryz.prog 108 #[.pointer (some ⟨b, 0, none⟩), .string (M.bs [116, x])] W fun e w' => e = .returned (.int .i64 ((Q.act ins st [116, x]).1 : Int)) ∧ ∃ v', SX w b (rowM code a ins.length c (Q.next ⟨st, place, n⟩ [116, x]) (n + 1)) (Q.act ins st [116, x]).2 v' w' := by
  have e1 : Q.act ins st [116, x] = (Q.change (fun t => t.take x.toNat) st) := by unfold Q.act; simp
  have e2 : Q.next ⟨st, place, n⟩ [116, x] = (place + 2) := by unfold Q.next; simp
  rw [e1, e2]
  clear e1 e2
  have hsz : (M.bs [116, x]).size = 2 := M.bs_size [116, x]
  have hi := idx_0 [116, x] 116 rfl
  have k3 := h.m3
  have k4 := h.m4
  have fb := h.fb
  have hlt := h.lt
  have CX : Hid (∀ W2, SX w b (rowM code a ins.length c (place + 2) (n + 1)) st v W2 → W2.cell? ⟨W.heap.size, 0, none⟩ = some (.string (M.bs [116, x])) → Calls Tryz.prog 126 #[.pointer (some ⟨b, 0, none⟩), .func (.func 130) #[] #[.pointer (some ⟨W.heap.size, 0, none⟩)]] W2 fun e w' => e = .returned (.int .i64 ((Q.change (fun t => t.take x.toNat) st).1 : Nat)) ∧ ∃ v', SX w b (rowM code a ins.length c (place + 2) (n + 1)) (Q.change (fun t => t.take x.toNat) st).2 v' w') := fun W2 hs hc => change_at 130 #[.pointer (some ⟨W.heap.size, 0, none⟩)] (fun W2 => W2.cell? ⟨W.heap.size, 0, none⟩ = some (.string (M.bs [116, x]))) (fun t => t.take x.toNat) (enters_of Tryz.func130 (by kernel_rfl) rfl) hc (fun v2 h2 => by rw [World.cell?_of_block (w := W2) (Below.heap_setCell _ _ _ _ (show W.heap.size ≠ b by omega))]; exact h2) (fun t ht => by simp; omega) (fun W2 t ht hg h2 => by simpa using cut1_at _ t x W.heap.size W2 rfl (by omega) h2) hs
  generalize (Q.change (fun t => t.take x.toNat) st) = R at *
  obtain ⟨hS, hC⟩ := h.pre (M.bs [116, x]) 2 2 rfl
  generalize M.bs [116, x] = bsx at *
  have HS : Hid _ := hS
  have HC : Hid _ := hC
  clear hS hC h hin hT
  go_enter Tryz.func108, Tryz.ntmps108
  go_wp2_with fail
  go_region
  go_wp2_with (first
    | (go_at_call 126; refine (CX.out _ HS.out HC.out).mono ?_; rintro e w' ⟨rfl, HE⟩))
  go_ret
  exact ⟨rfl, HE⟩
set_option maxRecDepth 8000 in
set_option maxHeartbeats 2000000 in
theorem do_k {w W : World} {b : Nat} {code : List UInt8} {a : Option Addr} {c place n : Nat} {ins st : List (List UInt8)} {v : Value} (h : SX w b (rowM code a ins.length c place n) st v W) (hin : IN w a ins) (hT : Tab w) (hn : n ≤ 300) (hp : place ≤ 1000) (x : UInt8) :
    Calls Tryz.prog 108 #[.pointer (some ⟨b, 0, none⟩), .string (M.bs [107, x])] W fun e w' => e = .returned (.int .i64 ((Q.act ins st [107, x]).1 : Int)) ∧ ∃ v', SX w b (rowM code a ins.length c (Q.next ⟨st, place, n⟩ [107, x]) (n + 1)) (Q.act ins st [107, x]).2 v' w' := by
  have e1 : Q.act ins st [107, x] = (Q.change (fun t => t.drop x.toNat) st) := by unfold Q.act; simp
  have e2 : Q.next ⟨st, place, n⟩ [107, x] = (place + 2) := by unfold Q.next; simp
  rw [e1, e2]
  clear e1 e2
  have hsz : (M.bs [107, x]).size = 2 := M.bs_size [107, x]
  have hi := idx_0 [107, x] 107 rfl
  have k3 := h.m3
  have k4 := h.m4
  have fb := h.fb
  have hlt := h.lt
  have CX : Hid (∀ W2, SX w b (rowM code a ins.length c (place + 2) (n + 1)) st v W2 → W2.cell? ⟨W.heap.size, 0, none⟩ = some (.string (M.bs [107, x])) → Calls Tryz.prog 126 #[.pointer (some ⟨b, 0, none⟩), .func (.func 131) #[] #[.pointer (some ⟨W.heap.size, 0, none⟩)]] W2 fun e w' => e = .returned (.int .i64 ((Q.change (fun t => t.drop x.toNat) st).1 : Nat)) ∧ ∃ v', SX w b (rowM code a ins.length c (place + 2) (n + 1)) (Q.change (fun t => t.drop x.toNat) st).2 v' w') := fun W2 hs hc => change_at 131 #[.pointer (some ⟨W.heap.size, 0, none⟩)] (fun W2 => W2.cell? ⟨W.heap.size, 0, none⟩ = some (.string (M.bs [107, x]))) (fun t => t.drop x.toNat) (enters_of Tryz.func131 (by kernel_rfl) rfl) hc (fun v2 h2 => by rw [World.cell?_of_block (w := W2) (Below.heap_setCell _ _ _ _ (show W.heap.size ≠ b by omega))]; exact h2) (fun t ht => by simp; omega) (fun W2 t ht hg h2 => by simpa using cut2_at _ t x W.heap.size W2 rfl (by omega) h2) hs
  generalize (Q.change (fun t => t.drop x.toNat) st) = R at *
  obtain ⟨hS, hC⟩ := h.pre (M.bs [107, x]) 2 2 rfl
  generalize M.bs [107, x] = bsx at *
  have HS : Hid _ := hS
  have HC : Hid _ := hC
  clear hS hC h hin hT
  go_enter Tryz.func108, Tryz.ntmps108
  go_wp2_with fail
  go_region
  go_wp2_with (first
    | (go_at_call 126; refine (CX.out _ HS.out HC.out).mono ?_; rintro e w' ⟨rfl, HE⟩))
  go_ret
  exact ⟨rfl, HE⟩
set_option maxRecDepth 8000 in
set_option maxHeartbeats 2000000 in
theorem do_i {w W : World} {b : Nat} {code : List UInt8} {a : Option Addr} {c place n : Nat} {ins st : List (List UInt8)} {v : Value} (h : SX w b (rowM code a ins.length c place n) st v W) (hin : IN w a ins) (hT : Tab w) (hn : n ≤ 300) (hp : place ≤ 1000) (x : UInt8) :
    Calls Tryz.prog 108 #[.pointer (some ⟨b, 0, none⟩), .string (M.bs [105, x])] W fun e w' => e = .returned (.int .i64 ((Q.act ins st [105, x]).1 : Int)) ∧ ∃ v', SX w b (rowM code a ins.length c (Q.next ⟨st, place, n⟩ [105, x]) (n + 1)) (Q.act ins st [105, x]).2 v' w' := by
  have e1 : Q.act ins st [105, x] = (if ins.length ≤ x.toNat then (32, st) else Q.put st (ins.getD x.toNat [])) := by unfold Q.act; simp
  have e2 : Q.next ⟨st, place, n⟩ [105, x] = (place + 2) := by unfold Q.next; simp
  rw [e1, e2]
  clear e1 e2
  have hsz : (M.bs [105, x]).size = 2 := M.bs_size [105, x]
  have hi := idx_0 [105, x] 105 rfl
  have k3 := h.m3
  have k4 := h.m4
  have fb := h.fb
  have hlt := h.lt
  have CN : Hid (∀ W, Calls Tryz.prog 119 #[.string (M.bs [105, x])] W fun e w' => e = .returned (.int .i64 (x.toNat : Int)) ∧ w' = W) := fun W => numberM_at [105, x] x rfl W
  have CX : Hid (∀ W2, SX w b (rowM code a ins.length c (place + 2) (n + 1)) st v W2 → W2.cell? ⟨W.heap.size, 0, none⟩ = some (.string (M.bs [105, x])) → Calls Tryz.prog 118 #[.pointer (some ⟨b, 0, none⟩), .int .i64 (x.toNat : Int)] W2 fun e w' => e = .returned (.int .i64 ((if ins.length ≤ x.toNat then (32, st) else Q.put st (ins.getD x.toNat [])).1 : Nat)) ∧ ∃ v', SX w b (rowM code a ins.length c (place + 2) (n + 1)) (if ins.length ≤ x.toNat then (32, st) else Q.put st (ins.getD x.toNat [])).2 v' w') := fun W2 hs hc => putInput_at hs hin x.toNat (by have := x.toNat_lt; omega)
  generalize (if ins.length ≤ x.toNat then (32, st) else Q.put st (ins.getD x.toNat [])) = R at *
  obtain ⟨hS, hC⟩ := h.pre (M.bs [105, x]) 2 2 rfl
  generalize M.bs [105, x] = bsx at *
  have HS : Hid _ := hS
  have HC : Hid _ := hC
  clear hS hC h hin hT
  go_enter Tryz.func108, Tryz.ntmps108
  go_wp2_with fail
  go_region
  go_wp2_with (first
    | (go_at_call 118; refine (CX.out _ HS.out HC.out).mono ?_; rintro e w' ⟨rfl, HE⟩)
    | (go_at_call 119; refine (CN.out _).mono ?_; rintro e w' ⟨rfl, rfl⟩))
  go_ret
  exact ⟨rfl, HE⟩
set_option maxRecDepth 8000 in
set_option maxHeartbeats 2000000 in
theorem do_j {w W : World} {b : Nat} {code : List UInt8} {a : Option Addr} {c place n : Nat} {ins st : List (List UInt8)} {v : Value} (h : SX w b (rowM code a ins.length c place n) st v W) (hin : IN w a ins) (hT : Tab w) (hn : n ≤ 300) (hp : place ≤ 1000) (x : UInt8) :
    Calls Tryz.prog 108 #[.pointer (some ⟨b, 0, none⟩), .string (M.bs [106, x])] W fun e w' => e = .returned (.int .i64 ((Q.act ins st [106, x]).1 : Int)) ∧ ∃ v', SX w b (rowM code a ins.length c (Q.next ⟨st, place, n⟩ [106, x]) (n + 1)) (Q.act ins st [106, x]).2 v' w' := by
  have e1 : Q.act ins st [106, x] = (Q.drop st) := by unfold Q.act; simp
  have e2 : Q.next ⟨st, place, n⟩ [106, x] = (if Q.isE st then x.toNat else place + 2) := by unfold Q.next; simp
  rw [e1, e2]
  clear e1 e2
  have hsz : (M.bs [106, x]).size = 2 := M.bs_size [106, x]
  have hi := idx_0 [106, x] 106 rfl
  have k3 := h.m3
  have k4 := h.m4
  have fb := h.fb
  have hlt := h.lt
  have CN : Hid (∀ W, Calls Tryz.prog 119 #[.string (M.bs [106, x])] W fun e w' => e = .returned (.int .i64 (x.toNat : Int)) ∧ w' = W) := fun W => numberM_at [106, x] x rfl W
  have CX : Hid (∀ W2, SX w b (rowM code a ins.length c (place + 2) (n + 1)) st v W2 → W2.cell? ⟨W.heap.size, 0, none⟩ = some (.string (M.bs [106, x])) → Calls Tryz.prog 133 #[.pointer (some ⟨b, 0, none⟩), .int .i64 (x.toNat : Int)] W2 fun e w' => e = .returned (.int .i64 ((Q.drop st).1 : Nat)) ∧ ∃ v', SX w b (rowM code a ins.length c (if Q.isE st then x.toNat else place + 2) (n + 1)) (Q.drop st).2 v' w') := fun W2 hs hc => goIf_at hs x.toNat (by have := x.toNat_lt; omega)
  generalize (Q.drop st) = R at *
  generalize (if Q.isE st = true then x.toNat else place + 2) = PL at *
  obtain ⟨hS, hC⟩ := h.pre (M.bs [106, x]) 2 2 rfl
  generalize M.bs [106, x] = bsx at *
  have HS : Hid _ := hS
  have HC : Hid _ := hC
  clear hS hC h hin hT
  go_enter Tryz.func108, Tryz.ntmps108
  go_wp2_with fail
  go_region
  go_wp2_with (first
    | (go_at_call 133; refine (CX.out _ HS.out HC.out).mono ?_; rintro e w' ⟨rfl, HE⟩)
    | (go_at_call 119; refine (CN.out _).mono ?_; rintro e w' ⟨rfl, rfl⟩))
  go_ret
  exact ⟨rfl, HE⟩
set_option maxRecDepth 8000 in
set_option maxHeartbeats 2000000 in
theorem do_g {w W : World} {b : Nat} {code : List UInt8} {a : Option Addr} {c place n : Nat} {ins st : List (List UInt8)} {v : Value} (h : SX w b (rowM code a ins.length c place n) st v W) (hin : IN w a ins) (hT : Tab w) (hn : n ≤ 300) (hp : place ≤ 1000) (x : UInt8) :
    Calls Tryz.prog 108 #[.pointer (some ⟨b, 0, none⟩), .string (M.bs [103, x])] W fun e w' => e = .returned (.int .i64 ((Q.act ins st [103, x]).1 : Int)) ∧ ∃ v', SX w b (rowM code a ins.length c (Q.next ⟨st, place, n⟩ [103, x]) (n + 1)) (Q.act ins st [103, x]).2 v' w' := by
  have e1 : Q.act ins st [103, x] = (0, st) := by unfold Q.act; simp
  have e2 : Q.next ⟨st, place, n⟩ [103, x] = x.toNat := by unfold Q.next; simp
  rw [e1, e2]
  clear e1 e2
  have hsz : (M.bs [103, x]).size = 2 := M.bs_size [103, x]
  have hi := idx_0 [103, x] 103 rfl
  have k3 := h.m3
  have k4 := h.m4
  have fb := h.fb
  have hlt := h.lt
  have CN : Hid (∀ W, Calls Tryz.prog 119 #[.string (M.bs [103, x])] W fun e w' => e = .returned (.int .i64 (x.toNat : Int)) ∧ w' = W) := fun W => numberM_at [103, x] x rfl W
  generalize x.toNat = k at *
  have HS : Hid (SX w b (rowM code a ins.length c k (n + 1)) st v ((((W.setCell ⟨b, 4, none⟩ (.int .i64 ((n : Int) + 1))).setCell ⟨b, 3, none⟩ (.int .i64 ((place : Int) + 2))).setCell ⟨b, 3, none⟩ (.int .i64 (k : Int))).alloc (.cells #[.string (M.bs [103, x])] 9)).drew) := by
    have h1 := h.setN (n + 1)
    have h2 := (h1.setP (place + 2)).setP k
    rw [show ((n + 1 : Nat) : Int) = (n : Int) + 1 by omega, show ((place + 2 : Nat) : Int) = (place : Int) + 2 by omega] at h2
    exact (h2.alloc _).drew
  generalize M.bs [103, x] = bsx at *
  clear h hin hT
  go_enter Tryz.func108, Tryz.ntmps108
  go_wp2_with fail
  go_region
  go_wp2_with (go_at_call 119; refine (CN.out _).mono ?_; rintro e w' ⟨rfl, rfl⟩)
  go_ret
  exact ⟨rfl, _, HS.out⟩
set_option maxRecDepth 8000 in
set_option maxHeartbeats 2000000 in
theorem do_p {w W : World} {b : Nat} {code : List UInt8} {a : Option Addr} {c place n : Nat} {ins st : List (List UInt8)} {v : Value} (h : SX w b (rowM code a ins.length c place n) st v W) (hin : IN w a ins) (hT : Tab w) (hn : n ≤ 300) (hp : place ≤ 1000) (x : UInt8) (r : List UInt8) (hr : r.length ≤ 1000) :
    Calls Tryz.prog 108 #[.pointer (some ⟨b, 0, none⟩), .string (M.bs (112 :: x :: r))] W fun e w' => e = .returned (.int .i64 ((Q.act ins st (112 :: x :: r)).1 : Int)) ∧ ∃ v', SX w b (rowM code a ins.length c (Q.next ⟨st, place, n⟩ (112 :: x :: r)) (n + 1)) (Q.act ins st (112 :: x :: r)).2 v' w' := by
  have e1 : Q.act ins st (112 :: x :: r) = Q.put st r := by unfold Q.act; simp
  have e2 : Q.next ⟨st, place, n⟩ (112 :: x :: r) = place + (r.length + 2) := by unfold Q.next; simp
  rw [e1, e2]
  clear e1 e2
  have hsz : (M.bs (112 :: x :: r)).size = r.length + 2 := M.bs_size _
  have hi := idx_0 (112 :: x :: r) 112 rfl
  have hex : (M.bs (112 :: x :: r)).extract 2 (r.length + 2) = M.bs r := by
    have := drop_bs (112 :: x :: r) 2
    rw [hsz] at this
    exact this
  have k3 := h.m3
  have k4 := h.m4
  have fb := h.fb
  have hlt := h.lt
  obtain ⟨L, hL⟩ : ∃ L, L = r.length + 2 := ⟨_, rfl⟩
  rw [← hL] at hsz hex ⊢
  have hL2 : 2 ≤ L := by omega
  have hL3 : L ≤ 1002 := by omega
  have hL4 : (2 : Int) ≤ (L : Int) := by omega
  have CX : Hid (∀ W2, SX w b (rowM code a ins.length c (place + L) (n + 1)) st v W2 → Calls Tryz.prog 120 #[.pointer (some ⟨b, 0, none⟩), .string (M.bs r)] W2 fun e w' => e = .returned (.int .i64 ((Q.put st r).1 : Nat)) ∧ ∃ v', SX w b (rowM code a ins.length c (place + L) (n + 1)) (Q.put st r).2 v' w') := fun W2 hs => put_at r hs (by omega)
  generalize Q.put st r = R at *
  obtain ⟨hS, hC⟩ := h.pre (M.bs (112 :: x :: r)) L L rfl
  generalize M.bs (112 :: x :: r) = bsx at *
  generalize M.bs r = br at *
  have HS : Hid _ := hS
  clear hS h hin hT hL
  go_enter Tryz.func108, Tryz.ntmps108
  go_wp2_with fail
  go_region
  go_wp2_with fail
  generalize ((((W.setCell ⟨b, 4, none⟩ (.int .i64 ((n : Int) + 1))).setCell ⟨b, 3, none⟩ (.int .i64 ((place : Int) + (L : Int)))).alloc (.cells #[.string bsx] 9)).drew) = W3 at *
  go_region_with (go_at_call 120; refine (CX.out _ (by first | exact HS.out | exact HS.out.drew)).mono ?_; rintro e w' ⟨rfl, HE⟩)
  all_goals go_wp2_with fail
  all_goals go_ret
  all_goals exact ⟨rfl, HE⟩
end Go.Proofs.YtjbffhdccgmfpaaGreatDoor
