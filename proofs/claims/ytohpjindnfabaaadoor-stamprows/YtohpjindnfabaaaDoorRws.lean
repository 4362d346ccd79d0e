/- The walk of the law StampRows. -/
import Derived.Test.YtohpjindnfabaaaDoorS15
import Derived.Test.YtohpjindnfabaaaDoorArgs
import Derived.Laws.AppendOwnNone
namespace Go.Proofs.YtohpjindnfabaaaDoor
open Go.RowKit
set_option linter.unusedVariables false

/-- the texts with an empty one at place k -/
def ins (l : List (List UInt8)) (k : Nat) : List (List UInt8) := l.take k ++ [[]] ++ l.drop k
theorem ins_length (l : List (List UInt8)) (k : Nat) (h : k ≤ l.length) : (ins l k).length = l.length + 1 := by simp [ins]; omega
theorem ins_flatten (l : List (List UInt8)) (k : Nat) : (ins l k).flatten = l.flatten := by
  simp only [ins, List.flatten_append, List.flatten_cons, List.flatten_nil, List.append_nil]
  rw [← List.flatten_append, List.take_append_drop]
theorem rowB_ins (l : List (List UInt8)) (k : Nat) (h : k ≤ l.length) (hl : l.length ≤ 40) (hc : ∀ t ∈ l, t.length ≤ 1024) : M.rowB l ≠ M.rowB (ins l k) := by
  intro e
  have h1 := M.readRow_rowB l [] 1000 (by omega) (fun t ht => by have := hc t ht; omega) (by omega)
  have h2 := M.readRow_rowB (ins l k) [] 1000 (by rw [ins_length l k h]; omega) (fun t ht => by
    simp only [ins, List.mem_append, List.mem_cons, List.not_mem_nil, or_false] at ht
    rcases ht with (ht | rfl) | ht
    · have := hc t (List.mem_of_mem_take ht); omega
    · simp
    · have := hc t (List.mem_of_mem_drop ht); omega) (by rw [ins_length l k h]; omega)
  rw [e, h2] at h1
  simp only [Option.some.injEq, Prod.mk.injEq, and_true] at h1
  have := congrArg List.length h1
  rw [ins_length l k h] at this
  omega

open Go.ChangeShapes Go.WideShapes Go.ChangeAt in
theorem open_cap {H : Type} {enc : TypeId × Value → H} {W : World} {a : Option Addr} {n c : Nat} {d : DataW H} {p : List MemPlace}
    (h : DataW.Trod enc Tryd.prog W 0 (fun _ => true) true 22 (.slice a n c) d p) : n ≤ c ∧ c ≤ maxLen ∧ (a = none → n = 0 ∧ c = 0) := by
  obtain ⟨fuel, hf⟩ := h
  have hf' : DataW.trod enc Tryd.prog W 0 (fun _ => true) true fuel 22 [.slice a n c] = some (d, p) := by simpa [Value.cells] using hf
  rcases open_strings Tryd.underlying22 Tryd.underlying9 cellsString hf' with ⟨hcs, hx⟩ | ⟨x, len, cap, ss, hcs, _, hl, hm, hz, hx, hcell, hws⟩
  · simp only [List.cons.injEq, and_true, Value.slice.injEq] at hcs
    obtain ⟨rfl, rfl, rfl⟩ := hcs
    exact ⟨Nat.le_refl _, Nat.zero_le _, fun _ => ⟨rfl, rfl⟩⟩
  · simp only [List.cons.injEq, and_true, Value.slice.injEq] at hcs
    obtain ⟨rfl, rfl, rfl⟩ := hcs
    exact ⟨hl, hm, fun h => by cases h⟩
theorem tx_strsR {w : World} {a : Option Addr} {l : List (List UInt8)} {c : Nat} (h : TX w a l) : Strs w.heap.size w (.slice a l.length c) l := by
  cases l with
  | nil => exact Or.inl ⟨rfl, a, c, rfl⟩
  | cons t l =>
    obtain ⟨sb, off, rfl, h2, h3⟩ := h 0 t rfl
    refine Or.inr ⟨sb, off, c, rfl, h2, fun i u hu => ?_⟩
    obtain ⟨sb', off', h1', h2', h3'⟩ := h i u hu
    simp only [Option.some.injEq, Addr.mk.injEq, and_true] at h1'
    obtain ⟨rfl, rfl⟩ := h1'
    exact h3'
theorem cat_lenR (l : List (List UInt8)) (h : ∀ t ∈ l, t.length ≤ 1024) : l.flatten.length ≤ 1024 * l.length := by
  induction l with
  | nil => simp
  | cons t l ih =>
    have h1 := h t (by simp)
    have h2 := ih (fun t ht => h t (by simp [ht]))
    rw [List.flatten_cons, List.length_append, List.length_cons, Nat.mul_succ]
    omega
set_option maxRecDepth 8000 in
theorem stampRows_many (a : Option Addr) (n cap : Nat) (at_ : Int) (w : World) (hG : GW w) (hn : n ≤ 9223372036854775807) (h : 40 < n) :
    Calls Tryd.prog 7 #[.slice a n cap, .int .i64 at_] w fun e w' => e = .returned (.bool true) ∧ Below w.heap.size w w' := by
  have HG : Hid (GB w w) := GB.refl hG
  clear hG
  go_enter Tryd.func7, Tryd.ntmps7
  go_wp2_with (first
    | (go_at_call 9; refine (awake_g HG).mono ?_; clear HG; rintro e w1 ⟨rfl, HG⟩))
  go_ret
  exact ⟨rfl, HG.b⟩

theorem tx_of' {w : World} {a : Option Addr} {c : Nat} {l : List (List UInt8)} (h : Strs w.heap.size w (.slice a l.length c) l) : TX w a l := fun i t ht => strs_at h i t ht
theorem tx_gb' {w W : World} {a : Option Addr} {l : List (List UInt8)} (h : TX w a l) (g : GB w W) : TX W a l := fun i t ht => by
  obtain ⟨sb, off, h1, h2, h3⟩ := h i t ht
  exact ⟨sb, off, h1, Nat.lt_of_lt_of_le h2 g.b.size, by rw [g.b.cell (p := ⟨sb, off + i, none⟩) h2]; exact h3⟩

set_option maxRecDepth 8000 in
theorem stampRows_long (l : List (List UInt8)) (a : Option Addr) (cap : Nat) (at_ : Int) (w : World) (hG : GW w) (hv : TX w a l) (hn : l.length ≤ 40) (j : Nat) (t : List UInt8) (hj : l[j]? = some t) (hlong : 1024 < t.length) (ht2 : t.length ≤ 9223372036854775807)
    (hs : ∀ (i : Nat) (u : List UInt8), i < j → l[i]? = some u → u.length ≤ 1024) :
    Calls Tryd.prog 7 #[.slice a l.length cap, .int .i64 at_] w fun e w' => e = .returned (.bool true) ∧ Below w.heap.size w w' := by
  have HG : Hid (GB w w) := GB.refl hG
  have HV : Hid (TX w a l) := hv
  have HS : Hid (∀ (i : Nat) (u : List UInt8), i < j → l[i]? = some u → u.length ≤ 1024) := hs
  have HJ : Hid (l[j]? = some t) := hj
  have hjl : j < l.length := (List.getElem?_eq_some_iff.1 hj).1
  clear hG hv hs hj
  go_enter Tryd.func7, Tryd.ntmps7
  go_wp2_with (first
    | (go_at_call 9; refine (awake_g HG).mono ?_; clear HG; rintro e w1 ⟨rfl, HG⟩))
  have HX : Hid (TX w1 a l) := tx_gb' HV.out HG
  have HB : Hid (Below w.heap.size w w1) := HG.b
  clear HG HV
  go_loopw [5] (fun u5 wr => ∃ k : Nat, k ≤ j ∧ u5 = .int .i64 k ∧ wr = w1) (fun u5 _ => l.length - (intOf u5).toNat)
  case atStart => exact ⟨0, Nat.zero_le _, rfl, rfl⟩
  case round =>
    obtain ⟨k, hk, rfl, rfl⟩ := hrel
    have hk0 : (0 : Int) ≤ (k : Int) := by omega
    have hk1 : (k : Int) < (l.length : Int) := by omega
    by_cases hkj : k < j
    · obtain ⟨u, hu⟩ : ∃ u, l[k]? = some u := ⟨l[k], List.getElem?_eq_getElem (by omega)⟩
      obtain ⟨sb, off, rfl, hsb, hcell⟩ := HX.out k u hu
      have hus := HS.out k u hkj hu
      have hsz := M.bs_size u
      clear hu
      go_wp2_with fail
      go_roundw
      case rel => exact ⟨k + 1, by omega, by go_num, trivial⟩
      case measure => simp [intOf]; omega
    · obtain rfl : k = j := by omega
      obtain ⟨sb, off, rfl, hsb, hcell⟩ := HX.out k t HJ.out
      have hsz := M.bs_size t
      go_wp2_with fail
      go_ret
      exact ⟨rfl, HB.out⟩

set_option maxRecDepth 8000 in
set_option maxHeartbeats 2000000 in
theorem stampRows_walk (l : List (List UInt8)) (x : Addr) (cap : Nat) (at_ : Int) (w : World) (hG : GW w) (hn : l.length ≤ 40) (hcap : l.length ≤ cap) (hcm : cap ≤ maxLen) (hall : ∀ t ∈ l, t.length ≤ 1024)
    (hx : ∀ i t, l[i]? = some t → w.cell? (x.add i) = some (.string (M.bs t))) (hTX : TX w (some x) l) (h1 : -9223372036854775808 ≤ at_) (h2 : at_ ≤ 9223372036854775807) :
    Calls Tryd.prog 7 #[.slice (some x) l.length cap, .int .i64 at_] w fun e w' => e = .returned (.bool true) ∧ Below w.heap.size w w' := by
  have HG : Hid (GB w w) := GB.refl hG
  have HV : Hid (TX w (some x) l) := hTX
  have HA : Hid (∀ t ∈ l, t.length ≤ 1024) := hall
  have HC : Hid (∀ i t, l[i]? = some t → w.cell? (x.add i) = some (.string (M.bs t))) := hx
  obtain ⟨k, hk, hkl⟩ : ∃ k : Nat, (IntKind.u64.wrap at_).tmod ((l.length : Int) + 1) = (k : Int) ∧ k ≤ l.length := by
    have h0 : 0 ≤ IntKind.u64.wrap at_ := by rw [IntKind.wrap_u64]; omega
    rw [Int.tmod_eq_emod_of_nonneg h0]
    have hp : (0 : Int) < (l.length : Int) + 1 := by omega
    have q1 := Int.emod_nonneg (IntKind.u64.wrap at_) (show (l.length : Int) + 1 ≠ 0 by omega)
    have q2 := Int.emod_lt_of_pos (IntKind.u64.wrap at_) hp
    exact ⟨(IntKind.u64.wrap at_ % ((l.length : Int) + 1)).toNat, by omega, by omega⟩
  have hcmx : cap ≤ 9223372036854775807 := hcm
  clear hG hTX hall hx hcm
  go_enter Tryd.func7, Tryd.ntmps7
  go_wp2_with (first
    | (go_at_call 9; refine (awake_g HG).mono ?_; clear HG; rintro e w1 ⟨rfl, HG⟩))
  have HX : Hid (TX w1 (some x) l) := tx_gb' HV.out HG
  have HGB : Hid (GB w w1) := HG
  clear HG
  go_loopw [5] (fun u5 wr => ∃ q : Nat, q ≤ l.length ∧ u5 = .int .i64 q ∧ wr = w1) (fun u5 _ => l.length - (intOf u5).toNat)
  case atStart => exact ⟨0, Nat.zero_le _, rfl, rfl⟩
  case round =>
    obtain ⟨q, hq, rfl, rfl⟩ := hrel
    by_cases hql : q < l.length
    · have hk0 : (0 : Int) ≤ (q : Int) := by omega
      have hk1 : (q : Int) < (l.length : Int) := by omega
      obtain ⟨u, hu⟩ : ∃ u, l[q]? = some u := ⟨l[q], List.getElem?_eq_getElem hql⟩
      obtain ⟨sb, off, hx2, hsb, hcell⟩ := HX.out q u hu
      obtain rfl := Option.some.inj hx2
      have hus := HA.out u (List.mem_of_getElem? hu)
      have hsz := M.bs_size u
      clear hu hk
      go_wp2_with fail
      go_roundw
      case rel => exact ⟨q + 1, by omega, by go_num, trivial⟩
      case measure => simp [intOf]; omega
    · obtain rfl : q = l.length := by omega
      have hz := HGB.out.g.z
      obtain ⟨i0, hi, hz0, hz1, hz2⟩ := info_parts (show (Tryd.prog.info? 9).map (fun i => (i.zero, i.size, i.bytes)) = some (some (.string ByteArray.empty), 1, 16) by kernel_rfl)
      have HCW : Hid (∀ W, Below wr.heap.size wr W → ∀ i t, l[i]? = some t → W.cell? (x.add i) = some (.string (M.bs t))) := fun W hW i t ht => by
        obtain ⟨sb, off, hx2, hsb, hcell⟩ := HX.out i t ht
        obtain rfl := Option.some.inj hx2
        rw [Addr.add_mid, hW.cell (p := ⟨sb, off + i, none⟩) hsb]; exact hcell
      have A1 : Hid ((wr.alloc (.cells #[] 9)).ownsRow wr.heap.size 9 1 (.slice (some ⟨wr.heap.size, 0, none⟩) 0 0) 0 []) := World.ownsRow_made wr #[] 0 (Nat.le_refl _) (by simp [maxLen]) rfl
      have HB1 : Hid (Below wr.heap.size wr (wr.alloc (.cells #[] 9))) := (Below.refl _ wr).alloc (Nat.le_refl _) _
      have HI : Hid (Tryd.prog.info? 9 = some i0) := hi
      have hl1 : (List.take k (l.map encS)).length = k * 1 := by simp; omega
      have hl2 : (List.drop k (l.map encS)).length = (l.length - k) * 1 := by simp
      have ho1 : Hid (∀ u ∈ List.take k (l.map encS), u.oneCell' = true) := fun u hu => by obtain ⟨y, _, rfl⟩ := List.mem_map.1 (List.mem_of_mem_take hu); rfl
      have ho2 : Hid (∀ u ∈ List.drop k (l.map encS), u.oneCell' = true) := fun u hu => by obtain ⟨y, _, rfl⟩ := List.mem_map.1 (List.mem_of_mem_drop hu); rfl
      have hc1 : Hid (∀ W, Below wr.heap.size wr W → ∀ j u, (List.take k (l.map encS))[j]? = some u → W.cell? (x.add j) = some u) := fun W hW j u hu => by
        rw [List.getElem?_take, List.getElem?_map] at hu
        by_cases hj : j < k
        · rw [if_pos hj] at hu
          cases ht : l[j]? with
          | none => rw [ht] at hu; simp at hu
          | some t => rw [ht] at hu; simp at hu; subst hu; exact HCW.out W hW j t ht
        · rw [if_neg hj] at hu; simp at hu
      have hc2 : Hid (∀ W, Below wr.heap.size wr W → ∀ j u, (List.drop k (l.map encS))[j]? = some u → W.cell? ((x.add k).add j) = some u) := fun W hW j u hu => by
        rw [List.getElem?_drop, List.getElem?_map] at hu
        cases ht : l[k + j]? with
        | none => rw [ht] at hu; simp at hu
        | some t =>
          rw [ht] at hu; simp at hu; subst hu
          have := HCW.out W hW (k + j) t ht
          obtain ⟨sb, off, hx2, hsb, hcell⟩ := HX.out (k + j) t ht
          obtain rfl := Option.some.inj hx2
          rw [Addr.add_mid] at this ⊢
          rw [Addr.add_mid, Nat.add_assoc]; exact this
      clear hi HV HC
      go_wp2_with (first
        | (at_builtin; refine wpList_append_own _ rfl _ _ 22 rfl wr.heap.size 9 i0 (.string ByteArray.empty) 1 16 Tryd.underlying22 HI.out hz0 hz1 hz2 rfl (by decide) _ _ _ rfl A1.out x k _ (List.take k (l.map encS)) rfl hl1 (hc1.out _ HB1.out) ho1.out (by unfold maxLen; omega) (by omega) (by simp) ?_))
      intro v1 w2 hown2 hgrow2 _
      have hb2 : Below wr.heap.size wr w2 := HB1.out.grown hgrow2 (by simp) (fun q hq => (A1.out.lt q hq).1)
      have hs2 := hb2.size
      have hown2' : w2.ownsRow wr.heap.size 9 1 v1 k (List.take k (l.map encS)) := by simpa using hown2
      have A2 : Hid ((w2.alloc (.cells #[.string ⟨#[]⟩] 9)).ownsRow wr.heap.size 9 1 v1 k (List.take k (l.map encS))) := World.ownsRow.alloc hown2' _
      have HB2 : Hid (Below wr.heap.size wr (w2.alloc (.cells #[.string ⟨#[]⟩] 9))) := hb2.alloc hs2 _
      clear A1 HB1 hown2 hgrow2 hown2'
      go_wp2_with (first
        | (at_builtin; refine wpList_append_own _ rfl _ _ 22 rfl wr.heap.size 9 i0 (.string ByteArray.empty) 1 16 Tryd.underlying22 HI.out hz0 hz1 hz2 rfl (by decide) _ _ _ rfl A2.out ⟨w2.heap.size, 0, none⟩ 1 1 [.string ⟨#[]⟩] rfl rfl (cell_one_new _ _ _) (fun y hy => by simp at hy; subst hy; rfl) (by unfold maxLen; omega) (by omega) (by simp; omega) ?_))
      intro v2 w3 hown3 hgrow3 _
      have hb3 : Below wr.heap.size wr w3 := HB2.out.grown hgrow3 (by simp; omega) (fun q hq => (A2.out.lt q hq).1)
      have hs3 := hb3.size
      have A3 : Hid (w3.ownsRow wr.heap.size 9 1 v2 (k + 1) (List.take k (l.map encS) ++ [.string ⟨#[]⟩])) := by
        show World.ownsRow _ _ _ _ _ _ _
        simpa using hown3
      have HB3 : Hid (Below wr.heap.size wr w3) := hb3
      clear A2 HB2 hown3 hgrow3 hb2 hb3
      have hEND : ∀ v3 w4, w4.ownsRow wr.heap.size 9 1 v3 (k + 1 + (l.length - k)) (List.take k (l.map encS) ++ [.string ⟨#[]⟩] ++ List.drop k (l.map encS)) → Strs w4.heap.size w4 v3 (ins l k) := fun v3 w4 h => by
        have e : (List.take k (l.map encS) ++ [.string ⟨#[]⟩] ++ List.drop k (l.map encS)) = (ins l k).map encS := by
          simp only [ins, List.map_append, List.map_cons, List.map_nil, List.map_take, List.map_drop]; rfl
        rw [e, show k + 1 + (l.length - k) = (ins l k).length by rw [ins_length l k hkl]; omega] at h
        exact strs_of_owns h
      have HEND : Hid (∀ v3 w4, w4.ownsRow wr.heap.size 9 1 v3 (k + 1 + (l.length - k)) (List.take k (l.map encS) ++ [.string ⟨#[]⟩] ++ List.drop k (l.map encS)) → Strs w4.heap.size w4 v3 (ins l k)) := hEND
      clear hEND
      obtain ⟨y, cy, hy, hcy⟩ : ∃ (y : Addr) (cy : Nat), (if cap = k then (y = x ∧ cy = 0) else (y = x.add k ∧ cy = cap - k)) ∧ Hid (∀ W, Below wr.heap.size wr W → ∀ j u, (List.drop k (l.map encS))[j]? = some u → W.cell? (y.add j) = some u) := by
        by_cases hkc : cap = k
        · refine ⟨x, 0, by rw [if_pos hkc]; exact ⟨rfl, rfl⟩, fun W hW j u hu => ?_⟩
          rw [List.getElem?_drop, List.getElem?_eq_none (by simp; omega)] at hu; simp at hu
        · exact ⟨x.add k, cap - k, by rw [if_neg hkc]; exact ⟨rfl, rfl⟩, hc2⟩
      clear hc2 hc1 HCW
      have hF : (ins l k).flatten = l.flatten := ins_flatten l k
      have hne : M.rowB l ≠ M.rowB (ins l k) := rowB_ins l k hkl hn HA.out
      have hil := ins_length l k hkl
      have hiall : ∀ t ∈ ins l k, t.length ≤ 1024 := fun t ht => by
        simp only [ins, List.mem_append, List.mem_cons, List.not_mem_nil, or_false] at ht
        rcases ht with (ht | rfl) | ht
        · exact HA.out t (List.mem_of_mem_take ht)
        · simp
        · exact HA.out t (List.mem_of_mem_drop ht)
      have hr1 := rowB_le l 1024 HA.out
      have hr2 := rowB_le (ins l k) 1024 hiall
      have hfl : l.flatten.length ≤ 1024 * 41 := by
        have := cat_lenR l HA.out
        omega
      have HIL : Hid (∀ t ∈ ins l k, t.length ≤ 1024) := hiall
      have HNE : Hid (M.rowB l ≠ M.rowB (ins l k)) := hne
      have HFF : Hid ((ins l k).flatten = l.flatten) := hF
      have HR1 : Hid ((M.rowB l).length ≤ 1000000) := by show _ ≤ _; omega
      have HR2 : Hid ((M.rowB (ins l k)).length ≤ 1000000) := by show _ ≤ _; rw [hil] at hr2; omega
      have HFL : Hid (l.flatten.length ≤ 1000000) := by show _ ≤ _; omega
      have HIN : Hid ((ins l k).length = l.length + 1) := hil
      clear hF hne hil hiall hr1 hr2 hfl
      generalize ins l k = I at *
      by_cases hkc : cap = k
      case' pos =>
        rw [if_pos hkc] at hy
        obtain ⟨hyx, rfl⟩ := hy
        rw [hyx] at hcy
        clear hyx y
        subst hkc
        have hl0 : Hid (l.length - cap = 0) := by show _ = _; omega
      case' neg =>
        rw [if_neg hkc] at hy
        obtain ⟨rfl, rfl⟩ := hy
        have hkc2 : ¬ k = cap := fun h => hkc h.symm
      all_goals
        go_wp2_with (first
          | (at_builtin; refine wpList_append_own _ rfl _ _ 22 rfl wr.heap.size 9 i0 (.string ByteArray.empty) 1 16 Tryd.underlying22 HI.out hz0 hz1 hz2 rfl (by decide) _ _ _ rfl A3.out _ _ _ (List.drop _ (l.map encS)) rfl (by first | exact hl2 | (rw [hl2, hl0.out])) (hcy.out _ HB3.out) ho2.out (by unfold maxLen; omega) (by omega) hs3 ?_))
        intro v3 w4 hown4 hgrow4 _
        have hb4 : Below wr.heap.size wr w4 := HB3.out.grown hgrow4 (by omega) (fun q hq => (A3.out.lt q hq).1)
        have hst := HEND.out v3 w4 (by rw [List.append_assoc]; first | exact hown4 | (rw [hl0.out]; exact hown4))
        obtain ⟨ba, bc, rfl⟩ := hst.shape
        have hG4 : GB w w4 := HGB.out.step hb4
        have hTa : TX w4 (some x) l := tx_gb' HX.out ⟨hG4.g, hb4⟩
        have hTb : TX w4 ba I := fun i t ht => strs_at hst i t ht
        have hSa : Strs w4.heap.size w4 (.slice (some x) l.length cap) l := tx_strsR hTa
        clear A3 HB3 hown4 hgrow4 HEND hcy HX HI ho1 ho2
        have RA : Hid (∀ W, GB w4 W → Calls Tryd.prog 23 #[.slice (some x) l.length cap] W fun e w' => e = .returned (.string (M.bs (M.rowB l))) ∧ GB w4 w') := fun W h => by
          refine (row_any _ l W (hSa.below h.b h.b.size) (by have := HR1.out; omega) (by omega)).mono ?_
          rintro e w' ⟨rfl, hb⟩; exact ⟨rfl, h.step hb⟩
        have RB : Hid (∀ W, GB w4 W → Calls Tryd.prog 23 #[.slice ba I.length bc] W fun e w' => e = .returned (.string (M.bs (M.rowB I))) ∧ GB w4 w') := fun W h => by
          refine (row_any _ I W (hst.below h.b h.b.size) (by have := HR2.out; omega) (by rw [HIN.out]; omega)).mono ?_
          rintro e w' ⟨rfl, hb⟩; exact ⟨rfl, h.step hb⟩
        have OA : Hid (∀ W, GB w4 W → Calls Tryd.prog 11 #[.slice (some x) l.length cap] W fun e w' => e = .returned (.agg (dg (S.sha l.flatten))) ∧ GB w4 w') := fun W h => by
          refine (Of_at l (some x) cap W h.g (tx_gb' hTa h) (by have := HFL.out; omega) (by omega)).mono ?_
          rintro e w' ⟨rfl, hb⟩; exact ⟨rfl, h.step hb⟩
        have OB : Hid (∀ W, GB w4 W → Calls Tryd.prog 11 #[.slice ba I.length bc] W fun e w' => e = .returned (.agg (dg (S.sha l.flatten))) ∧ GB w4 w') := fun W h => by
          refine (Of_at I ba bc W h.g (tx_gb' hTb h) (by rw [HFF.out]; have := HFL.out; omega) (by rw [HIN.out]; omega)).mono ?_
          rw [HFF.out]
          rintro e w' ⟨rfl, hb⟩; exact ⟨rfl, h.step hb⟩
        have WA : Hid (∀ W, GB w4 W → Calls Tryd.prog 13 #[.slice (some x) l.length cap] W fun e w' => e = .returned (.agg (dg (S.sha (M.rowB l)))) ∧ GB w4 w') := fun W h => by
          refine (Row_at l _ W h.g (hSa.below h.b h.b.size) (by have := HR1.out; omega) (by omega)).mono ?_
          rintro e w' ⟨rfl, hb⟩; exact ⟨rfl, h.step hb⟩
        have WB : Hid (∀ W, GB w4 W → Calls Tryd.prog 13 #[.slice ba I.length bc] W fun e w' => e = .returned (.agg (dg (S.sha (M.rowB I)))) ∧ GB w4 w') := fun W h => by
          refine (Row_at I _ W h.g (hst.below h.b h.b.size) (by have := HR2.out; omega) (by rw [HIN.out]; omega)).mono ?_
          rintro e w' ⟨rfl, hb⟩; exact ⟨rfl, h.step hb⟩
        have HS : Hid (GB w4 w4) := GB.refl hG4.g
        have HBW : Hid (Below w.heap.size w w4) := hG4.b
        clear hst hTa hTb hSa hG4 hb4 HGB HIL HFF HIN HFL
        obtain ⟨X, hX⟩ : ∃ X, X = M.rowB l := ⟨_, rfl⟩
        obtain ⟨Y, hY⟩ : ∃ Y, Y = M.rowB I := ⟨_, rfl⟩
        rw [← hX] at RA WA HNE HR1
        rw [← hY] at RB WB HNE HR2
        have OX : Hid (∀ W T, GB w4 W → Calls Tryd.prog 11 #[.slice (some ⟨W.heap.size, 0, none⟩) 1 1] (W.alloc (.cells #[.string (M.bs X)] T)) fun e w' => e = .returned (.agg (dg (S.sha X))) ∧ GB w4 w') := fun W T h => Of_g X T h (by have := HR1.out; omega)
        have OY : Hid (∀ W T, GB w4 W → Calls Tryd.prog 11 #[.slice (some ⟨W.heap.size, 0, none⟩) 1 1] (W.alloc (.cells #[.string (M.bs Y)] T)) fun e w' => e = .returned (.agg (dg (S.sha Y))) ∧ GB w4 w') := fun W T h => Of_g Y T h (by have := HR2.out; omega)
        have e1 := eqDg (S.sha l.flatten) (S.sha l.flatten) (S.sha_length _) (S.sha_length _)
        have e2 := eqDg (S.sha X) (S.sha X) (S.sha_length _) (S.sha_length _)
        have e3 := eqDg (S.sha Y) (S.sha Y) (S.sha_length _) (S.sha_length _)
        obtain ⟨q, hq⟩ : ∃ q, decide (S.sha X = S.sha Y) = q := ⟨_, rfl⟩
        have e4 : ∀ W, (Op.equalIn 10000 27 (.agg (dg (S.sha X))) (.agg (dg (S.sha Y)))).run Tryd.prog W = .ok q W := fun W => by rw [← hq]; exact eqDg (S.sha X) (S.sha Y) (S.sha_length _) (S.sha_length _) W
        simp only [decide_true] at e1 e2 e3
        have hneq : ¬ (M.bs X).toList = (M.bs Y).toList := fun h => HNE.out (by rw [Lib.toList_data, Lib.toList_data, M.bs_toList, M.bs_toList] at h; exact h)
        have hneb : ((M.bs X).toList == (M.bs Y).toList) = false := by simpa using hneq
        obtain ⟨F, hF⟩ : ∃ F, F = S.sha l.flatten := ⟨_, rfl⟩
        obtain ⟨n2, hn2⟩ : ∃ n2, n2 = I.length := ⟨_, rfl⟩
        rw [← hF] at OA OB e1
        rw [← hn2] at RB OB WB ⊢
        clear hF hX hY HNE hq hn2
        generalize S.sha X = sx at *
        generalize S.sha Y = sy at *
        have WA2 := WA; have WB2 := WB; have OX2 := OX; have OY2 := OY
        rcases Bool.eq_false_or_eq_true q with rfl | rfl
        all_goals
          go_wp2_with (first
            | (go_at_call 23; refine (RA.out _ HS).mono ?_; clear HS RA; rintro e w' ⟨rfl, HS⟩)
            | (go_at_call 23; refine (RB.out _ HS).mono ?_; clear HS RB; rintro e w' ⟨rfl, HS⟩)
            | (go_at_call 11; refine (OA.out _ HS).mono ?_; clear HS OA; rintro e w' ⟨rfl, HS⟩)
            | (go_at_call 11; refine (OB.out _ HS).mono ?_; clear HS OB; rintro e w' ⟨rfl, HS⟩)
            | (go_at_call 13; refine (WA.out _ HS).mono ?_; clear HS WA; rintro e w' ⟨rfl, HS⟩)
            | (go_at_call 11; refine (OX.out _ _ HS).mono ?_; clear HS OX; rintro e w' ⟨rfl, HS⟩)
            | (go_at_call 13; refine (WB.out _ HS).mono ?_; clear HS WB; rintro e w' ⟨rfl, HS⟩)
            | (go_at_call 11; refine (OY.out _ _ HS).mono ?_; clear HS OY; rintro e w' ⟨rfl, HS⟩)
            | (go_at_call 13; refine (WA2.out _ HS).mono ?_; clear HS WA2; rintro e w' ⟨rfl, HS⟩)
            | (go_at_call 13; refine (WB2.out _ HS).mono ?_; clear HS WB2; rintro e w' ⟨rfl, HS⟩)
            | (go_at_call 11; refine (OX2.out _ _ HS).mono ?_; clear HS OX2; rintro e w' ⟨rfl, HS⟩)
            | (go_at_call 11; refine (OY2.out _ _ HS).mono ?_; clear HS OY2; rintro e w' ⟨rfl, HS⟩))
          go_ret
          exact ⟨rfl, HBW.out.trans (HS.b.mono HBW.out.size)⟩

set_option maxRecDepth 8000 in
set_option maxHeartbeats 2000000 in
theorem stampRows_nil (at_ : Int) (w : World) (hG : GW w) (h1 : -9223372036854775808 ≤ at_) (h2 : at_ ≤ 9223372036854775807) :
    Calls Tryd.prog 7 #[.slice none 0 0, .int .i64 at_] w fun e w' => e = .returned (.bool true) ∧ Below w.heap.size w w' := by
  have HG : Hid (GB w w) := GB.refl hG
  have hk : (IntKind.u64.wrap at_).tmod 1 = 0 := by rw [Int.tmod_one]
  clear hG
  go_enter Tryd.func7, Tryd.ntmps7
  go_wp2_with (first
    | (go_at_call 9; refine (awake_g HG).mono ?_; clear HG; rintro e w1 ⟨rfl, HG⟩))
  have HGB : Hid (GB w w1) := HG
  clear HG
  go_loopw [5] (fun u5 wr => u5 = .int .i64 0 ∧ wr = w1) (fun u5 _ => 0)
  case atStart => exact ⟨rfl, rfl⟩
  case round =>
    obtain ⟨rfl, rfl⟩ := hrel
    obtain ⟨i0, hi, hz0, hz1, hz2⟩ := info_parts (show (Tryd.prog.info? 9).map (fun i => (i.zero, i.size, i.bytes)) = some (some (.string ByteArray.empty), 1, 16) by kernel_rfl)
    have A1 : Hid ((wr.alloc (.cells #[] 9)).ownsRow wr.heap.size 9 1 (.slice (some ⟨wr.heap.size, 0, none⟩) 0 0) 0 []) := World.ownsRow_made wr #[] 0 (Nat.le_refl _) (by simp [maxLen]) rfl
    have hb1 : Below wr.heap.size wr (wr.alloc (.cells #[] 9)) := (Below.refl _ wr).alloc (Nat.le_refl _) _
    have h10 : (wr.alloc (.cells #[] 9)).heap.size = wr.heap.size + 1 := by simp
    have A2 : Hid (((wr.alloc (.cells #[] 9)).alloc (.cells #[.string ⟨#[]⟩] 9)).ownsRow wr.heap.size 9 1 (.slice (some ⟨wr.heap.size, 0, none⟩) 0 0) 0 []) := World.ownsRow.alloc A1.out _
    have HB2 : Hid (Below wr.heap.size wr ((wr.alloc (.cells #[] 9)).alloc (.cells #[.string ⟨#[]⟩] 9))) := hb1.alloc (by rw [h10]; omega) _
    have HI : Hid (Tryd.prog.info? 9 = some i0) := hi
    have hcn : Hid (∀ j u, [Value.string ⟨#[]⟩][j]? = some u → ((wr.alloc (.cells #[] 9)).alloc (.cells #[.string ⟨#[]⟩] 9)).cell? ((⟨wr.heap.size + 1, 0, none⟩ : Addr).add j) = some u) := by
      have := cell_one_new (wr.alloc (.cells #[] 9)) (.string ⟨#[]⟩) 9
      rw [h10] at this; exact this
    clear hi hb1 h10
    go_wp2_with (first
      | (at_builtin; refine wpList_append_own_none rfl _ _ 22 rfl wr.heap.size 9 i0 1 Tryd.underlying22 HI.out _ 0 [] rfl A1.out rfl ?_; clear A1)
      | (at_builtin; refine wpList_append_own _ rfl _ _ 22 rfl wr.heap.size 9 i0 (.string ByteArray.empty) 1 16 Tryd.underlying22 HI.out hz0 hz1 hz2 rfl (by decide) _ _ _ rfl A2.out ⟨wr.heap.size + 1, 0, none⟩ 1 1 [.string ⟨#[]⟩] rfl rfl hcn.out (fun y hy => by simp at hy; subst hy; rfl) (by unfold maxLen; omega) (by omega) (by simp; omega) ?_))
    intro v2 w4 hown3 hgrow3 _
    have hb4 : Below wr.heap.size wr w4 := HB2.out.grown hgrow3 (by simp; omega) (fun q hq => (A2.out.lt q hq).1)
    have A3 : Hid (w4.ownsRow wr.heap.size 9 1 v2 1 [.string ⟨#[]⟩]) := by
      show World.ownsRow _ _ _ _ _ _ _
      simpa using hown3
    have hst : Strs w4.heap.size w4 v2 [[]] := strs_of_owns A3.out
    obtain ⟨ba, bc, rfl⟩ := hst.shape
    have hG4 : GB w w4 := HGB.out.step hb4
    have hTa : TX w4 none [] := fun i t ht => by simp at ht
    have hTb : TX w4 ba [[]] := fun i t ht => strs_at hst i t ht
    have hSa : Strs w4.heap.size w4 (.slice none 0 0) [] := Or.inl ⟨rfl, none, 0, rfl⟩
    clear hown3
    rw [show ([[]] : List (List UInt8)).length = 1 from rfl] at hst A3 ⊢
    have HNE : Hid (M.rowB ([] : List (List UInt8)) ≠ M.rowB ([[]] : List (List UInt8))) := rowB_ins [] 0 (Nat.le_refl _) (by decide) (by simp)
    have HR1 : Hid ((M.rowB ([] : List (List UInt8))).length ≤ 1000000) := by show _ ≤ _; decide
    have HR2 : Hid ((M.rowB ([[]] : List (List UInt8))).length ≤ 1000000) := by show _ ≤ _; decide
    have RA : Hid (∀ W, GB w4 W → Calls Tryd.prog 23 #[.slice none 0 0] W fun e w' => e = .returned (.string (M.bs (M.rowB ([] : List (List UInt8))))) ∧ GB w4 w') := fun W h => by
      refine (row_any _ ([] : List (List UInt8)) W (hSa.below h.b h.b.size) (by have := HR1.out; omega) (by decide)).mono ?_
      rintro e w' ⟨rfl, hb⟩; exact ⟨rfl, h.step hb⟩
    have RB : Hid (∀ W, GB w4 W → Calls Tryd.prog 23 #[.slice ba 1 bc] W fun e w' => e = .returned (.string (M.bs (M.rowB ([[]] : List (List UInt8))))) ∧ GB w4 w') := fun W h => by
      refine (row_any _ ([[]] : List (List UInt8)) W (hst.below h.b h.b.size) (by have := HR2.out; omega) (by decide)).mono ?_
      rintro e w' ⟨rfl, hb⟩; exact ⟨rfl, h.step hb⟩
    have OA : Hid (∀ W, GB w4 W → Calls Tryd.prog 11 #[.slice none 0 0] W fun e w' => e = .returned (.agg (dg (S.sha ([] : List (List UInt8)).flatten))) ∧ GB w4 w') := fun W h => by
      refine (Of_at ([] : List (List UInt8)) none 0 W h.g (tx_gb' hTa h) (by decide) (by decide)).mono ?_
      rintro e w' ⟨rfl, hb⟩; exact ⟨rfl, h.step hb⟩
    have OB : Hid (∀ W, GB w4 W → Calls Tryd.prog 11 #[.slice ba 1 bc] W fun e w' => e = .returned (.agg (dg (S.sha ([] : List (List UInt8)).flatten))) ∧ GB w4 w') := fun W h => by
      refine (Of_at ([[]] : List (List UInt8)) ba bc W h.g (tx_gb' hTb h) (by decide) (by decide)).mono ?_
      rintro e w' ⟨rfl, hb⟩; exact ⟨rfl, h.step hb⟩
    have WA : Hid (∀ W, GB w4 W → Calls Tryd.prog 13 #[.slice none 0 0] W fun e w' => e = .returned (.agg (dg (S.sha (M.rowB ([] : List (List UInt8)))))) ∧ GB w4 w') := fun W h => by
      refine (Row_at ([] : List (List UInt8)) _ W h.g (hSa.below h.b h.b.size) (by have := HR1.out; omega) (by decide)).mono ?_
      rintro e w' ⟨rfl, hb⟩; exact ⟨rfl, h.step hb⟩
    have WB : Hid (∀ W, GB w4 W → Calls Tryd.prog 13 #[.slice ba 1 bc] W fun e w' => e = .returned (.agg (dg (S.sha (M.rowB ([[]] : List (List UInt8)))))) ∧ GB w4 w') := fun W h => by
      refine (Row_at ([[]] : List (List UInt8)) _ W h.g (hst.below h.b h.b.size) (by have := HR2.out; omega) (by decide)).mono ?_
      rintro e w' ⟨rfl, hb⟩; exact ⟨rfl, h.step hb⟩
    have HS : Hid (GB w4 w4) := GB.refl hG4.g
    have HBW : Hid (Below w.heap.size w w4) := hG4.b
    clear hst hTa hTb hSa hG4 hb4 HGB
    obtain ⟨X, hX⟩ : ∃ X, X = M.rowB ([] : List (List UInt8)) := ⟨_, rfl⟩
    obtain ⟨Y, hY⟩ : ∃ Y, Y = M.rowB ([[]] : List (List UInt8)) := ⟨_, rfl⟩
    rw [← hX] at RA WA HNE HR1
    rw [← hY] at RB WB HNE HR2
    have OX : Hid (∀ W T, GB w4 W → Calls Tryd.prog 11 #[.slice (some ⟨W.heap.size, 0, none⟩) 1 1] (W.alloc (.cells #[.string (M.bs X)] T)) fun e w' => e = .returned (.agg (dg (S.sha X))) ∧ GB w4 w') := fun W T h => Of_g X T h (by have := HR1.out; omega)
    have OY : Hid (∀ W T, GB w4 W → Calls Tryd.prog 11 #[.slice (some ⟨W.heap.size, 0, none⟩) 1 1] (W.alloc (.cells #[.string (M.bs Y)] T)) fun e w' => e = .returned (.agg (dg (S.sha Y))) ∧ GB w4 w') := fun W T h => Of_g Y T h (by have := HR2.out; omega)
    have e1 := eqDg (S.sha ([] : List (List UInt8)).flatten) (S.sha ([] : List (List UInt8)).flatten) (S.sha_length _) (S.sha_length _)
    have e2 := eqDg (S.sha X) (S.sha X) (S.sha_length _) (S.sha_length _)
    have e3 := eqDg (S.sha Y) (S.sha Y) (S.sha_length _) (S.sha_length _)
    obtain ⟨q, hq⟩ : ∃ q, decide (S.sha X = S.sha Y) = q := ⟨_, rfl⟩
    have e4 : ∀ W, (Op.equalIn 10000 27 (.agg (dg (S.sha X))) (.agg (dg (S.sha Y)))).run Tryd.prog W = .ok q W := fun W => by rw [← hq]; exact eqDg (S.sha X) (S.sha Y) (S.sha_length _) (S.sha_length _) W
    simp only [decide_true] at e1 e2 e3
    have hneq : ¬ (M.bs X).toList = (M.bs Y).toList := fun h => HNE.out (by rw [Lib.toList_data, Lib.toList_data, M.bs_toList, M.bs_toList] at h; exact h)
    have hneb : ((M.bs X).toList == (M.bs Y).toList) = false := by simpa using hneq
    obtain ⟨F, hF⟩ : ∃ F, F = S.sha ([] : List (List UInt8)).flatten := ⟨_, rfl⟩
    rw [← hF] at OA OB e1
    clear hF hX hY HNE hq
    generalize S.sha X = sx at *
    generalize S.sha Y = sy at *
    have WA2 := WA; have WB2 := WB; have OX2 := OX; have OY2 := OY
    rcases Bool.eq_false_or_eq_true q with rfl | rfl
    all_goals
      go_wp2_with (first
        | (at_builtin; refine wpList_append_own_none rfl _ _ 22 rfl wr.heap.size 9 i0 1 Tryd.underlying22 HI.out _ 1 _ rfl A3.out rfl ?_; clear A3)
        | (go_at_call 23; refine (RA.out _ HS).mono ?_; clear HS RA; rintro e w' ⟨rfl, HS⟩)
        | (go_at_call 23; refine (RB.out _ HS).mono ?_; clear HS RB; rintro e w' ⟨rfl, HS⟩)
        | (go_at_call 11; refine (OA.out _ HS).mono ?_; clear HS OA; rintro e w' ⟨rfl, HS⟩)
        | (go_at_call 11; refine (OB.out _ HS).mono ?_; clear HS OB; rintro e w' ⟨rfl, HS⟩)
        | (go_at_call 13; refine (WA.out _ HS).mono ?_; clear HS WA; rintro e w' ⟨rfl, HS⟩)
        | (go_at_call 11; refine (OX.out _ _ HS).mono ?_; clear HS OX; rintro e w' ⟨rfl, HS⟩)
        | (go_at_call 13; refine (WB.out _ HS).mono ?_; clear HS WB; rintro e w' ⟨rfl, HS⟩)
        | (go_at_call 11; refine (OY.out _ _ HS).mono ?_; clear HS OY; rintro e w' ⟨rfl, HS⟩)
        | (go_at_call 13; refine (WA2.out _ HS).mono ?_; clear HS WA2; rintro e w' ⟨rfl, HS⟩)
        | (go_at_call 13; refine (WB2.out _ HS).mono ?_; clear HS WB2; rintro e w' ⟨rfl, HS⟩)
        | (go_at_call 11; refine (OX2.out _ _ HS).mono ?_; clear HS OX2; rintro e w' ⟨rfl, HS⟩)
        | (go_at_call 11; refine (OY2.out _ _ HS).mono ?_; clear HS OY2; rintro e w' ⟨rfl, HS⟩))
      go_ret
      exact ⟨rfl, HBW.out.trans (HS.b.mono HBW.out.size)⟩
end Go.Proofs.YtohpjindnfabaaaDoor
