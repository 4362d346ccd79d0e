/- Of the reference: bytes, digits, pop; appends of texts. -/
import Derived.Test.YtlblbdfpcaplkaaGreatDoorMC
import Derived.Test.YtlblbdfpcaplkaaGreatDoorX3
namespace Go.Proofs.YtlblbdfpcaplkaaGreatDoor
open Go.RowKit
set_option linter.unusedVariables false
set_option linter.unusedSimpArgs false

set_option maxRecDepth 8000 in
set_option maxHeartbeats 2000000 in
theorem rbytes_m (d : List UInt8) (hd : d.length = 32) (w : World) :
    Calls Tryz.prog 71 #[.agg (dg d)] w fun e w' => e = .returned (.string (M.bs d)) ∧ Below w.heap.size w w' := by
  have HB1 : Hid (Below w.heap.size w (w.alloc (.cells (dg d) 42))) := (Below.refl _ w).alloc (Nat.le_refl _) _
  have HN1 : Hid ((w.alloc (.cells (dg d) 42)).heap[w.heap.size]? = some (.cells (dg d) 42 (0, 0))) := heap_alloc_new _ _
  have H10 : Hid ((w.alloc (.cells (dg d) 42)).heap.size = w.heap.size + 1) := by show _ = _; simp
  have HDA : Hid (∀ k y, d[k]? = some y → (dg d)[k]? = some (vb y)) := fun k y h => by unfold dg; rw [List.getElem?_toArray, List.getElem?_map, h]; rfl
  generalize dg d = DA at *
  go_enter Tryz.func71, Tryz.ntmps71
  go_wp2_with fail
  generalize w.alloc (.cells DA 42) = W1 at *
  obtain ⟨n, hn⟩ : ∃ n, n = w.heap.size := ⟨_, rfl⟩
  rw [← hn] at HB1 HN1 H10 ⊢
  have HNW : Hid (w.heap.size = n) := hn.symm
  clear hn
  have HO1 : Hid ((W1.alloc (.cells #[] 5)).ownsRow (n + 1) 5 1 (.slice (some ⟨W1.heap.size, 0, none⟩) 0 0) 0 ((d.map vb).take 0)) := by
    have := World.ownsRow_made (base := n + 1) (e := 5) (size := 1) W1 #[] 0 (by rw [H10.out]; omega) (by simp [maxLen]) rfl
    exact this
  have HB2 : Hid (Below (n + 1) W1 (W1.alloc (.cells #[] 5))) := (Below.refl _ _).alloc (by rw [H10.out]; omega) _
  have h1n : W1.heap.size = n + 1 := H10.out
  rw [h1n] at HO1
  try rw [h1n]
  have H1N : Hid (W1.heap.size = n + 1) := h1n
  have HC1 : Hid (∀ W k y, Below (n + 1) W1 W → d[k]? = some y → W.cell? ⟨n, k, none⟩ = some (vb y)) := fun W k y hW h => by
    rw [hW.cell (p := ⟨n, k, none⟩) (show n < n + 1 by omega), cell_of_row _ _ k DA _ _ HN1.out]; exact HDA.out k y h
  generalize W1.alloc (.cells #[] 5) = W2 at *
  clear h1n
  go_loopw [3, 4] (fun u3 u4 wr => ∃ k : Nat, k ≤ 32 ∧ u4 = .int .i64 k ∧ wr.ownsRow (n + 1) 5 1 u3 k ((d.map vb).take k) ∧ Below (n + 1) W1 wr) (fun _ u4 _ => 32 - (intOf u4).toNat)
  case atStart => exact ⟨0, by omega, rfl, HO1.out, HB2.out⟩
  case round =>
    clear HO1 HB2
    obtain ⟨k, hk, rfl, hown, hbe⟩ := hrel
    have HOW : Hid (wr.ownsRow (n + 1) 5 1 u3 k ((d.map vb).take k)) := hown
    have HBE : Hid (Below (n + 1) W1 wr) := hbe
    have hsz : n + 1 ≤ wr.heap.size := by have := hbe.size; have := H1N.out; omega
    clear hown hbe
    by_cases hlt : k < 32
    · obtain ⟨y, hy⟩ : ∃ y, d[k]? = some y := ⟨d[k]'(by omega), List.getElem?_eq_getElem _⟩
      have HTS : Hid ((d.map vb).take (k + 1) = (d.map vb).take k ++ [vb y]) := by
        show _ = _
        rw [List.take_add_one, List.getElem?_map, hy]; rfl
      have hcell := HC1.out wr k y HBE.out hy
      have hkl : (k : Int) < 32 := by omega
      have hk0 : (0 : Int) ≤ (k : Int) := by omega
      clear hy
      obtain ⟨i0, hi, hz0', hz1, hz2⟩ := info_partsX (show (Tryz.prog.info? 5).map (fun i => (i.zero, i.size, i.bytes)) = some (some (.int .u8 0), 1, 1) by kernel_rfl)
      have NEWS : Hid (∀ q u, [vb y][q]? = some u → (wr.alloc (.cells #[vb y] 5)).cell? ((⟨wr.heap.size, 0, none⟩ : Addr).add q) = some u) := World.news_of_block (cs := #[vb y]) (heap_alloc_new wr _)
      have OWN : Hid ((wr.alloc (.cells #[vb y] 5)).ownsRow (n + 1) 5 1 u3 k ((d.map vb).take k)) := World.ownsRow.alloc (w := wr) HOW.out _
      have HLT : Hid (∀ q, u3.ownBlock = some q → n + 1 ≤ q) := fun q hq => (HOW.out.lt q hq).1
      have hb1 : Hid (Below (n + 1) W1 (wr.alloc (.cells #[vb y] 5))) := HBE.out.alloc hsz _
      go_wp2_with (at_builtin; refine wpList_append_lies _ rfl _ _ 115 rfl (n + 1) 5 i0 (.int .u8 0) 1 1 Tryz.underlying115 hi hz0' hz1 hz2 rfl (by decide) _ k _ rfl OWN.out ⟨wr.heap.size, 0, none⟩ 1 1 [vb y] rfl rfl NEWS.out (fun u hu => by simp at hu; subst hu; rfl) (by decide) (by unfold maxLen; omega) (by omega) (by simp; omega) (wr.heap.size + 1) (by simp) ?_)
      intro g cap' w9 hown9 hgrow9 hat9 hlt9
      have HO9 : Hid (w9.ownsRow (n + 1) 5 1 (.slice (some ⟨g, 0, none⟩) (k + 1) cap') (k + 1) ((d.map vb).take (k + 1))) := by rw [HTS.out]; exact hown9
      have HB9 : Hid (Below (n + 1) W1 w9) := hb1.out.grown hgrow9 (by simp; omega) (fun q hq => HLT.out q hq)
      clear hown9 hgrow9 hat9 hb1
      go_wp2_with fail
      go_roundw
      case rel => exact ⟨k + 1, by omega, by go_num, HO9.out, HB9.out⟩
      case measure => first | (simp [intOf]; omega) | simp [intOf]
    · obtain rfl : k = 32 := by omega
      have hcv : ∃ g cap, u3 = .slice (some ⟨g, 0, none⟩) 32 cap ∧ (convert 115 9 u3).run Tryz.prog wr = .ok (.string (M.bs d)) wr := by
        obtain ⟨h0, ⟨_, h2⟩ | ⟨g, cap, cur, h1, h2, h3, h4, h5, h6, h7⟩⟩ := HOW.out
        · omega
        · refine ⟨g, cap, h1, ?_⟩
          rw [h1]
          have hfull : (d.map vb).take 32 = d.map vb := by rw [List.take_of_length_le (by simp; omega)]
          have := run_convert_bytes_back (P := Tryz.prog) wr 115 9 5 ⟨g, 0, none⟩ cap d Tryz.underlying115 Tryz.underlying5 Tryz.underlying9 (fun j hj => by
            rw [Addr.add_mid, Nat.zero_add, Lib.cell_of_heap h3]
            have h8 : (cur.toList.take (32 * 1))[j]? = ((d.map vb).take 32)[j]? := by rw [h7]
            rw [List.getElem?_take_of_lt (by omega), hfull, List.getElem?_map, List.getElem?_eq_getElem hj] at h8
            rw [Array.getElem?_toList] at h8
            simpa [vb] using h8)
          rw [hd] at this
          exact this
      obtain ⟨g, cap, rfl, hcv⟩ := hcv
      go_wp2_with fail
      go_ret
      rw [HNW.out]
      exact ⟨rfl, HB1.out.trans (HBE.out.mono (by omega))⟩


theorem rBytes_m (d : List UInt8) (hd : d.length = 32) (w : World) :
    Calls Tryz.prog 41 #[.agg (dg d)] w fun e w' => e = .returned (.string (M.bs d)) ∧ Below w.heap.size w w' := by
  have CB : Hid (∀ W, Calls Tryz.prog 71 #[.agg (dg d)] W fun e w' => e = .returned (.string (M.bs d)) ∧ Below W.heap.size W w') := fun W => rbytes_m d hd W
  have hsz : (dg d).size = 32 := by rw [dg_size, hd]
  have HR : Hid ((w.alloc (.cells (dg d) 42)).heap[w.heap.size]? = some (.cells (dg d) 42 (0, 0))) := heap_alloc_new _ _
  have HB1 : Hid (Below w.heap.size w (w.alloc (.cells (dg d) 42))) := (Below.refl _ w).alloc (Nat.le_refl _) _
  generalize dg d = D at *
  go_enter Tryz.func41, Tryz.ntmps41
  go_wp2_with (first
    | (refine wpList_load_row rfl 42 _ rfl _ rfl 42 D (0, 0) _ HR.out und27 rfl (by rw [hsz]; exact info27) ?_)
    | (go_at_call 71; refine (CB.out _).mono ?_; clear CB; rintro e w' ⟨rfl, hb⟩; have HB2 : Hid (Below w.heap.size w w') := HB1.out.trans (hb.mono HB1.out.size); clear hb))
  go_ret
  exact ⟨rfl, HB2.out⟩
theorem und9m : Tryz.prog.underlying 22 = some (.slice 9) := Tryz.underlying22
/-- texts are appended to a row of one's own -/
theorem wl_appM {ops : Array Oper} {rest : List Oper} {o : Oper} {a : Act} {w : World} {Q : Exit → Act → World → Prop} (hgd : o.guard = none) (s x : Operand)
    (ho : o.op = .call { callee := .builtin .append, args := #[s, x], argTypes := #[22, 22] }) (base : Nat) (ks : List (List UInt8)) (v : Value) (hs : a.eval s = v) (hown : w.ownsRow base 9 1 v ks.length (ks.map encS))
    (ad : Option Addr) (l : List (List UInt8)) (c : Nat) (hx : a.eval x = .slice ad l.length c) (hl : TX w ad l) (hbase : base ≤ w.heap.size) (hn : ks.length + l.length ≤ 100000)
    (h : ∀ v' w', w'.ownsRow base 9 1 v' (ks ++ l).length ((ks ++ l).map encS) → w.grownBy w' v.ownBlock → (v'.ownBlock = v.ownBlock ∨ v'.ownBlock = some w.heap.size) → wpList Tryz.prog ops Q rest (a.put o.dst v') w') : wpList Tryz.prog ops Q (o :: rest) a w := by
  obtain ⟨i0, hi0, hz0, hz1, hz2⟩ := info_partsM (show (Tryz.prog.info? 9).map (fun i => (i.zero, i.size, i.bytes)) = some (some (.string ⟨#[]⟩), 1, 16) by kernel_rfl)
  by_cases h0 : l = []
  · subst h0
    refine wpList_plain hgd fun K hK => ?_
    have hrun : (Builtin.append_ #[22, 22] o.type #[v, .slice ad 0 c]).run Tryz.prog w = .ok v w := by
      have hld : ∀ a : Addr, (loadCells a 0).run Tryz.prog w = .ok #[] w := fun a => by simp [loadCells, loadCellsFrom]
      rcases hown.2 with ⟨rfl, hh⟩ | ⟨g, cap, cur, rfl, _, _, hnc, _⟩ <;> cases ad
      · simp [Builtin.append_, run_underlying und9m, sizeOf, typeInfo, hi0, Builtin.lenOf, Builtin.firstCells, hh]
      · simp [Builtin.append_, run_underlying und9m, sizeOf, typeInfo, hi0, Builtin.lenOf, Builtin.firstCells, hh, hld]
      · simp [Builtin.append_, run_underlying und9m, sizeOf, typeInfo, hi0, Builtin.lenOf, Builtin.firstCells, hnc, storeCells]
      · simp [Builtin.append_, run_underlying und9m, sizeOf, typeInfo, hi0, Builtin.lenOf, Builtin.firstCells, hnc, storeCells, hld]
    have hK' := hK _ _ (h v w (by simpa using hown) ⟨rfl, rfl, rfl, Nat.le_refl _, fun _ _ _ => rfl⟩ (.inl rfl))
    have hx' : a.eval x = .slice ad 0 c := hx
    unfold Oper.wp
    simp [execOp, ho, resolve, invoke, builtin, hs, hx', hrun, Result.andThen]
    exact hK'
  · have hpos : 0 < l.length := List.length_pos_iff.2 h0
    obtain ⟨t0, ht0⟩ : ∃ t0, l[0]? = some t0 := ⟨l[0], List.getElem?_eq_getElem hpos⟩
    obtain ⟨sb, off, rfl, _, _⟩ := hl 0 t0 ht0
    refine wpList_append_lies _ hgd s x 22 ho base 9 i0 (.string ⟨#[]⟩) 1 16 und9m hi0 hz0 hz1 hz2 rfl (by decide) v ks.length (ks.map encS) hs hown ⟨sb, off, none⟩ l.length c (l.map encS) hx (by simp) (fun j u hu => ?_) (fun u hu => by obtain ⟨t, _, rfl⟩ := List.mem_map.1 hu; rfl) hpos (by unfold maxLen; omega) (by omega) hbase w.heap.size rfl (fun g cap w' h1 h2 h3 h4 => ?_)
    · rw [Addr.add_mid]
      rw [List.getElem?_map] at hu
      cases hp : l[j]? with
      | none => rw [hp] at hu; simp at hu
      | some t =>
        rw [hp] at hu
        simp only [Option.map_some, Option.some.injEq] at hu
        subst hu
        obtain ⟨sb', off', e, _, hc⟩ := hl j t hp
        cases e
        exact hc
    · have hv : (.slice (some ⟨g, 0, none⟩) (ks.length + l.length) cap : Value).ownBlock = some g := rfl
      refine h _ w' (by rw [List.length_append, List.map_append]; exact h1) h2 ?_
      rw [hv]
      rcases h3 with h3 | h3
      · exact .inl h3.symm
      · exact .inr (by rw [h3])


theorem dig_cut : ∀ n : Fin 10, (⟨#[48, 49, 50, 51, 52, 53, 54, 55, 56, 57]⟩ : ByteArray).extract n.val (n.val + 1) = M.bs [UInt8.ofNat (48 + n.val)] := by decide +kernel
theorem digits_1 (n : Nat) (h : n < 10) (W : World) : Calls Tryz.prog 102 #[.int .i64 (n : Int)] W fun e w' => e = .returned (.string (M.bs (Lib.decDigits n))) ∧ ∃ k, w' = W.drewN k := by
  have hc := dig_cut ⟨n, h⟩
  simp only at hc
  rw [Lib.decDigits_one h]
  generalize M.bs [UInt8.ofNat (48 + n)] = B1 at *
  have hsz : (⟨#[48, 49, 50, 51, 52, 53, 54, 55, 56, 57]⟩ : ByteArray).size = 10 := rfl
  go_enter Tryz.func102, Tryz.ntmps102
  go_wp2_with fail
  go_ret
  exact ⟨rfl, 0, rfl⟩
set_option maxRecDepth 8000 in
set_option maxHeartbeats 1000000 in
theorem digits_up0 (n q r : Nat) (L1 : List UInt8) (B2 B3 : ByteArray) (h1 : ¬ n < 10) (h2 : n ≤ 1000000) (hq : n / 10 = q) (hr : n % 10 = r) (hd : ∀ W, Calls Tryz.prog 102 #[.int .i64 (q : Int)] W fun e w' => e = .returned (.string (M.bs L1)) ∧ ∃ k, w' = W.drewN k) (hsl : L1.length ≤ 100)
    (hc : (⟨#[48, 49, 50, 51, 52, 53, 54, 55, 56, 57]⟩ : ByteArray).extract r (r + 1) = B2) (s2 : B2.size = 1) (happ : M.bs L1 ++ B2 = B3) (W : World) :
    Calls Tryz.prog 102 #[.int .i64 (n : Int)] W fun e w' => e = .returned (.string B3) ∧ ∃ k, w' = W.drewN k := by
  have hsz : (⟨#[48, 49, 50, 51, 52, 53, 54, 55, 56, 57]⟩ : ByteArray).size = 10 := rfl
  have s1 := M.bs_size L1
  have CD : Hid (∀ W, Calls Tryz.prog 102 #[.int .i64 (q : Int)] W fun e w' => e = .returned (.string (M.bs L1)) ∧ ∃ k, w' = W.drewN k) := hd
  have q1 : Int.tdiv (n : Int) 10 = (q : Int) := by rw [Int.tdiv_eq_ediv_of_nonneg (by omega)]; omega
  have q2 : Int.tmod (n : Int) 10 = (r : Int) := by rw [Int.tmod_eq_emod_of_nonneg (by omega)]; omega
  have hlt : r < 10 := by omega
  have hql : q ≤ 1000000 := by omega
  have hr1 : (r : Int) + 1 ≤ 10 := by omega
  have hr0 : (0 : Int) ≤ (r : Int) := by omega
  have w1 : IntKind.i64.wrap ((r : Int) + 1) = (r : Int) + 1 := by simp only [IntKind.wrap, IntKind.bits, IntKind.signed]; simp; omega
  have w2 : IntKind.i64.wrap (r : Int) = (r : Int) := by simp only [IntKind.wrap, IntKind.bits, IntKind.signed]; simp; omega
  have w3 : IntKind.i64.wrap (q : Int) = (q : Int) := by simp only [IntKind.wrap, IntKind.bits, IntKind.signed]; simp; omega
  generalize M.bs L1 = B1 at *
  clear hd hq hr
  go_enter Tryz.func102, Tryz.ntmps102
  go_wp2_with fail
  go_quiet ((go_at_call 102; exact Calls.quiet_of (CD.out _)))
  go_wp2_with fail
  go_ret
  exact ⟨rfl, _, rfl⟩
theorem digits_up (n : Nat) (h1 : ¬ n < 10) (h2 : n ≤ 1000000) (hd : ∀ W, Calls Tryz.prog 102 #[.int .i64 ((n / 10 : Nat) : Int)] W fun e w' => e = .returned (.string (M.bs (Lib.decDigits (n / 10)))) ∧ ∃ k, w' = W.drewN k) (hsl : (Lib.decDigits (n / 10)).length ≤ 100) (W : World) :
    Calls Tryz.prog 102 #[.int .i64 (n : Int)] W fun e w' => e = .returned (.string (M.bs (Lib.decDigits n))) ∧ ∃ k, w' = W.drewN k := by
  have e : Lib.decDigits n = Lib.decDigits (n / 10) ++ [UInt8.ofNat (48 + n % 10)] := by rw [Lib.decDigits, dif_neg h1]
  rw [e]
  exact digits_up0 n (n / 10) (n % 10) (Lib.decDigits (n / 10)) (M.bs [UInt8.ofNat (48 + n % 10)]) _ h1 h2 rfl rfl hd hsl (dig_cut ⟨n % 10, by omega⟩) (M.bs_size _) (bs_append _ _) W
theorem digits_m (n : Nat) (h : n ≤ 512) (W : World) : Calls Tryz.prog 102 #[.int .i64 (n : Int)] W fun e w' => e = .returned (.string (M.bs (Lib.decDigits n))) ∧ ∃ k, w' = W.drewN k := by
  have dl : ∀ m : Nat, m < 1000 → (Lib.decDigits m).length ≤ 100 := fun m hm => by
    rw [Lib.decDigits_length]
    by_cases h1 : m < 10
    · rw [Lib.nDigits_small h1]; omega
    · rw [Lib.nDigits_big h1]
      by_cases h2 : m / 10 < 10
      · rw [Lib.nDigits_small h2]; omega
      · rw [Lib.nDigits_big h2, Lib.nDigits_small (by omega)]; omega
  have d2 : ∀ m : Nat, m < 100 → ∀ W, Calls Tryz.prog 102 #[.int .i64 (m : Int)] W fun e w' => e = .returned (.string (M.bs (Lib.decDigits m))) ∧ ∃ k, w' = W.drewN k := fun m hm W => by
    by_cases h1 : m < 10
    · exact digits_1 m h1 W
    · exact digits_up m h1 (by omega) (fun W => digits_1 (m / 10) (by omega) W) (dl _ (by omega)) W
  by_cases h1 : n < 10
  · exact digits_1 n h1 W
  · exact digits_up n h1 (by omega) (fun W => d2 (n / 10) (by omega) W) (dl _ (by omega)) W
theorem pop_105 (W : World) : Calls Tryz.prog 101 #[.int .u8 105] W fun e w' => e = .returned (.tuple #[.int .i64 0, .int .i64 1]) ∧ w' = W := by
  go_enter Tryz.func101, Tryz.ntmps101
  go_wp2_with fail
  go_ret2
  exact ⟨rfl, rfl⟩
theorem pop_112 (W : World) : Calls Tryz.prog 101 #[.int .u8 112] W fun e w' => e = .returned (.tuple #[.int .i64 0, .int .i64 1]) ∧ w' = W := by
  go_enter Tryz.func101, Tryz.ntmps101
  go_wp2_with fail
  go_ret2
  exact ⟨rfl, rfl⟩
theorem pop_99 (W : World) : Calls Tryz.prog 101 #[.int .u8 99] W fun e w' => e = .returned (.tuple #[.int .i64 2, .int .i64 1]) ∧ w' = W := by
  go_enter Tryz.func101, Tryz.ntmps101
  go_wp2_with fail
  go_ret2
  exact ⟨rfl, rfl⟩
theorem pop_61 (W : World) : Calls Tryz.prog 101 #[.int .u8 61] W fun e w' => e = .returned (.tuple #[.int .i64 2, .int .i64 1]) ∧ w' = W := by
  go_enter Tryz.func101, Tryz.ntmps101
  go_wp2_with fail
  go_ret2
  exact ⟨rfl, rfl⟩
theorem pop_115 (W : World) : Calls Tryz.prog 101 #[.int .u8 115] W fun e w' => e = .returned (.tuple #[.int .i64 2, .int .i64 2]) ∧ w' = W := by
  go_enter Tryz.func101, Tryz.ntmps101
  go_wp2_with fail
  go_ret2
  exact ⟨rfl, rfl⟩
theorem pop_100 (W : World) : Calls Tryz.prog 101 #[.int .u8 100] W fun e w' => e = .returned (.tuple #[.int .i64 1, .int .i64 2]) ∧ w' = W := by
  go_enter Tryz.func101, Tryz.ntmps101
  go_wp2_with fail
  go_ret2
  exact ⟨rfl, rfl⟩
theorem pop_120 (W : World) : Calls Tryz.prog 101 #[.int .u8 120] W fun e w' => e = .returned (.tuple #[.int .i64 1, .int .i64 0]) ∧ w' = W := by
  go_enter Tryz.func101, Tryz.ntmps101
  go_wp2_with fail
  go_ret2
  exact ⟨rfl, rfl⟩
theorem pop_106 (W : World) : Calls Tryz.prog 101 #[.int .u8 106] W fun e w' => e = .returned (.tuple #[.int .i64 1, .int .i64 0]) ∧ w' = W := by
  go_enter Tryz.func101, Tryz.ntmps101
  go_wp2_with fail
  go_ret2
  exact ⟨rfl, rfl⟩
theorem pop_103 (W : World) : Calls Tryz.prog 101 #[.int .u8 103] W fun e w' => e = .returned (.tuple #[.int .i64 0, .int .i64 0]) ∧ w' = W := by
  go_enter Tryz.func101, Tryz.ntmps101
  go_wp2_with fail
  go_ret2
  exact ⟨rfl, rfl⟩
theorem pop_114 (W : World) : Calls Tryz.prog 101 #[.int .u8 114] W fun e w' => e = .returned (.tuple #[.int .i64 1, .int .i64 1]) ∧ w' = W := by
  go_enter Tryz.func101, Tryz.ntmps101
  go_wp2_with fail
  go_ret2
  exact ⟨rfl, rfl⟩
theorem pop_104 (W : World) : Calls Tryz.prog 101 #[.int .u8 104] W fun e w' => e = .returned (.tuple #[.int .i64 1, .int .i64 1]) ∧ w' = W := by
  go_enter Tryz.func101, Tryz.ntmps101
  go_wp2_with fail
  go_ret2
  exact ⟨rfl, rfl⟩
theorem pop_108 (W : World) : Calls Tryz.prog 101 #[.int .u8 108] W fun e w' => e = .returned (.tuple #[.int .i64 1, .int .i64 1]) ∧ w' = W := by
  go_enter Tryz.func101, Tryz.ntmps101
  go_wp2_with fail
  go_ret2
  exact ⟨rfl, rfl⟩
theorem pop_116 (W : World) : Calls Tryz.prog 101 #[.int .u8 116] W fun e w' => e = .returned (.tuple #[.int .i64 1, .int .i64 1]) ∧ w' = W := by
  go_enter Tryz.func101, Tryz.ntmps101
  go_wp2_with fail
  go_ret2
  exact ⟨rfl, rfl⟩
theorem pop_107 (W : World) : Calls Tryz.prog 101 #[.int .u8 107] W fun e w' => e = .returned (.tuple #[.int .i64 1, .int .i64 1]) ∧ w' = W := by
  go_enter Tryz.func101, Tryz.ntmps101
  go_wp2_with fail
  go_ret2
  exact ⟨rfl, rfl⟩
end Go.Proofs.YtlblbdfpcaplkaaGreatDoor
