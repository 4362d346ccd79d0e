/- What the reference's Of answers: the digest. -/
import Derived.Test.YtfghjadhpajmeaaDoorX2
import Derived.Test.YtfghjadhpajmeaaDoorS7
import Derived.Test.YtfghjadhpajmeaaDoorS6
import Derived.Deep.AppendLies
import Derived.Deep.RegionWith
import Derived.Lib.Strings
namespace Go.Proofs.YtfghjadhpajmeaaDoor
open Go.RowKit
set_option linter.unusedVariables false
set_option linter.unusedSimpArgs false
attribute [local go_sem ↓] zero47
attribute [local go_sem ↓] zero27

theorem step_load_row {P : Program} {ops : Array Oper} {o : Oper} {a : Act} {w : World} {K : Act → World → Prop} {Q : Exit → Act → World → Prop} {E : Prop} (hgd : o.guard = none) (ty : TypeId) (x : Operand) (ho : o.op = .load ty x)
    (g : Nat) (hx : a.eval x = .pointer (some ⟨g, 0, none⟩)) (t : TypeId) (cs : Array Value) (fr : Nat × Nat) (d : TypeDesc) (hg : w.heap[g]? = some (.cells cs t fr))
    (hu : P.underlying ty = some d) (hd : (match d with | .struct _ | .array _ _ => true | _ => false) = true) (hi : (P.info? ty).map (·.size) = some cs.size)
    (h : K (a.put o.dst (.agg cs)) w) : if Region.wanted o (yielded ops a.tmps) = true then Oper.wp P o a w K Q else E := by
  have hw : Region.wanted o (yielded ops a.tmps) = true := by simp [Region.wanted, hgd]
  rw [if_pos hw]
  exact wp_load_row ty x ho g hx t cs fr d hg hu hd hi h
theorem step_store_row {P : Program} {ops : Array Oper} {o : Oper} {a : Act} {w : World} {K : Act → World → Prop} {Q : Exit → Act → World → Prop} {E : Prop} (hgd : o.guard = none) (ty : TypeId) (x y : Operand) (ho : o.op = .store ty x y)
    (g : Nat) (cells : Array Value) (hx : a.eval x = .pointer (some ⟨g, 0, none⟩)) (hy : a.eval y = .agg cells)
    (t : TypeId) (old : Array Value) (hg : w.heap[g]? = some (.cells old t (0, 0))) (hi : (P.info? ty).map (·.size) = some cells.size)
    (hold : old.size = cells.size) (h1 : cells.all (·.oneCell') = true)
    (h : K (a.put o.dst undef) (w.setRow g cells)) : if Region.wanted o (yielded ops a.tmps) = true then Oper.wp P o a w K Q else E := by
  have hw : Region.wanted o (yielded ops a.tmps) = true := by simp [Region.wanted, hgd]
  rw [if_pos hw]
  exact wp_store_row ty x y ho g cells hx hy t old hg hi hold h1 h
theorem rangeAt_set {W : World} {q q' i : Nat} {v : Value} {l : List Value} (h : q ≠ q') (hr : W.rangeAt q 0 l) : (W.setCell ⟨q', i, none⟩ v).rangeAt q 0 l := fun j u hu => by
  rw [World.cell?_setCell_other W ⟨q', i, none⟩ ⟨q, 0 + j, none⟩ v (fun e => h (congrArg Addr.block e).symm)]; exact hr j u hu
theorem info_partsX {o : Option TypeInfo} {z : Option Value} {s b : Nat} (h : o.map (fun i => (i.zero, i.size, i.bytes)) = some (z, s, b)) : ∃ i, o = some i ∧ i.zero = z ∧ i.size = s ∧ i.bytes = b := by
  cases o with
  | none => simp at h
  | some i => simp at h; exact ⟨i, rfl, h⟩
/-- the text with so many zeros behind it -/
def pz (m : List UInt8) (k : Nat) : List UInt8 := m ++ [128] ++ List.replicate k 0
theorem pz_length (m : List UInt8) (k : Nat) : (pz m k).length = m.length + 1 + k := by simp [pz]; omega
theorem pz_succ (m : List UInt8) (k : Nat) : M.bs (pz m k) ++ (⟨#[0]⟩ : ByteArray) = M.bs (pz m (k + 1)) := by
  apply ByteArray.ext
  simp [pz, M.bs, List.replicate_succ']
theorem pz_zero (m : List UInt8) : M.bs m ++ (⟨#[128]⟩ : ByteArray) = M.bs (pz m 0) := by
  apply ByteArray.ext
  simp [pz, M.bs]
theorem pz_pad (m : List UInt8) : M.bs (pz m (S.zeros m.length)) ++ M.bs (S.be8 (8 * m.length)) = M.bs (S.pad m) := by
  apply ByteArray.ext
  simp [pz, M.bs, S.pad]
theorem be8_at (n k : Nat) (h : k < 8) : (S.be8 n).take (k + 1) = (S.be8 n).take k ++ [UInt8.ofNat (n / 256 ^ (7 - k))] := by
  rw [List.take_add_one]
  simp [S.be8, h]
/-- the first k of the eight bytes that end the text, as cells -/
def bV (m : List UInt8) (k : Nat) : List Value := ((S.be8 (8 * m.length)).take k).map vb
theorem bV_succ (m : List UInt8) (k : Nat) (h : k < 8) : bV m (k + 1) = bV m k ++ [vb (UInt8.ofNat (8 * m.length / 256 ^ (7 - k)))] := by
  unfold bV; rw [be8_at _ _ h, List.map_append]; rfl
theorem shr8 (n j : Nat) : ((n : Int) / 2 ^ (8 * j)) % 256 = ((UInt8.ofNat (n / 256 ^ j)).toNat : Int) := by
  rw [UInt8.toNat_ofNat']
  have e : (2 : Int) ^ (8 * j) = ((256 ^ j : Nat) : Int) := by
    rw [Int.pow_mul]; simp
  rw [e]
  simp
theorem extract64_bs (l : List UInt8) (i n : Nat) : (M.bs l).extract i (i + n) = M.bs ((l.drop i).take n) := by
  rw [Lib.extract_eq]; simp [M.bs]

set_option maxRecDepth 8000 in
set_option maxHeartbeats 8000000 in
theorem rOf (m : List UInt8) (hm : m.length ≤ 1048576) (w : World) :
    Calls Tryd.prog 31 #[.string (M.bs m)] w fun e w' => e = .returned (.agg (dg (S.sha m))) ∧ Below w.heap.size w w' := by
  have hz := zero59
  have hms := M.bs_size m
  have hp0 := pz_zero m
  have hz0 : S.zeros m.length < 64 := by unfold S.zeros; omega
  have HZ0 : Hid (S.zeros m.length = (119 - m.length % 64) % 64) := rfl
  go_enter Tryd.func31, Tryd.ntmps31
  go_wp2_with fail
  clear hp0 hms
  have HB1 : Hid (Below w.heap.size w (w.alloc (.cells zero32 23))) := (Below.refl _ w).alloc (Nat.le_refl _) _
  have HN1 : Hid ((w.alloc (.cells zero32 23)).heap[w.heap.size]? = some (.cells zero32 23 (0, 0))) := heap_alloc_new _ _
  have H10 : Hid ((w.alloc (.cells zero32 23)).heap.size = w.heap.size + 1) := by show _ = _; simp
  generalize w.alloc (.cells zero32 23) = W1 at *
  obtain ⟨n, hn⟩ : ∃ n, n = w.heap.size := ⟨_, rfl⟩
  rw [← hn] at HB1 HN1 H10 ⊢
  have HNW : Hid (w.heap.size = n) := hn.symm
  clear hn
  go_loop [0] (fun u0 => ∃ k : Nat, k ≤ S.zeros m.length ∧ u0 = .string (M.bs (pz m k))) (fun u0 => S.zeros m.length + m.length + 2 - strLen u0)
  case atStart => exact ⟨0, Nat.zero_le _, rfl⟩
  case round =>
    obtain ⟨k, hk, rfl⟩ := hrel
    have hs := M.bs_size (pz m k)
    rw [pz_length] at hs
    by_cases hlt : k < S.zeros m.length
    · have hsu := pz_succ m k
      have hs2 := M.bs_size (pz m (k + 1))
      rw [pz_length] at hs2
      have hne : (((m.length : Int) + 1 + (k : Int)) % 64 != 56) = true := by
        have := HZ0.out
        simp; omega
      go_wp2_with fail
      all_goals exact ⟨⟨k + 1, by omega, rfl⟩, by simp [strLen, M.bs_size, pz_length]; omega⟩
    · have hkz : k = S.zeros m.length := by omega
      have hne : (((m.length : Int) + 1 + (k : Int)) % 64 != 56) = false := by
        have := HZ0.out
        simp; omega
      have HP : Hid (M.bs (pz m k) ++ M.bs (S.be8 (8 * m.length)) = M.bs (S.pad m)) := by rw [hkz]; exact pz_pad m
      clear hkz HZ0
      go_wp2_with fail
      have HO1 : Hid ((W1.alloc (.cells #[] 5)).ownsRow (n + 1) 5 1 (.slice (some ⟨W1.heap.size, 0, none⟩) 0 0) 0 (bV m 0)) := by
        have := World.ownsRow_made (base := n + 1) (e := 5) (size := 1) W1 #[] 0 (by rw [H10.out]; omega) (by simp [maxLen]) rfl
        exact this
      have HB2 : Hid (Below (n + 1) W1 (W1.alloc (.cells #[] 5))) := (Below.refl _ _).alloc (by rw [H10.out]; omega) _
      have h1n : W1.heap.size = n + 1 := H10.out
      rw [h1n] at HO1
      rw [h1n]
      generalize W1.alloc (.cells #[] 5) = W2 at *
      generalize hPZ : M.bs (pz m k) = PZ at *
      have H1N : Hid (W1.heap.size = n + 1) := h1n
      clear hPZ hne hs hlt hk h1n
      go_loopw [4, 5] (fun u4 u5 wr => ∃ k : Nat, k ≤ 8 ∧ u5 = .int .i64 ((7 : Int) - k) ∧ wr.ownsRow (n + 1) 5 1 u4 k (bV m k) ∧ Below (n + 1) W1 wr) (fun _ u5 _ => ((intOf u5) + 1).toNat)
      case atStart => exact ⟨0, by omega, rfl, HO1.out, HB2.out⟩
      case round =>
        clear HO1 HB2
        obtain ⟨k, hk, rfl, hown, hbe⟩ := hrel
        have HOW : Hid (wr.ownsRow (n + 1) 5 1 u4 k (bV m k)) := hown
        have HBE : Hid (Below (n + 1) W1 wr) := hbe
        have hsz : n + 1 ≤ wr.heap.size := by have := hbe.size; have := H1N.out; omega
        clear hown hbe
        by_cases hlt : k < 8
        · obtain ⟨j, hj⟩ : ∃ j, j = 7 - k := ⟨_, rfl⟩
          have hjI : (7 : Int) - (k : Int) = (j : Int) := by omega
          rw [hjI]
          obtain ⟨y, hy⟩ : ∃ y, y = UInt8.ofNat (8 * m.length / 256 ^ j) := ⟨_, rfl⟩
          have HTS : Hid (bV m (k + 1) = bV m k ++ [vb y]) := by
            show _ = _
            rw [bV_succ _ _ hlt, hy, hj]
          have hv : (8 * (m.length : Int)) / 2 ^ (8 * j) % 256 = (y.toNat : Int) := by
            have := shr8 (8 * m.length) j
            rw [hy, ← this]
            simp
          have hj7 : j ≤ 7 := by omega
          have h8j : ((8 : Int) * (j : Int)).toNat = 8 * j := by omega
          have HJ : Hid (j + k = 7) := by show _ = _; omega
          clear hj hy hjI
          obtain ⟨i0, hi, hz0', hz1, hz2⟩ := info_partsX (show (Tryd.prog.info? 5).map (fun i => (i.zero, i.size, i.bytes)) = some (some (.int .u8 0), 1, 1) by kernel_rfl)
          have NEWS : Hid (∀ q u, [vb y][q]? = some u → (wr.alloc (.cells #[vb y] 5)).cell? ((⟨wr.heap.size, 0, none⟩ : Addr).add q) = some u) := World.news_of_block (cs := #[vb y]) (heap_alloc_new wr _)
          have OWN : Hid ((wr.alloc (.cells #[vb y] 5)).ownsRow (n + 1) 5 1 u4 k (bV m k)) := World.ownsRow.alloc (w := wr) HOW.out _
          have HLT : Hid (∀ q, u4.ownBlock = some q → n + 1 ≤ q) := fun q hq => (HOW.out.lt q hq).1
          have hb1 : Hid (Below (n + 1) W1 (wr.alloc (.cells #[vb y] 5))) := HBE.out.alloc hsz _
          go_wp2_with (at_builtin; refine wpList_append_lies _ rfl _ _ 45 rfl (n + 1) 5 i0 (.int .u8 0) 1 1 Tryd.underlying45 hi hz0' hz1 hz2 rfl (by decide) _ k _ rfl OWN.out ⟨wr.heap.size, 0, none⟩ 1 1 [vb y] rfl rfl NEWS.out (fun u hu => by simp at hu; subst hu; rfl) (by decide) (by unfold maxLen; omega) (by omega) (by simp; omega) (wr.heap.size + 1) (by simp) ?_)
          intro g cap' w9 hown9 hgrow9 hat9 hlt9
          have HO9 : Hid (w9.ownsRow (n + 1) 5 1 (.slice (some ⟨g, 0, none⟩) (k + 1) cap') (k + 1) (bV m (k + 1))) := by rw [HTS.out]; exact hown9
          have HB9 : Hid (Below (n + 1) W1 w9) := hb1.out.grown hgrow9 (by simp; omega) (fun q hq => HLT.out q hq)
          clear hown9 hgrow9 hat9 hb1 hv
          go_wp2_with fail
          go_roundw
          case rel =>
            exact ⟨k + 1, by omega, by rw [show ((j : Int) - 1) = 7 - ((k + 1 : Nat) : Int) by have := HJ.out; omega], HO9.out, HB9.out⟩
          case measure => first | (simp [intOf]; omega) | simp [intOf]
        · have hk8 : k = 8 := by omega
          subst hk8
          have hcv : ∃ g cap, u4 = .slice (some ⟨g, 0, none⟩) 8 cap ∧ (convert 45 9 u4).run Tryd.prog wr = .ok (.string (M.bs (S.be8 (8 * m.length)))) wr := by
            obtain ⟨h0, ⟨_, h2⟩ | ⟨g, cap, cur, h1, h2, h3, h4, h5, h6, h7⟩⟩ := HOW.out
            · omega
            · refine ⟨g, cap, h1, ?_⟩
              rw [h1]
              have hl := S.be8_length (8 * m.length)
              have hfull : ((S.be8 (8 * m.length)).take 8).map vb = (S.be8 (8 * m.length)).map vb := by rw [List.take_of_length_le (by omega)]
              have := run_convert_bytes_back (P := Tryd.prog) wr 45 9 5 ⟨g, 0, none⟩ cap (S.be8 (8 * m.length)) Tryd.underlying45 Tryd.underlying5 Tryd.underlying9 (fun j hj => by
                rw [Addr.add_mid, Nat.zero_add, Lib.cell_of_heap h3]
                have h8 : (cur.toList.take (8 * 1))[j]? = (((S.be8 (8 * m.length)).take 8).map vb)[j]? := by rw [h7]; rfl
                rw [List.getElem?_take_of_lt (by omega), hfull, List.getElem?_map, List.getElem?_eq_getElem hj] at h8
                rw [Array.getElem?_toList] at h8
                simpa [vb] using h8)
              rw [hl] at this
              exact this
          obtain ⟨g, cap, rfl, hcv⟩ := hcv
          have hap := HP.out
          have hpl := S.pad_length m
          have HPM : Hid ((S.pad m).length % 64 = 0) := S.pad_mod m
          have hps := M.bs_size (S.pad m)
          have hbs := M.bs_size (S.be8 (8 * m.length))
          rw [S.be8_length] at hbs
          have HSHA : Hid (S.sha m = S.digB (S.stN (S.pad m) ((S.pad m).length / 64))) := rfl
          have hPZs : PZ.size ≤ 2000000 := by
            have := congrArg ByteArray.size hap
            rw [ByteArray.size_append, hps, hpl] at this
            omega
          have hpl2 : (S.pad m).length ≤ 2000000 := by omega
          clear HOW hpl
          have CK : Hid (∀ W, Calls Tryd.prog 46 #[] W fun e w' => e = .returned (.agg kArr) ∧ Below W.heap.size W w') := rconsts
          have hks := kArr_size
          have hk1 := kArr_one
          have hzs := zero64_size
          have hi8 := stA_size S.init
          have hz8 : zero8.size = 8 := rfl
          have hio := stA_one S.init
          have hiv : (#[vw 0x6a09e667, vw 0xbb67ae85, vw 0x3c6ef372, vw 0xa54ff53a, vw 0x510e527f, vw 0x9b05688c, vw 0x1f83d9ab, vw 0x5be0cd19] : Array Value) = stA S.init := rfl
          go_wp2_with (first
            | (refine wpList_store_row rfl 83 _ _ rfl _ (stA S.init) rfl (by kernel_rfl) 83 zero8 (heap_alloc_new _ _) (by rw [hi8]; exact info59) rfl hio ?_; rw [World.setRow_alloc_new])
            | (go_at_call 46; refine (CK.out _).mono ?_; clear CK; rintro e w3 ⟨rfl, HB3⟩)
            | (refine wpList_store_row rfl 84 _ _ rfl _ kArr rfl rfl 84 zero64 (heap_alloc_new _ _) (by rw [hks]; exact info47) (by rw [hzs, hks]) hk1 ?_; rw [World.setRow_alloc_new]))
          have hwz : n + 1 ≤ wr.heap.size := hsz
          obtain ⟨q6, hq6⟩ : ∃ q6, q6 = wr.heap.size := ⟨_, rfl⟩
          obtain ⟨q7, hq7⟩ : ∃ q7, q7 = w3.heap.size := ⟨_, rfl⟩
          have hq67 : q6 < q7 := by have := HB3.size; rw [hq6, hq7]; simp at this; omega
          have HR6 : Hid ((w3.alloc (.cells kArr 84)).heap[q6]? = some (.cells (stA S.init) 83 (0, 0))) := by
            show _ = _
            rw [Below.heap_alloc _ _ _ (by omega), HB3.block q6 (by simp; omega), hq6]; exact heap_alloc_new _ _
          have HR7 : Hid ((w3.alloc (.cells kArr 84)).heap[q7]? = some (.cells kArr 84 (0, 0))) := by rw [hq7]; exact heap_alloc_new _ _
          have HBA : Hid (Below (n + 1) W1 (w3.alloc (.cells kArr 84))) := by
            have h1 : Below (n + 1) W1 (wr.alloc (.cells (stA S.init) 83)) := HBE.out.alloc hsz _
            have h2 : Below (n + 1) W1 w3 := h1.trans (HB3.mono (by simp; omega))
            exact h2.alloc (by omega) _
          have hq6n : n + 1 ≤ q6 := by omega
          rw [← hq6, ← hq7]
          generalize w3.alloc (.cells kArr 84) = WA at *
          have HSS : Hid (stA S.init = stA (S.stN (S.pad m) 0)) := rfl
          rw [HSS.out] at HR6
          clear HB3 hcv hap hbs hq6 hq7 hPZs HBE hwz hi8 hio hz8 h
          have CBK : Hid (∀ (s : S.St) (blk : List UInt8) (W : World), blk.length = 64 → Calls Tryd.prog 47 #[.agg (stA s), .agg kArr, .string (M.bs blk)] W fun e w' => e = .returned (.agg (stA (S.mix s blk))) ∧ Below W.heap.size W w') := fun s blk W h => rblock s blk h W
          have HEX : Hid (∀ x, (M.bs (S.pad m)).extract x (x + 64) = M.bs (((S.pad m).drop x).take 64)) := fun x => extract64_bs _ _ _
          generalize ((((((((zero8.setIfInBounds 0 (Value.int IntKind.u32 1779033703)).setIfInBounds 1 (Value.int IntKind.u32 3144134277)).setIfInBounds 2 (Value.int IntKind.u32 1013904242)).setIfInBounds 3 (Value.int IntKind.u32 2773480762)).setIfInBounds 4 (Value.int IntKind.u32 1359893119)).setIfInBounds 5 (Value.int IntKind.u32 2600822924)).setIfInBounds 6 (Value.int IntKind.u32 528734635)).setIfInBounds 7 (Value.int IntKind.u32 1541459225)) = Z39
          have hkl : kArr = (S.kList.map vw).toArray := rfl
          have hkn : (S.kList.map vw).length = 64 := by decide +kernel
          rw [hkl] at HR7 CBK hks hk1 ⊢
          clear hkl
          generalize S.kList.map vw = KA at *
          generalize M.bs (S.pad m) = PB at *
          go_loopw [8] (fun u8 wr => ∃ k : Nat, 64 * k ≤ (S.pad m).length ∧ u8 = .int .i64 ((64 * k : Nat) : Int) ∧ wr.heap[q6]? = some (.cells (stA (S.stN (S.pad m) k)) 83 (0, 0)) ∧ wr.heap[q7]? = some (.cells KA.toArray 84 (0, 0)) ∧ Below (n + 1) W1 wr) (fun u8 _ => (S.pad m).length + 64 - (intOf u8).toNat)
          case atStart => exact ⟨0, by omega, rfl, HR6.out, HR7.out, HBA.out⟩
          case round =>
            clear HR6 HR7 HBA
            obtain ⟨k, hk, rfl, h6, h7, hB⟩ := hrel
            have H6 : Hid (wr.heap[q6]? = some (.cells (stA (S.stN (S.pad m) k)) 83 (0, 0))) := h6
            have H7 : Hid (wr.heap[q7]? = some (.cells KA.toArray 84 (0, 0))) := h7
            have HB : Hid (Below (n + 1) W1 wr) := hB
            have hq7l : q7 < wr.heap.size := by
              rcases Nat.lt_or_ge q7 wr.heap.size with h | h
              · exact h
              · rw [Array.getElem?_eq_none h] at h7; simp at h7
            clear h6 h7 hB
            by_cases hlt : 64 * k < (S.pad m).length
            · have hk64 : 64 * k + 64 ≤ (S.pad m).length := by have := HPM.out; omega
              obtain ⟨blk, hblk⟩ : ∃ blk, blk = ((S.pad m).drop (64 * k)).take 64 := ⟨_, rfl⟩
              have hbl : blk.length = 64 := by rw [hblk]; simp; omega
              have hex : PB.extract (64 * k) (64 * k + 64) = M.bs blk := by rw [HEX.out, hblk]
              have HST : Hid (S.stN (S.pad m) (k + 1) = S.mix (S.stN (S.pad m) k) blk) := by rw [hblk]; rfl
              obtain ⟨s6, hs6⟩ : ∃ s6, s6 = S.stN (S.pad m) k := ⟨_, rfl⟩
              rw [← hs6] at H6 HST
              obtain ⟨r6, hr6⟩ : ∃ r6, r6 = S.mix s6 blk := ⟨_, rfl⟩
              have CB : Hid (∀ W, Calls Tryd.prog 47 #[.agg (stA s6), .agg KA.toArray, .string (M.bs blk)] W fun e w' => e = .returned (.agg (stA r6)) ∧ Below W.heap.size W w') := fun W => by rw [hr6]; exact CBK.out s6 blk W hbl
              rw [← hr6] at HST
              have i0 : (0 : Int) ≤ ((64 * k : Nat) : Int) := by omega
              have i1 : ((64 * k : Nat) : Int) < ((S.pad m).length : Int) := by omega
              have i2 : ((64 * k : Nat) : Int) + 64 ≤ ((S.pad m).length : Int) := by omega
              have e1 : IntKind.i64.wrap (((64 * k : Nat) : Int) + 64) = ((64 * k : Nat) : Int) + 64 := wrap_i64_of (by omega) (by omega)
              have e2 : (((64 * k : Nat) : Int) + 64).toNat = 64 * k + 64 := by omega
              obtain ⟨x, hx⟩ : ∃ x, x = 64 * k := ⟨_, rfl⟩
              have HX : Hid (x = 64 * k) := hx
              rw [← hx] at hex i0 i1 i2 e1 e2 ⊢
              have i3 : (x : Int) ≤ (x : Int) + 64 := by omega
              have hs8 := stA_size s6
              have hr8 := stA_size r6
              have hr1 := stA_one r6
              clear hblk hr6 hs6 hx hlt hk64 hbl
              have HRS : Hid (stA (S.stN (S.pad m) (k + 1)) = stA r6) := by show _ = _; rw [HST.out]
              generalize stA s6 = SA at *
              generalize stA r6 = RA at *
              generalize M.bs blk = BB at *
              clear CBK HEX HST s6 r6 blk
              go_wp2_with fail
              refine wp_region_any (by kernel_rfl) ?_
              (try (change wpAny _ _ _ _ _ _ _ (World.drew _)))
              refine wpAny_take (i := 2) (v := .string PB) rfl (by kernel_rfl) (by kernel_rfl) (by kernel_rfl) (fun _ _ _ h => h) (Or.inl ⟨by rfl, fun w => by go_simp⟩) ?_
              (try simp only [Act.put, List.setIfInBounds_toArray, List.set_cons_zero, List.set_cons_succ, List.getElem_toArray, List.getElem_cons_succ, List.getElem_cons_zero])
              refine wpAny_take (i := 3) (v := .int .i64 (x : Int)) rfl (by kernel_rfl) (by kernel_rfl) (by kernel_rfl) (fun _ _ _ h => h) (Or.inl ⟨by rfl, fun w => by go_simp⟩) ?_
              (try simp only [Act.put, List.setIfInBounds_toArray, List.set_cons_zero, List.set_cons_succ, List.getElem_toArray, List.getElem_cons_succ, List.getElem_cons_zero])
              refine wpAny_take (i := 4) (v := .int .i64 (x : Int)) rfl (by kernel_rfl) (by kernel_rfl) (by kernel_rfl) (fun _ _ _ h => h) (Or.inl ⟨by rfl, fun w => by go_simp⟩) ?_
              (try simp only [Act.put, List.setIfInBounds_toArray, List.set_cons_zero, List.set_cons_succ, List.getElem_toArray, List.getElem_cons_succ, List.getElem_cons_zero])
              refine wpAny_take (i := 5) (v := .int .i64 ((x : Int) + 64)) rfl (by kernel_rfl) (by kernel_rfl) (by kernel_rfl) (fun _ _ _ h => h) (Or.inl ⟨by rfl, fun w => by go_simp⟩) ?_
              (try simp only [Act.put, List.setIfInBounds_toArray, List.set_cons_zero, List.set_cons_succ, List.getElem_toArray, List.getElem_cons_succ, List.getElem_cons_zero])
              refine wpAny_take (i := 6) (v := .string BB) rfl (by kernel_rfl) (by kernel_rfl) (by kernel_rfl) (fun _ _ _ h => h) (Or.inl ⟨by rfl, fun w => by go_simp⟩) ?_
              (try simp only [Act.put, List.setIfInBounds_toArray, List.set_cons_zero, List.set_cons_succ, List.getElem_toArray, List.getElem_cons_succ, List.getElem_cons_zero])
              refine wpAny_ready (rs := [0, 1]) (by kernel_rfl) (by simp) ?_
              refine AllReady.cons rfl (fun K hK => ?_) (AllReady.cons rfl (fun K hK => ?_) AllReady.nil)
              · refine step_load_row rfl 83 _ rfl q6 (by rfl) 83 SA (0, 0) _ H6.out und46 rfl (by rw [hs8]; exact info59) (hK _ _ ?_)
                clear hK K
                (try simp only [Act.put, List.setIfInBounds_toArray, List.set_cons_zero, List.set_cons_succ, List.getElem_toArray, List.getElem_cons_succ, List.getElem_cons_zero])
                refine wpAny_ready (rs := [1]) (by kernel_rfl) (by simp) ?_
                refine AllReady.cons rfl (fun K hK => ?_) AllReady.nil
                refine step_load_row rfl 84 _ rfl q7 (by rfl) 84 KA.toArray (0, 0) _ H7.out und47 rfl (by rw [hks]; exact info47) (hK _ _ ?_)
                clear hK K
                (try simp only [Act.put, List.setIfInBounds_toArray, List.set_cons_zero, List.set_cons_succ, List.getElem_toArray, List.getElem_cons_succ, List.getElem_cons_zero])
                refine wpAny_ready (rs := [7]) (by kernel_rfl) (by simp) ?_
                refine AllReady.cons rfl (fun K hK => ?_) AllReady.nil
                go_simp
                go_at_call 47
                refine (CB.out _).mono ?_
                rintro e w5 ⟨rfl, HB5⟩
                dsimp only
                refine hK _ _ ?_
                clear hK K
                (try simp only [Act.put, List.setIfInBounds_toArray, List.set_cons_zero, List.set_cons_succ, List.getElem_toArray, List.getElem_cons_succ, List.getElem_cons_zero])
                have hrow : w5.heap[q6]? = some (.cells SA 83 (0, 0)) := by rw [HB5.block q6 (show q6 < wr.heap.size by omega)]; exact H6.out
                have HR7 : Hid (w5.heap[q7]? = some (.cells KA.toArray 84 (0, 0))) := by show _ = _; rw [HB5.block q7 (show q7 < wr.heap.size by omega)]; exact H7.out
                have HBB : Hid (Below (n + 1) W1 w5) := HB.out.drew.trans (HB5.mono (show n + 1 ≤ wr.heap.size by omega))
                refine wpAny_ready (rs := [8]) (by kernel_rfl) (by simp) ?_
                refine AllReady.cons rfl (fun K hK => ?_) AllReady.nil
                refine step_store_row rfl 83 _ _ rfl q6 RA (by rfl) (by rfl) 83 SA hrow (by rw [hr8]; exact info59) (by rw [hs8, hr8]) hr1 (hK _ _ ?_)
                clear hK K
                (try simp only [Act.put, List.setIfInBounds_toArray, List.set_cons_zero, List.set_cons_succ, List.getElem_toArray, List.getElem_cons_succ, List.getElem_cons_zero])
                refine wpAny_done (by kernel_rfl) ?_ _
                have HR6 : Hid ((w5.setRow q6 RA).heap[q6]? = some (.cells RA 83 (0, 0))) := setRow_heap _ _ _ _ _ _ hrow
                have HR7' : Hid ((w5.setRow q6 RA).heap[q7]? = some (.cells KA.toArray 84 (0, 0))) := by
                  show _ = _
                  rw [show (w5.setRow q6 RA).heap[q7]? = w5.heap[q7]? from by show (w5.heap.modify q6 _)[q7]? = _; rw [Array.getElem?_modify, if_neg (by omega)]]
                  exact HR7.out
                have HBC : Hid (Below (n + 1) W1 (w5.setRow q6 RA)) := below_setRow HBB.out hq6n _
                generalize w5.setRow q6 RA = W6 at *
                clear hrow HR7 HBB HB5
                go_wp2_with fail
                go_roundw
                case rel => exact ⟨k + 1, by have := HX.out; omega, by have := HX.out; congr 1; omega, by rw [HRS.out]; exact HR6.out, HR7'.out, HBC.out⟩
                case measure => have := HX.out; simp [intOf]; omega
              · refine step_load_row rfl 84 _ rfl q7 (by rfl) 84 KA.toArray (0, 0) _ H7.out und47 rfl (by rw [hks]; exact info47) (hK _ _ ?_)
                clear hK K
                (try simp only [Act.put, List.setIfInBounds_toArray, List.set_cons_zero, List.set_cons_succ, List.getElem_toArray, List.getElem_cons_succ, List.getElem_cons_zero])
                refine wpAny_ready (rs := [0]) (by kernel_rfl) (by simp) ?_
                refine AllReady.cons rfl (fun K hK => ?_) AllReady.nil
                refine step_load_row rfl 83 _ rfl q6 (by rfl) 83 SA (0, 0) _ H6.out und46 rfl (by rw [hs8]; exact info59) (hK _ _ ?_)
                clear hK K
                (try simp only [Act.put, List.setIfInBounds_toArray, List.set_cons_zero, List.set_cons_succ, List.getElem_toArray, List.getElem_cons_succ, List.getElem_cons_zero])
                refine wpAny_ready (rs := [7]) (by kernel_rfl) (by simp) ?_
                refine AllReady.cons rfl (fun K hK => ?_) AllReady.nil
                go_simp
                go_at_call 47
                refine (CB.out _).mono ?_
                rintro e w5 ⟨rfl, HB5⟩
                dsimp only
                refine hK _ _ ?_
                clear hK K
                (try simp only [Act.put, List.setIfInBounds_toArray, List.set_cons_zero, List.set_cons_succ, List.getElem_toArray, List.getElem_cons_succ, List.getElem_cons_zero])
                have hrow : w5.heap[q6]? = some (.cells SA 83 (0, 0)) := by rw [HB5.block q6 (show q6 < wr.heap.size by omega)]; exact H6.out
                have HR7 : Hid (w5.heap[q7]? = some (.cells KA.toArray 84 (0, 0))) := by show _ = _; rw [HB5.block q7 (show q7 < wr.heap.size by omega)]; exact H7.out
                have HBB : Hid (Below (n + 1) W1 w5) := HB.out.drew.trans (HB5.mono (show n + 1 ≤ wr.heap.size by omega))
                refine wpAny_ready (rs := [8]) (by kernel_rfl) (by simp) ?_
                refine AllReady.cons rfl (fun K hK => ?_) AllReady.nil
                refine step_store_row rfl 83 _ _ rfl q6 RA (by rfl) (by rfl) 83 SA hrow (by rw [hr8]; exact info59) (by rw [hs8, hr8]) hr1 (hK _ _ ?_)
                clear hK K
                (try simp only [Act.put, List.setIfInBounds_toArray, List.set_cons_zero, List.set_cons_succ, List.getElem_toArray, List.getElem_cons_succ, List.getElem_cons_zero])
                refine wpAny_done (by kernel_rfl) ?_ _
                have HR6 : Hid ((w5.setRow q6 RA).heap[q6]? = some (.cells RA 83 (0, 0))) := setRow_heap _ _ _ _ _ _ hrow
                have HR7' : Hid ((w5.setRow q6 RA).heap[q7]? = some (.cells KA.toArray 84 (0, 0))) := by
                  show _ = _
                  rw [show (w5.setRow q6 RA).heap[q7]? = w5.heap[q7]? from by show (w5.heap.modify q6 _)[q7]? = _; rw [Array.getElem?_modify, if_neg (by omega)]]
                  exact HR7.out
                have HBC : Hid (Below (n + 1) W1 (w5.setRow q6 RA)) := below_setRow HBB.out hq6n _
                generalize w5.setRow q6 RA = W6 at *
                clear hrow HR7 HBB HB5
                go_wp2_with fail
                go_roundw
                case rel => exact ⟨k + 1, by have := HX.out; omega, by have := HX.out; congr 1; omega, by rw [HRS.out]; exact HR6.out, HR7'.out, HBC.out⟩
                case measure => have := HX.out; simp [intOf]; omega
            · have hkk : (S.pad m).length / 64 = k := by have := HPM.out; omega
              have HSH : Hid (S.sha m = S.digB (S.stN (S.pad m) k)) := by have := HSHA.out; rw [hkk] at this; exact this
              generalize S.stN (S.pad m) k = s7 at *
              clear hkk HSHA CBK HEX HPM
              have hdf : ¬ ((64 * k : Nat) : Int) < ((S.pad m).length : Int) := by omega
              have hn1 : HN1.out = HN1.out := rfl
              have hRn : Hid (wr.heap[n]? = some (.cells zero32 23 (0, 0))) := by show _ = _; rw [HB.out.block n (by omega)]; exact HN1.out
              clear hn1
              have hz32 := zero32_size
              have hzo : zero32.all (·.oneCell') = true := by kernel_rfl
              go_wp2_with (refine wpList_store_row rfl 23 _ _ rfl _ zero32 rfl rfl 23 zero32 (heap_alloc_new _ _) (by rw [hz32]; exact info27) rfl hzo ?_; rw [World.setRow_alloc_new])
              obtain ⟨q9, hq9⟩ : ∃ q9, q9 = wr.heap.size := ⟨_, rfl⟩
              have HR9 : Hid ((wr.alloc (.cells zero32 23)).heap[q9]? = some (.cells zero32 23 (0, 0))) := by rw [hq9]; exact heap_alloc_new _ _
              have HAL : Below wr.heap.size wr (wr.alloc (.cells zero32 23)) := (Below.refl _ wr).alloc (Nat.le_refl _) _
              have HS7 : Hid (∀ i, i < 8 → (wr.alloc (.cells zero32 23)).cell? ⟨q6, i, none⟩ = some (vw (s7.toL.getD i 0))) := fun i hi => by
                rw [HAL.cell (p := ⟨q6, i, none⟩) (show q6 < wr.heap.size by omega), cell_of_row _ _ i (stA s7) _ _ H6.out]; exact atSt_stA s7 i hi
              have HRN : Hid ((wr.alloc (.cells zero32 23)).heap[n]? = some (.cells zero32 23 (0, 0))) := by show _ = _; rw [HAL.block n (by omega)]; exact hRn.out
              have HB7 : Hid (Below n w (wr.alloc (.cells zero32 23))) := HB1.out.trans ((HB.out.trans (HAL.mono (by omega))).mono (by omega))
              have hq69 : q6 < q9 := by omega
              have hnq9 : n < q9 := by omega
              rw [← hq9]
              generalize wr.alloc (.cells zero32 23) = W7 at *
              clear HAL hq9 hRn H6 H7 HB hq7l hdf
              go_loopw [10] (fun u10 wr => ∃ (i : Nat) (C : Array Value), i ≤ 32 ∧ u10 = .int .i64 i ∧ wr.heap[q9]? = some (.cells C 23 (0, 0)) ∧ C.size = 32 ∧ (∀ j, j < i → C[j]? = some (vb (dAt s7 j))) ∧ Below q9 W7 wr) (fun u10 _ => 32 - (intOf u10).toNat)
              case atStart => exact ⟨0, zero32, by omega, rfl, HR9.out, hz32, fun j hj => by omega, Below.refl _ _⟩
              case round =>
                clear HR9
                obtain ⟨i, C, hi, rfl, hC, hCs, hCj, hB⟩ := hrel
                have HC : Hid (wr.heap[q9]? = some (.cells C 23 (0, 0))) := hC
                have HJ : Hid (∀ j, j < i → C[j]? = some (vb (dAt s7 j))) := hCj
                have HB8 : Hid (Below q9 W7 wr) := hB
                by_cases hlt2 : i < 32
                · have hx : wr.cell? ⟨q6, i / 4, none⟩ = some (vw (s7.toL.getD (i / 4) 0)) := by rw [hB.cell (p := ⟨q6, i / 4, none⟩) hq69]; exact HS7.out (i / 4) (by omega)
                  obtain ⟨v0, hv0⟩ : ∃ v, C[i]? = some v := ⟨C[i]'(by omega), Array.getElem?_eq_getElem (by omega)⟩
                  have hc9 : wr.cell? ⟨q9, i, none⟩ = some v0 := by rw [cell_of_row _ _ i C _ _ hC]; exact hv0
                  have hf9 : wr.frozen? ⟨q9, i, none⟩ = false := by simp [World.frozen?, hC]
                  obtain ⟨e, he⟩ : ∃ e, e = 24 - 8 * (i % 4) := ⟨_, rfl⟩
                  have heI : (24 : Int) - 8 * ((i : Int) % 4) = (e : Int) := by omega
                  have HE : Hid (e = 24 - 8 * (i % 4)) := he
                  have he32 : e ≤ 32 := by omega
                  obtain ⟨x, hxe⟩ : ∃ x, x = s7.toL.getD (i / 4) 0 := ⟨_, rfl⟩
                  rw [← hxe] at hx
                  have HX : Hid (x = s7.toL.getD (i / 4) 0) := hxe
                  have i0 : (0 : Int) ≤ (i : Int) := by omega
                  have i1 : (i : Int) < 32 := by omega
                  clear hxe he hC hCj hB hv0
                  go_wp2_with fail
                  have hv : vi x / 2 ^ e % 256 = ((dAt s7 i).toNat : Int) := by
                    rw [shr_byte, HE.out, HX.out]; rfl
                  rw [hv]
                  refine ⟨⟨i + 1, C.setIfInBounds i (vb (dAt s7 i)), by omega, by go_num, heap_setCell_row HC.out, by simp [hCs], fun j hj => ?_, HB8.out.setCell (Nat.le_refl _) _⟩, by simp [intOf]; omega⟩
                  by_cases hji : j = i
                  · subst hji; rw [Array.getElem?_setIfInBounds_self_of_lt (by omega)]
                  · rw [Array.getElem?_setIfInBounds_ne (by omega)]; exact HJ.out j (by omega)
                · have hdf : ¬ (i : Int) < 32 := by omega
                  have hCd : C = dg (S.digB s7) := by
                    apply Array.ext_getElem?
                    intro j
                    by_cases hj : j < 32
                    · rw [HJ.out j (by omega)]
                      simp [dg, S.digB, hj, dAt]
                    · rw [Array.getElem?_eq_none (by omega), Array.getElem?_eq_none (by rw [dg_size, S.digB_length]; omega)]
                  have hone : C.all (·.oneCell') = true := by rw [hCd]; exact dg_one _
                  have HF : Hid (C = dg (S.digB s7)) := hCd
                  have HRN2 : Hid (wr.heap[n]? = some (.cells zero32 23 (0, 0))) := by show _ = _; rw [HB8.out.block n hnq9]; exact HRN.out
                  have HBF : Hid (Below n w wr) := HB7.out.trans (HB8.out.mono (by omega))
                  clear hCd HJ hC hCj hB HS7 hzo
                  go_wp2_with (first
                    | refine wpList_load_row rfl 23 _ rfl _ rfl 23 C (0, 0) _ HC.out und27 rfl (by rw [hCs]; exact info27) ?_
                    | refine wpList_store_row rfl 23 _ _ rfl _ C rfl rfl 23 zero32 HRN2.out (by rw [hCs]; exact info27) (by rw [hz32, hCs]) hone ?_)
                  (try simp only [Exit.inBlock, Exit.then])
                  refine bodyPost_ret (results_cell_row rfl _ _ _ 23 C (0, 0) _ rfl (setRow_heap _ _ _ _ _ _ HRN2.out) und27 rfl (by rw [hCs]; exact info27)) rfl ?_
                  have hb := below_setRow HBF.out (g := n) (Nat.le_refl _) C
                  rw [HSH.out, ← HF.out, HNW.out]
                  exact ⟨rfl, hb⟩
end Go.Proofs.YtfghjadhpajmeaaDoor
