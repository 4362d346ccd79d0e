/- The texts HgW6 HgK as one. -/
import Derived.Test.YtfbjakhanjbaeaaDoorHgW5
import Derived.Test.YtfbjakhanjbaeaaDoorHq1
import Derived.Shelf.SlSortFuncK.ComposeK
/- slices.stableCmpFunc at records: a row sorted as it stands. -/
namespace Go.Proofs.YtfbjakhanjbaeaaDoor
open Go.RowKit Go.Maps Go.Sort Go.Shelf Go.Lib
set_option linter.unusedVariables false
set_option linter.unusedSimpArgs false
set_option linter.unusedSectionVars false
variable {α : Type} [Inhabited α]

/-- where the library's names lie in this program -/
def Tryd.stS_ren : Go.Shelf.Ren := ⟨fun | 20 => 68 | n => n, fun | 22 => 22 | 24 => 48 | 25 => 75 | 3 => 3 | 0 => 0 | 4 => 4 | n => n, fun n => n⟩
theorem stS : SlLaysF0.n20 Tryd.prog Tryd.stS_ren := {
  mixed := by kernel_rfl
  f20 := ⟨ "slices.insertionSortCmpFunc[apiary/api.Record]", by decide, Tryd.func68.trans (congrArg some (by kernel_rfl))⟩
  t0 := Tryd.underlying0
  a0 := Tryd.isAgg0
  z0 := Tryd.sizeOf0
  v0 := Tryd.zeroValue0
  t3 := Tryd.underlying3
  a3 := Tryd.isAgg3
  z3 := Tryd.sizeOf3
  v3 := Tryd.zeroValue3
  t4 := Tryd.underlying4
  a4 := Tryd.isAgg4
  z4 := Tryd.sizeOf4
  v4 := Tryd.zeroValue4
  t22 := Tryd.underlying22
  a22 := Tryd.isAgg22
  z22 := Tryd.sizeOf22
  v22 := Tryd.zeroValue22
  t25 := Tryd.underlying75
  a25 := Tryd.isAgg75
  z25 := Tryd.sizeOf75
  v25 := Tryd.zeroValue75
}
/-- the insertion sort, in every world of the sort's -/
def InC (P : Program) (k g : Nat) (cb : Array Value) (enc : α → List Value) (cf : α → α → Int) (blk off cap sz : Nat) (w : World) : Prop :=
  ∀ (A X B : List α), (A ++ (X ++ B)).length = sz → ∀ (m0 : Nat) (os : Array Obj) (x y : Int), x = (A.length : Nat) → y = (A.length + X.length : Nat) →
    Calls P 68 #[.slice (some ⟨blk, off, none⟩) sz cap, .int .i64 x, .int .i64 y, .func (.func g) #[] cb] (sortWorldK enc k w blk off m0 (A ++ (X ++ B)).toArray os) fun e w' =>
      e = .returned (.tuple #[]) ∧ ∃ q os', w' = sortWorldK enc k w blk off q (A ++ (SS.iso (ltOf cf) X ++ B)).toArray os'
theorem insS_c {enc : α → List Value} (hk : ∀ x, (enc x).length = 65) (h1 : ∀ x, ∀ v ∈ enc x, v.oneCell' = true) {w : World} {blk off cap g : Nat} {cb : Array Value} {cf : α → α → Int} {d : Array α} (hH : HoldsK enc 65 w blk off d) (hblk : blk < w.heap.size) (hz : d.size ≤ 1000000)
    (eg : ∀ args w, (callFunc g args).run Tryd.prog w = .ok (.enter g args) w) (hcmp : CmpLays Tryd.prog g cb enc 65 cf blk off d.size w) (hw : SS.Wk (ltOf cf)) : InC Tryd.prog 65 g cb enc cf blk off cap d.size w := by
  intro A X B hs m0 os x y hx hy
  subst hx; subst hy
  have hl : (A ++ (X ++ B)).toArray.size = d.size := hs
  have h2 := holdsK_sortWorldK_c enc 65 w blk off d (A ++ (X ++ B)).toArray m0 os hH hblk hl
  have h3 : CmpLays Tryd.prog g cb enc 65 cf blk off (A ++ (X ++ B)).toArray.size (sortWorldK enc 65 w blk off m0 (A ++ (X ++ B)).toArray os) := fun m os' dk hdk u v => by
    rw [sortWorldK_on enc 65 w blk off m0 m _ dk os os' hblk hdk]
    exact hcmp _ _ dk (hdk.trans hl) u v
  have := AnyQ.insertionSortCmpFunc stS 65 Tryd.isAgg48 Tryd.sizeOf48 enc hk h1 cf g cb blk off cap A.length (A.length + X.length) (A ++ (X ++ B)).toArray (sortWorldK enc 65 w blk off m0 (A ++ (X ++ B)).toArray os) eg h3 h2 (Nat.lt_of_lt_of_le hblk (size_sortWorldK_c enc 65 w blk off m0 _ os)) (Nat.le_add_right _ _) (by simp <;> omega) (by rw [hl]; omega)
  rw [hl] at this
  refine Calls.mono this ?_
  rintro e w' ⟨rfl, n, os', rfl⟩
  rw [SS.insertion_list hw A X B _ _ rfl rfl]
  exact ⟨rfl, m0 + n, os ++ os', sortWorldK_on enc 65 w blk off m0 n _ _ os os' hblk (by simp [SS.iso_len])⟩

set_option maxHeartbeats 8000000 in
set_option maxRecDepth 8000 in
theorem stable_c {P : Program} {k : Nat} (L : SoP P k) {enc : α → List Value} {w : World} {blk off cap g : Nat} {cb : Array Value} {cf : α → α → Int} (hw : SS.Wk (ltOf cf)) (L0 : List α) (hz : L0.length ≤ 1000000)
    (hin : InC P k g cb enc cf blk off cap L0.length w) (hsy : ∀ N, SyC P k g cb enc cf blk off cap L0.length w N) (e68 : ∀ args w, (callFunc 68 args).run P w = .ok (.enter 68 args) w) (m0 : Nat) (os : Array Obj) :
    Calls P 64 #[.slice (some ⟨blk, off, none⟩) L0.length cap, .int .i64 L0.length, .func (.func g) #[] cb] (sortWorldK enc k w blk off m0 L0.toArray os) fun e w' =>
      e = .returned (.tuple #[]) ∧ ∃ q os', w' = sortWorldK enc k w blk off q (SS.iso (ltOf cf) L0).toArray os' := by
  have HIN : Hid (InC P k g cb enc cf blk off cap L0.length w) := hin
  have HSY : Hid (∀ N, SyC P k g cb enc cf blk off cap L0.length w N) := hsy
  have HWK := hidI hw
  obtain ⟨n, hn⟩ : ∃ n, n = L0.length := ⟨_, rfl⟩
  have HN := hidI hn
  rw [← hn] at hz ⊢
  obtain ⟨D3, hD3⟩ : ∃ D3, D3 = (SS.iso (ltOf cf) L0).toArray := ⟨_, rfl⟩
  rw [← hD3]
  have HD3 := hidI hD3
  obtain ⟨W, hW⟩ : ∃ W, W = sortWorldK enc k w blk off m0 L0.toArray os := ⟨_, rfl⟩
  rw [← hW]
  have HW : Hid (W = sortWorldK enc k w blk off m0 L0.toArray os) := hW
  have mixed := L.mixed; have t3 := L.t3; have a3 := L.a3; have z3 := L.z3; have v3 := L.v3; have t4 := L.t4; have a4 := L.a4; have z4 := L.z4; have v4 := L.v4; have t0 := L.t0; have a0 := L.a0; have z0 := L.z0; have v0 := L.v0
  have t22 := L.t22; have a22 := L.a22; have z22 := L.z22; have v22 := L.v22; have t75 := L.t75; have a75 := L.a75; have z75 := L.z75; have v75 := L.v75; have t78 := L.t78; have a78 := L.a78; have z78 := L.z78; have v78 := L.v78; have aE := L.aE; have zE := L.zE
  have u22 := run_underlying L.t22
  clear hin hsy hw hn hD3 hW
  have eg69 : ∀ args w, (callFunc 69 args).run P w = .ok (.enter 69 args) w := enters_of L.Fsy (by kernel_rfl) rfl
  go_enter L.Fst, Tryd.ntmps64
  go_wp2_with fail
  go_loopw [7, 8] (fun u v wr => ∃ (a q : Nat) (D : Array α) (os' : Array Obj), u = .int .i64 a ∧ v = .int .i64 ((a : Int) + 20) ∧ SS.I1 (ltOf cf) L0 20 a D ∧ wr = sortWorldK enc k w blk off q D os') (fun u _ _ => n - (intOf u).toNat)
  case atStart => exact ⟨0, m0, _, os, rfl, by first | rfl | go_num, SS.I1.start L0 20, HW.out⟩
  case round =>
    obtain ⟨a, q, D, os', rfl, rfl, hi, rfl⟩ := hrel
    have p1 := hi.le
    rw [← HN.out] at p1
    have HI := hidI hi
    clear hi HW
    by_cases hgo : a + 20 ≤ n
    · obtain ⟨A, X, B, rfl, hA, hX, hl, hi2⟩ := HI.out.step (by omega) (by rw [← HN.out]; exact hgo)
      have C1 := hidI (HIN.out A X B hl q os' (a : Int) ((a : Int) + 20) (by omega) (by omega))
      rw [← HN.out] at C1
      have HI2 := hidI hi2
      have hgz : (a : Int) + 20 ≤ (n : Int) := by omega
      clear hA hX hl hi2 HI
      generalize hwq : sortWorldK enc k w blk off q (A ++ (X ++ B)).toArray os' = wq at C1
      clear hwq
      go_wp2_with (first | go_skip | (go_at_fn 68; refine C1.out.mono ?_; rintro e' w' ⟨rfl, q2, os2, rfl⟩; clear C1))
      go_roundw
      case rel => exact ⟨a + 20, q2, _, os2, by first | rfl | go_num, by first | rfl | go_num, HI2.out, rfl⟩
      case measure => simp [intOf]; omega
    · obtain ⟨A, X, rfl, hA, hX, hl, hi2⟩ := HI.out.last (by omega) (by rw [← HN.out]; omega)
      have C1 := hidI (HIN.out A X [] (by simp; omega) q os' (a : Int) (n : Int) (by omega) (by have := HN.out; omega))
      rw [← HN.out] at C1
      rw [hi2] at C1
      have hgz : ¬ ((a : Int) + 20 ≤ (n : Int)) := by omega
      clear hA hX hl hi2 HI
      generalize hwq : sortWorldK enc k w blk off q (A ++ (X ++ [])).toArray os' = wq at C1
      clear hwq
      go_wp2_with (first | go_skip | (go_at_fn 68; refine C1.out.mono ?_; rintro e' w' ⟨rfl, q2, os2, hw2⟩; clear C1))
      have HW2 := hidI hw2
      clear hw2
      go_loopw [6, 7, 8, 9] (fun u _ _ _ wr => ∃ (s q : Nat) (os' : Array Obj), u = .int .i64 s ∧ 0 < s ∧ s ≤ 2 * n + 20 ∧ wr = sortWorldK enc k w blk off q (SS.blk (ltOf cf) s L0).toArray os') (fun u _ _ _ _ => n - (intOf u).toNat)
      case atStart => exact ⟨20, q2, os2, rfl, by omega, by omega, by first | exact HW2.out | rfl⟩
      case round =>
        obtain ⟨s, q3, os3, rfl, s0, s1, rfl⟩ := hrel
        clear HW2
        by_cases hsn : s < n
        · have hsz : (s : Int) < (n : Int) := by omega
          generalize hwq : sortWorldK enc k w blk off q3 (SS.blk (ltOf cf) s L0).toArray os3 = wq
          have HWQ := hidI hwq
          clear hwq
          go_wp2_with fail
          go_loopw [7, 8] (fun u v wr => ∃ (a q : Nat) (D : Array α) (os' : Array Obj), u = .int .i64 a ∧ v = .int .i64 ((a : Int) + 2 * (s : Int)) ∧ SS.I2 (ltOf cf) L0 s a D ∧ wr = sortWorldK enc k w blk off q D os') (fun u _ _ => n - (intOf u).toNat)
          case atStart => exact ⟨0, q3, _, os3, rfl, by first | rfl | go_num, SS.I2.start L0 s, HWQ.out.symm⟩
          case round =>
            obtain ⟨a, q4, D, os4, rfl, rfl, hi, rfl⟩ := hrel
            have p1 := hi.le
            rw [← HN.out] at p1
            have HI := hidI hi
            clear hi HWQ
            by_cases hgo : a + 2 * s ≤ n
            · obtain ⟨A, X, Y, B, rfl, hA, hX, hY, hl, sX, sY, hi2⟩ := HI.out.step HWK.out s0 (by rw [← HN.out]; exact hgo)
              have C1 := hidI (HSY.out (X.length + Y.length + 1) A X Y B hl (fun h => by have := List.length_eq_zero_iff.2 h; omega) (fun h => by have := List.length_eq_zero_iff.2 h; omega) sX sY (by omega) q4 os4 (a : Int) ((a : Int) + (s : Int)) ((a : Int) + 2 * (s : Int)) (by omega) (by omega) (by omega))
              rw [← HN.out] at C1
              have HI2 := hidI hi2
              have hgz : (a : Int) + 2 * (s : Int) ≤ (n : Int) := by omega
              clear hA hX hY hl sX sY hi2 HI
              generalize hwq : sortWorldK enc k w blk off q4 (A ++ (X ++ (Y ++ B))).toArray os4 = wq4 at C1
              clear hwq
              go_wp2_with (first | go_skip | (go_at_fn 69; refine C1.out.mono ?_; rintro e' w' ⟨rfl, q5, os5, rfl⟩; clear C1))
              go_roundw
              case rel => exact ⟨a + 2 * s, q5, _, os5, by first | rfl | go_num, by first | rfl | go_num, HI2.out, rfl⟩
              case measure => simp [intOf]; omega
            · have hgz : ¬ ((a : Int) + 2 * (s : Int) ≤ (n : Int)) := by omega
              by_cases hl2 : a + s < n
              · obtain ⟨A, X, Y, rfl, hA, hX, hl, sX, sY, hi2⟩ := HI.out.last HWK.out s0 (by rw [← HN.out]; exact hl2) (by rw [← HN.out]; omega)
                have C1 := hidI (HSY.out (X.length + Y.length + 1) A X Y [] (by simp; omega) (fun h => by have := List.length_eq_zero_iff.2 h; omega) (fun h => by have := List.length_eq_zero_iff.2 h; have := HN.out; omega) sX sY (by omega) q4 os4 (a : Int) ((a : Int) + (s : Int)) (n : Int) (by omega) (by omega) (by have := HN.out; omega))
                rw [← HN.out] at C1
                rw [hi2] at C1
                have hlz : (a : Int) + (s : Int) < (n : Int) := by omega
                clear hA hX hl sX sY hi2 HI
                generalize hwq : sortWorldK enc k w blk off q4 (A ++ (X ++ (Y ++ []))).toArray os4 = wq4 at C1
                clear hwq
                go_wp2_with (first | go_skip | (go_at_fn 69; refine C1.out.mono ?_; rintro e' w' ⟨rfl, q5, os5, rfl⟩; clear C1))
                go_roundw
                case rel => exact ⟨2 * s, q5, os5, by first | rfl | go_num, by omega, by omega, rfl⟩
                case measure => simp [intOf]; omega
              · have hlz : ¬ ((a : Int) + (s : Int) < (n : Int)) := by omega
                have HE := hidI (HI.out.end' s0 (by rw [← HN.out]; omega))
                clear HI
                generalize hwq : sortWorldK enc k w blk off q4 D os4 = wq4
                have HWQ := hidI hwq
                clear hwq
                go_wp2_with fail
                go_roundw
                case rel => exact ⟨2 * s, q4, os4, by first | rfl | go_num, by omega, by omega, by rw [← HE.out]; exact HWQ.out.symm⟩
                case measure => simp [intOf]; omega
        · have hsz : ¬ ((s : Int) < (n : Int)) := by omega
          have HE := hidI (SS.blk_one (lt := ltOf cf) s0 (L := L0) (by rw [← HN.out]; omega))
          generalize hwq : sortWorldK enc k w blk off q3 (SS.blk (ltOf cf) s L0).toArray os3 = wq
          have HWQ := hidI hwq
          clear hwq
          go_wp2_with fail
          first | refine bodyPost_end (results_none rfl _ _ _) rfl ?_ | refine bodyPost_ret (results_none rfl _ _ _) rfl ?_
          exact ⟨rfl, q3, os3, by rw [HD3.out, ← HE.out]; exact HWQ.out.symm⟩
end Go.Proofs.YtfbjakhanjbaeaaDoor

/- slices.CompactFunc at records: of equals beside each other the first one stays. -/
namespace Go.Proofs.YtfbjakhanjbaeaaDoor
open Go.RowKit Go.Maps Go.Sort Go.Shelf Go.Lib
set_option linter.unusedVariables false
set_option linter.unusedSimpArgs false
set_option linter.unusedSectionVars false
variable {α : Type} [Inhabited α]

theorem setMany_set (enc : α → List Value) (k : Nat) (hk : ∀ x, (enc x).length = k) (d : Array α) (i : Nat) (hi : i < d.size) (x : α) : setMany (flatK enc k d) (i * k) (enc x) = flatK enc k (d.setIfInBounds i x) := by
  refine ext_get! (by simp) fun t ht => ?_
  have ht' : t < d.size * k := by simpa using ht
  have k0 : 0 < k := by
    rcases Nat.eq_zero_or_pos k with h | h
    · subst h; simp at ht'
    · exact h
  rw [get_setMany _ _ _ t (by simpa using ht'), get_flatK _ _ _ t ht', get_flatK _ _ _ t (by simpa using ht'), hk]
  by_cases a : t / k = i
  · rw [if_pos ((blk_iff k i t k0).2 a), a, getElem!_set_same d i x hi, show t - i * k = t % k by subst a; rw [Nat.mod_eq_sub_div_mul]]
  · rw [if_neg (fun h => a ((blk_iff k i t k0).1 h)), getElem!_set_other d i (t / k) x a]
theorem sw_set {P : Program} {enc : α → List Value} {k : Nat} (hk : ∀ x, (enc x).length = k) (h1 : ∀ x, ∀ v ∈ enc x, v.oneCell' = true) {w : World} {blk off : Nat} {d dk : Array α} (hH : HoldsK enc k w blk off d) (hblk : blk < w.heap.size) (hs : dk.size = d.size) (m : Nat) (os : Array Obj) {i : Nat} (hi : i < dk.size) (x : α) :
    Sem.run P (storeCells ⟨blk, off + i * k, none⟩ (enc x) 0) (sortWorldK enc k w blk off m dk os) = .ok () (sortWorldK enc k w blk off m (dk.setIfInBounds i x) os) := by
  have hHd := holdsK_sortWorldK_c enc k w blk off d dk m os hH hblk hs
  have hb : i * k + k ≤ dk.size * k := by
    have := Nat.mul_le_mul_right k (show i + 1 ≤ dk.size from hi); rwa [Nat.add_mul, Nat.one_mul] at this
  have s1 : Sem.run P (storeCells ⟨blk, off + i * k, none⟩ (enc x) 0) (sortWorldK enc k w blk off m dk os) = .ok () ((sortWorldK enc k w blk off m dk os).setCells blk (off + i * k) (enc x)) := stores_of_holds P hHd (i * k) _ (by rw [hk, size_flatK]; exact hb) (h1 _)
  rw [s1]
  congr 1
  unfold sortWorldK
  rw [setCells_grow os blk _ _ _ (by rw [size_putRowK]; exact hblk)]
  congr 1
  unfold putRowK
  rw [setCells_putRow _ _ _ _ _ _ (by rw [hk, size_flatK]; exact hb), setMany_set enc k hk dk i hi x]
theorem ar_get {l : List α} {i : Nat} {x : α} (h : l[i]? = some x) : l.toArray[i]! = x := by
  have := (List.getElem?_eq_some_iff.1 h)
  obtain ⟨h1, h2⟩ := this
  rw [getElem!_pos _ _ (by simpa using h1)]; simpa using h2

/-- what the compaction asks of the comparison -/
def EqLays (P : Program) (g : Nat) (cb : Array Value) (enc : α → List Value) (k : Nat) (eq : α → α → Bool) (blk off size : Nat) (w : World) : Prop :=
  ∀ (m : Nat) (os : Array Obj) (dk : Array α), dk.size = size → ∀ x y : α,
    Calls P g (#[.agg (enc x).toArray, .agg (enc y).toArray] ++ cb) (sortWorldK enc k w blk off m dk os) fun e w' => e = .returned (.bool (eq x y)) ∧ ∃ q os', w' = grow ((sortWorldK enc k w blk off m dk os).drewN q) os'
structure KoP (P : Program) (k : Nat) : Prop where
  mixed : P.follows .mixedOrders = true
  F : P.funcs[53]? = some Tryd.f53
  t3 : P.underlying 3 = some (.int .i64)
  a3 : ∀ w, (isAgg 3).run P w = .ok false w
  z3 : ∀ w, (Go.sizeOf 3).run P w = .ok 1 w
  v3 : ∀ w, (zeroValue 3).run P w = .ok (.int .i64 0) w
  t4 : P.underlying 4 = some .bool
  a4 : ∀ w, (isAgg 4).run P w = .ok false w
  z4 : ∀ w, (Go.sizeOf 4).run P w = .ok 1 w
  v4 : ∀ w, (zeroValue 4).run P w = .ok (.bool false) w
  t22 : P.underlying 22 = some (.slice 48)
  a22 : ∀ w, (isAgg 22).run P w = .ok false w
  z22 : ∀ w, (Go.sizeOf 22).run P w = .ok 1 w
  v22 : ∀ w, (zeroValue 22).run P w = .ok (.slice none 0 0) w
  t75 : P.underlying 77 = some (.func #[48, 48] #[4] false)
  a75 : ∀ w, (isAgg 77).run P w = .ok false w
  z75 : ∀ w, (Go.sizeOf 77).run P w = .ok 1 w
  v75 : ∀ w, (zeroValue 77).run P w = .ok .nilFunc w
  aE : ∀ w, (isAgg 48).run P w = .ok true w
  zE : ∀ w, (Go.sizeOf 48).run P w = .ok k w
theorem koP : KoP Tryd.prog 65 where
  mixed := by kernel_rfl
  F := Tryd.func53
  t3 := Tryd.underlying3
  a3 := Tryd.isAgg3
  z3 := Tryd.sizeOf3
  v3 := Tryd.zeroValue3
  t4 := Tryd.underlying4
  a4 := Tryd.isAgg4
  z4 := Tryd.sizeOf4
  v4 := Tryd.zeroValue4
  t22 := Tryd.underlying22
  a22 := Tryd.isAgg22
  z22 := Tryd.sizeOf22
  v22 := Tryd.zeroValue22
  t75 := Tryd.underlying77
  a75 := Tryd.isAgg77
  z75 := Tryd.sizeOf77
  v75 := Tryd.zeroValue77
  aE := Tryd.isAgg48
  zE := Tryd.sizeOf48
/-- what the region of a comparison needs of memory -/
structure ER (P : Program) (g : Nat) (cb : Array Value) (enc : α → List Value) (k : Nat) (eq : α → α → Bool) (blk off : Nat) (W : World) (x y : Nat) (X Y : α) : Prop where
  lx : ∀ n' os', Sem.run P (loadCellsFrom ⟨blk, off + x * k, none⟩ 0 k #[]) (grow (W.drewN n') os') = .ok (enc X).toArray (grow (W.drewN n') os')
  ly : ∀ n' os', Sem.run P (loadCellsFrom ⟨blk, off + y * k, none⟩ 0 k #[]) (grow (W.drewN n') os') = .ok (enc Y).toArray (grow (W.drewN n') os')
  cm : ∀ n' os', Calls P g (#[.agg (enc X).toArray, .agg (enc Y).toArray] ++ cb) (grow (W.drewN n') os') fun e w' => e = .returned (.bool (eq X Y)) ∧ ∃ q os'', w' = grow ((grow (W.drewN n') os').drewN q) os''
theorem er_of {P : Program} {g : Nat} {cb : Array Value} {enc : α → List Value} {k : Nat} {eq : α → α → Bool} (hk : ∀ x, (enc x).length = k) {w : World} {blk off : Nat} {d D : Array α} (hH : HoldsK enc k w blk off d) (hblk : blk < w.heap.size) (hs : D.size = d.size)
    (hcmp : EqLays P g cb enc k eq blk off d.size w) (m : Nat) (os : Array Obj) {x y : Nat} {X Y : α} (hx : x < d.size) (hy : y < d.size) (eX : D[x]! = X) (eY : D[y]! = Y) : ER P g cb enc k eq blk off (sortWorldK enc k w blk off m D os) x y X Y where
  lx := fun n' os' => by rw [sortWorldK_grown_c, ← eX]; exact sw_loads hk hH hblk hs _ _ P (by omega)
  ly := fun n' os' => by rw [sortWorldK_grown_c, ← eY]; exact sw_loads hk hH hblk hs _ _ P (by omega)
  cm := fun n' os' => by rw [sortWorldK_grown_c]; exact hcmp _ _ D hs X Y

/-- what is left of the row -/
def KoQ (eq : α → α → Bool) (L : List α) (enc : α → List Value) (k blk off cap : Nat) (w : World) (v : Value) (w' : World) : Prop :=
  ∃ (dk : List α) (q : Nat) (os : Array Obj) (vs : List Value), dk.length = L.length ∧ dk.take (SS.cpa eq L).length = SS.cpa eq L ∧ v = .slice (some ⟨blk, off, none⟩) (SS.cpa eq L).length cap ∧ w' = (sortWorldK enc k w blk off q dk.toArray os).setCells blk (off + (SS.cpa eq L).length * k) vs

set_option maxHeartbeats 8000000 in
set_option maxRecDepth 8000 in
theorem compact_c {P : Program} {k : Nat} (L : KoP P k) {enc : α → List Value} (hk : ∀ x, (enc x).length = k) (h1 : ∀ x, ∀ v ∈ enc x, v.oneCell' = true) {w : World} {blk off cap g : Nat} {cb : Array Value} {eq : α → α → Bool} {L0 : List α} (hH : HoldsK enc k w blk off L0.toArray) (hblk : blk < w.heap.size) (hz : L0.length ≤ 1000000) (h0 : 1 ≤ L0.length) (hcap : L0.length ≤ cap)
    (eg : ∀ args w, (callFunc g args).run P w = .ok (.enter g args) w) (hcmp : EqLays P g cb enc k eq blk off L0.length w)
    (hclr : ∀ (i : Nat) (dk : List α) (m : Nat) (os : Array Obj), dk.length = L0.length → i < L0.length → ∃ vs, ∀ ty, (Builtin.clear_ #[22] ty #[.slice (some ⟨blk, off + i * k, none⟩) (L0.length - i) (cap - i)]).run P (sortWorldK enc k w blk off m dk.toArray os) = .ok (.tuple #[]) ((sortWorldK enc k w blk off m dk.toArray os).setCells blk (off + i * k) vs))
    (m0 : Nat) (os : Array Obj) :
    Calls P 53 #[.slice (some ⟨blk, off, none⟩) L0.length cap, .func (.func g) #[] cb] (sortWorldK enc k w blk off m0 L0.toArray os) fun e w' =>
      ∃ v, e = .returned v ∧ KoQ eq L0 enc k blk off cap w v w' := by
  have HCR : Hid (∀ q os (d : List α) x y X Y, d.length = L0.length → d[x]? = some X → d[y]? = some Y → ER P g cb enc k eq blk off (sortWorldK enc k w blk off q d.toArray os) x y X Y) := fun q os d x y X Y hd hx hy =>
    er_of hk hH hblk (by simpa using hd) hcmp q os (by have := (List.getElem?_eq_some_iff.1 hx).1; simp; omega) (by have := (List.getElem?_eq_some_iff.1 hy).1; simp; omega) (ar_get hx) (ar_get hy)
  have HST : Hid (∀ m os (d : List α), d.length = L0.length → ∀ i x, i < L0.length → Sem.run P (storeCells ⟨blk, off + i * k, none⟩ (enc x) 0) (sortWorldK enc k w blk off m d.toArray os) = .ok () (sortWorldK enc k w blk off m (d.set i x).toArray os)) := fun m os d hd i x hi => by
    have := sw_set (P := P) hk h1 hH hblk (dk := d.toArray) (by simpa using hd) m os (i := i) (by simp; omega) x
    rw [this]; simp
  have HCLS : Hid (∀ m (D : List α) os n' os', grow ((sortWorldK enc k w blk off m D.toArray os).drewN n') os' = sortWorldK enc k w blk off (m + n') D.toArray (os ++ os')) := fun m D os n' os' => sortWorldK_grown_c enc k w blk off m n' D.toArray os os'
  have HCL := hidI hclr
  have HKL : Hid (∀ x, (enc x).toArray.size = k) := fun x => by simpa using hk x
  obtain ⟨n, hn⟩ : ∃ n, n = L0.length := ⟨_, rfl⟩
  have HN := hidI hn
  have HS := hidI (SS.CI.start eq L0 h0)
  rw [← hn] at h0 hz hcap ⊢
  obtain ⟨W, hW⟩ : ∃ W, W = sortWorldK enc k w blk off m0 L0.toArray os := ⟨_, rfl⟩
  rw [← hW]
  have HW : Hid (W = sortWorldK enc k w blk off m0 L0.toArray os) := hW
  have mixed := L.mixed; have t3 := L.t3; have a3 := L.a3; have z3 := L.z3; have v3 := L.v3; have t4 := L.t4; have a4 := L.a4; have z4 := L.z4; have v4 := L.v4
  have t22 := L.t22; have a22 := L.a22; have z22 := L.z22; have v22 := L.v22; have t75 := L.t75; have a75 := L.a75; have z75 := L.z75; have v75 := L.v75; have aE := L.aE; have zE := L.zE
  have u22 := run_underlying L.t22
  clear hk h1 hH hcmp hclr hn hW
  obtain ⟨QQ, hQQ⟩ : ∃ QQ : Value → World → Prop, QQ = KoQ eq L0 enc k blk off cap w := ⟨_, rfl⟩
  rw [show (fun (e : Ending) (w' : World) => ∃ v, e = .returned v ∧ KoQ eq L0 enc k blk off cap w v w') = fun e w' => ∃ v, e = .returned v ∧ QQ v w' by rw [hQQ]]
  have HQ : Hid (∀ v w', KoQ eq L0 enc k blk off cap w v w' → QQ v w') := fun v w' h => by rw [hQQ]; exact h
  clear hQQ
  by_cases hs : n < 2
  · have hsz : (n : Int) < 2 := by omega
    have hsl := HN.out
    go_enter L.F, Tryd.ntmps53
    go_wp2_with fail
    go_ret
    refine ⟨_, rfl, HQ.out _ _ ⟨L0, m0, os, [], rfl, ?_, ?_, ?_⟩⟩
    · rw [SS.cpa_short eq L0 (by omega)]; simp
    · rw [SS.cpa_short eq L0 (by omega), ← HN.out]; rfl
    · rw [HW.out]; rfl
  · have hsz : ¬ (n : Int) < 2 := by omega
    go_enter L.F, Tryd.ntmps53
    go_wp2_with fail
    go_loopw [5, 6, 7] (fun u _ _ wr => ∃ (i q : Nat) (os' : Array Obj), u = .int .i64 i ∧ SS.CI eq L0 i i L0 ∧ wr = sortWorldK enc k w blk off q L0.toArray os') (fun u _ _ _ => n - (intOf u).toNat)
    case atStart => exact ⟨1, m0, os, rfl, HS.out, HW.out⟩
    case round =>
      as_aux_lemma =>
      obtain ⟨i, q, os', rfl, hc, rfl⟩ := hrel
      have p1 := hc.k1
      have p2 := hc.jn
      rw [← HN.out] at p2
      have HC := hidI hc
      clear hc HW HS
      by_cases hlt : i < n
      · have hltz : (i : Int) < (n : Int) := by omega
        obtain ⟨Y, hY⟩ : ∃ Y, L0[i]? = some Y := ⟨L0[i]'(by have := HN.out; omega), List.getElem?_eq_getElem (by have := HN.out; omega)⟩
        obtain ⟨X, hX⟩ : ∃ X, L0[i - 1]? = some X := ⟨L0[i - 1]'(by have := HN.out; omega), List.getElem?_eq_getElem (by have := HN.out; omega)⟩
        obtain ⟨lx, ly, hcg⟩ := HCR.out q os' L0 i (i - 1) Y X rfl hY hX
        have HYX := hidI (And.intro hY hX)
        clear hY hX
        obtain ⟨z, hz'⟩ : ∃ z, z = i - 1 := ⟨_, rfl⟩
        rw [← hz'] at ly
        have q1 : (i : Int) - 1 = (z : Int) := by omega
        have q2 : IntKind.i64.wrap ((i : Int) - 1) = (z : Int) := by rw [q1, IntKind.wrap_i64]; omega
        have q3 : IntKind.i64.wrap (z : Int) = (z : Int) := by rw [IntKind.wrap_i64]; omega
        have q4 : (z : Int) < (n : Int) := by omega
        have HZ := hidI hz'
        have cls := HCLS.out q L0 os'
        have CLS := hidI cls
        clear cls hz'
        generalize hwq : sortWorldK enc k w blk off q L0.toArray os' = wq at lx ly hcg CLS ⊢
        clear hwq
        have sX := HKL.out X
        have sY := HKL.out Y
        cases he : eq Y X with
        | false =>
          rw [he] at hcg
          have HR := hidI (HC.out.next HYX.out.1 HYX.out.2 he)
          clear he
          generalize (enc X).toArray = CX at *
          generalize (enc Y).toArray = CY at *
          go_wp2_with fail
          go_quiet_grown (first | (go_at_fn g; refine Calls.grown_of (hcg _ _)))
          go_wp2_with fail
          go_roundw
          case rel => exact ⟨i + 1, _, _, by first | rfl | go_num, HR.out, CLS.out _ _⟩
          case measure => simp [intOf]; omega
        | true =>
          rw [he] at hcg
          have HR := hidI (HC.out.skip HYX.out.1 HYX.out.2 he)
          clear he
          generalize (enc X).toArray = CX at *
          generalize (enc Y).toArray = CY at *
          go_wp2_with fail
          go_quiet_grown (first | (go_at_fn g; refine Calls.grown_of (hcg _ _)))
          go_wp2_with fail
          have HWR := hidI (CLS.out nq osq)
          clear lx ly hcg CLS
          generalize grow (wq.drewN nq) osq = wr at *
          clear HC sX sY q1 q2 q3 q4 HZ HYX
          have p0 : (0 : Int) ≤ (i : Int) := by omega
          go_wp2_with fail
          go_loopw [5, 7] (fun u v wx => ∃ (m t q : Nat) (d : List α) (os' : Array Obj), u = .int .i64 m ∧ v = .int .i64 t ∧ 1 ≤ t ∧ m < i + t ∧ i + t ≤ n ∧ i ≤ m ∧ SS.CI eq L0 m (i + t) d ∧ wx = sortWorldK enc k w blk off q d.toArray os') (fun _ v _ => n - (intOf v).toNat)
          case atStart => exact ⟨i, 1, _, L0, _, rfl, rfl, by omega, by omega, by omega, by omega, HR.out, HWR.out⟩
          case round =>
            as_aux_lemma =>
            obtain ⟨m, t, q5, d, os5, rfl, rfl, t1, hmt, htn, him, hc, rfl⟩ := hrel
            have HC := hidI hc
            clear hc HWR HR
            by_cases hgo : i + t < n
            · have hgz : (t : Int) < ((n - i : Nat) : Int) := by omega
              obtain ⟨Y, hY⟩ : ∃ Y, L0[i + t]? = some Y := ⟨L0[i + t]'(by have := HN.out; omega), List.getElem?_eq_getElem (by have := HN.out; omega)⟩
              obtain ⟨X, hX⟩ : ∃ X, L0[i + t - 1]? = some X := ⟨L0[i + t - 1]'(by have := HN.out; omega), List.getElem?_eq_getElem (by have := HN.out; omega)⟩
              obtain ⟨lx, ly, hcg⟩ := HCR.out q5 os5 d (i + t) (i + t - 1) Y X HC.out.n (HC.out.at' (by omega) hY) (HC.out.at' (by omega) hX)
              have HYX := hidI (And.intro hY hX)
              clear hY hX
              obtain ⟨z, hz'⟩ : ∃ z, z = t - 1 := ⟨_, rfl⟩
              have a1 : off + (i + t) * k = off + i * k + t * k := by rw [Nat.add_mul, Nat.add_assoc]
              have a2 : off + (i + t - 1) * k = off + i * k + z * k := by rw [show i + t - 1 = i + z by omega, Nat.add_mul, Nat.add_assoc]
              rw [a1] at lx
              rw [a2] at ly
              have A1 := hidI a1
              have q1 : (t : Int) - 1 = (z : Int) := by omega
              have q2 : IntKind.i64.wrap ((t : Int) - 1) = (z : Int) := by rw [q1, IntKind.wrap_i64]; omega
              have q3 : IntKind.i64.wrap (z : Int) = (z : Int) := by rw [IntKind.wrap_i64]; omega
              have q4 : (z : Int) < ((n - i : Nat) : Int) := by omega
              have cls := HCLS.out q5 d os5
              have CLS := hidI cls
              have HZ := hidI hz'
              clear cls hz' a1 a2
              generalize hwq : sortWorldK enc k w blk off q5 d.toArray os5 = wq at lx ly hcg CLS ⊢
              clear hwq
              have sX := HKL.out X
              have sY := HKL.out Y
              cases he : eq Y X with
              | true =>
                rw [he] at hcg
                have HR := hidI (HC.out.skip HYX.out.1 HYX.out.2 he)
                clear he
                generalize (enc X).toArray = CX at *
                generalize (enc Y).toArray = CY at *
                go_wp2_with fail
                go_quiet_grown (first | (go_at_fn g; refine Calls.grown_of (hcg _ _)))
                go_wp2_with fail
                go_roundw
                case rel => exact ⟨m, t + 1, _, d, _, rfl, by first | rfl | go_num, by omega, by omega, by omega, him, HR.out, CLS.out _ _⟩
                case measure => simp [intOf]; omega
              | false =>
                rw [he] at hcg
                have HR := hidI (HC.out.keep hmt HYX.out.1 HYX.out.2 he)
                have HD := hidI HC.out.n
                have HDY := hidI (HC.out.at' (i := i + t) (by omega) HYX.out.1)
                clear he
                obtain ⟨CX, hCX⟩ : ∃ CX, CX = (enc X).toArray := ⟨_, rfl⟩
                obtain ⟨CY, hCY⟩ : ∃ CY, CY = (enc Y).toArray := ⟨_, rfl⟩
                rw [← hCX] at ly hcg sX
                rw [← hCY] at lx hcg sY
                have HCY := hidI hCY
                clear hCX hCY
                go_wp2_with fail
                go_quiet_grown (first | (go_at_fn g; refine Calls.grown_of (hcg _ _)))
                have hst := HST.out (q5 + nq) (os5 ++ osq) d HD.out m Y (by have := HN.out; omega)
                have l3 := lx nq osq
                rw [← CLS.out nq osq] at hst
                obtain ⟨W5, hW5⟩ : ∃ W5, W5 = sortWorldK enc k w blk off (q5 + nq) (d.set m Y).toArray (os5 ++ osq) := ⟨_, rfl⟩
                rw [← hW5] at hst
                have e5 : enc Y = CY.toList := by rw [HCY.out]
                rw [e5] at hst
                have HW5 := hidI hW5
                have sY2 : CY.toList.length = k := by simpa using sY
                have m0 : (m : Int) < (i : Int) + (t : Int) := by omega
                have m1 : (m : Int) < (n : Int) := by omega
                clear hW5 e5 lx ly hcg CLS
                generalize grow (wq.drewN nq) osq = wr at *
                go_wp2_with fail
                go_roundw
                case rel => exact ⟨m + 1, t + 1, _, d.set m Y, _, by first | rfl | go_num, by first | rfl | go_num, by omega, by omega, by omega, by omega, HR.out, HW5.out⟩
                case measure => simp [intOf]; omega
            · have hnt : n = i + t := by omega
              have hgz : ¬ ((t : Int) < ((n - i : Nat) : Int)) := by omega
              obtain ⟨vs, hcl⟩ := HCL.out m d q5 os5 HC.out.n (by rw [← HN.out]; omega)
              rw [← HN.out] at hcl
              have hall : d.take m = SS.cpa eq L0 ∧ m = (SS.cpa eq L0).length := by
                have h5 := HC.out
                rw [← hnt, HN.out] at h5
                exact h5.all
              have HA := hidI hall
              have HD := hidI HC.out.n
              have m1 : m < n := by omega
              clear hall HC
              generalize hwq : sortWorldK enc k w blk off q5 d.toArray os5 = wq at hcl ⊢
              have HWQ := hidI hwq
              clear hwq hnt
              go_wp2_with fail
              go_ret
              refine ⟨_, rfl, HQ.out _ _ ⟨d, q5, os5, vs, HD.out, ?_, ?_, ?_⟩⟩
              · rw [← HA.out.2, HA.out.1]
              · rw [← HA.out.2]; rfl
              · rw [← HA.out.2, ← HWQ.out]
      · obtain rfl : i = n := by omega
        have hltz : ¬ (i : Int) < (i : Int) := by omega
        have HC2 : Hid (SS.CI eq L0 L0.length L0.length L0) := by
          have h5 := HC.out
          rw [HN.out] at h5
          exact h5
        generalize hwq : sortWorldK enc k w blk off q L0.toArray os' = wq
        have HWQ := hidI hwq
        clear hwq
        go_wp2_with fail
        go_ret
        refine ⟨_, rfl, HQ.out _ _ ⟨L0, q, os', [], rfl, ?_, ?_, ?_⟩⟩
        · rw [SS.cpa_none eq L0 HC2.out]; simp
        · rw [SS.cpa_none eq L0 HC2.out, ← HN.out]; rfl
        · rw [← HWQ.out]; rfl
end Go.Proofs.YtfbjakhanjbaeaaDoor
