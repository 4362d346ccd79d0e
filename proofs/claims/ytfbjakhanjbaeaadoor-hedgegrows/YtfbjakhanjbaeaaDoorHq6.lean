/- The texts HgC HgG HgN as one. -/
import Derived.Test.YtfbjakhanjbaeaaDoorHq2
import Derived.Shelf.SlSortCmp.QuietGrown
/- How the sort compares two records: by their keys. -/
namespace Go.Proofs.YtfbjakhanjbaeaaDoor
open Go.RowKit Go.Maps Go.Sort Go.Shelf Go.Lib
set_option linter.unusedVariables false
set_option linter.unusedSimpArgs false

def ordR (x y : HG.R) : Int := if ltB x.k y.k = true then -1 else if ltB y.k x.k = true then 1 else 0
/-- what is asked of a program by the comparison's walk: a record has k cells -/
structure CoP (P : Program) (k : Nat) : Prop where
  mixed : P.follows .mixedOrders = true
  F1 : P.funcs[52]? = some Tryd.f52
  F2 : P.funcs[54]? = some Tryd.f54
  t3 : P.underlying 3 = some (.int .i64)
  a3 : ∀ w, (isAgg 3).run P w = .ok false w
  z3 : ∀ w, (Go.sizeOf 3).run P w = .ok 1 w
  v3 : ∀ w, (zeroValue 3).run P w = .ok (.int .i64 0) w
  t4 : P.underlying 4 = some .bool
  a4 : ∀ w, (isAgg 4).run P w = .ok false w
  z4 : ∀ w, (Go.sizeOf 4).run P w = .ok 1 w
  v4 : ∀ w, (zeroValue 4).run P w = .ok (.bool false) w
  tl : P.underlying 50 = some (.func #[24, 24] #[4] false)
  al : ∀ w, (isAgg 50).run P w = .ok false w
  zl : ∀ w, (Go.sizeOf 50).run P w = .ok 1 w
  vl : ∀ w, (zeroValue 50).run P w = .ok .nilFunc w
  tk : P.underlying 62 = some (.func #[48] #[24] false)
  ak : ∀ w, (isAgg 62).run P w = .ok false w
  zk : ∀ w, (Go.sizeOf 62).run P w = .ok 1 w
  vk : ∀ w, (zeroValue 62).run P w = .ok .nilFunc w
  gD : P.eqGuardType P.depth 24 = false
  aD : ∀ w, (isAgg 24).run P w = .ok true w
  aE : ∀ w, (isAgg 48).run P w = .ok true w
  zE : ∀ w, (Go.sizeOf 48).run P w = .ok k w
theorem coP : CoP Tryd.prog 65 where
  mixed := by kernel_rfl
  F1 := Tryd.func52
  F2 := Tryd.func54
  t3 := Tryd.underlying3
  a3 := Tryd.isAgg3
  z3 := Tryd.sizeOf3
  v3 := Tryd.zeroValue3
  t4 := Tryd.underlying4
  a4 := Tryd.isAgg4
  z4 := Tryd.sizeOf4
  v4 := Tryd.zeroValue4
  tl := Tryd.underlying50
  al := Tryd.isAgg50
  zl := Tryd.sizeOf50
  vl := Tryd.zeroValue50
  tk := Tryd.underlying62
  ak := Tryd.isAgg62
  zk := Tryd.sizeOf62
  vk := Tryd.zeroValue62
  gD := by kernel_rfl
  aD := Tryd.isAgg24
  aE := Tryd.isAgg48
  zE := Tryd.sizeOf48
theorem grow_cell {W : World} {a : Addr} {v : Value} (h : W.cell? a = some v) (n : Nat) (os : Array Obj) : (grow (W.drewN n) os).cell? a = some v := by
  have hb : a.block < W.heap.size := by
    unfold World.cell? at h
    rcases Nat.lt_or_ge a.block W.heap.size with h1 | h1
    · exact h1
    · rw [Array.getElem?_eq_none h1] at h; simp at h
  rw [← h]
  unfold World.cell? grow
  have hs : (W.drewN n).heap = W.heap := rfl
  simp only [hs]
  rw [Array.getElem?_append_left hb]
theorem grow_loads {P : Program} {W : World} {b o k : Nat} {cs : List Value} (h : W.rangeAt b o cs) (hk : cs.length = k) (n : Nat) (os : Array Obj) : Sem.run P (loadCellsFrom ⟨b, o, none⟩ 0 k #[]) (grow (W.drewN n) os) = .ok cs.toArray (grow (W.drewN n) os) :=
  run_loadCellsFrom_list P _ _ _ k hk fun j v hv => by
    rw [Addr.add_mid]; exact grow_cell (h j v hv) n os

set_option maxHeartbeats 4000000 in
set_option maxRecDepth 8000 in
theorem cmp_g {P : Program} {k : Nat} (L : CoP P k) (X Y : List Value) (hX : X.length = k) (hY : Y.length = k) (oX : ∀ v ∈ X, v.oneCell' = true) (oY : ∀ v ∈ Y, v.oneCell' = true) (kx ky : Value) (gk gl : Nat) (bl bk : Nat) (p q : Bool) (W : World)
    (cl : W.cell? ⟨bl, 0, none⟩ = some (.func (.func gl) #[] #[])) (ck : W.cell? ⟨bk, 0, none⟩ = some (.func (.func gk) #[] #[]))
    (egk : ∀ args w, (callFunc gk args).run P w = .ok (.enter gk args) w) (egl : ∀ args w, (callFunc gl args).run P w = .ok (.enter gl args) w)
    (c1 : ∀ w, Calls P gk #[.agg X.toArray] w fun e w' => e = .returned kx ∧ ∃ q os, w' = grow (w.drewN q) os) (c2 : ∀ w, Calls P gk #[.agg Y.toArray] w fun e w' => e = .returned ky ∧ ∃ q os, w' = grow (w.drewN q) os)
    (d1 : ∀ w, Calls P gl #[kx, ky] w fun e w' => e = .returned (.bool p) ∧ ∃ q os, w' = grow (w.drewN q) os) (d2 : ∀ w, Calls P gl #[ky, kx] w fun e w' => e = .returned (.bool q) ∧ ∃ q os, w' = grow (w.drewN q) os) :
    Calls P 52 #[.agg X.toArray, .agg Y.toArray, .pointer (some ⟨bl, 0, none⟩), .pointer (some ⟨bk, 0, none⟩)] W fun e w' => e = .returned (.int .i64 (if p = true then -1 else if q = true then 1 else 0)) ∧ Gn W w' := by
  obtain ⟨W2, hW2⟩ : ∃ W2, W2 = (W.alloc (.cells X.toArray 48)).alloc (.cells Y.toArray 48) := ⟨_, rfl⟩
  have G2 : Hid (∀ n os, Gn W (grow (W2.drewN n) os)) := fun n os => by rw [hW2]; exact (((Gn.refl W).alloc _).alloc _).trans ⟨n, os, rfl⟩
  have b0 : W2.heap[W.heap.size]? = some (.cells X.toArray 48 (0, 0)) := by
    rw [hW2, Below.heap_alloc _ _ _ (by simp)]; exact heap_alloc_new _ _
  have b1 : W2.heap[W.heap.size + 1]? = some (.cells Y.toArray 48 (0, 0)) := by
    rw [hW2]
    have := heap_alloc_new (W.alloc (.cells X.toArray 48)) (.cells Y.toArray 48)
    rwa [World.size_alloc] at this
  have cl2 : W2.cell? ⟨bl, 0, none⟩ = some (.func (.func gl) #[] #[]) := by
    have := grow_cell cl 0 #[.cells X.toArray 48, .cells Y.toArray 48]
    rw [hW2, alloc_eq_grow, alloc_eq_grow, grow_grow]; exact this
  have ck2 : W2.cell? ⟨bk, 0, none⟩ = some (.func (.func gk) #[] #[]) := by
    have := grow_cell ck 0 #[.cells X.toArray 48, .cells Y.toArray 48]
    rw [hW2, alloc_eq_grow, alloc_eq_grow, grow_grow]; exact this
  have r0 : W2.rangeAt W.heap.size 0 X := range_part b0 [] X [] 0 (by simp) rfl
  have r1 : W2.rangeAt (W.heap.size + 1) 0 Y := range_part b1 [] Y [] 0 (by simp) rfl
  have LL : Hid (∀ V, Gn W2 V → (∀ n' os', (grow (V.drewN n') os').cell? ⟨bl, 0, none⟩ = some (.func (.func gl) #[] #[])) ∧ (∀ n' os', (grow (V.drewN n') os').cell? ⟨bk, 0, none⟩ = some (.func (.func gk) #[] #[])) ∧
      (∀ n' os', Sem.run P (loadCellsFrom ⟨W.heap.size, 0, none⟩ 0 k #[]) (grow (V.drewN n') os') = .ok X.toArray (grow (V.drewN n') os')) ∧
      (∀ n' os', Sem.run P (loadCellsFrom ⟨W.heap.size + 1, 0, none⟩ 0 k #[]) (grow (V.drewN n') os') = .ok Y.toArray (grow (V.drewN n') os'))) := fun V hV => by
    obtain ⟨n, os, rfl⟩ := hV
    exact ⟨grow_cell (grow_cell cl2 n os), grow_cell (grow_cell ck2 n os), grow_loads (fun j v h => grow_cell (r0 j v h) n os) hX, grow_loads (fun j v h => grow_cell (r1 j v h) n os) hY⟩
  have HW2 := hidI hW2
  have mixed := L.mixed; have t3 := L.t3; have a3 := L.a3; have z3 := L.z3; have v3 := L.v3; have t4 := L.t4; have a4 := L.a4; have z4 := L.z4; have v4 := L.v4
  have tl := L.tl; have al := L.al; have zl := L.zl; have vl := L.vl; have tk := L.tk; have ak := L.ak; have zk := L.zk; have vk := L.vk; have aD := L.aD; have aE := L.aE; have zE := L.zE
  have sX : X.toArray.size = k := by simpa using hX
  have sY : Y.toArray.size = k := by simpa using hY
  clear b0 b1 cl ck r0 r1 cl2 ck2 hX hY hW2
  generalize X.toArray = CX at *
  generalize Y.toArray = CY at *
  clear oX oY
  go_enter L.F1, Tryd.ntmps52
  go_wp2_with fail
  rw [← HW2.out]
  obtain ⟨cl3, ck3, l0, l1⟩ := LL.out _ (Gn.refl _)
  cases p with
  | true =>
    go_quiet_grown (first
      | (go_at_fn gl; refine Calls.grown_of (d1 _))
      | (go_at_fn gk; first | refine Calls.grown_of (c1 _) | refine Calls.grown_of (c2 _)))
    go_wp2_with fail
    go_ret
    exact ⟨rfl, G2.out _ _⟩
  | false =>
    go_quiet_grown (first
      | (go_at_fn gl; refine Calls.grown_of (d1 _))
      | (go_at_fn gk; first | refine Calls.grown_of (c1 _) | refine Calls.grown_of (c2 _)))
    clear cl3 ck3 l0 l1
    go_wp2_with fail
    obtain ⟨cl3, ck3, l0, l1⟩ := LL.out (grow (W2.drewN nq) osq) ⟨nq, osq, rfl⟩
    have G3 : Hid (∀ n os, Gn W (grow ((grow (W2.drewN nq) osq).drewN n) os)) := fun n os => (G2.out nq osq).trans ⟨n, os, rfl⟩
    generalize grow (W2.drewN nq) osq = W3 at *
    cases q with
    | true =>
      go_quiet_grown (first
        | (go_at_fn gl; refine Calls.grown_of (d2 _))
        | (go_at_fn gk; first | refine Calls.grown_of (c1 _) | refine Calls.grown_of (c2 _)))
      go_wp2_with fail
      go_ret
      exact ⟨rfl, G3.out _ _⟩
    | false =>
      go_quiet_grown (first
        | (go_at_fn gl; refine Calls.grown_of (d2 _))
        | (go_at_fn gk; first | refine Calls.grown_of (c1 _) | refine Calls.grown_of (c2 _)))
      go_wp2_with fail
      go_ret
      exact ⟨rfl, G3.out _ _⟩

set_option maxHeartbeats 4000000 in
set_option maxRecDepth 8000 in
theorem eq_g {P : Program} {k : Nat} (L : CoP P k) (X Y : List Value) (hX : X.length = k) (hY : Y.length = k) (oX : ∀ v ∈ X, v.oneCell' = true) (oY : ∀ v ∈ Y, v.oneCell' = true) (KX KY : Array Value) (gk : Nat) (bk : Nat) (q : Bool) (W : World)
    (ck : W.cell? ⟨bk, 0, none⟩ = some (.func (.func gk) #[] #[]))
    (egk : ∀ args w, (callFunc gk args).run P w = .ok (.enter gk args) w)
    (c1 : ∀ w, Calls P gk #[.agg X.toArray] w fun e w' => e = .returned (.agg KX) ∧ ∃ q os, w' = grow (w.drewN q) os) (c2 : ∀ w, Calls P gk #[.agg Y.toArray] w fun e w' => e = .returned (.agg KY) ∧ ∃ q os, w' = grow (w.drewN q) os)
    (heq : ∀ w, (Op.equalIn 10000 24 (.agg KX) (.agg KY)).run P w = .ok q w) :
    Calls P 54 #[.agg X.toArray, .agg Y.toArray, .pointer (some ⟨bk, 0, none⟩)] W fun e w' => e = .returned (.bool q) ∧ Gn W w' := by
  obtain ⟨W2, hW2⟩ : ∃ W2, W2 = (W.alloc (.cells X.toArray 48)).alloc (.cells Y.toArray 48) := ⟨_, rfl⟩
  have G2 : Hid (∀ n os, Gn W (grow (W2.drewN n) os)) := fun n os => by rw [hW2]; exact (((Gn.refl W).alloc _).alloc _).trans ⟨n, os, rfl⟩
  have b0 : W2.heap[W.heap.size]? = some (.cells X.toArray 48 (0, 0)) := by
    rw [hW2, Below.heap_alloc _ _ _ (by simp)]; exact heap_alloc_new _ _
  have b1 : W2.heap[W.heap.size + 1]? = some (.cells Y.toArray 48 (0, 0)) := by
    rw [hW2]
    have := heap_alloc_new (W.alloc (.cells X.toArray 48)) (.cells Y.toArray 48)
    rwa [World.size_alloc] at this
  have ck2 : W2.cell? ⟨bk, 0, none⟩ = some (.func (.func gk) #[] #[]) := by
    have := grow_cell ck 0 #[.cells X.toArray 48, .cells Y.toArray 48]
    rw [hW2, alloc_eq_grow, alloc_eq_grow, grow_grow]; exact this
  have r0 : W2.rangeAt W.heap.size 0 X := range_part b0 [] X [] 0 (by simp) rfl
  have r1 : W2.rangeAt (W.heap.size + 1) 0 Y := range_part b1 [] Y [] 0 (by simp) rfl
  have LL : Hid (∀ V, Gn W2 V → (∀ n' os', (grow (V.drewN n') os').cell? ⟨bk, 0, none⟩ = some (.func (.func gk) #[] #[])) ∧
      (∀ n' os', Sem.run P (loadCellsFrom ⟨W.heap.size, 0, none⟩ 0 k #[]) (grow (V.drewN n') os') = .ok X.toArray (grow (V.drewN n') os')) ∧
      (∀ n' os', Sem.run P (loadCellsFrom ⟨W.heap.size + 1, 0, none⟩ 0 k #[]) (grow (V.drewN n') os') = .ok Y.toArray (grow (V.drewN n') os'))) := fun V hV => by
    obtain ⟨n, os, rfl⟩ := hV
    exact ⟨grow_cell (grow_cell ck2 n os), grow_loads (fun j v h => grow_cell (r0 j v h) n os) hX, grow_loads (fun j v h => grow_cell (r1 j v h) n os) hY⟩
  have HW2 := hidI hW2
  have mixed := L.mixed; have t3 := L.t3; have a3 := L.a3; have z3 := L.z3; have v3 := L.v3; have t4 := L.t4; have a4 := L.a4; have z4 := L.z4; have v4 := L.v4
  have tl := L.tl; have al := L.al; have zl := L.zl; have vl := L.vl; have tk := L.tk; have ak := L.ak; have zk := L.zk; have vk := L.vk; have aD := L.aD; have gD := L.gD; have aE := L.aE; have zE := L.zE
  have sX : X.toArray.size = k := by simpa using hX
  have sY : Y.toArray.size = k := by simpa using hY
  clear b0 b1 ck r0 r1 ck2 hX hY hW2
  generalize X.toArray = CX at *
  generalize Y.toArray = CY at *
  clear oX oY
  go_enter L.F2, Tryd.ntmps54
  go_wp2_with fail
  rw [← HW2.out]
  obtain ⟨ck3, l0, l1⟩ := LL.out _ (Gn.refl _)
  go_quiet_grown (first
    | (go_at_fn gk; first | refine Calls.grown_of (c1 _) | refine Calls.grown_of (c2 _)))
  go_wp2_with fail
  go_ret
  exact ⟨rfl, G2.out _ _⟩

theorem egK : ∀ args w, (callFunc 36 args).run Tryd.prog w = .ok (.enter 36 args) w := enters_of Tryd.func36 (by kernel_rfl) rfl
theorem egL : ∀ args w, (callFunc 25 args).run Tryd.prog w = .ok (.enter 25 args) w := enters_of Tryd.func25 (by kernel_rfl) rfl
theorem egC : ∀ args w, (callFunc 52 args).run Tryd.prog w = .ok (.enter 52 args) w := enters_of Tryd.func52 (by kernel_rfl) rfl
theorem egE : ∀ args w, (callFunc 54 args).run Tryd.prog w = .ok (.enter 54 args) w := enters_of Tryd.func54 (by kernel_rfl) rfl
theorem cmpR_x (x y : HG.R) (bl bk : Nat) (W : World) (cl : W.cell? ⟨bl, 0, none⟩ = some (.func (.func 25) #[] #[])) (ck : W.cell? ⟨bk, 0, none⟩ = some (.func (.func 36) #[] #[])) :
    Calls Tryd.prog 52 #[.agg (fR x).toArray, .agg (fR y).toArray, .pointer (some ⟨bl, 0, none⟩), .pointer (some ⟨bk, 0, none⟩)] W fun e w' => e = .returned (.int .i64 (ordR x y)) ∧ Gn W w' :=
  cmp_g coP (fR x) (fR y) (fR_len x) (fR_len y) (fR_one x) (fR_one y) (.agg (dg x.k)) (.agg (dg y.k)) _ _ bl bk (ltB x.k y.k) (ltB y.k x.k) W cl ck egK egL (fun w => keyOf_gn x w) (fun w => keyOf_gn y w) (fun w => Less_gn x.k y.k x.hk y.hk w) (fun w => Less_gn y.k x.k y.hk x.hk w)
theorem eqR_x (x y : HG.R) (bk : Nat) (W : World) (ck : W.cell? ⟨bk, 0, none⟩ = some (.func (.func 36) #[] #[])) :
    Calls Tryd.prog 54 #[.agg (fR x).toArray, .agg (fR y).toArray, .pointer (some ⟨bk, 0, none⟩)] W fun e w' => e = .returned (.bool (decide (x.k = y.k))) ∧ Gn W w' :=
  eq_g coP (fR x) (fR y) (fR_len x) (fR_len y) (fR_one x) (fR_one y) (dg x.k) (dg y.k) _ bk (decide (x.k = y.k)) W ck egK (fun w => keyOf_gn x w) (fun w => keyOf_gn y w) (fun w => eqDg x.k y.k x.hk y.hk w)
end Go.Proofs.YtfbjakhanjbaeaaDoor

/- Which ranges can be; which keys are in them. -/
namespace Go.Proofs.YtfbjakhanjbaeaaDoor
open Go.RowKit Go.Maps Go.Sort Go.Shelf Go.Lib
set_option linter.unusedVariables false
set_option linter.unusedSimpArgs false
namespace HG
def pl (d p : Int) : Bool := decide (0 ≤ d ∧ d ≤ 8 ∧ 0 ≤ p ∧ p < 4 ^ d.toNat)
def good (r : G) : Bool := pl r.d r.p && decide (0 ≤ r.n ∧ r.n ≤ 1048576)
def b16 (k : List UInt8) : Nat := (S.by8 k 0).toNat * 256 + (S.by8 k 1).toNat
def pre (k : List UInt8) (d : Nat) : Nat := b16 k / 4 ^ (8 - d)
def inn (r : G) (k : List UInt8) : Bool := good r && decide ((pre k r.d.toNat : Int) = r.p)
end HG
set_option maxRecDepth 8000 in
theorem isPlace_x (d p : Int) (W : World) : Calls Tryd.prog 27 #[.int .i64 d, .int .i64 p] W fun e w' => e = .returned (.bool (HG.pl d p)) ∧ w' = W := by
  by_cases h1 : 0 ≤ d
  · by_cases h2 : d ≤ 8
    · by_cases h3 : 0 ≤ p
      · obtain ⟨b, hb⟩ : ∃ b, b = decide (p < 4 ^ d.toNat) := ⟨_, rfl⟩
        have e : HG.pl d p = b := by unfold HG.pl; rw [hb]; simp [h1, h2, h3]
        rw [e]
        rcases (by omega : d = 0 ∨ d = 1 ∨ d = 2 ∨ d = 3 ∨ d = 4 ∨ d = 5 ∨ d = 6 ∨ d = 7 ∨ d = 8) with rfl | rfl | rfl | rfl | rfl | rfl | rfl | rfl | rfl
        all_goals
          simp only [Int.reduceToNat, Int.reducePow, Int.toNat_zero, Int.toNat_one, Int.pow_zero] at hb
          clear e h1 h2
          have HB := hidI hb
          clear hb
          go_enter Tryd.func27, Tryd.ntmps27
          go_wp2_with fail
          go_ret
          exact ⟨by rw [HB.out]; first | rfl | simp, rfl⟩
      · have e : HG.pl d p = false := by unfold HG.pl; simp [h3]
        rw [e]; clear e
        go_enter Tryd.func27, Tryd.ntmps27
        go_wp2_with fail
        go_ret
        exact ⟨rfl, rfl⟩
    · have e : HG.pl d p = false := by unfold HG.pl; simp [h2]
      rw [e]; clear e
      go_enter Tryd.func27, Tryd.ntmps27
      go_wp2_with fail
      go_ret
      exact ⟨rfl, rfl⟩
  · have e : HG.pl d p = false := by unfold HG.pl; simp [h1]
    rw [e]; clear e
    go_enter Tryd.func27, Tryd.ntmps27
    go_wp2_with fail
    go_ret
    exact ⟨rfl, rfl⟩

set_option maxRecDepth 8000 in
theorem Good_gn (r : HG.G) (W : World) : Calls Tryd.prog 19 #[.agg (fG r).toArray] W fun e w' => e = .returned (.bool (HG.good r)) ∧ Gn W w' := by
  have hb0 : (W.alloc (.cells (fG r).toArray 26)).heap[W.heap.size]? = some (.cells (fG r).toArray 26 (0, 0)) := heap_alloc_new _ _
  have c0 : (W.alloc (.cells (fG r).toArray 26)).cell? ⟨W.heap.size, 0, none⟩ = some (.int .i64 r.d) := cell_of_row _ _ 0 _ _ _ hb0
  have c1 : (W.alloc (.cells (fG r).toArray 26)).cell? ⟨W.heap.size, 1, none⟩ = some (.int .i64 r.p) := cell_of_row _ _ 1 _ _ _ hb0
  have c2 : (W.alloc (.cells (fG r).toArray 26)).cell? ⟨W.heap.size, 2, none⟩ = some (.int .i64 r.n) := cell_of_row _ _ 2 _ _ _ hb0
  have hsz : (fG r).toArray.size = 35 := by simp [fG_len]
  have HGN : Hid (Gn W (W.alloc (.cells (fG r).toArray 26))) := (Gn.refl W).alloc _
  have CP := hidI (fun W => isPlace_x r.d r.p W)
  have HGD : Hid (HG.good r = (HG.pl r.d r.p && decide (0 ≤ r.n ∧ r.n ≤ 1048576))) := rfl
  rw [HGD.out]
  clear hb0 HGD
  generalize (fG r).toArray = C at *
  generalize r.d = d at *
  generalize r.p = p at *
  generalize r.n = n at *
  generalize HG.pl d p = q at *
  cases q with
  | false =>
    go_enter Tryd.func19, Tryd.ntmps19
    go_wp2_with (first | go_skip | (go_at_call 27; refine (CP.out _).mono ?_; rintro e w1 ⟨rfl, hw⟩; subst hw))
    go_ret
    exact ⟨rfl, HGN.out⟩
  | true =>
    by_cases h0 : 0 ≤ n
    · by_cases h1 : n ≤ 1048576
      · have e : (true && decide (0 ≤ n ∧ n ≤ 1048576)) = true := by simp [h0, h1]
        rw [e]
        go_enter Tryd.func19, Tryd.ntmps19
        go_wp2_with (first | go_skip | (go_at_call 27; refine (CP.out _).mono ?_; rintro e w1 ⟨rfl, hw⟩; subst hw))
        go_ret
        exact ⟨rfl, HGN.out⟩
      · have e : (true && decide (0 ≤ n ∧ n ≤ 1048576)) = false := by simp [h1]
        rw [e]
        go_enter Tryd.func19, Tryd.ntmps19
        go_wp2_with (first | go_skip | (go_at_call 27; refine (CP.out _).mono ?_; rintro e w1 ⟨rfl, hw⟩; subst hw))
        go_ret
        refine ⟨?_, HGN.out⟩
        have e2 : decide (n ≤ 1048576) = false := decide_eq_false (by omega)
        show Ending.returned (Value.bool (decide (n ≤ 1048576))) = _
        rw [e2]
    · have e : (true && decide (0 ≤ n ∧ n ≤ 1048576)) = false := by simp [h0]
      rw [e]
      go_enter Tryd.func19, Tryd.ntmps19
      go_wp2_with (first | go_skip | (go_at_call 27; refine (CP.out _).mono ?_; rintro e w1 ⟨rfl, hw⟩; subst hw))
      go_ret
      exact ⟨rfl, HGN.out⟩

theorem or64 (a b : Nat) (ha : a < 65536) (hb : b < 65536) : bits .or .i64 (a : Int) (b : Int) = ((a ||| b : Nat) : Int) := by
  have hx : a ||| b < 2 ^ 16 := Nat.or_lt_two_pow (by omega) (by omega)
  show IntKind.i64.wrap ((BitVec.ofInt 64 (a : Int) ||| BitVec.ofInt 64 (b : Int)).toNat : Int) = _
  rw [BitVec.toNat_or]
  have ea : (BitVec.ofInt 64 (a : Int)).toNat = a := by simp; omega
  have eb : (BitVec.ofInt 64 (b : Int)).toNat = b := by simp; omega
  rw [ea, eb, IntKind.wrap_i64]
  omega
theorem or_sum (x y : Nat) (hx : x < 256) (hy : y < 256) : bits .or .i64 ((x : Int) * 256) (y : Int) = ((x * 256 + y : Nat) : Int) := by
  have e : (x : Int) * 256 = ((x * 256 : Nat) : Int) := by omega
  rw [e, or64 _ _ (by omega) (by omega)]
  congr 1
  have := Nat.shiftLeft_add_eq_or_of_lt (b := y) (i := 8) (by simpa using hy) x
  rw [Nat.shiftLeft_eq] at this
  simpa using this.symm

set_option maxRecDepth 8000 in
theorem prefixOf_gn (k : List UInt8) (hk : k.length = 32) (d : Int) (h0 : 0 ≤ d) (h8 : d ≤ 8) (W : World) : Calls Tryd.prog 38 #[.agg (dg k), .int .i64 d] W fun e w' => e = .returned (.int .i64 (HG.pre k d.toNat)) ∧ Gn W w' := by
  have hb0 : (W.alloc (.cells (dg k) 24)).heap[W.heap.size]? = some (.cells (dg k) 24 (0, 0)) := heap_alloc_new _ _
  have c0 : (W.alloc (.cells (dg k) 24)).cell? ⟨W.heap.size, 0, none⟩ = some (vb (S.by8 k 0)) := by rw [cell_of_row _ _ 0 _ _ _ hb0]; exact dg_at k 0 (by omega)
  have c1 : (W.alloc (.cells (dg k) 24)).cell? ⟨W.heap.size, 1, none⟩ = some (vb (S.by8 k 1)) := by rw [cell_of_row _ _ 1 _ _ _ hb0]; exact dg_at k 1 (by omega)
  have hsz : (dg k).size = 32 := by rw [dg_size, hk]
  have HGN : Hid (Gn W (W.alloc (.cells (dg k) 24))) := (Gn.refl W).alloc _
  have HP : Hid (∀ n, HG.pre k n = ((S.by8 k 0).toNat * 256 + (S.by8 k 1).toNat) / 4 ^ (8 - n)) := fun n => rfl
  rw [HP.out]
  clear hb0 HP
  generalize dg k = A at *
  have hx := (S.by8 k 0).toNat_lt
  have hy := (S.by8 k 1).toNat_lt
  unfold vb at c0 c1
  generalize (S.by8 k 0).toNat = x at *
  generalize (S.by8 k 1).toNat = y at *
  rcases (by omega : d = 0 ∨ d = 1 ∨ d = 2 ∨ d = 3 ∨ d = 4 ∨ d = 5 ∨ d = 6 ∨ d = 7 ∨ d = 8) with rfl | rfl | rfl | rfl | rfl | rfl | rfl | rfl | rfl
  all_goals
    clear h0 h8
    simp only [Int.reduceToNat, Int.toNat_zero, Int.toNat_one, Nat.reduceSub, Nat.reducePow]
    go_enter Tryd.func38, Tryd.ntmps38
    go_wp2_with fail
    go_ret
    refine ⟨?_, HGN.out⟩
    have ho := or_sum x y hx hy
    first
      | (show Ending.returned (Value.int IntKind.i64 (bits BinOp.or IntKind.i64 (↑x * 256) ↑y / _)) = _
         rw [ho]
         congr 2)
      | (show Ending.returned (Value.int IntKind.i64 (bits BinOp.or IntKind.i64 (↑x * 256) ↑y)) = _
         rw [ho, Nat.div_one])
end Go.Proofs.YtfbjakhanjbaeaaDoor

/- Whether a key is in a range. -/
namespace Go.Proofs.YtfbjakhanjbaeaaDoor
open Go.RowKit Go.Maps Go.Sort Go.Shelf Go.Lib
set_option linter.unusedVariables false
set_option linter.unusedSimpArgs false

structure NoP (P : Program) (kG kD : Nat) : Prop where
  mixed : P.follows .mixedOrders = true
  F : P.funcs[21]? = some Tryd.f21
  t3 : P.underlying 3 = some (.int .i64)
  a3 : ∀ w, (isAgg 3).run P w = .ok false w
  z3 : ∀ w, (Go.sizeOf 3).run P w = .ok 1 w
  v3 : ∀ w, (zeroValue 3).run P w = .ok (.int .i64 0) w
  t4 : P.underlying 4 = some .bool
  a4 : ∀ w, (isAgg 4).run P w = .ok false w
  z4 : ∀ w, (Go.sizeOf 4).run P w = .ok 1 w
  v4 : ∀ w, (zeroValue 4).run P w = .ok (.bool false) w
  tG : P.underlying 26 = Tryd.prog.underlying 26
  aG : ∀ w, (isAgg 26).run P w = .ok true w
  zG : ∀ w, (Go.sizeOf 26).run P w = .ok kG w
  aD : ∀ w, (isAgg 24).run P w = .ok true w
  zD : ∀ w, (Go.sizeOf 24).run P w = .ok kD w
theorem noP : NoP Tryd.prog 35 32 where
  mixed := by kernel_rfl
  F := Tryd.func21
  t3 := Tryd.underlying3
  a3 := Tryd.isAgg3
  z3 := Tryd.sizeOf3
  v3 := Tryd.zeroValue3
  t4 := Tryd.underlying4
  a4 := Tryd.isAgg4
  z4 := Tryd.sizeOf4
  v4 := Tryd.zeroValue4
  tG := rfl
  aG := Tryd.isAgg26
  zG := Tryd.sizeOf26
  aD := Tryd.isAgg24
  zD := Tryd.sizeOf24

set_option maxHeartbeats 4000000 in
set_option maxRecDepth 8000 in
theorem in_g {P : Program} {kG kD : Nat} (L : NoP P kG kD) (X Y : List Value) (hX : X.length = kG) (hY : Y.length = kD) (d p m : Int) (x0 : X[0]? = some (.int .i64 d)) (x1 : X[1]? = some (.int .i64 p)) (q : Bool) (W : World)
    (eg1 : ∀ args w, (callFunc 19 args).run P w = .ok (.enter 19 args) w) (eg2 : ∀ args w, (callFunc 38 args).run P w = .ok (.enter 38 args) w)
    (c1 : ∀ w, Calls P 19 #[.agg X.toArray] w fun e w' => e = .returned (.bool q) ∧ ∃ q os, w' = grow (w.drewN q) os)
    (c2 : q = true → ∀ w, Calls P 38 #[.agg Y.toArray, .int .i64 d] w fun e w' => e = .returned (.int .i64 m) ∧ ∃ q os, w' = grow (w.drewN q) os) :
    Calls P 21 #[.agg X.toArray, .agg Y.toArray] W fun e w' => e = .returned (.bool (q && (m == p))) ∧ Gn W w' := by
  obtain ⟨W2, hW2⟩ : ∃ W2, W2 = (W.alloc (.cells X.toArray 26)).alloc (.cells Y.toArray 24) := ⟨_, rfl⟩
  have G2 : Hid (∀ n os, Gn W (grow (W2.drewN n) os)) := fun n os => by rw [hW2]; exact (((Gn.refl W).alloc _).alloc _).trans ⟨n, os, rfl⟩
  have b0 : W2.heap[W.heap.size]? = some (.cells X.toArray 26 (0, 0)) := by
    rw [hW2, Below.heap_alloc _ _ _ (by simp)]; exact heap_alloc_new _ _
  have b1 : W2.heap[W.heap.size + 1]? = some (.cells Y.toArray 24 (0, 0)) := by
    rw [hW2]
    have := heap_alloc_new (W.alloc (.cells X.toArray 26)) (.cells Y.toArray 24)
    rwa [World.size_alloc] at this
  have r0 : W2.rangeAt W.heap.size 0 X := range_part b0 [] X [] 0 (by simp) rfl
  have r1 : W2.rangeAt (W.heap.size + 1) 0 Y := range_part b1 [] Y [] 0 (by simp) rfl
  have l0 : ∀ n' os', Sem.run P (loadCellsFrom ⟨W.heap.size, 0, none⟩ 0 kG #[]) (grow (W2.drewN n') os') = .ok X.toArray (grow (W2.drewN n') os') := fun n os => grow_loads r0 hX n os
  have l1 : ∀ n' os', Sem.run P (loadCellsFrom ⟨W.heap.size + 1, 0, none⟩ 0 kD #[]) (grow (W2.drewN n') os') = .ok Y.toArray (grow (W2.drewN n') os') := fun n os => grow_loads r1 hY n os
  have d0 : ∀ n' os', (grow (W2.drewN n') os').cell? ⟨W.heap.size, 0, none⟩ = some (.int .i64 d) := fun n os => grow_cell (by have := r0 0 _ x0; simpa using this) n os
  have d1 : ∀ n' os', (grow (W2.drewN n') os').cell? ⟨W.heap.size, 1, none⟩ = some (.int .i64 p) := fun n os => grow_cell (by have := r0 1 _ x1; simpa using this) n os
  have LL := hidI (And.intro l0 (And.intro l1 (And.intro d0 d1)))
  have HW2 := hidI hW2
  have C2 := hidI c2
  have mixed := L.mixed; have t3 := L.t3; have a3 := L.a3; have z3 := L.z3; have v3 := L.v3; have t4 := L.t4; have a4 := L.a4; have z4 := L.z4; have v4 := L.v4
  have tG := L.tG.trans Tryd.underlying26; have aG := L.aG; have zG := L.zG; have aD := L.aD; have zD := L.zD
  have uG := run_underlying tG
  have sX : X.toArray.size = kG := by simpa using hX
  have sY : Y.toArray.size = kD := by simpa using hY
  clear b0 b1 r0 r1 hX hY hW2 l0 l1 d0 d1 x0 x1 c2
  generalize X.toArray = CX at *
  generalize Y.toArray = CY at *
  go_enter L.F, Tryd.ntmps21
  go_wp2_with fail
  rw [← HW2.out]
  obtain ⟨l0, l1, d0, d1⟩ := LL.out
  cases q with
  | false =>
    go_quiet_grown (first | (go_at_fn 19; refine Calls.grown_of (c1 _)))
    go_wp2_with fail
    go_ret
    exact ⟨rfl, G2.out _ _⟩
  | true =>
    have c2 := C2.out rfl
    go_quiet_grown (first | (go_at_fn 19; refine Calls.grown_of (c1 _)) | (go_at_fn 38; refine Calls.grown_of (c2 _)))
    go_wp2_with fail
    go_ret
    exact ⟨rfl, G2.out _ _⟩
theorem In_gn (r : HG.G) (k : List UInt8) (hk : k.length = 32) (W : World) : Calls Tryd.prog 21 #[.agg (fG r).toArray, .agg (dg k)] W fun e w' => e = .returned (.bool (HG.inn r k)) ∧ Gn W w' := by
  have h := in_g noP (fG r) (k.map vb) (fG_len r) (by simp [hk]) r.d r.p (HG.pre k r.d.toNat) rfl rfl (HG.good r) W (enters_of Tryd.func19 (by kernel_rfl) rfl) (enters_of Tryd.func38 (by kernel_rfl) rfl) (fun w => Good_gn r w) (fun hg w => by
    have h2 : 0 ≤ r.d ∧ r.d ≤ 8 := by
      unfold HG.good HG.pl at hg
      rw [Bool.and_eq_true] at hg
      have := of_decide_eq_true hg.1
      exact ⟨this.1, this.2.1⟩
    exact prefixOf_gn k hk r.d h2.1 h2.2 w)
  refine Calls.mono h ?_
  rintro e w' ⟨rfl, g⟩
  refine ⟨?_, g⟩
  unfold HG.inn
  congr 2
end Go.Proofs.YtfbjakhanjbaeaaDoor
