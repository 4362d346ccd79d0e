/- The texts HgW1 HgW2 as one. -/
import Derived.Test.YtfbjakhanjbaeaaDoorHq2
import Derived.Test.YtfbjakhanjbaeaaDoorHq1
import Derived.Shelf.SlSortCmp.InsertionK
/- slices.swapRangeCmpFunc at records: two stretches of a row changed with each other. -/
namespace Go.Proofs.YtfbjakhanjbaeaaDoor
open Go.RowKit Go.Maps Go.Sort Go.Shelf Go.Lib
set_option linter.unusedVariables false
set_option linter.unusedSimpArgs false
variable {α : Type} [Inhabited α]

/-- a list of worlds of the sort's, one behind the other -/
theorem sw_start (enc : α → List Value) (k : Nat) (w : World) (blk off : Nat) (d : Array α) (h : HoldsK enc k w blk off d) : w = sortWorldK enc k w blk off 0 d #[] := by
  unfold sortWorldK; rw [grow_empty]; exact (putRowK_self enc k w blk off d h).symm
/-- what the exchange of two things needs of memory -/
theorem sw_loads {enc : α → List Value} {k : Nat} (hk : ∀ x, (enc x).length = k) {w : World} {blk off : Nat} {d dk : Array α} (hH : HoldsK enc k w blk off d) (hblk : blk < w.heap.size) (hs : dk.size = d.size) (m : Nat) (os : Array Obj) (P : Program) {i : Nat} (hi : i < dk.size) :
    Sem.run P (loadCellsFrom ⟨blk, off + i * k, none⟩ 0 k #[]) (sortWorldK enc k w blk off m dk os) = .ok (enc dk[i]!).toArray (sortWorldK enc k w blk off m dk os) :=
  run_loadCellsFrom_list P _ _ _ k (hk _) (HoldsK.cells (holdsK_sortWorldK_c enc k w blk off d dk m os hH hblk hs) hk hi)
theorem sw_stores {enc : α → List Value} {k : Nat} (hk : ∀ x, (enc x).length = k) (h1 : ∀ x, ∀ v ∈ enc x, v.oneCell' = true) {w : World} {blk off : Nat} {d dk : Array α} (hH : HoldsK enc k w blk off d) (hblk : blk < w.heap.size) (hs : dk.size = d.size) (m : Nat) (os : Array Obj) (P : Program) {i j : Nat} (hi : i < dk.size) (hj : j < dk.size) :
    Sem.run P (storeCells ⟨blk, off + i * k, none⟩ (enc dk[j]!) 0) (sortWorldK enc k w blk off m dk os).drew = .ok () ((sortWorldK enc k w blk off m dk os).drew.setCells blk (off + i * k) (enc dk[j]!)) ∧
    Sem.run P (storeCells ⟨blk, off + j * k, none⟩ (enc dk[i]!) 0) ((sortWorldK enc k w blk off m dk os).drew.setCells blk (off + i * k) (enc dk[j]!)) = .ok () (sortWorldK enc k w blk off (m + 1) (swp dk i j) os) := by
  have hHd : HoldsK enc k (sortWorldK enc k w blk off m dk os).drew blk off dk := holdsK_sortWorldK_c enc k w blk off d dk m os hH hblk hs
  have bnd : ∀ x, x < dk.size → x * k + k ≤ dk.size * k := fun x hx => by
    have := Nat.mul_le_mul_right k (show x + 1 ≤ dk.size from hx); rwa [Nat.add_mul, Nat.one_mul] at this
  have s1 : Sem.run P (storeCells ⟨blk, off + i * k, none⟩ (enc dk[j]!) 0) (sortWorldK enc k w blk off m dk os).drew = .ok () ((sortWorldK enc k w blk off m dk os).drew.setCells blk (off + i * k) (enc dk[j]!)) := stores_of_holds P hHd (i * k) _ (by rw [hk, size_flatK]; exact bnd i hi) (h1 _)
  have s2 : Sem.run P (storeCells ⟨blk, off + j * k, none⟩ (enc dk[i]!) 0) ((sortWorldK enc k w blk off m dk os).drew.setCells blk (off + i * k) (enc dk[j]!)) = .ok () (((sortWorldK enc k w blk off m dk os).drew.setCells blk (off + i * k) (enc dk[j]!)).setCells blk (off + j * k) (enc dk[i]!)) :=
    stores_of_holds P (holds_setCells_c hHd (i * k) _ (by rw [hk, size_flatK]; exact bnd i hi)) (j * k) _ (by rw [hk, size_setMany, size_flatK]; exact bnd j hj) (h1 _)
  refine ⟨s1, ?_⟩
  rw [s2]
  rw [sortWorldK_swp_c enc k w blk off hk m dk os hblk i j hi hj]

/-- what the sort's walks ask of a program: the bodies, the types; a thing has k cells -/
structure SoP (P : Program) (k : Nat) : Prop where
  mixed : P.follows .mixedOrders = true
  Fsw : P.funcs[78]? = some Tryd.f78
  Fro : P.funcs[74]? = some Tryd.f74
  Fsy : P.funcs[69]? = some Tryd.f69
  Fst : P.funcs[64]? = some Tryd.f64
  t3 : P.underlying 3 = some (.int .i64)
  a3 : ∀ w, (isAgg 3).run P w = .ok false w
  z3 : ∀ w, (Go.sizeOf 3).run P w = .ok 1 w
  v3 : ∀ w, (zeroValue 3).run P w = .ok (.int .i64 0) w
  t4 : P.underlying 4 = some .bool
  a4 : ∀ w, (isAgg 4).run P w = .ok false w
  z4 : ∀ w, (Go.sizeOf 4).run P w = .ok 1 w
  v4 : ∀ w, (zeroValue 4).run P w = .ok (.bool false) w
  t0 : P.underlying 0 = some (.tuple #[])
  a0 : ∀ w, (isAgg 0).run P w = .ok false w
  z0 : ∀ w, (Go.sizeOf 0).run P w = .ok 1 w
  v0 : ∀ w, (zeroValue 0).run P w = .ok (.tuple #[]) w
  t22 : P.underlying 22 = some (.slice 48)
  a22 : ∀ w, (isAgg 22).run P w = .ok false w
  z22 : ∀ w, (Go.sizeOf 22).run P w = .ok 1 w
  v22 : ∀ w, (zeroValue 22).run P w = .ok (.slice none 0 0) w
  t75 : P.underlying 75 = some (.func #[48, 48] #[3] false)
  a75 : ∀ w, (isAgg 75).run P w = .ok false w
  z75 : ∀ w, (Go.sizeOf 75).run P w = .ok 1 w
  v75 : ∀ w, (zeroValue 75).run P w = .ok .nilFunc w
  t78 : P.underlying 78 = some (.int .u64)
  a78 : ∀ w, (isAgg 78).run P w = .ok false w
  z78 : ∀ w, (Go.sizeOf 78).run P w = .ok 1 w
  v78 : ∀ w, (zeroValue 78).run P w = .ok (.int .u64 0) w
  aE : ∀ w, (isAgg 48).run P w = .ok true w
  zE : ∀ w, (Go.sizeOf 48).run P w = .ok k w
theorem soP : SoP Tryd.prog 65 where
  mixed := by kernel_rfl
  Fsw := Tryd.func78
  Fro := Tryd.func74
  Fsy := Tryd.func69
  Fst := Tryd.func64
  t3 := Tryd.underlying3
  a3 := Tryd.isAgg3
  z3 := Tryd.sizeOf3
  v3 := Tryd.zeroValue3
  t4 := Tryd.underlying4
  a4 := Tryd.isAgg4
  z4 := Tryd.sizeOf4
  v4 := Tryd.zeroValue4
  t0 := Tryd.underlying0
  a0 := Tryd.isAgg0
  z0 := Tryd.sizeOf0
  v0 := Tryd.zeroValue0
  t22 := Tryd.underlying22
  a22 := Tryd.isAgg22
  z22 := Tryd.sizeOf22
  v22 := Tryd.zeroValue22
  t75 := Tryd.underlying75
  a75 := Tryd.isAgg75
  z75 := Tryd.sizeOf75
  v75 := Tryd.zeroValue75
  t78 := Tryd.underlying78
  a78 := Tryd.isAgg78
  z78 := Tryd.sizeOf78
  v78 := Tryd.zeroValue78
  aE := Tryd.isAgg48
  zE := Tryd.sizeOf48

set_option maxHeartbeats 4000000 in
set_option maxRecDepth 8000 in
theorem swapR_c {P : Program} {k : Nat} (L : SoP P k) {enc : α → List Value} (hk : ∀ x, (enc x).length = k) (h1 : ∀ x, ∀ v ∈ enc x, v.oneCell' = true) {w : World} {blk off cap : Nat} {d dk : Array α} (hH : HoldsK enc k w blk off d) (hblk : blk < w.heap.size) (hs : dk.size = d.size) (hz : d.size ≤ 1000000) (m : Nat) (os : Array Obj) (cv : Value)
    {a b n : Nat} (ha : a + n ≤ d.size) (hb : b + n ≤ d.size) :
    Calls P 78 #[.slice (some ⟨blk, off, none⟩) d.size cap, .int .i64 a, .int .i64 b, .int .i64 n, cv] (sortWorldK enc k w blk off m dk os) fun e w' =>
      e = .returned (.tuple #[]) ∧ ∃ q, w' = sortWorldK enc k w blk off q (SS.swr dk a b n) os := by
  have HS : Hid (∀ m dj, dj.size = d.size → ∀ i j, i < d.size → j < d.size →
      Sem.run P (loadCellsFrom ⟨blk, off + i * k, none⟩ 0 k #[]) (sortWorldK enc k w blk off m dj os).drew = .ok (enc dj[i]!).toArray (sortWorldK enc k w blk off m dj os).drew ∧
      Sem.run P (loadCellsFrom ⟨blk, off + j * k, none⟩ 0 k #[]) (sortWorldK enc k w blk off m dj os).drew = .ok (enc dj[j]!).toArray (sortWorldK enc k w blk off m dj os).drew ∧
      Sem.run P (storeCells ⟨blk, off + i * k, none⟩ (enc dj[j]!) 0) (sortWorldK enc k w blk off m dj os).drew = .ok () ((sortWorldK enc k w blk off m dj os).drew.setCells blk (off + i * k) (enc dj[j]!)) ∧
      Sem.run P (storeCells ⟨blk, off + j * k, none⟩ (enc dj[i]!) 0) ((sortWorldK enc k w blk off m dj os).drew.setCells blk (off + i * k) (enc dj[j]!)) = .ok () (sortWorldK enc k w blk off (m + 1) (swp dj i j) os)) := fun m dj hj i j hi hj' => by
    have := sw_stores hk h1 hH hblk hj m os P (by omega : i < dj.size) (by omega : j < dj.size)
    exact ⟨sw_loads hk hH hblk hj (m + 1) os _ (by omega), sw_loads hk hH hblk hj (m + 1) os _ (by omega), this.1, this.2⟩
  have HK : Hid (∀ x, (enc x).length = k) := hk
  have mixed := L.mixed; have t3 := L.t3; have a3 := L.a3; have z3 := L.z3; have v3 := L.v3; have t4 := L.t4; have a4 := L.a4; have z4 := L.z4; have v4 := L.v4; have t0 := L.t0; have a0 := L.a0; have z0 := L.z0; have v0 := L.v0
  have t22 := L.t22; have a22 := L.a22; have z22 := L.z22; have v22 := L.v22; have t75 := L.t75; have a75 := L.a75; have z75 := L.z75; have v75 := L.v75; have t78 := L.t78; have a78 := L.a78; have z78 := L.z78; have v78 := L.v78; have aE := L.aE; have zE := L.zE
  have u22 := run_underlying L.t22
  obtain ⟨W, hW⟩ : ∃ W, W = sortWorldK enc k w blk off m dk os := ⟨_, rfl⟩
  rw [← hW]
  have HW : Hid (W = sortWorldK enc k w blk off m dk os) := hW
  have HSZ : Hid (dk.size = d.size) := hs
  clear hk h1 hH hW hs
  go_enter L.Fsw, Tryd.ntmps78
  go_wp2_with fail
  go_loopw [10] (fun u wr => ∃ (i q : Nat), u = .int .i64 i ∧ i ≤ n ∧ wr = sortWorldK enc k w blk off q (SS.swr dk a b i) os) (fun u _ => n - (intOf u).toNat)
  case atStart => exact ⟨0, m, rfl, Nat.zero_le _, HW.out⟩
  case round =>
    obtain ⟨i, q, rfl, hin, rfl⟩ := hrel
    by_cases hlt : i < n
    · obtain ⟨l1, l2, s1, s2⟩ := HS.out q (SS.swr dk a b i) (by rw [SS.swr_size]; exact HSZ.out) (a + i) (b + i) (by omega) (by omega)
      obtain ⟨dj, hdj⟩ : ∃ dj, dj = SS.swr dk a b i := ⟨_, rfl⟩
      have HN : Hid (swp (SS.swr dk a b i) (a + i) (b + i) = SS.swr dk a b (i + 1)) := rfl
      rw [← hdj] at l1 l2 s1 s2
      rw [show SS.swr dk a b i = dj from hdj.symm]
      have HJ : Hid (dj = SS.swr dk a b i) := hdj
      have z1 := HK.out dj[a + i]!
      have z2 := HK.out dj[b + i]!
      obtain ⟨x, hx⟩ : ∃ x, x = enc dj[a + i]! := ⟨_, rfl⟩
      obtain ⟨y, hy⟩ : ∃ y, y = enc dj[b + i]! := ⟨_, rfl⟩
      rw [← hx] at l1 s2 z1
      rw [← hy] at l2 s1 s2 z2
      obtain ⟨w3, hw3⟩ : ∃ w3, w3 = sortWorldK enc k w blk off (q + 1) (swp dj (a + i) (b + i)) os := ⟨_, rfl⟩
      rw [← hw3] at s2
      have HW3 : Hid _ := hw3
      clear hx hy hdj hw3
      generalize hw2 : sortWorldK enc k w blk off q dj os = w2 at l1 l2 s1 s2
      clear hw2
      have c1 : IntKind.i64.wrap ((a : Int) + (i : Int)) = (a : Int) + (i : Int) := by rw [IntKind.wrap_i64]; omega
      have c2 : IntKind.i64.wrap ((b : Int) + (i : Int)) = (b : Int) + (i : Int) := by rw [IntKind.wrap_i64]; omega
      have p0 : (0 : Int) ≤ (a : Int) + (i : Int) := by omega
      have p1 : (a : Int) + (i : Int) < (d.size : Int) := by omega
      have p2 : (0 : Int) ≤ (b : Int) + (i : Int) := by omega
      have p3 : (b : Int) + (i : Int) < (d.size : Int) := by omega
      have e0 : ((a : Int) + (i : Int)).toNat = a + i := by omega
      have e1 : ((b : Int) + (i : Int)).toNat = b + i := by omega
      have hltz : (i : Int) < (n : Int) := by omega
      go_wp2_with fail
      go_big_region_o
      all_goals go_wp2_with fail
      go_roundw
      case rel => exact ⟨i + 1, q + 1, by go_num, by omega, by rw [HW3.out, HJ.out, HN.out]⟩
      case measure => simp [intOf]; omega
    · obtain rfl : i = n := by omega
      go_wp2_with fail
      go_end0
      exact ⟨rfl, q, rfl⟩
end Go.Proofs.YtfbjakhanjbaeaaDoor

/- slices.rotateCmpFunc at records: two stretches beside each other change their places. -/
namespace Go.Proofs.YtfbjakhanjbaeaaDoor
open Go.RowKit Go.Maps Go.Sort Go.Shelf Go.Lib
set_option linter.unusedVariables false
set_option linter.unusedSectionVars false
set_option linter.unusedSimpArgs false
variable {α : Type} [Inhabited α]

/-- what a rotation has done so far: i things and j things are still to change their places about m -/
def RO (T : List α) (m i j : Nat) (d : Array α) : Prop :=
  ∃ A P Q B : List α, d = (A ++ (P ++ (Q ++ B))).toArray ∧ A.length + P.length = m ∧ P.length = i ∧ Q.length = j ∧ A ++ (Q ++ (P ++ B)) = T
theorem RO.sz {T : List α} {m i j : Nat} {d : Array α} (h : RO T m i j d) : d.size = T.length ∧ i ≤ m ∧ m + j ≤ d.size := by
  obtain ⟨A, P, Q, B, rfl, h1, h2, h3, rfl⟩ := h
  simp; omega
theorem RO.gt {T : List α} {m i j : Nat} {d : Array α} (h : RO T m i j d) (hj : j < i) : RO T m (i - j) j (SS.swr d (m - i) m j) := by
  obtain ⟨A, P, Q, B, rfl, h1, h2, h3, rfl⟩ := h
  refine ⟨A ++ Q, P.drop j, P.take j, B, ?_, by simp; omega, by simp; omega, by simp; omega, by simp only [List.append_assoc]; rw [← List.append_assoc (List.take j P), List.take_append_drop]⟩
  have := SS.swr_whole A (P.take j) (P.drop j) Q B (m - i) m j (by simp; omega) h3 (by omega) (by simp; omega)
  rw [← List.append_assoc (P.take j), List.take_append_drop] at this
  rw [this]; simp
theorem RO.lt {T : List α} {m i j : Nat} {d : Array α} (h : RO T m i j d) (hj : i < j) : RO T m i (j - i) (SS.swr d (m - i) (m + j - i) i) := by
  obtain ⟨A, P, Q, B, rfl, h1, h2, h3, rfl⟩ := h
  refine ⟨A, Q.drop (j - i), Q.take (j - i), P ++ B, ?_, by simp; omega, by simp; omega, by simp; omega, by rw [← List.append_assoc (Q.take _), List.take_append_drop]⟩
  have := SS.swr_whole A P (Q.take (j - i)) (Q.drop (j - i)) B (m - i) (m + j - i) i h2 (by simp; omega) (by omega) (by simp; omega)
  rw [← List.append_assoc (Q.take _), List.take_append_drop] at this
  exact this
theorem RO.eq {T : List α} {m i : Nat} {d : Array α} (h : RO T m i i d) : SS.swr d (m - i) m i = T.toArray := by
  obtain ⟨A, P, Q, B, rfl, h1, h2, h3, rfl⟩ := h
  have := SS.swr_whole A P [] Q B (m - i) m i h2 h3 (by omega) (by simp; omega)
  simpa using this

set_option maxHeartbeats 4000000 in
set_option maxRecDepth 8000 in
theorem rotate_c {P : Program} {k : Nat} (L : SoP P k) {enc : α → List Value} (hk : ∀ x, (enc x).length = k) (h1 : ∀ x, ∀ v ∈ enc x, v.oneCell' = true) {w : World} {blk off cap : Nat} {d : Array α} (hH : HoldsK enc k w blk off d) (hblk : blk < w.heap.size) (hz : d.size ≤ 1000000) (m0 : Nat) (os : Array Obj) (cv : Value)
    (A X Y B : List α) (hs : (A ++ (X ++ (Y ++ B))).length = d.size) (hX : X ≠ []) (hY : Y ≠ []) {a m b : Nat} (ha : a = A.length) (hm : m = A.length + X.length) (hb : b = A.length + X.length + Y.length) :
    Calls P 74 #[.slice (some ⟨blk, off, none⟩) d.size cap, .int .i64 a, .int .i64 m, .int .i64 b, cv] (sortWorldK enc k w blk off m0 (A ++ (X ++ (Y ++ B))).toArray os) fun e w' =>
      e = .returned (.tuple #[]) ∧ ∃ q, w' = sortWorldK enc k w blk off q (A ++ (Y ++ (X ++ B))).toArray os := by
  obtain ⟨T, hT⟩ : ∃ T, T = A ++ (Y ++ (X ++ B)) := ⟨_, rfl⟩
  have hlX : 0 < X.length := List.length_pos_iff.2 hX
  have hlY : 0 < Y.length := List.length_pos_iff.2 hY
  have hTl : T.length = d.size := by rw [hT, ← hs]; simp; omega
  have HR0 : Hid (RO T m (m - a) (b - m) (A ++ (X ++ (Y ++ B))).toArray) := ⟨A, X, Y, B, rfl, hm.symm, by omega, by omega, hT.symm⟩
  rw [← hT]
  have ham : a < m := by omega
  have hmb : m < b := by omega
  have hbd : b ≤ d.size := by rw [← hs]; simp; omega
  obtain ⟨W, hW⟩ : ∃ W, W = sortWorldK enc k w blk off m0 (A ++ (X ++ (Y ++ B))).toArray os := ⟨_, rfl⟩
  rw [← hW]
  have HW : Hid (W = sortWorldK enc k w blk off m0 (A ++ (X ++ (Y ++ B))).toArray os) := hW
  have CS : Hid (∀ (dk : Array α), dk.size = d.size → ∀ (q : Nat) (x y z : Int) (a' b' n : Nat), x = a' → y = b' → z = n → a' + n ≤ d.size → b' + n ≤ d.size → Calls P 78 #[.slice (some ⟨blk, off, none⟩) d.size cap, .int .i64 x, .int .i64 y, .int .i64 z, cv] (sortWorldK enc k w blk off q dk os) fun e w' =>
      e = .returned (.tuple #[]) ∧ ∃ q, w' = sortWorldK enc k w blk off q (SS.swr dk a' b' n) os) := fun dk h q x y z a' b' n hx hy hz' h2 h3 => by subst hx; subst hy; subst hz'; exact swapR_c L hk h1 hH hblk h hz q os cv h2 h3
  have HTL : Hid (T.length = d.size) := hTl
  have mixed := L.mixed; have t3 := L.t3; have a3 := L.a3; have z3 := L.z3; have v3 := L.v3; have t4 := L.t4; have a4 := L.a4; have z4 := L.z4; have v4 := L.v4; have t0 := L.t0; have a0 := L.a0; have z0 := L.z0; have v0 := L.v0
  have t22 := L.t22; have a22 := L.a22; have z22 := L.z22; have v22 := L.v22; have t75 := L.t75; have a75 := L.a75; have z75 := L.z75; have v75 := L.v75; have t78 := L.t78; have a78 := L.a78; have z78 := L.z78; have v78 := L.v78; have aE := L.aE; have zE := L.zE
  have u22 := run_underlying L.t22
  clear hk h1 hH hW hs hT hTl hX hY hlX hlY ha hm hb
  have eg78 : ∀ args w, (callFunc 78 args).run P w = .ok (.enter 78 args) w := enters_of L.Fsw (by kernel_rfl) rfl
  go_enter L.Fro, Tryd.ntmps74
  go_wp2_with fail
  go_loopw [10, 11] (fun u v wr => ∃ (i j q : Nat) (dj : Array α), u = .int .i64 i ∧ v = .int .i64 j ∧ 0 < i ∧ 0 < j ∧ RO T m i j dj ∧ wr = sortWorldK enc k w blk off q dj os) (fun u v _ => (intOf u).toNat + (intOf v).toNat)
  case atStart => exact ⟨m - a, b - m, m0, _, by first | rfl | go_num | (congr 1; omega), by first | rfl | go_num | (congr 1; omega), by omega, by omega, HR0.out, HW.out⟩
  case round =>
    obtain ⟨i, j, q, dj, rfl, rfl, hi, hj, hr, rfl⟩ := hrel
    obtain ⟨r1, r2, r3⟩ := hr.sz
    have HDZ : Hid (dj.size = d.size) := r1.trans HTL.out
    have hbb : m + j ≤ d.size := by rw [← HDZ.out]; exact r3
    have HR : Hid (RO T m i j dj) := hr
    clear hr r1 r3
    rcases Nat.lt_trichotomy i j with hlt | rfl | hgt
    · -- i < j
      have C1 := CS.out dj HDZ.out q ((m : Int) - (i : Int)) ((m : Int) + (j : Int) - (i : Int)) i (m - i) (m + j - i) i (by omega) (by omega) rfl (by omega) (by omega)
      have HC1 := hidI C1
      clear C1
      generalize hwq : sortWorldK enc k w blk off q dj os = wq at HC1
      clear hwq
      have b1 : ((i : Int) != (j : Int)) = true := by simp; omega
      have b2 : ¬ ((i : Int) > (j : Int)) := by omega
      go_wp2_with (first
        | go_skip
        | (go_at_fn 78; refine HC1.out.mono ?_; rintro e w' ⟨rfl, q2, rfl⟩; clear HC1))
      go_roundw
      case rel => exact ⟨i, j - i, q2, _, rfl, by first | rfl | go_num | (congr 1; omega), by omega, by omega, HR.out.lt hlt, rfl⟩
      case measure => simp [intOf]; omega
    · -- the end
      have C1 := CS.out dj HDZ.out q ((m : Int) - (i : Int)) m i (m - i) m i (by omega) rfl rfl (by omega) (by omega)
      have HC1 := hidI C1
      clear C1
      generalize hwq : sortWorldK enc k w blk off q dj os = wq at HC1
      clear hwq
      have b1 : ((i : Int) != (i : Int)) = false := by simp
      go_wp2_with (first
        | go_skip
        | (go_at_fn 78; refine HC1.out.mono ?_; rintro e w' ⟨rfl, q2, rfl⟩; clear HC1))
      go_end0
      exact ⟨rfl, q2, by rw [HR.out.eq]⟩
    · -- j < i
      have C1 := CS.out dj HDZ.out q ((m : Int) - (i : Int)) m j (m - i) m j (by omega) rfl rfl (by omega) (by omega)
      have HC1 := hidI C1
      clear C1
      generalize hwq : sortWorldK enc k w blk off q dj os = wq at HC1
      clear hwq
      have b1 : ((i : Int) != (j : Int)) = true := by simp; omega
      have b2 : (i : Int) > (j : Int) := by omega
      go_wp2_with (first
        | go_skip
        | (go_at_fn 78; refine HC1.out.mono ?_; rintro e w' ⟨rfl, q2, rfl⟩; clear HC1))
      go_roundw
      case rel => exact ⟨i - j, j, q2, _, by first | rfl | go_num | (congr 1; omega), rfl, by omega, by omega, HR.out.gt hgt, rfl⟩
      case measure => simp [intOf]; omega
end Go.Proofs.YtfbjakhanjbaeaaDoor
