/- The texts HgW3 HgW4 as one. -/
import Derived.Test.YtfbjakhanjbaeaaDoorHq3
import Derived.Test.YtfbjakhanjbaeaaDoorHq1
import Derived.Shelf.SlSortCmp.QuietGrown
/- slices.symMergeCmpFunc at records: two stretches beside each other, merged as they stand. -/
namespace Go.Proofs.YtfbjakhanjbaeaaDoor
open Go.RowKit Go.Maps Go.Sort Go.Shelf Go.Lib
set_option linter.unusedVariables false
set_option linter.unusedSimpArgs false
set_option linter.unusedSectionVars false
variable {α : Type} [Inhabited α]

/-- what the region of a comparison needs of memory -/
structure CR (P : Program) (g : Nat) (cb : Array Value) (enc : α → List Value) (k : Nat) (cf : α → α → Int) (blk off : Nat) (W : World) (D : Array α) (x y : Nat) : Prop where
  lx : ∀ n' os', Sem.run P (loadCellsFrom ⟨blk, off + x * k, none⟩ 0 k #[]) (grow (W.drewN n') os') = .ok (enc D[x]!).toArray (grow (W.drewN n') os')
  ly : ∀ n' os', Sem.run P (loadCellsFrom ⟨blk, off + y * k, none⟩ 0 k #[]) (grow (W.drewN n') os') = .ok (enc D[y]!).toArray (grow (W.drewN n') os')
  cm : ∀ n' os', Calls P g (#[.agg (enc D[x]!).toArray, .agg (enc D[y]!).toArray] ++ cb) (grow (W.drewN n') os') fun e w' => e = .returned (.int .i64 (cf D[x]! D[y]!)) ∧ ∃ q os'', w' = grow ((grow (W.drewN n') os').drewN q) os''
theorem cr_of {P : Program} {g : Nat} {cb : Array Value} {enc : α → List Value} {k : Nat} {cf : α → α → Int} (hk : ∀ x, (enc x).length = k) {w : World} {blk off : Nat} {d D : Array α} (hH : HoldsK enc k w blk off d) (hblk : blk < w.heap.size) (hs : D.size = d.size)
    (hcmp : CmpLays P g cb enc k cf blk off d.size w) (m : Nat) (os : Array Obj) {x y : Nat} (hx : x < d.size) (hy : y < d.size) : CR P g cb enc k cf blk off (sortWorldK enc k w blk off m D os) D x y where
  lx := fun n' os' => by rw [sortWorldK_grown_c]; exact sw_loads hk hH hblk hs _ _ P (by omega)
  ly := fun n' os' => by rw [sortWorldK_grown_c]; exact sw_loads hk hH hblk hs _ _ P (by omega)
  cm := fun n' os' => by rw [sortWorldK_grown_c]; exact hcmp _ _ D hs D[x]! D[y]!

theorem ltOf_yes {cf : α → α → Int} {x y : α} (h : cf x y < 0) : ltOf cf x y = true := decide_eq_true h
theorem ltOf_no {cf : α → α → Int} {x y : α} (h : ¬ cf x y < 0) : ltOf cf x y = false := decide_eq_false h

/-- the middle of two numbers, as the library reckons it -/
theorem mid_half (i j : Nat) (h : i + j < 9223372036854775808) : IntKind.i64.wrap ((IntKind.u64.wrap ((i : Int) + (j : Int))) / 2) = (((i + j) / 2 : Nat) : Int) := by
  have e : IntKind.u64.wrap ((i : Int) + (j : Int)) = ((i + j : Nat) : Int) := by rw [IntKind.wrap_u64]; omega
  rw [e, IntKind.wrap_i64]; omega

set_option maxHeartbeats 4000000 in
set_option maxRecDepth 8000 in
/-- the first list has one thing alone -/
theorem symM_one {P : Program} {k : Nat} (L : SoP P k) {enc : α → List Value} (hk : ∀ x, (enc x).length = k) (h1 : ∀ x, ∀ v ∈ enc x, v.oneCell' = true) {w : World} {blk off cap g : Nat} {cb : Array Value} {cf : α → α → Int} {d : Array α} (hH : HoldsK enc k w blk off d) (hblk : blk < w.heap.size) (hz : d.size ≤ 1000000)
    (eg : ∀ args w, (callFunc g args).run P w = .ok (.enter g args) w) (hcmp : CmpLays P g cb enc k cf blk off d.size w) (hw : SS.Wk (ltOf cf)) (m0 : Nat) (os : Array Obj)
    (A : List α) (x : α) (Y B : List α) (hs : (A ++ ([x] ++ (Y ++ B))).length = d.size) (hY : Y ≠ []) (sY : SS.Sd (ltOf cf) Y) {a m b : Nat} (ha : a = A.length) (hm : m = A.length + 1) (hb : b = A.length + 1 + Y.length) :
    Calls P 69 #[.slice (some ⟨blk, off, none⟩) d.size cap, .int .i64 a, .int .i64 m, .int .i64 b, .func (.func g) #[] cb] (sortWorldK enc k w blk off m0 (A ++ ([x] ++ (Y ++ B))).toArray os) fun e w' =>
      e = .returned (.tuple #[]) ∧ ∃ q os', w' = sortWorldK enc k w blk off q (A ++ (SS.mrg (ltOf cf) [x] Y ++ B)).toArray os' := by
  have hmono := SS.m1_mono hw A x Y B sY
  have hend := SS.m1_end hw A x Y B
  have hbs : SS.Bs (fun c => ltOf cf (A ++ ([x] ++ (Y ++ B))).toArray[c]! (A ++ ([x] ++ (Y ++ B))).toArray[A.length]!) (A.length + 1) (A.length + 1 + Y.length) (A.length + 1) (A.length + 1 + Y.length) := SS.Bs.start (by omega)
  rw [← hb, ← hm, ← ha] at hbs hmono
  rw [← hb, ← hm, ← ha] at hend
  have hlY : 0 < Y.length := List.length_pos_iff.2 hY
  have hbd : b ≤ d.size := by rw [← hs]; simp; omega
  obtain ⟨T, hT⟩ : ∃ T, T = (A ++ (SS.mrg (ltOf cf) [x] Y ++ B)).toArray := ⟨_, rfl⟩
  rw [← hT] at hend ⊢
  obtain ⟨D, hD⟩ : ∃ D, D = (A ++ ([x] ++ (Y ++ B))).toArray := ⟨_, rfl⟩
  have hds : D.size = d.size := by rw [hD, ← hs]; rfl
  rw [← hD] at hbs hmono hend ⊢
  have hma : m = a + 1 := by omega
  have hmb : m < b := by omega
  clear hD hT hY hlY ha hb hm hs sY
  have CRs : Hid (∀ q os x y, x < d.size → y < d.size → CR P g cb enc k cf blk off (sortWorldK enc k w blk off q D os) D x y) := fun q os x y hx hy => cr_of hk hH hblk hds hcmp q os hx hy
  have HS : Hid (∀ m os dj, dj.size = d.size → ∀ i j, i < d.size → j < d.size →
      Sem.run P (loadCellsFrom ⟨blk, off + i * k, none⟩ 0 k #[]) (sortWorldK enc k w blk off m dj os).drew = .ok (enc dj[i]!).toArray (sortWorldK enc k w blk off m dj os).drew ∧
      Sem.run P (loadCellsFrom ⟨blk, off + j * k, none⟩ 0 k #[]) (sortWorldK enc k w blk off m dj os).drew = .ok (enc dj[j]!).toArray (sortWorldK enc k w blk off m dj os).drew ∧
      Sem.run P (storeCells ⟨blk, off + i * k, none⟩ (enc dj[j]!) 0) (sortWorldK enc k w blk off m dj os).drew = .ok () ((sortWorldK enc k w blk off m dj os).drew.setCells blk (off + i * k) (enc dj[j]!)) ∧
      Sem.run P (storeCells ⟨blk, off + j * k, none⟩ (enc dj[i]!) 0) ((sortWorldK enc k w blk off m dj os).drew.setCells blk (off + i * k) (enc dj[j]!)) = .ok () (sortWorldK enc k w blk off (m + 1) (swp dj i j) os)) := fun m os dj hj i j hi hj' => by
    have := sw_stores hk h1 hH hblk hj m os P (by omega : i < dj.size) (by omega : j < dj.size)
    exact ⟨sw_loads hk hH hblk hj (m + 1) os _ (by omega), sw_loads hk hH hblk hj (m + 1) os _ (by omega), this.1, this.2⟩
  have HK : Hid (∀ x, (enc x).length = k) := hk
  have HMO := hidI hmono
  have HEND := hidI hend
  have HBS0 := hidI hbs
  have HCLS : Hid (∀ m D os n' os', grow ((sortWorldK enc k w blk off m D os).drewN n') os' = sortWorldK enc k w blk off (m + n') D (os ++ os')) := fun m D os n' os' => sortWorldK_grown_c enc k w blk off m n' D os os'
  have HDS := hidI hds
  obtain ⟨W, hW⟩ : ∃ W, W = sortWorldK enc k w blk off m0 D os := ⟨_, rfl⟩
  rw [← hW]
  have HW : Hid (W = sortWorldK enc k w blk off m0 D os) := hW
  have mixed := L.mixed; have t3 := L.t3; have a3 := L.a3; have z3 := L.z3; have v3 := L.v3; have t4 := L.t4; have a4 := L.a4; have z4 := L.z4; have v4 := L.v4; have t0 := L.t0; have a0 := L.a0; have z0 := L.z0; have v0 := L.v0
  have t22 := L.t22; have a22 := L.a22; have z22 := L.z22; have v22 := L.v22; have t75 := L.t75; have a75 := L.a75; have z75 := L.z75; have v75 := L.v75; have t78 := L.t78; have a78 := L.a78; have z78 := L.z78; have v78 := L.v78; have aE := L.aE; have zE := L.zE
  have u22 := run_underlying L.t22
  clear hk h1 hH hcmp hmono hend hbs hW hds hw
  have c0 : (((m : Int) - (a : Int)) == 1) = true := by simp; omega
  have HMA := hidI hma
  have ham : a < m := by omega
  clear hma
  go_enter L.Fsy, Tryd.ntmps69
  go_wp2_with fail
  go_loopw [10, 11, 12] (fun u v _ wr => ∃ (i j q : Nat) (os' : Array Obj), u = .int .i64 i ∧ v = .int .i64 j ∧ SS.Bs (fun c => ltOf cf D[c]! D[a]!) m b i j ∧ wr = sortWorldK enc k w blk off q D os') (fun u v _ _ => (intOf v).toNat - (intOf u).toNat)
  case atStart => exact ⟨m, b, m0, os, rfl, rfl, HBS0.out, HW.out⟩
  case round =>
    obtain ⟨i, j, q, os', rfl, rfl, hbs, rfl⟩ := hrel
    have p1 := hbs.a
    have p2 := hbs.b
    have p3 := hbs.c
    have HB := hidI hbs
    clear hbs HBS0
    by_cases hlt : i < j
    · obtain ⟨h, hh⟩ : ∃ h, h = (i + j) / 2 := ⟨_, rfl⟩
      have hmid : ((i : Int) + (j : Int)) / 2 = (h : Int) := by omega
      have q1 : i ≤ h := by omega
      have q2 : h < j := by omega
      have q3 : (h : Int) < (d.size : Int) := by omega
      have q4 : (a : Int) < (d.size : Int) := by omega
      obtain ⟨lx, ly, hcg⟩ := CRs.out q os' h a (by omega) (by omega)
      have cls := HCLS.out q D os'
      have HH := hidI hh
      clear hh
      obtain ⟨X1, hX1⟩ : ∃ X1, X1 = D[h]! := ⟨_, rfl⟩
      obtain ⟨X2, hX2⟩ : ∃ X2, X2 = D[a]! := ⟨_, rfl⟩
      rw [← hX1, ← hX2] at hcg
      rw [← hX1] at lx
      rw [← hX2] at ly
      have HX := hidI (And.intro hX1 hX2)
      have CLS := hidI cls
      clear cls hX1 hX2
      generalize hwq : sortWorldK enc k w blk off q D os' = wq at lx ly hcg CLS ⊢
      clear hwq
      by_cases hlv : cf X1 X2 < 0
      · go_wp2_with fail
        go_quiet_grown (first | (go_at_fn g; refine Calls.grown_of (hcg _ _)))
        go_wp2_with fail
        go_roundw
        case rel => exact ⟨h + 1, j, _, _, by first | rfl | go_num, rfl, by rw [HH.out]; exact HB.out.up (fun c c' a1 a2 a3 => HMO.out c c' a1 a2 a3) hlt (by rw [← HH.out, ← HX.out.1, ← HX.out.2]; exact ltOf_yes hlv), CLS.out _ _⟩
        case measure => simp [intOf]; omega
      · go_wp2_with fail
        go_quiet_grown (first | (go_at_fn g; refine Calls.grown_of (hcg _ _)))
        go_wp2_with fail
        go_roundw
        case rel => exact ⟨i, h, _, _, rfl, rfl, by rw [HH.out]; exact HB.out.dn (fun c c' a1 a2 a3 => HMO.out c c' a1 a2 a3) hlt (by rw [← HH.out, ← HX.out.1, ← HX.out.2]; exact ltOf_no (by omega)), CLS.out _ _⟩
        case measure => simp [intOf]; omega
    · obtain rfl : i = j := by omega
      have HE := hidI (HEND.out i HB.out)
      clear HB HMO HEND
      generalize hwq : sortWorldK enc k w blk off q D os' = wq
      have HWQ := hidI hwq
      clear hwq
      go_wp2_with fail
      go_loopw [13] (fun u wr => ∃ (t q : Nat), u = .int .i64 ((a + t : Nat) : Int) ∧ t ≤ i - m ∧ wr = sortWorldK enc k w blk off q (SS.shU D a t) os') (fun u _ => b - (intOf u).toNat)
      case atStart => exact ⟨0, q, rfl, Nat.zero_le _, HWQ.out.symm⟩
      case round =>
        obtain ⟨t, q5, rfl, ht, rfl⟩ := hrel
        by_cases hgo : t < i - m
        · have hma := HMA.out
          obtain ⟨l1, l2, s1, s2⟩ := HS.out q5 os' (SS.shU D a t) (by rw [SS.shU_size]; exact HDS.out) (a + t) (a + t + 1) (by omega) (by omega)
          obtain ⟨dj, hdj⟩ : ∃ dj, dj = SS.shU D a t := ⟨_, rfl⟩
          have HN : Hid (swp (SS.shU D a t) (a + t) (a + t + 1) = SS.shU D a (t + 1)) := rfl
          rw [← hdj] at l1 l2 s1 s2
          rw [show SS.shU D a t = dj from hdj.symm]
          have HJ : Hid (dj = SS.shU D a t) := hdj
          have z1 := HK.out dj[a + t]!
          have z2 := HK.out dj[a + t + 1]!
          obtain ⟨x, hx⟩ : ∃ x, x = enc dj[a + t]! := ⟨_, rfl⟩
          obtain ⟨y, hy⟩ : ∃ y, y = enc dj[a + t + 1]! := ⟨_, rfl⟩
          rw [← hx] at l1 s2 z1
          rw [← hy] at l2 s1 s2 z2
          obtain ⟨w3, hw3⟩ : ∃ w3, w3 = sortWorldK enc k w blk off (q5 + 1) (swp dj (a + t) (a + t + 1)) os' := ⟨_, rfl⟩
          rw [← hw3] at s2
          have HW3 := hidI hw3
          clear hx hy hdj hw3
          generalize hw2 : sortWorldK enc k w blk off q5 dj os' = w2 at l1 l2 s1 s2
          clear hw2
          obtain ⟨z, hz'⟩ : ∃ z, z = a + t := ⟨_, rfl⟩
          rw [← hz'] at l1 l2 s1 s2 ⊢
          have HZ := hidI hz'
          have c1 : IntKind.i64.wrap ((z : Int) + 1) = (z : Int) + 1 := by rw [IntKind.wrap_i64]; omega
          have p0 : (0 : Int) ≤ (z : Int) + 1 := by omega
          have p5 : (z : Int) + 1 < (d.size : Int) := by omega
          have p6 : (z : Int) < (d.size : Int) := by omega
          have e1 : ((z : Int) + 1).toNat = z + 1 := by omega
          have hltz : (z : Int) < (i : Int) - 1 := by omega
          clear hz' hma
          go_wp2_with fail
          go_big_region_o
          all_goals go_wp2_with fail
          go_roundw
          case rel => exact ⟨t + 1, q5 + 1, by have := HZ.out; have := HMA.out; first | rfl | go_num | (congr 1; omega), by omega, by rw [HW3.out, HJ.out]; first | rw [HN.out] | rw [HZ.out, HN.out]⟩
          case measure => have := HZ.out; have := HMA.out; simp [intOf]; omega
        · obtain rfl : t = i - m := by omega
          have hltz : ¬ (((a + (i - m) : Nat) : Int) < (i : Int) - 1) := by have := HMA.out; omega
          rw [HE.out]
          generalize hw5 : sortWorldK enc k w blk off q5 T os' = wq5
          have HW5 := hidI hw5
          clear hw5
          go_wp2_with fail
          first | refine bodyPost_end (results_none rfl _ _ _) rfl ?_ | refine bodyPost_ret (results_none rfl _ _ _) rfl ?_
          exact ⟨rfl, q5, os', HW5.out.symm⟩
end Go.Proofs.YtfbjakhanjbaeaaDoor

/- slices.symMergeCmpFunc where the second list has one thing alone. -/
namespace Go.Proofs.YtfbjakhanjbaeaaDoor
open Go.RowKit Go.Maps Go.Sort Go.Shelf Go.Lib
set_option linter.unusedVariables false
set_option linter.unusedSimpArgs false
set_option linter.unusedSectionVars false
variable {α : Type} [Inhabited α]

set_option maxHeartbeats 4000000 in
set_option maxRecDepth 8000 in
/-- the second list has one thing alone -/
theorem symM_last {P : Program} {k : Nat} (L : SoP P k) {enc : α → List Value} (hk : ∀ x, (enc x).length = k) (h1 : ∀ x, ∀ v ∈ enc x, v.oneCell' = true) {w : World} {blk off cap g : Nat} {cb : Array Value} {cf : α → α → Int} {d : Array α} (hH : HoldsK enc k w blk off d) (hblk : blk < w.heap.size) (hz : d.size ≤ 1000000)
    (eg : ∀ args w, (callFunc g args).run P w = .ok (.enter g args) w) (hcmp : CmpLays P g cb enc k cf blk off d.size w) (hw : SS.Wk (ltOf cf)) (m0 : Nat) (os : Array Obj)
    (A X : List α) (y : α) (B : List α) (hs : (A ++ (X ++ ([y] ++ B))).length = d.size) (hX : 1 < X.length) (sX : SS.Sd (ltOf cf) X) {a m b : Nat} (ha : a = A.length) (hm : m = A.length + X.length) (hb : b = A.length + X.length + 1) :
    Calls P 69 #[.slice (some ⟨blk, off, none⟩) d.size cap, .int .i64 a, .int .i64 m, .int .i64 b, .func (.func g) #[] cb] (sortWorldK enc k w blk off m0 (A ++ (X ++ ([y] ++ B))).toArray os) fun e w' =>
      e = .returned (.tuple #[]) ∧ ∃ q os', w' = sortWorldK enc k w blk off q (A ++ (SS.mrg (ltOf cf) X [y] ++ B)).toArray os' := by
  have hmono := SS.m2_mono hw A X y B sX
  have hend := SS.m2_end hw A X y B
  have hbs : SS.Bs (fun c => !ltOf cf (A ++ (X ++ ([y] ++ B))).toArray[A.length + X.length]! (A ++ (X ++ ([y] ++ B))).toArray[c]!) A.length (A.length + X.length) A.length (A.length + X.length) := SS.Bs.start (by omega)
  rw [← hm, ← ha] at hbs hmono
  rw [← hm, ← ha] at hend
  have hbd : b ≤ d.size := by rw [← hs]; simp; omega
  obtain ⟨T, hT⟩ : ∃ T, T = (A ++ (SS.mrg (ltOf cf) X [y] ++ B)).toArray := ⟨_, rfl⟩
  rw [← hT] at hend ⊢
  obtain ⟨D, hD⟩ : ∃ D, D = (A ++ (X ++ ([y] ++ B))).toArray := ⟨_, rfl⟩
  have hds : D.size = d.size := by rw [hD, ← hs]; rfl
  rw [← hD] at hbs hmono hend ⊢
  have hma : b = m + 1 := by omega
  have hmb : a + 1 < m := by omega
  clear hD hT hX ha hb hm hs sX
  have CRs : Hid (∀ q os x y, x < d.size → y < d.size → CR P g cb enc k cf blk off (sortWorldK enc k w blk off q D os) D x y) := fun q os x y hx hy => cr_of hk hH hblk hds hcmp q os hx hy
  have HS : Hid (∀ m os dj, dj.size = d.size → ∀ i j, i < d.size → j < d.size →
      Sem.run P (loadCellsFrom ⟨blk, off + i * k, none⟩ 0 k #[]) (sortWorldK enc k w blk off m dj os).drew = .ok (enc dj[i]!).toArray (sortWorldK enc k w blk off m dj os).drew ∧
      Sem.run P (loadCellsFrom ⟨blk, off + j * k, none⟩ 0 k #[]) (sortWorldK enc k w blk off m dj os).drew = .ok (enc dj[j]!).toArray (sortWorldK enc k w blk off m dj os).drew ∧
      Sem.run P (storeCells ⟨blk, off + i * k, none⟩ (enc dj[j]!) 0) (sortWorldK enc k w blk off m dj os).drew = .ok () ((sortWorldK enc k w blk off m dj os).drew.setCells blk (off + i * k) (enc dj[j]!)) ∧
      Sem.run P (storeCells ⟨blk, off + j * k, none⟩ (enc dj[i]!) 0) ((sortWorldK enc k w blk off m dj os).drew.setCells blk (off + i * k) (enc dj[j]!)) = .ok () (sortWorldK enc k w blk off (m + 1) (swp dj i j) os)) := fun m os dj hj i j hi hj' => by
    have := sw_stores hk h1 hH hblk hj m os P (by omega : i < dj.size) (by omega : j < dj.size)
    exact ⟨sw_loads hk hH hblk hj (m + 1) os _ (by omega), sw_loads hk hH hblk hj (m + 1) os _ (by omega), this.1, this.2⟩
  have HK : Hid (∀ x, (enc x).length = k) := hk
  have HMO := hidI hmono
  have HEND := hidI hend
  have HBS0 := hidI hbs
  have HCLS : Hid (∀ m D os n' os', grow ((sortWorldK enc k w blk off m D os).drewN n') os' = sortWorldK enc k w blk off (m + n') D (os ++ os')) := fun m D os n' os' => sortWorldK_grown_c enc k w blk off m n' D os os'
  have HDS := hidI hds
  obtain ⟨W, hW⟩ : ∃ W, W = sortWorldK enc k w blk off m0 D os := ⟨_, rfl⟩
  rw [← hW]
  have HW : Hid (W = sortWorldK enc k w blk off m0 D os) := hW
  have mixed := L.mixed; have t3 := L.t3; have a3 := L.a3; have z3 := L.z3; have v3 := L.v3; have t4 := L.t4; have a4 := L.a4; have z4 := L.z4; have v4 := L.v4; have t0 := L.t0; have a0 := L.a0; have z0 := L.z0; have v0 := L.v0
  have t22 := L.t22; have a22 := L.a22; have z22 := L.z22; have v22 := L.v22; have t75 := L.t75; have a75 := L.a75; have z75 := L.z75; have v75 := L.v75; have t78 := L.t78; have a78 := L.a78; have z78 := L.z78; have v78 := L.v78; have aE := L.aE; have zE := L.zE
  have u22 := run_underlying L.t22
  clear hk h1 hH hcmp hmono hend hbs hW hds hw
  have c0 : (((m : Int) - (a : Int)) == 1) = false := by simp; omega
  have c1 : (((b : Int) - (m : Int)) == 1) = true := by simp; omega
  have HMA := hidI hma
  have ham : m < b := by omega
  clear hma
  go_enter L.Fsy, Tryd.ntmps69
  go_wp2_with fail
  go_loopw [14, 15, 16] (fun u v _ wr => ∃ (i j q : Nat) (os' : Array Obj), u = .int .i64 i ∧ v = .int .i64 j ∧ SS.Bs (fun c => !ltOf cf D[m]! D[c]!) a m i j ∧ wr = sortWorldK enc k w blk off q D os') (fun u v _ _ => (intOf v).toNat - (intOf u).toNat)
  case atStart => exact ⟨a, m, m0, os, rfl, rfl, HBS0.out, HW.out⟩
  case round =>
    obtain ⟨i, j, q, os', rfl, rfl, hbs, rfl⟩ := hrel
    have p1 := hbs.a
    have p2 := hbs.b
    have p3 := hbs.c
    have HB := hidI hbs
    clear hbs HBS0
    by_cases hlt : i < j
    · obtain ⟨h, hh⟩ : ∃ h, h = (i + j) / 2 := ⟨_, rfl⟩
      have hmid : ((i : Int) + (j : Int)) / 2 = (h : Int) := by omega
      have q1 : i ≤ h := by omega
      have q2 : h < j := by omega
      have q3 : (h : Int) < (d.size : Int) := by omega
      have q4 : (m : Int) < (d.size : Int) := by omega
      obtain ⟨lx, ly, hcg⟩ := CRs.out q os' m h (by omega) (by omega)
      have cls := HCLS.out q D os'
      have HH := hidI hh
      clear hh
      obtain ⟨X1, hX1⟩ : ∃ X1, X1 = D[m]! := ⟨_, rfl⟩
      obtain ⟨X2, hX2⟩ : ∃ X2, X2 = D[h]! := ⟨_, rfl⟩
      rw [← hX1, ← hX2] at hcg
      rw [← hX1] at lx
      rw [← hX2] at ly
      have HX := hidI (And.intro hX1 hX2)
      have CLS := hidI cls
      clear cls hX1 hX2
      generalize hwq : sortWorldK enc k w blk off q D os' = wq at lx ly hcg CLS ⊢
      clear hwq
      by_cases hlv : cf X1 X2 < 0
      · have hB : decide (cf X1 X2 < 0) = true := decide_eq_true hlv
        have HR : Hid (SS.Bs (fun c => !ltOf cf D[m]! D[c]!) a m i h) := by
          show SS.Bs _ _ _ _ _
          rw [HH.out]; exact HB.out.dn (fun c c' a1 a2 a3 => HMO.out c c' a1 a2 a3) hlt (by rw [← HH.out, ← HX.out.1, ← HX.out.2, ltOf_yes hlv]; rfl)
        go_wp2_with fail
        go_quiet_grown (first | (go_at_fn g; refine Calls.grown_of (hcg _ _)))
        all_goals go_wp2_with fail
        all_goals first
          | (exfalso; omega)
          | (exfalso; simp_all; done)
          | (go_roundw; (case rel => exact ⟨i, h, _, _, rfl, rfl, HR.out, CLS.out _ _⟩); (case measure => simp [intOf]; omega))
          | exact ⟨⟨i, h, _, _, rfl, rfl, HR.out, CLS.out _ _⟩, by simp [intOf]; omega⟩
      · have hB : decide (cf X1 X2 < 0) = false := decide_eq_false (by omega)
        have HR : Hid (SS.Bs (fun c => !ltOf cf D[m]! D[c]!) a m (h + 1) j) := by
          show SS.Bs _ _ _ _ _
          rw [HH.out]; exact HB.out.up (fun c c' a1 a2 a3 => HMO.out c c' a1 a2 a3) hlt (by rw [← HH.out, ← HX.out.1, ← HX.out.2, ltOf_no (by omega)]; rfl)
        go_wp2_with fail
        go_quiet_grown (first | (go_at_fn g; refine Calls.grown_of (hcg _ _)))
        all_goals go_wp2_with fail
        all_goals first
          | (exfalso; omega)
          | (exfalso; simp_all; done)
          | (go_roundw; (case rel => exact ⟨h + 1, j, _, _, by first | rfl | go_num, rfl, HR.out, CLS.out _ _⟩); (case measure => simp [intOf]; omega))
          | exact ⟨⟨h + 1, j, _, _, by first | rfl | go_num, rfl, HR.out, CLS.out _ _⟩, by simp [intOf]; omega⟩
    · obtain rfl : i = j := by omega
      have HE := hidI (HEND.out i HB.out)
      clear HB HMO HEND
      generalize hwq : sortWorldK enc k w blk off q D os' = wq
      have HWQ := hidI hwq
      clear hwq
      go_wp2_with fail
      go_loopw [17] (fun u wr => ∃ (t q : Nat), u = .int .i64 ((m - t : Nat) : Int) ∧ t ≤ m - i ∧ wr = sortWorldK enc k w blk off q (SS.shD D m t) os') (fun u _ => (intOf u).toNat)
      case atStart => exact ⟨0, q, rfl, Nat.zero_le _, HWQ.out.symm⟩
      case round =>
        obtain ⟨t, q5, rfl, ht, rfl⟩ := hrel
        by_cases hgo : t < m - i
        · have hma := HMA.out
          obtain ⟨l1, l2, s1, s2⟩ := HS.out q5 os' (SS.shD D m t) (by rw [SS.shD_size]; exact HDS.out) (m - t) (m - t - 1) (by omega) (by omega)
          obtain ⟨dj, hdj⟩ : ∃ dj, dj = SS.shD D m t := ⟨_, rfl⟩
          have HN : Hid (swp (SS.shD D m t) (m - t) (m - t - 1) = SS.shD D m (t + 1)) := rfl
          rw [← hdj] at l1 l2 s1 s2
          rw [show SS.shD D m t = dj from hdj.symm]
          have HJ : Hid (dj = SS.shD D m t) := hdj
          have z1 := HK.out dj[m - t]!
          have z2 := HK.out dj[m - t - 1]!
          obtain ⟨x, hx⟩ : ∃ x, x = enc dj[m - t]! := ⟨_, rfl⟩
          obtain ⟨y, hy⟩ : ∃ y, y = enc dj[m - t - 1]! := ⟨_, rfl⟩
          rw [← hx] at l1 s2 z1
          rw [← hy] at l2 s1 s2 z2
          obtain ⟨w3, hw3⟩ : ∃ w3, w3 = sortWorldK enc k w blk off (q5 + 1) (swp dj (m - t) (m - t - 1)) os' := ⟨_, rfl⟩
          rw [← hw3] at s2
          have HW3 := hidI hw3
          clear hx hy hdj hw3
          generalize hw2 : sortWorldK enc k w blk off q5 dj os' = w2 at l1 l2 s1 s2
          clear hw2
          obtain ⟨z, hz'⟩ : ∃ z, z = m - t - 1 := ⟨_, rfl⟩
          have hz2 : m - t = z + 1 := by omega
          rw [← hz'] at l2 s2
          rw [hz2] at l1 s1 s2 ⊢
          have HZ := hidI hz'
          have c1 : IntKind.i64.wrap (z : Int) = (z : Int) := by rw [IntKind.wrap_i64]; omega
          have c2 : (z : Int) + 1 - 1 = (z : Int) := by omega
          have p0 : (0 : Int) ≤ (z : Int) + 1 := by omega
          have p5 : (z : Int) + 1 < (d.size : Int) := by omega
          have p6 : (z : Int) < (d.size : Int) := by omega
          have e1 : ((z : Int) + 1).toNat = z + 1 := by omega
          have hltz : (z : Int) + 1 > (i : Int) := by omega
          have HZ2 := hidI hz2
          clear hz' hma hz2
          go_wp2_with fail
          go_big_region_o
          all_goals go_wp2_with fail
          go_roundw
          case rel => exact ⟨t + 1, q5 + 1, by have := HZ.out; have := HMA.out; first | rfl | go_num | (congr 1; omega), by omega, by rw [HW3.out, HJ.out]; exact congrArg (fun x => sortWorldK enc k w blk off (q5 + 1) x os') HN.out⟩
          case measure => have := HZ.out; have := HZ2.out; simp [intOf] <;> omega
        · obtain rfl : t = m - i := by omega
          have hltz : ¬ (((m - (m - i) : Nat) : Int) > (i : Int)) := by omega
          rw [HE.out]
          generalize hw5 : sortWorldK enc k w blk off q5 T os' = wq5
          have HW5 := hidI hw5
          clear hw5
          go_wp2_with fail
          first | refine bodyPost_end (results_none rfl _ _ _) rfl ?_ | refine bodyPost_ret (results_none rfl _ _ _) rfl ?_
          exact ⟨rfl, q5, os', HW5.out.symm⟩
end Go.Proofs.YtfbjakhanjbaeaaDoor
