/- The first in the walk is the node of the point that comes next: the walk. -/
import Derived.Test.YtfghjadhpajmeaaDoorRiO
namespace Go.Proofs.YtfghjadhpajmeaaDoor
open Go.RowKit Go.Maps Go.Sort Go.Shelf
set_option linter.unusedVariables false
set_option linter.unusedSimpArgs false
attribute [local go_sem ↓] zero27

theorem nodup_len : ∀ (l m : List Int), l.Pairwise (· ≠ ·) → (∀ x ∈ l, x ∈ m) → l.length ≤ m.length
  | [], m, _, _ => Nat.zero_le _
  | x :: r, m, h, k => by
    rw [List.pairwise_cons] at h
    have hx := k x List.mem_cons_self
    have ih := nodup_len r (m.erase x) h.2 (fun y hy => (List.mem_erase_of_ne (fun e => h.1 y hy e.symm)).2 (k y (List.mem_cons_of_mem _ hy)))
    have := List.length_erase_of_mem hx
    have h1 : 0 < m.length := List.length_pos_of_mem hx
    rw [List.length_cons]; omega
/-- the nodes up to k whose flag stands -/
def nd (fl : List Bool) : Nat → List Int
  | 0 => []
  | k + 1 => if fl.getD k false = true then nd fl k ++ [(k : Int) + 1] else nd fl k
theorem nd_len (fl : List Bool) : ∀ k, (nd fl k).length ≤ k
  | 0 => Nat.le_refl _
  | k + 1 => by
    have := nd_len fl k
    unfold nd; split
    · rw [List.length_append]; simp; omega
    · omega
theorem nd_mem (fl : List Bool) : ∀ k, ∀ x ∈ nd fl k, 1 ≤ x ∧ x ≤ k
  | 0, x, h => by cases h
  | k + 1, x, h => by
    have ih := nd_mem fl k
    unfold nd at h; split at h
    · rcases List.mem_append.1 h with h | h
      · have := ih x h; omega
      · rw [List.mem_singleton] at h; omega
    · have := ih x h; omega
theorem nd_pw (fl : List Bool) : ∀ k, (nd fl k).Pairwise (· ≠ ·)
  | 0 => by simp [nd]
  | k + 1 => by
    have ih := nd_pw fl k
    unfold nd; split
    · rw [List.pairwise_append]
      refine ⟨ih, by simp, fun a ha b hb => ?_⟩
      rw [List.mem_singleton] at hb
      have := nd_mem fl k a ha
      omega
    · exact ih
theorem isW_len {f : Int → Int} {l o : List Int} (h : RI.IsW f l o) (hp : l.Pairwise (· ≠ ·)) (hm : ∀ x ∈ l, 1 ≤ x ∧ x ≤ 6) : o.length = l.length :=
  Nat.le_antisymm (nodup_len o l h.nodup (fun x hx => ((h.mem x).1 hx).2.2)) (nodup_len l o hp (fun x hx => (h.mem x).2 ⟨(hm x hx).1, (hm x hx).2, hx⟩))
/-- the nearest of the first k points -/
def mn (p x : Int) : Nat → Int
  | 0 => 18446744073709551615
  | k + 1 => min (mn p x k) (RI.dist p (RI.pt x (k : Int)))
theorem mn_near (p x : Int) : ∀ k, mn p x (k + 1) = RI.nearN p x k
  | 0 => by
    have := RI.dist_lt p (RI.pt x 0)
    show min 18446744073709551615 (RI.dist p (RI.pt x 0)) = RI.dist p (RI.pt x 0)
    omega
  | k + 1 => by
    show min (mn p x (k + 1)) _ = min (RI.nearN p x k) _
    rw [mn_near p x k]
theorem mn8 (p x : Int) : mn p x 8 = RI.near p x := mn_near p x 7
set_option maxRecDepth 8000 in
set_option maxHeartbeats 8000000 in
theorem ringNear_walk (d : List UInt8) (hd : d.length = 32) (fl : List Bool) (hfl : fl.length = 6) (w : World) (hG : GW w) :
    Calls Tryd.prog 5 #[.agg (dg d), .agg (fl.map Value.bool).toArray] w fun e w' => e = .returned (.bool true) ∧ Below w.heap.size w w' := by
  have hz := hG.z
  obtain ⟨LD, hLD⟩ : ∃ LD : List Value, LD = d.map vb := ⟨_, rfl⟩
  have hdl : dg d = LD.toArray := by rw [hLD]; rfl
  have hLs : LD.length = 32 := by rw [hLD, List.length_map, hd]
  have hLi : (Tryd.prog.info? 23).map (·.size) = some LD.length := by rw [hLs]; exact info27
  obtain ⟨FA, hFA⟩ : ∃ FA : Array Value, FA = (fl.map Value.bool).toArray := ⟨_, rfl⟩
  have hFs : FA.size = 6 := by rw [hFA]; simp [hfl]
  have hG0 : GB w ((w.alloc (.cells LD.toArray 23)).alloc (.cells FA 37)) := ((GB.refl hG).alloc _).alloc _
  have KP : Hid (∀ U, GB ((w.alloc (.cells LD.toArray 23)).alloc (.cells FA 37)) U → U.rangeAt w.heap.size 0 LD) := fun U hU j v hv => by
    rw [Nat.zero_add, hU.b.cell (p := ⟨w.heap.size, j, none⟩) (by simp; omega), Below.cell (p := ⟨w.heap.size, j, none⟩) ((Bl.refl (w.alloc (.cells LD.toArray 23))).alloc _) (by simp), Lib.cell_of_heap (heap_alloc_new _ _), List.getElem?_toArray]; exact hv
  have KF : Hid (∀ U, GB ((w.alloc (.cells LD.toArray 23)).alloc (.cells FA 37)) U → ∀ k, k < 6 → U.cell? ⟨w.heap.size + 1, k, none⟩ = some (.bool (fl.getD k false))) := fun U hU k hk => by
    have e1 : (w.alloc (.cells LD.toArray 23)).heap.size = w.heap.size + 1 := by simp
    have e2 := heap_alloc_new (w.alloc (.cells LD.toArray 23)) (.cells FA 37)
    rw [e1] at e2
    rw [hU.b.cell (p := ⟨w.heap.size + 1, k, none⟩) (by simp), Lib.cell_of_heap e2, hFA, List.getElem?_toArray, List.getElem?_map, List.getElem?_eq_getElem (by omega)]
    simp [List.getD_eq_getElem?_getD, List.getElem?_eq_getElem (show k < fl.length by omega)]
  rw [hdl]
  rw [← hFA]
  generalize hw0 : (w.alloc (.cells LD.toArray 23)).alloc (.cells FA 37) = w0 at *
  have HG0 : Hid (GB w w0) := hG0
  have CA : Hid (Calls Tryd.prog 7 #[] w0 fun e w' => e = .returned (.bool true) ∧ GB w0 w') := awake_13 w0 hG0.g
  have CW : Hid (∀ (q : List Int) (ao : Option Addr) (co : Nat) R U, KS w0 ((ao, q) :: R) U → q.length ≤ 1000 → Calls Tryd.prog 13 #[.agg LD.toArray, .slice ao q.length co] U fun e w' => ∃ a1 c1 out, e = .returned (.slice a1 out.length c1) ∧ RI.IsW (RI.near (RI.place d)) q out ∧ KS w0 ((a1, out) :: (ao, q) :: R) w') := fun q ao co R U h hq => by
    rw [← hdl]
    refine (Walk_x d hd q ao _ co rfl U h.1.g (h.2 (ao, q) List.mem_cons_self) (by omega)).mono ?_
    rintro e w' ⟨v, out, rfl, h1, h2, h3⟩
    obtain ⟨a', c', rfl, h4⟩ := owns_rs lyI h2
    exact ⟨a', c', out, rfl, h1, (h.step h3).add h4⟩
  have CP : Hid (∀ R U, KS w0 R U → Calls Tryd.prog 10 #[.agg LD.toArray] U fun e w' => e = .returned (.int .u64 (RI.place d : Nat)) ∧ KS w0 R w') := fun R U h => by
    rw [← hdl]
    exact (Place_x d hd U).mono fun e w' ⟨h1, h2⟩ => ⟨h1, h.step ((GB.refl h.1.g).step h2)⟩
  have CQ : Hid (∀ (x : Int) (k : Nat) V U, 1 ≤ x → x ≤ 6 → k < 8 → GB V U → Calls Tryd.prog 8 #[.int .i64 x, .int .i64 k] U fun e w' => e = .returned (.tuple #[.int .u64 (RI.pt x k : Nat), .int .i64 0]) ∧ GB V w') := fun x k V U h1 h2 h3 h => Point_yes x k h h1 h2 (by omega) (by omega)
  clear hG hG0 hLD hdl hFA
  go_enter Tryd.func5, Tryd.ntmps5
  go_upto_region 3 with (first
    | go_skip
    | (go_at_call 7; refine (CA.out).mono ?_; clear CA; rintro e w1 ⟨rfl, HB⟩))
  have HBa : Bl w1 (w1.alloc (.cells #[] 3)) := (Bl.refl w1).alloc _
  have HOa : (w1.alloc (.cells #[] 3)).ownsRow w1.heap.size 3 1 (.slice (some ⟨w1.heap.size, 0, none⟩) 0 0) 0 [] := own_emptyR w1 3 1
  have HG1 : Hid (GB w0 w1) := HB
  clear HB
  go_wp2_with fail
  go_loopw [5, 6] (fun u5 u6 wr => ∃ k : Nat, k ≤ 6 ∧ u6 = .int .i64 ((k : Int) + 1) ∧ Bl w1 wr ∧ wr.ownsRow w1.heap.size 3 1 u5 (nd fl k).length (flG lyI (nd fl k))) (fun _ u6 _ => 7 - (intOf u6).toNat)
  case atStart => exact ⟨0, by omega, rfl, HBa, HOa⟩
  case round =>
    clear HBa HOa
    obtain ⟨k, hk, rfl, HB, ho⟩ := hrel
    by_cases hlt : k < 6
    · have hcell := KF.out wr (HG1.out.step HB) k hlt
      have hal := nd_len fl k
      have HO : Hid (wr.ownsRow w1.heap.size 3 1 u5 (nd fl k).length (flG lyI (nd fl k))) := ho
      have HBh : Hid (Bl w1 wr) := HB
      clear ho HB
      cases hq : fl.getD k false
      · have HX : Hid (nd fl (k + 1) = nd fl k) := by
          show nd fl (k + 1) = _
          conv => lhs; unfold nd; rw [hq]
          simp
        rw [hq] at hcell
        generalize nd fl k = L at *
        go_wp2_with fail
        go_roundw
        case rel => exact ⟨k + 1, by omega, by go_num, HBh.out, by rw [HX.out]; exact HO.out⟩
        case measure => simp [intOf] <;> omega
      · have HX : Hid (nd fl (k + 1) = nd fl k ++ [(k : Int) + 1]) := by
          show nd fl (k + 1) = _
          conv => lhs; unfold nd; rw [hq]
          simp
        rw [hq] at hcell
        generalize nd fl k = L at *
        go_wp2_with (first
          | go_skip
          | (refine wl_app1M lyI 3 24 (.int .i64 0) 8 undIs infoI3 rfl (by decide) rfl _ _ rfl L.length L rfl ((k : Int) + 1) u5 rfl HBh.out HO.out wr.heap.size rfl rfl (by omega) ?_ _ rfl rfl; intro a' c' w5 g1 g2 g3))
        have z1 : w5.ownsRow w1.heap.size 3 1 (.slice a' (L.length + 1) c') (nd fl (k + 1)).length (flG lyI (nd fl (k + 1))) := by
          rw [HX.out, List.length_append]; exact g1
        go_roundw
        case rel => exact ⟨k + 1, by omega, by go_num, g2, z1⟩
        case measure => simp [intOf] <;> omega
    · obtain rfl : k = 6 := by omega
      obtain ⟨a5, c5, h5, hr5⟩ := owns_rs lyI ho
      subst h5
      have HNL := nd_len fl 6
      have HK : KS w0 [(a5, nd fl 6)] wr := ⟨HG1.out.step HB, fun r hr => by
        rcases List.mem_cons.1 hr with rfl | hr
        · exact hr5
        · cases hr⟩
      have HNW : Hid (∀ o, RI.IsW (RI.near (RI.place d)) (nd fl 6) o → o.length = (nd fl 6).length) := fun o h => isW_len h (nd_pw fl 6) (fun x hx => nd_mem fl 6 x hx)
      have CW1 : Hid (∀ U, KS w0 [(a5, nd fl 6)] U → Calls Tryd.prog 13 #[.agg LD.toArray, .slice a5 (nd fl 6).length c5] U fun e w' => ∃ a1 c1 out, e = .returned (.slice a1 out.length c1) ∧ out.length = (nd fl 6).length ∧ RI.IsW (RI.near (RI.place d)) (nd fl 6) out ∧ KS w0 [(a1, out), (a5, nd fl 6)] w') := fun U h => by
        refine (CW.out _ a5 c5 [] U h (by omega)).mono ?_
        rintro e w' ⟨a1, c1, out, rfl, h1, h2⟩
        exact ⟨a1, c1, out, rfl, HNW.out out h1, h1, h2⟩
      clear ho hr5 HB HG1 KF hlt hk CW HNW
      generalize nd fl 6 = N6 at *
      go_upto_region 13 with (first
        | go_skip
        | (refine wl_midG (by rfl) 23 _ rfl w.heap.size 0 rfl LD _ (KP.out _ HK.1) und27 rfl hLi ?_)
        | (go_at_call 13; refine (CW1.out _ HK).mono ?_; clear CW1 HK; rintro e w2 ⟨a1, c1, out, rfl, hno, HW, HK⟩)
        | (go_at_call 10; refine (CP.out _ _ HK).mono ?_; clear CP HK; rintro e w3 ⟨rfl, HK⟩))
      rw [← hno]
      have HK3 : Hid (KS w0 [(a1, out), (a5, N6)] w3) := HK
      have HNN : Hid (out.length = N6.length) := hno
      clear hno
      have HB3 : Hid (GB w w3) := HG0.out.step HK.1.b
      have hol := HW.len
      have HIN : Hid (∀ (k : Nat) (y : Int), out[k]? = some y → 1 ≤ y ∧ y ≤ 6) := fun k y h => by
        have := (HW.mem y).1 (List.mem_of_getElem? h); exact ⟨this.1, this.2.1⟩
      have HLT : Hid (∀ (k : Nat) (y z : Int), out[k]? = some y → out[k + 1]? = some z → RI.Lt (RI.near (RI.place d)) y z) := fun k y z h1 h2 => by
        obtain ⟨hk', e1⟩ := List.getElem?_eq_some_iff.1 h1
        obtain ⟨hj', e2⟩ := List.getElem?_eq_some_iff.1 h2
        have := List.pairwise_iff_getElem.1 HW.pw k (k + 1) hk' hj' (by omega)
        rwa [e1, e2] at this
      clear HK HW KP hLi hLs hFs hfl HG0 hz
      generalize ((RI.place d : Nat) : Int) = p at *
      go_wp2_with fail
      go_loopw [9, 10, 11, 12, 13, 14, 15, 16] (fun u9 _ _ _ _ _ _ _ wr => ∃ i : Nat, (i = 0 ∨ i < out.length) ∧ u9 = .int .i64 (i : Int) ∧ GB w3 wr) (fun u9 _ _ _ _ _ _ _ _ => out.length - (intOf u9).toNat)
      case atStart => exact ⟨0, by omega, rfl, GB.refl HB3.out.g⟩
      case round =>
        obtain ⟨i, hi, rfl, hB⟩ := hrel
        have HBi : Hid (GB w3 wr) := hB
        clear hB
        by_cases hlt : i + 1 < out.length
        · obtain ⟨x, hx⟩ : ∃ x, out[i]? = some x := ⟨out[i], List.getElem?_eq_getElem (by omega)⟩
          obtain ⟨y, hy⟩ : ∃ y, out[i + 1]? = some y := ⟨out[i + 1], List.getElem?_eq_getElem (by omega)⟩
          obtain ⟨b1, o1, hae, hb1, hcx⟩ := ((HK3.out.bl HBi.out.b).2 (a1, out) (by simp)).at1 hx
          obtain ⟨b3, o3, hae3, hb3, hcy⟩ := ((HK3.out.bl HBi.out.b).2 (a1, out) (by simp)).at1 hy
          rw [hae] at hae3
          cases hae3
          obtain ⟨hx1, hx6⟩ := HIN.out i x hx
          obtain ⟨hy1, hy6⟩ := HIN.out (i + 1) y hy
          have hxy := HLT.out i x y hx hy
          have HXY : Hid (RI.Lt (RI.near p) x y) := hxy
          clear hx hy hxy
          subst hae
          have KD : Hid (∀ U, Bl wr U → U.cell? ⟨b1, o1 + i, none⟩ = some (.int .i64 x) ∧ U.cell? ⟨b1, o1 + (i + 1), none⟩ = some (.int .i64 y)) := fun U hU => ⟨by rw [hU.cell hb1]; exact hcx, by rw [hU.cell hb1]; exact hcy⟩
          have HGi : Hid (GW wr) := HBi.out.g
          clear hcx hcy hb1
          have hil : i < out.length := by omega
          have hlt' : (i : Int) + 1 < (out.length : Int) := by omega
          generalize hwr : wr = wi at *
          clear hwr
          go_wp2_with fail
          go_loopw [10, 11, 12, 13, 14, 15, 16] (fun u10 u11 u12 _ _ _ _ wr => ∃ k : Nat, k ≤ 8 ∧ u12 = .int .i64 (k : Int) ∧ u10 = .int .u64 (mn p x k) ∧ u11 = .int .u64 (mn p y k) ∧ GB wi wr) (fun _ _ u12 _ _ _ _ _ => 8 - (intOf u12).toNat)
          case atStart => exact ⟨0, by omega, rfl, rfl, rfl, GB.refl HGi.out⟩
          case round =>
            obtain ⟨k, hk, rfl, rfl, rfl, HBk⟩ := hrel
            by_cases hk8 : k < 8
            · have CX : Hid (∀ U, GB wi U → Calls Tryd.prog 8 #[.int .i64 x, .int .i64 k] U fun e w' => e = .returned (.tuple #[.int .u64 (RI.pt x k : Nat), .int .i64 0]) ∧ GB wi w') := fun U h => CQ.out x k wi U hx1 hx6 hk8 h
              have CY : Hid (∀ U, GB wi U → Calls Tryd.prog 8 #[.int .i64 y, .int .i64 k] U fun e w' => e = .returned (.tuple #[.int .u64 (RI.pt y k : Nat), .int .i64 0]) ∧ GB wi w') := fun U h => CQ.out y k wi U hy1 hy6 hk8 h
              have HSX : Hid (mn p x (k + 1) = min (mn p x k) ((((RI.pt x k : Nat) : Int) - p) % 18446744073709551616)) := rfl
              have HSY : Hid (mn p y (k + 1) = min (mn p y k) ((((RI.pt y k : Nat) : Int) - p) % 18446744073709551616)) := rfl
              obtain ⟨kx, ky⟩ := KD.out _ HBk.b
              generalize mn p x k = A at *
              generalize mn p y k = B at *
              generalize RI.pt x k = PX at *
              generalize RI.pt y k = PY at *
              clear CQ
              go_wp2_with (first
                | go_skip
                | (go_at_call 8; refine (CX.out _ HBk).mono ?_; clear CX HBk kx ky; rintro e w6 ⟨rfl, HBk⟩; obtain ⟨kx, ky⟩ := KD.out _ HBk.b)
                | (go_at_call 8; refine (CY.out _ HBk).mono ?_; clear CY HBk kx ky; rintro e w7 ⟨rfl, HBk⟩; obtain ⟨kx, ky⟩ := KD.out _ HBk.b))
              go_roundw
              case rel => exact ⟨k + 1, by omega, by go_num, congrArg _ HSX.out.symm, congrArg _ HSY.out.symm, HBk⟩
              case measure => simp [intOf] <;> omega
            · obtain rfl : k = 8 := by omega
              rw [mn8, mn8]
              have HB8 : Hid (GB w3 wr) := HBi.out.step HBk.b
              have KD8 : Hid (∀ U, Bl wr U → U.cell? ⟨b1, o1 + i, none⟩ = some (.int .i64 x) ∧ U.cell? ⟨b1, o1 + (i + 1), none⟩ = some (.int .i64 y)) := fun U hU => KD.out U (Bl.step HBk.b hU)
              clear HBk HBi KD hk8 hk CQ
              have KD := KD8
              clear KD8
              have hNx := RI.near_b p x
              have hNy := RI.near_b p y
              have hcase : RI.near p x < RI.near p y ∨ (RI.near p x = RI.near p y ∧ x < y) := HXY.out
              clear HXY
              generalize RI.near p x = A at *
              generalize RI.near p y = B at *
              rcases hcase with hAB | ⟨rfl, hxy⟩
              · have e1 : decide (B < A) = false := decide_eq_false (by omega)
                have e2 : (A == B) = false := by simp; omega
                have e3 : ¬ B < A := by omega
                have e4 : ¬ A = B := by omega
                go_upto_region 27 with fail
                refine wp_region_noPanic ?_
                refine wp_region_held_drew (S := fun U => U.cell? ⟨b1, o1 + i, none⟩ = some (.int .i64 x) ∧ U.cell? ⟨b1, o1 + (i + 1), none⟩ = some (.int .i64 y)) (by kernel_rfl) (KD.out _ ((Bl.refl wr).drewN 1)) (fun hHeld => ?_)
                refine wpAnyH_take (i := 0) rfl (by kernel_rfl) (by kernel_rfl) (by kernel_rfl) (fun _ _ _ h => h) (yi_move (by kernel_rfl) rfl rfl) (by assumption) ?_
                simp only [Act.put, List.getElem_toArray, List.getElem_cons_succ, List.getElem_cons_zero, List.setIfInBounds_toArray, List.set_cons_zero, List.set_cons_succ]
                refine wpAnyH_take (i := 1) rfl (by kernel_rfl) (by kernel_rfl) (by kernel_rfl) (fun _ _ _ h => h) (yi_move (by kernel_rfl) rfl rfl) (by assumption) ?_
                simp only [Act.put, List.getElem_toArray, List.getElem_cons_succ, List.getElem_cons_zero, List.setIfInBounds_toArray, List.set_cons_zero, List.set_cons_succ]
                refine wpAnyH_take (i := 2) (v := ?_) rfl (by kernel_rfl) (by kernel_rfl) (by kernel_rfl) (fun _ _ _ h => h) (Or.inl ⟨by kernel_rfl, ?_⟩) (by assumption) ?_
                rotate_left
                · (intro w hSw; (try dsimp only at hSw); go_simp; (try with_reducible rfl))
                simp only [Act.put, List.getElem_toArray, List.getElem_cons_succ, List.getElem_cons_zero, List.setIfInBounds_toArray, List.set_cons_zero, List.set_cons_succ]
                refine wpAnyH_take (i := 3) rfl (by kernel_rfl) (by kernel_rfl) (by kernel_rfl) (fun _ _ _ h => h) (yi_move (by kernel_rfl) rfl rfl) (by assumption) ?_
                simp only [Act.put, List.getElem_toArray, List.getElem_cons_succ, List.getElem_cons_zero, List.setIfInBounds_toArray, List.set_cons_zero, List.set_cons_succ]
                refine wpAnyH_take (i := 4) rfl (by kernel_rfl) (by kernel_rfl) (by kernel_rfl) (fun _ _ _ h => h) (yi_move (by kernel_rfl) rfl rfl) (by assumption) ?_
                simp only [Act.put, List.getElem_toArray, List.getElem_cons_succ, List.getElem_cons_zero, List.setIfInBounds_toArray, List.set_cons_zero, List.set_cons_succ]
                refine wpAnyH_take (i := 5) rfl (by kernel_rfl) (by kernel_rfl) (by kernel_rfl) (fun _ _ _ h => h) (yi_move (by kernel_rfl) rfl rfl) (by assumption) ?_
                simp only [Act.put, List.getElem_toArray, List.getElem_cons_succ, List.getElem_cons_zero, List.setIfInBounds_toArray, List.set_cons_zero, List.set_cons_succ]
                refine wpAnyH_take (i := 6) (v := ?_) rfl (by kernel_rfl) (by kernel_rfl) (by kernel_rfl) (fun _ _ _ h => h) (Or.inl ⟨by kernel_rfl, ?_⟩) (by assumption) ?_
                rotate_left
                · (intro w hSw; (try dsimp only at hSw); go_simp; (try with_reducible rfl))
                simp only [Act.put, List.getElem_toArray, List.getElem_cons_succ, List.getElem_cons_zero, List.setIfInBounds_toArray, List.set_cons_zero, List.set_cons_succ]
                refine wpAnyH_take (i := 7) rfl (by kernel_rfl) (by kernel_rfl) (by kernel_rfl) (fun _ _ _ h => h) (yi_move (by kernel_rfl) rfl rfl) (by assumption) ?_
                simp only [Act.put, List.getElem_toArray, List.getElem_cons_succ, List.getElem_cons_zero, List.setIfInBounds_toArray, List.set_cons_zero, List.set_cons_succ]
                refine wpAnyH_take (i := 8) (v := undef) rfl (by kernel_rfl) (by kernel_rfl) (by kernel_rfl) (fun _ _ _ h => h) (Or.inr ⟨by kernel_rfl, rfl⟩) (by assumption) ?_
                simp only [Act.put, List.getElem_toArray, List.getElem_cons_succ, List.getElem_cons_zero, List.setIfInBounds_toArray, List.set_cons_zero, List.set_cons_succ]
                refine wpAnyH_take (i := 9) (v := undef) rfl (by kernel_rfl) (by kernel_rfl) (by kernel_rfl) (fun _ _ _ h => h) (Or.inr ⟨by kernel_rfl, rfl⟩) (by assumption) ?_
                simp only [Act.put, List.getElem_toArray, List.getElem_cons_succ, List.getElem_cons_zero, List.setIfInBounds_toArray, List.set_cons_zero, List.set_cons_succ]
                refine wpAnyH_take (i := 10) (v := undef) rfl (by kernel_rfl) (by kernel_rfl) (by kernel_rfl) (fun _ _ _ h => h) (Or.inr ⟨by kernel_rfl, rfl⟩) (by assumption) ?_
                simp only [Act.put, List.getElem_toArray, List.getElem_cons_succ, List.getElem_cons_zero, List.setIfInBounds_toArray, List.set_cons_zero, List.set_cons_succ]
                refine wpAnyH_take (i := 11) (v := undef) rfl (by kernel_rfl) (by kernel_rfl) (by kernel_rfl) (fun _ _ _ h => h) (Or.inr ⟨by kernel_rfl, rfl⟩) (by assumption) ?_
                simp only [Act.put, List.getElem_toArray, List.getElem_cons_succ, List.getElem_cons_zero, List.setIfInBounds_toArray, List.set_cons_zero, List.set_cons_succ]
                refine wpAnyH_take (i := 12) (v := undef) rfl (by kernel_rfl) (by kernel_rfl) (by kernel_rfl) (fun _ _ _ h => h) (Or.inr ⟨by kernel_rfl, rfl⟩) (by assumption) ?_
                simp only [Act.put, List.getElem_toArray, List.getElem_cons_succ, List.getElem_cons_zero, List.setIfInBounds_toArray, List.set_cons_zero, List.set_cons_succ]
                refine wpAnyH_take (i := 13) (v := undef) rfl (by kernel_rfl) (by kernel_rfl) (by kernel_rfl) (fun _ _ _ h => h) (Or.inr ⟨by kernel_rfl, rfl⟩) (by assumption) ?_
                simp only [Act.put, List.getElem_toArray, List.getElem_cons_succ, List.getElem_cons_zero, List.setIfInBounds_toArray, List.set_cons_zero, List.set_cons_succ]
                refine wpAnyH_take (i := 14) (v := undef) rfl (by kernel_rfl) (by kernel_rfl) (by kernel_rfl) (fun _ _ _ h => h) (Or.inr ⟨by kernel_rfl, rfl⟩) (by assumption) ?_
                simp only [Act.put, List.getElem_toArray, List.getElem_cons_succ, List.getElem_cons_zero, List.setIfInBounds_toArray, List.set_cons_zero, List.set_cons_succ]
                refine wpAnyH_take (i := 15) (v := undef) rfl (by kernel_rfl) (by kernel_rfl) (by kernel_rfl) (fun _ _ _ h => h) (Or.inr ⟨by kernel_rfl, rfl⟩) (by assumption) ?_
                simp only [Act.put, List.getElem_toArray, List.getElem_cons_succ, List.getElem_cons_zero, List.setIfInBounds_toArray, List.set_cons_zero, List.set_cons_succ]
                refine wpAnyH_take (i := 16) (v := undef) rfl (by kernel_rfl) (by kernel_rfl) (by kernel_rfl) (fun _ _ _ h => h) (Or.inr ⟨by kernel_rfl, rfl⟩) (by assumption) ?_
                simp only [Act.put, List.getElem_toArray, List.getElem_cons_succ, List.getElem_cons_zero, List.setIfInBounds_toArray, List.set_cons_zero, List.set_cons_succ]
                refine wpAnyH_take (i := 17) (v := undef) rfl (by kernel_rfl) (by kernel_rfl) (by kernel_rfl) (fun _ _ _ h => h) (Or.inr ⟨by kernel_rfl, rfl⟩) (by assumption) ?_
                simp only [Act.put, List.getElem_toArray, List.getElem_cons_succ, List.getElem_cons_zero, List.setIfInBounds_toArray, List.set_cons_zero, List.set_cons_succ]
                refine wpAnyH_take (i := 18) (v := ?_) rfl (by kernel_rfl) (by kernel_rfl) (by kernel_rfl) (fun _ _ _ h => h) (Or.inl ⟨by kernel_rfl, ?_⟩) (by assumption) ?_
                rotate_left
                · (intro w hSw; (try dsimp only at hSw); go_simp; (try with_reducible rfl))
                simp only [Act.put, List.getElem_toArray, List.getElem_cons_succ, List.getElem_cons_zero, List.setIfInBounds_toArray, List.set_cons_zero, List.set_cons_succ]
                refine wpAnyH_take (i := 19) (v := ?_) rfl (by kernel_rfl) (by kernel_rfl) (by kernel_rfl) (fun _ _ _ h => h) (Or.inl ⟨by kernel_rfl, ?_⟩) (by assumption) ?_
                rotate_left
                · (intro w hSw; (try dsimp only at hSw); go_simp; (try with_reducible rfl))
                simp only [Act.put, List.getElem_toArray, List.getElem_cons_succ, List.getElem_cons_zero, List.setIfInBounds_toArray, List.set_cons_zero, List.set_cons_succ]
                refine wpAnyH_done (by kernel_rfl) ?_ _
                refine NoPanic.normal ?_
                go_wp2_with fail
                go_roundw
                case rel => exact ⟨i + 1, by omega, by go_num, HB8.out.drewN 1⟩
                case measure => simp [intOf] <;> omega
              · have e1 : decide (A < A) = false := decide_eq_false (by omega)
                have e2 : (A == A) = true := by simp
                have e3 : ¬ y < x := by omega
                have ew : IntKind.i64.wrap ((i : Int) + 1) = (i : Int) + 1 := by simp only [IntKind.wrap, IntKind.bits, IntKind.signed]; simp; omega
                have et : ((i : Int) + 1).toNat = i + 1 := by omega
                have e0 : 0 ≤ (i : Int) + 1 := by omega
                have e4 : decide (y < x) = false := decide_eq_false (by omega)
                go_upto_region 27 with fail
                refine wp_region_noPanic ?_
                refine wp_region_held_drew (S := fun U => U.cell? ⟨b1, o1 + i, none⟩ = some (.int .i64 x) ∧ U.cell? ⟨b1, o1 + (i + 1), none⟩ = some (.int .i64 y)) (by kernel_rfl) (KD.out _ ((Bl.refl wr).drewN 1)) (fun hHeld => ?_)
                refine wpAnyH_take (i := 0) rfl (by kernel_rfl) (by kernel_rfl) (by kernel_rfl) (fun _ _ _ h => h) (yi_move (by kernel_rfl) rfl rfl) (by assumption) ?_
                simp only [Act.put, List.getElem_toArray, List.getElem_cons_succ, List.getElem_cons_zero, List.setIfInBounds_toArray, List.set_cons_zero, List.set_cons_succ]
                refine wpAnyH_take (i := 1) rfl (by kernel_rfl) (by kernel_rfl) (by kernel_rfl) (fun _ _ _ h => h) (yi_move (by kernel_rfl) rfl rfl) (by assumption) ?_
                simp only [Act.put, List.getElem_toArray, List.getElem_cons_succ, List.getElem_cons_zero, List.setIfInBounds_toArray, List.set_cons_zero, List.set_cons_succ]
                refine wpAnyH_take (i := 2) (v := ?_) rfl (by kernel_rfl) (by kernel_rfl) (by kernel_rfl) (fun _ _ _ h => h) (Or.inl ⟨by kernel_rfl, ?_⟩) (by assumption) ?_
                rotate_left
                · (intro w hSw; (try dsimp only at hSw); go_simp; (try with_reducible rfl))
                simp only [Act.put, List.getElem_toArray, List.getElem_cons_succ, List.getElem_cons_zero, List.setIfInBounds_toArray, List.set_cons_zero, List.set_cons_succ]
                refine wpAnyH_take (i := 3) rfl (by kernel_rfl) (by kernel_rfl) (by kernel_rfl) (fun _ _ _ h => h) (yi_move (by kernel_rfl) rfl rfl) (by assumption) ?_
                simp only [Act.put, List.getElem_toArray, List.getElem_cons_succ, List.getElem_cons_zero, List.setIfInBounds_toArray, List.set_cons_zero, List.set_cons_succ]
                refine wpAnyH_take (i := 4) rfl (by kernel_rfl) (by kernel_rfl) (by kernel_rfl) (fun _ _ _ h => h) (yi_move (by kernel_rfl) rfl rfl) (by assumption) ?_
                simp only [Act.put, List.getElem_toArray, List.getElem_cons_succ, List.getElem_cons_zero, List.setIfInBounds_toArray, List.set_cons_zero, List.set_cons_succ]
                refine wpAnyH_take (i := 5) rfl (by kernel_rfl) (by kernel_rfl) (by kernel_rfl) (fun _ _ _ h => h) (yi_move (by kernel_rfl) rfl rfl) (by assumption) ?_
                simp only [Act.put, List.getElem_toArray, List.getElem_cons_succ, List.getElem_cons_zero, List.setIfInBounds_toArray, List.set_cons_zero, List.set_cons_succ]
                refine wpAnyH_take (i := 6) (v := ?_) rfl (by kernel_rfl) (by kernel_rfl) (by kernel_rfl) (fun _ _ _ h => h) (Or.inl ⟨by kernel_rfl, ?_⟩) (by assumption) ?_
                rotate_left
                · (intro w hSw; (try dsimp only at hSw); go_simp; (try with_reducible rfl))
                simp only [Act.put, List.getElem_toArray, List.getElem_cons_succ, List.getElem_cons_zero, List.setIfInBounds_toArray, List.set_cons_zero, List.set_cons_succ]
                refine wpAnyH_take (i := 7) rfl (by kernel_rfl) (by kernel_rfl) (by kernel_rfl) (fun _ _ _ h => h) (yi_move (by kernel_rfl) rfl rfl) (by assumption) ?_
                simp only [Act.put, List.getElem_toArray, List.getElem_cons_succ, List.getElem_cons_zero, List.setIfInBounds_toArray, List.set_cons_zero, List.set_cons_succ]
                refine wpAnyH_take (i := 8) rfl (by kernel_rfl) (by kernel_rfl) (by kernel_rfl) (fun _ _ _ h => h) (yi_move (by kernel_rfl) rfl rfl) (by assumption) ?_
                simp only [Act.put, List.getElem_toArray, List.getElem_cons_succ, List.getElem_cons_zero, List.setIfInBounds_toArray, List.set_cons_zero, List.set_cons_succ]
                refine wpAnyH_take (i := 9) rfl (by kernel_rfl) (by kernel_rfl) (by kernel_rfl) (fun _ _ _ h => h) (yi_move (by kernel_rfl) rfl rfl) (by assumption) ?_
                simp only [Act.put, List.getElem_toArray, List.getElem_cons_succ, List.getElem_cons_zero, List.setIfInBounds_toArray, List.set_cons_zero, List.set_cons_succ]
                refine wpAnyH_take (i := 10) (v := ?_) rfl (by kernel_rfl) (by kernel_rfl) (by kernel_rfl) (fun _ _ _ h => h) (Or.inl ⟨by kernel_rfl, ?_⟩) (by assumption) ?_
                rotate_left
                · (intro w hSw; (try dsimp only at hSw); go_simp; (try with_reducible rfl))
                simp only [Act.put, List.getElem_toArray, List.getElem_cons_succ, List.getElem_cons_zero, List.setIfInBounds_toArray, List.set_cons_zero, List.set_cons_succ]
                refine wpAnyH_take (i := 11) (v := ?_) rfl (by kernel_rfl) (by kernel_rfl) (by kernel_rfl) (fun _ _ _ h => h) (Or.inl ⟨by kernel_rfl, ?_⟩) (by assumption) ?_
                rotate_left
                · (intro w hSw; (try dsimp only at hSw); go_simp; (try with_reducible rfl))
                simp only [Act.put, List.getElem_toArray, List.getElem_cons_succ, List.getElem_cons_zero, List.setIfInBounds_toArray, List.set_cons_zero, List.set_cons_succ]
                refine wpAnyH_take (i := 12) rfl (by kernel_rfl) (by kernel_rfl) (by kernel_rfl) (fun _ _ _ h => h) (yi_move (by kernel_rfl) rfl rfl) (by assumption) ?_
                simp only [Act.put, List.getElem_toArray, List.getElem_cons_succ, List.getElem_cons_zero, List.setIfInBounds_toArray, List.set_cons_zero, List.set_cons_succ]
                refine wpAnyH_take (i := 13) rfl (by kernel_rfl) (by kernel_rfl) (by kernel_rfl) (fun _ _ _ h => h) (yi_move (by kernel_rfl) rfl rfl) (by assumption) ?_
                simp only [Act.put, List.getElem_toArray, List.getElem_cons_succ, List.getElem_cons_zero, List.setIfInBounds_toArray, List.set_cons_zero, List.set_cons_succ]
                refine wpAnyH_take (i := 14) (v := ?_) rfl (by kernel_rfl) (by kernel_rfl) (by kernel_rfl) (fun _ _ _ h => h) (Or.inl ⟨by kernel_rfl, ?_⟩) (by assumption) ?_
                rotate_left
                · (intro w hSw; (try dsimp only at hSw); go_simp; (try with_reducible rfl))
                simp only [Act.put, List.getElem_toArray, List.getElem_cons_succ, List.getElem_cons_zero, List.setIfInBounds_toArray, List.set_cons_zero, List.set_cons_succ]
                refine wpAnyH_take (i := 15) (v := ?_) rfl (by kernel_rfl) (by kernel_rfl) (by kernel_rfl) (fun _ _ _ h => h) (Or.inl ⟨by kernel_rfl, ?_⟩) (by assumption) ?_
                rotate_left
                · (intro w hSw; (try dsimp only at hSw); go_simp; (try with_reducible rfl))
                simp only [Act.put, List.getElem_toArray, List.getElem_cons_succ, List.getElem_cons_zero, List.setIfInBounds_toArray, List.set_cons_zero, List.set_cons_succ]
                refine wpAnyH_take (i := 16) (v := ?_) rfl (by kernel_rfl) (by kernel_rfl) (by kernel_rfl) (fun _ _ _ h => h) (Or.inl ⟨by kernel_rfl, ?_⟩) (by assumption) ?_
                rotate_left
                · (intro w hSw; (try dsimp only at hSw); go_simp; (try with_reducible rfl))
                simp only [Act.put, List.getElem_toArray, List.getElem_cons_succ, List.getElem_cons_zero, List.setIfInBounds_toArray, List.set_cons_zero, List.set_cons_succ]
                refine wpAnyH_take (i := 17) (v := ?_) rfl (by kernel_rfl) (by kernel_rfl) (by kernel_rfl) (fun _ _ _ h => h) (Or.inl ⟨by kernel_rfl, ?_⟩) (by assumption) ?_
                rotate_left
                · (intro w hSw; (try dsimp only at hSw); go_simp; (try with_reducible rfl))
                simp only [Act.put, List.getElem_toArray, List.getElem_cons_succ, List.getElem_cons_zero, List.setIfInBounds_toArray, List.set_cons_zero, List.set_cons_succ]
                refine wpAnyH_take (i := 18) (v := ?_) rfl (by kernel_rfl) (by kernel_rfl) (by kernel_rfl) (fun _ _ _ h => h) (Or.inl ⟨by kernel_rfl, ?_⟩) (by assumption) ?_
                rotate_left
                · (intro w hSw; (try dsimp only at hSw); go_simp; (try with_reducible rfl))
                simp only [Act.put, List.getElem_toArray, List.getElem_cons_succ, List.getElem_cons_zero, List.setIfInBounds_toArray, List.set_cons_zero, List.set_cons_succ]
                refine wpAnyH_take (i := 19) (v := ?_) rfl (by kernel_rfl) (by kernel_rfl) (by kernel_rfl) (fun _ _ _ h => h) (Or.inl ⟨by kernel_rfl, ?_⟩) (by assumption) ?_
                rotate_left
                · (intro w hSw; (try dsimp only at hSw); go_simp; (try with_reducible rfl))
                simp only [Act.put, List.getElem_toArray, List.getElem_cons_succ, List.getElem_cons_zero, List.setIfInBounds_toArray, List.set_cons_zero, List.set_cons_succ]
                refine wpAnyH_done (by kernel_rfl) ?_ _
                refine NoPanic.normal ?_
                go_wp2_with fail
                go_roundw
                case rel => exact ⟨i + 1, by omega, by go_num, HB8.out.drewN 1⟩
                case measure => simp [intOf] <;> omega
        · have hnlt : ¬ (i : Int) + 1 < (out.length : Int) := by omega
          go_wp2_with fail
          go_ret
          exact ⟨rfl, (HB3.out.step HBi.out.b).b⟩
end Go.Proofs.YtfghjadhpajmeaaDoor
