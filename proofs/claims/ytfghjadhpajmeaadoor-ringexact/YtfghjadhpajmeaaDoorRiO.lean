/- A key's owners stay: the walk. -/
import Derived.Test.YtfghjadhpajmeaaDoorRi4
namespace Go.Proofs.YtfghjadhpajmeaaDoor
open Go.RowKit Go.Maps Go.Sort Go.Shelf
set_option linter.unusedVariables false
set_option linter.unusedSimpArgs false
attribute [local go_sem ↓] zero27

theorem own_emptyR (W : World) (T : TypeId) (k : Nat) : (W.alloc (.cells #[] T)).ownsRow W.heap.size T k (.slice (some ⟨W.heap.size, 0, none⟩) 0 0) 0 [] :=
  ⟨by simp, Or.inr ⟨W.heap.size, 0, #[], rfl, Nat.le_refl _, heap_alloc_new W _, Nat.le_refl _, by decide, by simp, by simp⟩⟩
theorem wo_take_succ {g x : Int} {l : List Int} {k : Nat} (h : l[k]? = some x) : RI.wo g (l.take (k + 1)) = if x = g then RI.wo g (l.take k) else RI.wo g (l.take k) ++ [x] := by
  unfold RI.wo
  rw [List.take_add_one, h, Option.toList_some, List.filter_append]
  by_cases e : x = g
  · rw [if_pos e]; simp [e]
  · rw [if_neg e]; simp [e]
theorem KS.bl {w U V : World} {R : List (Option Addr × List Int)} (h : KS w R U) (b : Bl U V) : KS w R V := h.step ((GB.refl h.1.g).step b)
theorem wo_len (g : Int) (l : List Int) : (RI.wo g l).length ≤ l.length := List.length_filter_le _ _
theorem wo_same {g : Int} {l : List Int} (h : g ∉ l) : RI.wo g l = l := by
  unfold RI.wo
  rw [List.filter_eq_self]
  intro x hx
  simp
  intro e; subst e; exact h hx
theorem wo_take2 {g : Int} (l : List Int) (h : g ∉ l.take 2) : (RI.wo g l).take 2 = l.take 2 := by
  have e : RI.wo g l = l.take 2 ++ RI.wo g (l.drop 2) := by
    conv => lhs; rw [← List.take_append_drop 2 l]
    unfold RI.wo
    rw [List.filter_append]
    congr 1
    exact wo_same h
  rw [e]
  by_cases hl : 2 ≤ l.length
  · rw [List.take_append_of_le_length (by rw [List.length_take]; omega), List.take_take]; simp
  · have hd : l.drop 2 = [] := List.drop_eq_nil_of_le (by omega)
    rw [hd]
    have : RI.wo g ([] : List Int) = [] := rfl
    rw [this, List.append_nil, List.take_take]; simp
set_option maxRecDepth 8000 in
set_option maxHeartbeats 4000000 in
theorem ringOwners_walk (d : List UInt8) (hd : d.length = 32) (l : List Int) (a : Option Addr) (c : Nat) (hn : l.length ≤ maxLen) (g : Int) (w : World) (hG : GW w) (hv : RS lyI w a l) :
    Calls Tryd.prog 6 #[.agg (dg d), .slice a l.length c, .int .i64 g] w fun e w' => e = .returned (.bool true) ∧ Below w.heap.size w w' := by
  have hz := hG.z
  have hG0 : GB w (w.alloc (.cells (dg d) 23)) := (GB.refl hG).alloc _
  by_cases h60 : l.length ≤ 60
  · obtain ⟨LD, hLD⟩ : ∃ LD : List Value, LD = d.map vb := ⟨_, rfl⟩
    have hdl : dg d = LD.toArray := by rw [hLD]; rfl
    have hLs : LD.length = 32 := by rw [hLD, List.length_map, hd]
    have hLi : (Tryd.prog.info? 23).map (·.size) = some LD.length := by rw [hLs]; exact info27
    rw [hdl]
    rw [hdl] at hG0
    have KP : Hid (∀ U, GB (w.alloc (.cells LD.toArray 23)) U → U.rangeAt w.heap.size 0 LD) := fun U hU j v hv => by
      rw [Nat.zero_add, hU.b.cell (p := ⟨w.heap.size, j, none⟩) (by simp), Lib.cell_of_heap (heap_alloc_new _ _), List.getElem?_toArray]; exact hv
    have hv0 : RS lyI (w.alloc (.cells LD.toArray 23)) a l := hv.bl hG0.b
    generalize hw0 : w.alloc (.cells LD.toArray 23) = w0 at *
    have HG0 : Hid (GB w w0) := hG0
    have CA : Hid (Calls Tryd.prog 7 #[] w0 fun e w' => e = .returned (.bool true) ∧ KS w0 [(a, l)] w') := (awake_13 w0 hG0.g).mono fun e w' ⟨h1, h2⟩ => ⟨h1, h2, fun r hr => by
      rcases List.mem_cons.1 hr with rfl | hr
      · exact hv0.bl h2.b
      · cases hr⟩
    have CW : Hid (∀ U, KS w0 [(a, l)] U → Calls Tryd.prog 13 #[.agg LD.toArray, .slice a l.length c] U fun e w' => ∃ a1 c1 out, e = .returned (.slice a1 out.length c1) ∧ out.length ≤ c1 ∧ RI.IsW (RI.near (RI.place d)) l out ∧ KS w0 [(a1, out), (a, l)] w') := fun U h => by
      rw [← hdl]
      refine (Walk_x d hd l a _ c rfl U h.1.g (h.2 (a, l) List.mem_cons_self) (by omega)).mono ?_
      rintro e w' ⟨v, out, rfl, h1, h2, h3⟩
      obtain ⟨a', c', rfl, h4⟩ := owns_rs lyI h2
      exact ⟨a', c', out, rfl, own_capR h2, h1, (h.step h3).add h4⟩
    have CO : Hid (∀ U out a1, RI.IsW (RI.near (RI.place d)) l out → KS w0 [(a1, out), (a, l)] U → Calls Tryd.prog 15 #[.agg LD.toArray, .slice a l.length c] U fun e w' => ∃ a2 c2 L2, e = .returned (.slice a2 L2.length c2) ∧ Hid (L2 = out.take 2) ∧ KS w0 [(a2, L2), (a1, out), (a, l)] w') := fun U out a1 hw h => by
      rw [← hdl]
      refine (Owns_x d hd l a _ c rfl U h.1.g (h.2 (a, l) (List.mem_cons_of_mem _ List.mem_cons_self)) (by omega)).mono ?_
      rintro e w' ⟨a', c', out2, rfl, h1, h2, h3⟩
      obtain rfl : out2 = out := h1.uniq hw (fun _ _ _ => Iff.rfl)
      exact ⟨a', c', _, rfl, (rfl : out2.take 2 = out2.take 2), (h.step h3).add h2⟩
    have CI : Hid (∀ U R a1 out a2 L2 c1 c2, Hid (L2 = out.take 2) → KS w0 ((a2, L2) :: (a1, out) :: R) U → Calls Tryd.prog 12 #[.slice a2 L2.length c2, .slice a1 (min 2 (out.length : Int)).toNat c1] U fun e w' => e = .returned (.bool true) ∧ KS w0 ((a2, L2) :: (a1, out) :: R) w') := fun U R a1 out a2 L2 c1 c2 hL h => by
      have hL := hL.out
      subst hL
      have e1 : (min 2 (out.length : Int)).toNat = (out.take 2).length := by rw [List.length_take]; omega
      rw [e1]
      have h2 : RS lyI U a1 (out.take 2) := (h.2 (a1, out) (List.mem_cons_of_mem _ List.mem_cons_self)).take 2
      have hm : (out.take 2).length ≤ maxLen := by rw [List.length_take]; unfold maxLen; omega
      refine (Ints_x _ _ a2 a1 c2 c1 U (h.2 (a2, out.take 2) List.mem_cons_self) h2 hm hm).mono ?_
      rintro e w' ⟨rfl, n, rfl⟩
      exact ⟨by simp, h.drewN n⟩
    have CO2 : Hid (∀ U R out ao co, RI.IsW (RI.near (RI.place d)) l out → KS w0 ((ao, RI.wo g l) :: R) U → Calls Tryd.prog 15 #[.agg LD.toArray, .slice ao (RI.wo g l).length co] U fun e w' => ∃ a2 c2, e = .returned (.slice a2 ((RI.wo g out).take 2).length c2) ∧ KS w0 ((a2, (RI.wo g out).take 2) :: (ao, RI.wo g l) :: R) w') := fun U R out ao co hw h => by
      rw [← hdl]
      have hwl := wo_len g l
      refine (Owns_x d hd (RI.wo g l) ao _ co rfl U h.1.g (h.2 (ao, RI.wo g l) List.mem_cons_self) (by omega)).mono ?_
      rintro e w' ⟨a', c', out2, rfl, h1, h2, h3⟩
      obtain rfl : out2 = RI.wo g out := h1.uniq (hw.wo g) (fun _ _ _ => Iff.rfl)
      exact ⟨a', c', rfl, (h.step h3).add h2⟩
    clear hv hv0 hG hG0 hLD hdl
    go_enter Tryd.func6, Tryd.ntmps6
    go_upto_region 7 with (first
      | go_skip
      | (go_at_call 7; refine (CA.out).mono ?_; clear CA; rintro e w1 ⟨rfl, HB⟩)
      | (refine wl_midG (by rfl) 23 _ rfl w.heap.size 0 rfl LD _ (KP.out _ HB.1) und27 rfl hLi ?_)
      | (go_at_call 13; refine (CW.out _ HB).mono ?_; clear HB CW; rintro e w2 ⟨a1, c1, out, rfl, hoc, HW, HB⟩)
      | (go_at_call 15; refine (CO.out _ _ _ HW HB).mono ?_; clear HB CO; rintro e w3 ⟨a2, c2, L2, rfl, HL2, HB⟩))
    go_wp2_with (first
      | go_skip
      | (go_at_call 12; refine (CI.out _ _ _ _ _ _ _ _ HL2 HB).mono ?_; clear HB CI; rintro e w4 ⟨rfl, HB⟩))
    have hl2 : L2.length ≤ 2 := by rw [HL2.out, List.length_take]; omega
    go_loopw [9] (fun u9 wr => ∃ k : Nat, k ≤ L2.length ∧ u9 = .int .i64 (k : Int) ∧ KS w0 [(a2, L2), (a1, out), (a, l)] wr ∧ ∀ i, i < k → L2[i]? ≠ some g) (fun u9 _ => L2.length - (intOf u9).toNat)
    case atStart => exact ⟨0, by omega, rfl, HB, fun i hi => by omega⟩
    case round =>
      clear HB
      obtain ⟨k, hk, rfl, HB, hno⟩ := hrel
      have HNO : Hid (∀ i, i < k → L2[i]? ≠ some g) := hno
      clear hno
      by_cases hlt : k < L2.length
      · obtain ⟨x, hx⟩ : ∃ x, L2[k]? = some x := ⟨L2[k], List.getElem?_eq_getElem hlt⟩
        obtain ⟨b2, o2, rfl, hb2, hcell⟩ := (HB.2 (a2, L2) List.mem_cons_self).at1 hx
        have HX : Hid (L2[k]? = some x) := hx
        clear hx hb2
        by_cases hxg : x = g
        · clear HNO CO2
          go_wp2_with fail
          go_ret
          exact ⟨rfl, (HG0.out.step HB.1.b).b⟩
        · go_wp2_with fail
          go_roundw
          case rel => exact ⟨k + 1, by omega, by go_num, HB, fun i hi => by
            by_cases e : i = k
            · rw [e, HX.out]; intro e2; exact hxg (Option.some.inj e2)
            · exact HNO.out i (by omega)⟩
          case measure => simp [intOf]; omega
      · obtain rfl : k = L2.length := by omega
        have HGM : Hid (g ∉ out.take 2) := fun hm => by
          rw [← HL2.out] at hm
          obtain ⟨i, hi, e⟩ := List.getElem_of_mem hm
          exact HNO.out i hi (by rw [List.getElem?_eq_getElem hi, e])
        clear HNO
        have HKp : Hid (KS w0 [(a2, L2), (a1, out), (a, l)] wr) := HB
        have HBa : Bl wr (wr.alloc (.cells #[] 3)) := (Bl.refl wr).alloc _
        have HOa : (wr.alloc (.cells #[] 3)).ownsRow wr.heap.size 3 1 (.slice (some ⟨wr.heap.size, 0, none⟩) 0 0) 0 [] := own_emptyR wr 3 1
        clear HB
        generalize hwp : wr = wp at *
        clear hwp
        go_wp2_with fail
        go_loopw [10, 11] (fun u10 u11 wr => ∃ k : Nat, k ≤ l.length ∧ u11 = .int .i64 (k : Int) ∧ Bl wp wr ∧ wr.ownsRow wp.heap.size 3 1 u10 (RI.wo g (l.take k)).length (flG lyI (RI.wo g (l.take k)))) (fun _ u11 _ => l.length - (intOf u11).toNat)
        case atStart => exact ⟨0, by omega, rfl, HBa, HOa⟩
        case round =>
          clear HBa HOa
          obtain ⟨k, hk, rfl, HB, ho⟩ := hrel
          by_cases hlt : k < l.length
          · obtain ⟨x, hx⟩ : ∃ x, l[k]? = some x := ⟨l[k], List.getElem?_eq_getElem hlt⟩
            have HX := hidI (wo_take_succ (g := g) hx)
            obtain ⟨b2, o2, hae, hb2, hcell⟩ := ((HKp.out.2 (a, l) (by simp)).bl HB).at1 hx
            have hal : (RI.wo g (l.take k)).length ≤ 60 := Nat.le_trans (wo_len _ _) (by rw [List.length_take]; omega)
            have HO : Hid (wr.ownsRow wp.heap.size 3 1 u10 (RI.wo g (l.take k)).length (flG lyI (RI.wo g (l.take k)))) := ho
            have HBh : Hid (Bl wp wr) := HB
            clear ho hx HB hb2
            subst hae
            generalize RI.wo g (l.take k) = L at *
            by_cases hxg : x = g
            · rw [if_pos hxg] at HX
              go_wp2_with fail
              go_roundw
              case rel => exact ⟨k + 1, by omega, by go_num, HBh.out, by rw [HX.out]; exact HO.out⟩
              case measure => simp [intOf]; omega
            · rw [if_neg hxg] at HX
              go_wp2_with (first
                | go_skip
                | (refine wl_app1M lyI 3 24 (.int .i64 0) 8 undIs infoI3 rfl (by decide) rfl _ _ rfl L.length L rfl x u10 rfl HBh.out HO.out wr.heap.size rfl rfl (by omega) ?_ _ rfl rfl; intro a' c' w5 g1 g2 g3))
              have z1 : w5.ownsRow wp.heap.size 3 1 (.slice a' (L.length + 1) c') (RI.wo g (l.take (k + 1))).length (flG lyI (RI.wo g (l.take (k + 1)))) := by
                rw [HX.out, List.length_append]; exact g1
              go_roundw
              case rel => exact ⟨k + 1, by omega, by go_num, g2, z1⟩
              case measure => simp [intOf]; omega
          · obtain rfl : k = l.length := by omega
            rw [List.take_length] at ho
            obtain ⟨ao, co, hu, hr⟩ := owns_rs lyI ho
            subst hu
            have HK2 : KS w0 [(ao, RI.wo g l), (a2, L2), (a1, out), (a, l)] wr := (HKp.out.bl HB).add hr
            have CO3 : Hid (∀ U R ao co, KS w0 ((ao, RI.wo g l) :: R) U → Calls Tryd.prog 15 #[.agg LD.toArray, .slice ao (RI.wo g l).length co] U fun e w' => ∃ a3 c3, e = .returned (.slice a3 L2.length c3) ∧ KS w0 ((a3, L2) :: (ao, RI.wo g l) :: R) w') := fun U R ao co h => by
              have := CO2.out U R out ao co HW h
              rw [wo_take2 out HGM.out, ← HL2.out] at this
              exact this
            have CI2 : Hid (∀ U a3 ao lo a2 R2 c3 c2, KS w0 ((a3, L2) :: (ao, lo) :: (a2, L2) :: R2) U → Calls Tryd.prog 12 #[.slice a3 L2.length c3, .slice a2 L2.length c2] U fun e w' => e = .returned (.bool true) ∧ GB w0 w') := fun U a3 ao lo a2 R2 c3 c2 h => by
              have hm : L2.length ≤ maxLen := by unfold maxLen; omega
              refine (Ints_x _ _ a3 a2 c3 c2 U (h.2 (a3, L2) (by simp)) (h.2 (a2, L2) (by simp)) hm hm).mono ?_
              rintro e w' ⟨rfl, n, rfl⟩
              exact ⟨by simp, h.1.drewN n⟩
            clear ho hr HB CO2 HGM
            go_wp2_with (first
              | go_skip
              | (refine wl_midG (by rfl) 23 _ rfl w.heap.size 0 rfl LD _ (KP.out _ HK2.1) und27 rfl hLi ?_)
              | (go_at_call 15; refine (CO3.out _ _ _ _ HK2).mono ?_; clear CO3; rintro e w6 ⟨a3, c3, rfl, HK3⟩)
              | (go_at_call 12; refine (CI2.out _ _ _ _ _ _ _ _ HK3).mono ?_; clear CI2; rintro e w7 ⟨rfl, HB7⟩))
            go_ret
            exact ⟨rfl, (HG0.out.step HB7.b).b⟩
  · have CA : Hid (Calls Tryd.prog 7 #[] (w.alloc (.cells (dg d) 23)) fun e w' => e = .returned (.bool true) ∧ GB w w') := (awake_13 _ hG0.g).mono fun e w' ⟨h1, h2⟩ => ⟨h1, hG0.step h2.b⟩
    have h60' : (60 : Int) < (l.length : Int) := by omega
    generalize dg d = D at *
    clear hv hG hG0
    go_enter Tryd.func6, Tryd.ntmps6
    go_wp2_with (first
      | go_skip
      | (go_at_call 7; refine (CA.out).mono ?_; clear CA; rintro e w1 ⟨rfl, HB⟩))
    go_ret
    exact ⟨rfl, HB.b⟩
end Go.Proofs.YtfghjadhpajmeaaDoor
