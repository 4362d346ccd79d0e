/- Who was apart finds the others again: the walk. -/
import Derived.Test.YtebmgajijjhinaaCmpB
import Derived.Test.YtebmgajijjhinaaPurA
import Derived.Deep.CutBlock
import Derived.Deep.DeepCutAuto
namespace Go.Proofs.Ytebmgajijjhinaa
open Go.RowKit Go.Maps
set_option linter.unusedVariables false
set_option linter.unusedSimpArgs false

theorem CH.pres {w U : World} {cb n N sb i : Nat} {ss : Nat → SO.Sc} {net : List SO.Fr} {ps : Nat → Nat} {sv : Value} {rs : List (Nat × Obj)} (x : CH w cb n N ss net ps sb sv rs U) (h1 : 1 ≤ i) (h2 : i ≤ n) : Calls Try.prog 9 #[.pointer (some ⟨ps i, 0, none⟩)] U fun e w' => ∃ a c, e = .returned (.slice a (K.pres (ss i).f).length c) ∧ Bl U w' := by
  obtain ⟨nv, Bs, ys, k⟩ := x
  obtain ⟨P, y⟩ := k.sc i h1 h2
  refine (Present_x y).mono fun e w' ⟨v, h1, h2, h3⟩ => ?_
  subst h1
  obtain ⟨a, c, e1, _⟩ := owns_rs lyI h2
  subst e1
  exact ⟨a, c, rfl, h3⟩
/-- the two sides' flags lie there -/
def SD (zb : Nat) (dz fz : Nat) (bd bf : Bool) (V : World) : Prop := V.cell? ⟨zb, dz, none⟩ = some (.bool bd) ∧ V.cell? ⟨zb, fz, none⟩ = some (.bool bf)
set_option maxRecDepth 8000 in
set_option maxHeartbeats 32000000 in
theorem heals_walk (w : World) (n0 : Int) (hn0 : i64 n0) (fl : List Bool) (hfl : fl.length = 6) (ds : List Int) (da : Option Addr) (dc : Nat) (hds : RS lyI w da ds) (hdl : ds.length ≤ 9223372036854775807) (hdi : ∀ x ∈ ds, i64 x) :
    Calls Try.prog 3 #[.int .i64 n0, .agg (fl.map Value.bool).toArray, .slice da ds.length dc] w fun e w' => e = .returned (.bool true) ∧ Bl w w' := by
  obtain ⟨z, hz1, hz2⟩ := infoSn3
  obtain ⟨fsS, humS⟩ := undSn
  obtain ⟨fsF, humF⟩ := undFr
  obtain ⟨FA, hFA⟩ : ∃ FA : Array Value, FA = (fl.map Value.bool).toArray := ⟨_, rfl⟩
  have hFs : FA.size = 6 := by rw [hFA]; simp [hfl]
  rw [← hFA]
  have HB0 : Hid (Bl w (w.alloc (.cells FA 22))) := (Bl.refl w).alloc _
  obtain ⟨sd, hsd⟩ : ∃ sd : Nat → Bool, sd = fun j => fl.getD (j - 1) false := ⟨_, rfl⟩
  have KF : Hid (∀ U, Bl (w.alloc (.cells FA 22)) U → (∀ k, 1 ≤ k → k ≤ 6 → U.cell? ⟨w.heap.size, k - 1, none⟩ = some (.bool (sd k))) ∧ RS lyI U da ds) := fun U hU => ⟨fun k hk1 hk => by
    rw [hU.cell (by simp), Lib.cell_of_heap (heap_alloc_new _ _), hFA, List.getElem?_toArray, List.getElem?_map, List.getElem?_eq_getElem (by omega), hsd]
    simp [List.getD_eq_getElem?_getD, List.getElem?_eq_getElem (show k - 1 < fl.length by omega)], (hds.bl HB0.out).bl hU⟩
  have CA : Hid (Calls Try.prog 4 #[] (w.alloc (.cells FA 22)) fun e w' => e = .returned (.bool true) ∧ Bl (w.alloc (.cells FA 22)) w') := awake_12 (Bl.refl _)
  have hx1 : Int.tmod (IntKind.u64.wrap n0) 5 = (um12 n0 5 : Int) := um12_wrap n0 5
  have hx2 := um12_lt n0 5 (by omega)
  obtain ⟨n, hn⟩ : ∃ n, n = 2 + um12 n0 5 := ⟨_, rfl⟩
  generalize um12 n0 5 = u at *
  have hn6 : n ≤ 6 := by omega
  have hn1 : 1 ≤ n := by omega
  have HN : Hid (2 + (u : Int) = (n : Int)) := by show _ = _; omega
  have CP : Hid (∀ U, Calls Try.prog 5 #[.int .i64 (2 + (u : Int))] U fun e w' => ∃ cb ps sb sc, e = .returned (.pointer (some ⟨cb, 0, none⟩)) ∧ CH U cb n 6 (fun i => SO.new i n) [] ps sb (.slice (some ⟨sb, 0, none⟩) (n + 1) sc) [] w') := fun U => by
    rw [HN.out]
    refine (pitched_x n hn1 hn6 U).mono ?_
    rintro e w' ⟨cb, ps, sb, sc, Bs, h1, h2⟩
    exact ⟨cb, ps, sb, sc, h1, h2.ch⟩
  have hDR : Hid (∀ k, k < 1000 → i64 (drwF ds k)) := fun k hk => drwF_i64 hdi hk
  clear hds hdi hn hFA hsd
  generalize hw0 : w.alloc (.cells FA 22) = w0 at *
  generalize hzb : w.heap.size = zb at *
  go_enter Try.func3, Try.ntmps3
  go_upto_region 5 with (first
    | go_skip
    | (go_at_call 4; refine (CA.out).mono ?_; clear CA; rintro e w1 ⟨rfl, HB1⟩)
    | (go_at_call 5; refine (CP.out _).mono ?_; clear CP; rintro e w2 ⟨cb, ps, sb, sc, rfl, HC⟩))
  rw [HN.out]
  have HBW : Hid (Bl w0 w1) := HB1
  have HZ := HC
  have HJ : SO.HR n sd 0 (fun i => SO.new i n) := SO.hr_new sd hn6
  have hEND : Hid (∀ U, Bl w1 U → Bl w U) := fun U hU => (HB0.out.step HBW.out).step hU
  have KG : Hid (∀ U, Bl w1 U → (∀ k, 1 ≤ k → k ≤ 6 → U.cell? ⟨zb, k - 1, none⟩ = some (.bool (sd k))) ∧ RS lyI U da ds) := fun U hU => KF.out U (HBW.out.step hU)
  clear HC HB1 hw0 hx1 hx2 HN KF HB0 HBW
  go_wp2_with fail
  go_loopw [8, 9, 10, 11, 12] (fun u8 _ _ _ _ wr => ∃ (i : Nat) (ss : Nat → SO.Sc), i ≤ 520 ∧ u8 = .int .i64 (i : Int) ∧ CH w1 cb n (6 + 7000 * i) ss [] ps sb (.slice (some ⟨sb, 0, none⟩) (n + 1) sc) [] wr ∧ SO.HR n sd i ss) (fun u8 _ _ _ _ _ => 520 - (intOf u8).toNat)
  case atStart => exact ⟨0, _, by omega, rfl, HZ, HJ⟩
  case round =>
    clear HZ HJ
    obtain ⟨i, ss, hi, rfl, HZ, HJ⟩ := hrel
    have HZh : Hid (CH w1 cb n (6 + 7000 * i) ss [] ps sb (.slice (some ⟨sb, 0, none⟩) (n + 1) sc) [] wr) := HZ
    have HJh : Hid (SO.HR n sd i ss) := HJ
    clear HZ HJ
    by_cases hi2 : i < 520
    · have hdi := hDR.out i (by omega)
      obtain ⟨d, hd⟩ : ∃ d, d = drwF ds i := ⟨_, rfl⟩
      go_upto_if 32 with fail
      go_cut [9, 32] (fun s9 s32 wx => s9 = .int .i64 d ∧ wr = wx)
      case first =>
        clear hdi
        by_cases hl0 : 0 < ds.length
        · have hl0' : 0 < (ds.length : Int) := by omega
          have hmod : i % ds.length < ds.length := Nat.mod_lt _ hl0
          obtain ⟨x, hx⟩ : ∃ x, ds[i % ds.length]? = some x := ⟨ds[i % ds.length], List.getElem?_eq_getElem hmod⟩
          obtain ⟨b, off, hae, hb, hrg⟩ := ((KG.out wr HZh.out.bl).2) _ x hx
          have hcell := hrg 0 _ rfl
          rw [Nat.add_zero, show lyI.k = 1 from rfl, Nat.mul_one] at hcell
          have hxd : d = x := by
            rw [hd]
            unfold drwF
            rw [if_pos hl0, List.getD_eq_getElem?_getD, hx]; rfl
          subst hxd
          have htm : Int.tmod (i : Int) (ds.length : Int) = ((i % ds.length : Nat) : Int) := by rw [Int.tmod_eq_emod_of_nonneg (by omega)]; omega
          have hl1 : ¬ (ds.length : Int) = 0 := by omega
          have hml : ((i % ds.length : Nat) : Int) < (ds.length : Int) := by omega
          clear hx hrg hb HZh HJh hd hmod hl0
          generalize i % ds.length = tm at *
          subst hae
          go_wp2_with fail
          go_meet
          exact ⟨rfl, rfl⟩
        · have hl0' : ¬ 0 < (ds.length : Int) := by omega
          have hdi2 : d = (i : Int) := by rw [hd]; unfold drwF; rw [if_neg hl0]
          subst hdi2
          clear HZh HJh hd hl0
          go_wp2_with fail
          go_meet
          exact ⟨rfl, rfl⟩
      case rest =>
        obtain ⟨rfl, rfl⟩ := hcut
        rw [← hd] at hdi
        obtain ⟨dr, hdr⟩ : ∃ dr : Nat → Int, (fun j : Nat => IntKind.i64.wrap (d + (j : Int))) = dr := ⟨_, rfl⟩
        have HDR : Hid (∀ j : Nat, dr j = IntKind.i64.wrap (d + (j : Int))) := fun j => by rw [← hdr]
        obtain ⟨ss', hG, HJ2⟩ := HJh.out.step hn6 dr
        have HGR := hidI hG
        have HJ2h := hidI HJ2
        obtain ⟨K, hK5, hKe, hKn⟩ := HGR.out.e
        have HX0 := HZh
        obtain ⟨pp, hpp⟩ : ∃ pp, SO.pa sd i = pp := ⟨_, rfl⟩
        have HPP : Hid (∀ a b, pp a b = (decide (120 ≤ i) || (sd a == sd b))) := fun a b => by rw [← hpp]; rfl
        rw [hpp] at hG hKe hKn HGR
        clear hd hdr HJ2 hG HZh HJh hpp hi2
        go_wp2_with fail
        go_loopw [10] (fun u10 wr => ∃ k : Nat, k ≤ n ∧ u10 = .int .i64 ((k : Int) + 1) ∧ CH w1 cb n (6 + 7000 * i + 10 * k) (SO.rT SO.A0 dr (ss, []) k).1 (SO.rT SO.A0 dr (ss, []) k).2 ps sb (.slice (some ⟨sb, 0, none⟩) (n + 1) sc) [] wr) (fun u10 _ => n + 1 - (intOf u10).toNat)
        case atStart => exact ⟨0, by omega, rfl, HX0.out⟩
        case round =>
          obtain ⟨k, hk, rfl, hx⟩ := hrel
          clear HX0
          obtain ⟨nv, Bs, ys, HX⟩ := hx
          have kc0 := HX.cl.c0
          by_cases hlt : k < n
          · have hkn : (k : Int) + 1 < (n : Int) + 1 := by omega
            have hkn' : (k : Int) + 1 ≤ (n : Int) := by omega
            have htn : ((k : Int) + 1).toNat = k + 1 := by omega
            have hk0 : (0 : Int) ≤ (k : Int) + 1 := by omega
            have hrT : SO.rT SO.A0 dr (ss, []) (k + 1) = SO.tk1 dr (SO.rT SO.A0 dr (ss, []) k) (k + 1) := rfl
            have hlen := HGR.out.t (k + 1) (by omega)
            rw [hrT] at hlen
            have CT : Hid (∀ V, CK w1 cb n (6 + 7000 * i + 10 * k) (SO.rT SO.A0 dr (ss, []) k).1 (SO.rT SO.A0 dr (ss, []) k).2 ps sb (.slice (some ⟨sb, 0, none⟩) (n + 1) sc) nv nv Bs ys [] V → Calls Try.prog 6 #[.pointer (some ⟨ps (k + 1), 0, none⟩), .int .i64 (IntKind.i64.wrap (d + ((k : Int) + 1)))] V fun e w' => ∃ a c, e = .returned (.slice a (SO.tick ((SO.rT SO.A0 dr (ss, []) k).1 (k + 1)) (dr (k + 1))).2.length c) ∧ CF w1 cb n (6 + 7000 * i + 10 * k + 10) (SO.up (SO.rT SO.A0 dr (ss, []) k).1 (k + 1) (SO.tick ((SO.rT SO.A0 dr (ss, []) k).1 (k + 1)) (dr (k + 1))).1) (SO.rT SO.A0 dr (ss, []) k).2 (SO.tick ((SO.rT SO.A0 dr (ss, []) k).1 (k + 1)) (dr (k + 1))).2 ps sb (.slice (some ⟨sb, 0, none⟩) (n + 1) sc) nv ys [] a w') := fun V h => by
              have e : dr (k + 1) = IntKind.i64.wrap (d + ((k : Int) + 1)) := HDR.out (k + 1)
              rw [← e]
              exact h.tick (by omega) (by omega) (by omega) _ (by rw [e]; exact i64w _)
            have HF : Hid (∀ v9 Bs9 ys9 V, CK w1 cb n (6 + 7000 * i + 10 * k + 10) (SO.up (SO.rT SO.A0 dr (ss, []) k).1 (k + 1) (SO.tick ((SO.rT SO.A0 dr (ss, []) k).1 (k + 1)) (dr (k + 1))).1) ((SO.rT SO.A0 dr (ss, []) k).2 ++ (SO.tick ((SO.rT SO.A0 dr (ss, []) k).1 (k + 1)) (dr (k + 1))).2) ps sb (.slice (some ⟨sb, 0, none⟩) (n + 1) sc) v9 v9 Bs9 ys9 [] V → CH w1 cb n (6 + 7000 * i + 10 * (k + 1)) (SO.rT SO.A0 dr (ss, []) (k + 1)).1 (SO.rT SO.A0 dr (ss, []) (k + 1)).2 ps sb (.slice (some ⟨sb, 0, none⟩) (n + 1) sc) [] V) := fun v9 Bs9 ys9 V h => by
              rw [hrT]
              exact ⟨v9, Bs9, ys9, h⟩
            have hlen2 : (SO.rT SO.A0 dr (ss, []) k).2.length + (SO.tick ((SO.rT SO.A0 dr (ss, []) k).1 (k + 1)) (dr (k + 1))).2.length ≤ 1000 := by
              have e : (SO.tk1 dr (SO.rT SO.A0 dr (ss, []) k) (k + 1)).2 = (SO.rT SO.A0 dr (ss, []) k).2 ++ (SO.tick ((SO.rT SO.A0 dr (ss, []) k).1 (k + 1)) (dr (k + 1))).2 := rfl
              rw [e, List.length_append] at hlen
              exact hlen
            clear hlen hrT HGR HDR hKe hKn HPP HJ2h KG hEND hDR
            generalize SO.tick ((SO.rT SO.A0 dr (ss, []) k).1 (k + 1)) (dr (k + 1)) = tk at *
            generalize SO.up (SO.rT SO.A0 dr (ss, []) k).1 (k + 1) tk.1 = ssn at *
            generalize SO.rT SO.A0 dr (ss, []) k = S0' at *
            have SK0 : Hid (∀ V, CK w1 cb n (6 + 7000 * i + 10 * k) S0'.1 S0'.2 ps sb (.slice (some ⟨sb, 0, none⟩) (n + 1) sc) nv nv Bs ys [] V → CL cb sb n sc ps V) := fun V h => h.cl
            have SK1 : Hid (∀ a V, CF w1 cb n (6 + 7000 * i + 10 * k + 10) ssn S0'.2 tk.2 ps sb (.slice (some ⟨sb, 0, none⟩) (n + 1) sc) nv ys [] a V → CL cb sb n sc ps V) := fun a V h => by
              obtain ⟨B9, y9, c9, _⟩ := h
              exact c9.cl
            have SC0 : Hid (∀ V, CK w1 cb n (6 + 7000 * i + 10 * k) S0'.1 S0'.2 ps sb (.slice (some ⟨sb, 0, none⟩) (n + 1) sc) nv nv Bs ys [] V → V.cell? ⟨cb, 1, none⟩ = some nv) := fun V h => h.c1
            have SC1 : Hid (∀ a V, CF w1 cb n (6 + 7000 * i + 10 * k + 10) ssn S0'.2 tk.2 ps sb (.slice (some ⟨sb, 0, none⟩) (n + 1) sc) nv ys [] a V → V.cell? ⟨cb, 1, none⟩ = some nv) := fun a V h => by
              obtain ⟨B9, y9, c9, _⟩ := h
              exact c9.c1
            go_wp2_with fail
            refine wp_region_noPanic ?_
            refine wp_region_held_drew (S := CL cb sb n sc ps) (by kernel_rfl) ((by first | exact SK0.out _ (HX.drewN 1) | exact SK1.out _ _ (HX.drewN 1))) (fun hHeld => ?_)
            refine wpAnyH_take (i := 0) rfl (by kernel_rfl) (by kernel_rfl) (by kernel_rfl) (fun _ _ _ h => h) (yi_move (by kernel_rfl) rfl rfl) (by assumption) ?_
            simp only [Act.put, List.getElem_toArray, List.getElem_cons_succ, List.getElem_cons_zero, List.setIfInBounds_toArray, List.set_cons_zero, List.set_cons_succ]
            refine wpAnyH_take (i := 1) rfl (by kernel_rfl) (by kernel_rfl) (by kernel_rfl) (fun _ _ _ h => h) (yi_move (by kernel_rfl) rfl rfl) (by assumption) ?_
            simp only [Act.put, List.getElem_toArray, List.getElem_cons_succ, List.getElem_cons_zero, List.setIfInBounds_toArray, List.set_cons_zero, List.set_cons_succ]
            refine wpAnyH_take (i := 2) (v := ?_) rfl (by kernel_rfl) (by kernel_rfl) (by kernel_rfl) (fun _ _ _ h => h) (Or.inl ⟨by kernel_rfl, ?_⟩) (by assumption) ?_
            rotate_left
            · (intro w hSw; (try dsimp only at hSw); go_simp; (try with_reducible rfl))
            simp only [Act.put, List.getElem_toArray, List.getElem_cons_succ, List.getElem_cons_zero, List.setIfInBounds_toArray, List.set_cons_zero, List.set_cons_succ]
            refine wpAnyH_take (i := 3) (v := ?_) rfl (by kernel_rfl) (by kernel_rfl) (by kernel_rfl) (fun _ _ _ h => h) (Or.inl ⟨by kernel_rfl, ?_⟩) (by assumption) ?_
            rotate_left
            · (intro w hSw; (try dsimp only at hSw); go_simp; (try with_reducible rfl))
            simp only [Act.put, List.getElem_toArray, List.getElem_cons_succ, List.getElem_cons_zero, List.setIfInBounds_toArray, List.set_cons_zero, List.set_cons_succ]
            refine wpAnyH_take (i := 5) rfl (by kernel_rfl) (by kernel_rfl) (by kernel_rfl) (fun _ _ _ h => h) (yi_move (by kernel_rfl) rfl rfl) (by assumption) ?_
            simp only [Act.put, List.getElem_toArray, List.getElem_cons_succ, List.getElem_cons_zero, List.setIfInBounds_toArray, List.set_cons_zero, List.set_cons_succ]
            refine wpAnyH_take (i := 6) (v := ?_) rfl (by kernel_rfl) (by kernel_rfl) (by kernel_rfl) (fun _ _ _ h => h) (Or.inl ⟨by kernel_rfl, ?_⟩) (by assumption) ?_
            rotate_left
            · (intro w hSw; (try dsimp only at hSw); go_simp; (try with_reducible rfl))
            simp only [Act.put, List.getElem_toArray, List.getElem_cons_succ, List.getElem_cons_zero, List.setIfInBounds_toArray, List.set_cons_zero, List.set_cons_succ]
            refine wpAnyH_take (i := 7) (v := ?_) rfl (by kernel_rfl) (by kernel_rfl) (by kernel_rfl) (fun _ _ _ h => h) (Or.inl ⟨by kernel_rfl, ?_⟩) (by assumption) ?_
            rotate_left
            · (intro w hSw; (try dsimp only at hSw); go_simp; (try with_reducible rfl))
            simp only [Act.put, List.getElem_toArray, List.getElem_cons_succ, List.getElem_cons_zero, List.setIfInBounds_toArray, List.set_cons_zero, List.set_cons_succ]
            refine wpAnyH_take (i := 8) (v := ?_) rfl (by kernel_rfl) (by kernel_rfl) (by kernel_rfl) (fun _ _ _ h => h) (Or.inl ⟨by kernel_rfl, ?_⟩) (by assumption) ?_
            rotate_left
            · (intro w hSw; have z1 := hSw.c0; go_simp; (try with_reducible rfl))
            simp only [Act.put, List.getElem_toArray, List.getElem_cons_succ, List.getElem_cons_zero, List.setIfInBounds_toArray, List.set_cons_zero, List.set_cons_succ]
            refine wpAnyH_take (i := 9) rfl (by kernel_rfl) (by kernel_rfl) (by kernel_rfl) (fun _ _ _ h => h) (yi_move (by kernel_rfl) rfl rfl) (by assumption) ?_
            simp only [Act.put, List.getElem_toArray, List.getElem_cons_succ, List.getElem_cons_zero, List.setIfInBounds_toArray, List.set_cons_zero, List.set_cons_succ]
            refine wpAnyH_take (i := 10) (v := ?_) rfl (by kernel_rfl) (by kernel_rfl) (by kernel_rfl) (fun _ _ _ h => h) (Or.inl ⟨by kernel_rfl, ?_⟩) (by assumption) ?_
            rotate_left
            · (intro w hSw; (try dsimp only at hSw); go_simp; (try with_reducible rfl))
            simp only [Act.put, List.getElem_toArray, List.getElem_cons_succ, List.getElem_cons_zero, List.setIfInBounds_toArray, List.set_cons_zero, List.set_cons_succ]
            refine wpAnyH_take (i := 11) (v := ?_) rfl (by kernel_rfl) (by kernel_rfl) (by kernel_rfl) (fun _ _ _ h => h) (Or.inl ⟨by kernel_rfl, ?_⟩) (by assumption) ?_
            rotate_left
            · (intro w hSw; have z1 := hSw.p (k + 1) (by omega) (by omega); go_simp; (try with_reducible rfl))
            simp only [Act.put, List.getElem_toArray, List.getElem_cons_succ, List.getElem_cons_zero, List.setIfInBounds_toArray, List.set_cons_zero, List.set_cons_succ]
            refine wpAnyH_take (i := 12) rfl (by kernel_rfl) (by kernel_rfl) (by kernel_rfl) (fun _ _ _ h => h) (yi_move (by kernel_rfl) rfl rfl) (by assumption) ?_
            simp only [Act.put, List.getElem_toArray, List.getElem_cons_succ, List.getElem_cons_zero, List.setIfInBounds_toArray, List.set_cons_zero, List.set_cons_succ]
            refine wpAnyH_take (i := 13) rfl (by kernel_rfl) (by kernel_rfl) (by kernel_rfl) (fun _ _ _ h => h) (yi_move (by kernel_rfl) rfl rfl) (by assumption) ?_
            simp only [Act.put, List.getElem_toArray, List.getElem_cons_succ, List.getElem_cons_zero, List.setIfInBounds_toArray, List.set_cons_zero, List.set_cons_succ]
            refine wpAnyH_take (i := 14) (v := ?_) rfl (by kernel_rfl) (by kernel_rfl) (by kernel_rfl) (fun _ _ _ h => h) (Or.inl ⟨by kernel_rfl, ?_⟩) (by assumption) ?_
            rotate_left
            · (intro w hSw; (try dsimp only at hSw); go_simp; (try with_reducible rfl))
            simp only [Act.put, List.getElem_toArray, List.getElem_cons_succ, List.getElem_cons_zero, List.setIfInBounds_toArray, List.set_cons_zero, List.set_cons_succ]
            refine wpAnyH_ready (rs := [4, 15]) (by kernel_rfl) (by simp) ?_
            refine AllReadyH.cons (o := _) rfl (fun K hK => ?_) ?_
            · refine stepo_load1 rfl 28 _ rfl cb 1 (by rfl) nv (by first | exact (SC0.out _ (HX.drewN 1)) | exact (SC1.out _ _ (HX.drewN 1))) undSs (hK.out _ _ ((by first | exact SK0.out _ (HX.drewN 1) | exact SK1.out _ _ (HX.drewN 1))) (fun hHeld => ?_))
              clear hK K
              (try simp only [Act.put, List.getElem_toArray, List.getElem_cons_succ, List.getElem_cons_zero, List.setIfInBounds_toArray, List.set_cons_zero, List.set_cons_succ])
              refine wpAnyH_ready (rs := [15]) (by kernel_rfl) (by simp) ?_
              refine AllReadyH.cons (o := _) rfl (fun K hK => ?_) AllReadyH.nil
              go_simp
              go_at_call 6; refine (CT.out _ (HX.drewN 1)).mono ?_; rintro e V16 ⟨a9, c9, rfl, HB16⟩
              refine hK.out _ _ ((by first | exact SK0.out _ HB16 | exact SK1.out _ _ HB16)) (fun hHeld => ?_)
              clear hK K
              (try simp only [Act.put, List.getElem_toArray, List.getElem_cons_succ, List.getElem_cons_zero, List.setIfInBounds_toArray, List.set_cons_zero, List.set_cons_succ])
              refine wpAnyH_ready (rs := [16]) (by kernel_rfl) (by simp) ?_
              refine AllReadyH.cons (o := _) rfl (fun K hK => ?_) AllReadyH.nil
              obtain ⟨Bs9, ys9, ck9, fr9⟩ := HB16
              refine stepo_appQ lyS tSn 28 (.agg z) 408 undSs hz1 hz2 (by omega) rfl _ _ rfl nv ys (by rfl) ck9.q a9 ys9 _ _ fr9.len.symm (by rfl) fr9.rs (by have h8 := ck9.len; have h9 := fr9.len; omega) ?_
              intro v9 w9 q1 q2 q3
              have HZ := ck9.app fr9 q1 q2 q3
              refine hK.out _ _ (HZ.cl) (fun hHeld => ?_)
              clear hK K
              (try simp only [Act.put, List.getElem_toArray, List.getElem_cons_succ, List.getElem_cons_zero, List.setIfInBounds_toArray, List.set_cons_zero, List.set_cons_succ])
              refine wpAnyH_take (i := 17) (v := ?_) rfl (by kernel_rfl) (by kernel_rfl) (by kernel_rfl) (fun _ _ _ h => h) (Or.inl ⟨by kernel_rfl, ?_⟩) (by assumption) ?_
              rotate_left
              · (intro w hSw; (try dsimp only at hSw); go_simp; (try with_reducible rfl))
              simp only [Act.put, List.getElem_toArray, List.getElem_cons_succ, List.getElem_cons_zero, List.setIfInBounds_toArray, List.set_cons_zero, List.set_cons_succ]
              refine wpAnyH_take (i := 18) (v := ?_) rfl (by kernel_rfl) (by kernel_rfl) (by kernel_rfl) (fun _ _ _ h => h) (Or.inl ⟨by kernel_rfl, ?_⟩) (by assumption) ?_
              rotate_left
              · (intro w hSw; (try dsimp only at hSw); go_simp; (try with_reducible rfl))
              simp only [Act.put, List.getElem_toArray, List.getElem_cons_succ, List.getElem_cons_zero, List.setIfInBounds_toArray, List.set_cons_zero, List.set_cons_succ]
              refine wpAnyH_ready (rs := [19]) (by kernel_rfl) (by simp) ?_
              refine AllReadyH.cons (o := _) rfl (fun K hK => ?_) AllReadyH.nil
              refine stepo_setU rfl 28 _ _ rfl cb 1 v9 (by rfl) (by rfl) (by obtain ⟨a8, c8, e8⟩ := HZ.q.len; rw [e8]; rfl) infoSs [.slice (some ⟨sb, 0, none⟩) (n + 1) sc, nv] [.slice (some ⟨sb, 0, none⟩) (n + 1) sc, v9] tCp HZ.row (by simp) rfl ?_
              intro U3 R3 O3
              have HZ3 := HZ.store O3 R3
              refine hK.out _ _ (HZ3.cl) (fun hHeld => ?_)
              clear hK K
              (try simp only [Act.put, List.getElem_toArray, List.getElem_cons_succ, List.getElem_cons_zero, List.setIfInBounds_toArray, List.set_cons_zero, List.set_cons_succ])
              refine wpAnyH_done (by kernel_rfl) ?_ _
              refine NoPanic.normal ?_
              have HE := hidI (HF.out _ _ _ _ HZ3)
              clear HZ HZ3 O3 R3 q1 q2 q3 ck9 fr9 hHeld
              go_wp2_with fail
              go_roundw
              case rel => exact ⟨k + 1, by omega, by go_num, HE.out⟩
              case measure => simp [intOf]; omega
            refine AllReadyH.cons (o := _) rfl (fun K hK => ?_) ?_
            · go_simp
              go_at_call 6; refine (CT.out _ (HX.drewN 1)).mono ?_; rintro e V20 ⟨a9, c9, rfl, HB20⟩
              refine hK.out _ _ ((by first | exact SK0.out _ HB20 | exact SK1.out _ _ HB20)) (fun hHeld => ?_)
              clear hK K
              (try simp only [Act.put, List.getElem_toArray, List.getElem_cons_succ, List.getElem_cons_zero, List.setIfInBounds_toArray, List.set_cons_zero, List.set_cons_succ])
              refine wpAnyH_ready (rs := [4]) (by kernel_rfl) (by simp) ?_
              refine AllReadyH.cons (o := _) rfl (fun K hK => ?_) AllReadyH.nil
              refine stepo_load1 rfl 28 _ rfl cb 1 (by rfl) nv (by first | exact (SC0.out _ HB20) | exact (SC1.out _ _ HB20)) undSs (hK.out _ _ ((by first | exact SK0.out _ HB20 | exact SK1.out _ _ HB20)) (fun hHeld => ?_))
              clear hK K
              (try simp only [Act.put, List.getElem_toArray, List.getElem_cons_succ, List.getElem_cons_zero, List.setIfInBounds_toArray, List.set_cons_zero, List.set_cons_succ])
              refine wpAnyH_ready (rs := [16]) (by kernel_rfl) (by simp) ?_
              refine AllReadyH.cons (o := _) rfl (fun K hK => ?_) AllReadyH.nil
              obtain ⟨Bs9, ys9, ck9, fr9⟩ := HB20
              refine stepo_appQ lyS tSn 28 (.agg z) 408 undSs hz1 hz2 (by omega) rfl _ _ rfl nv ys (by rfl) ck9.q a9 ys9 _ _ fr9.len.symm (by rfl) fr9.rs (by have h8 := ck9.len; have h9 := fr9.len; omega) ?_
              intro v9 w9 q1 q2 q3
              have HZ := ck9.app fr9 q1 q2 q3
              refine hK.out _ _ (HZ.cl) (fun hHeld => ?_)
              clear hK K
              (try simp only [Act.put, List.getElem_toArray, List.getElem_cons_succ, List.getElem_cons_zero, List.setIfInBounds_toArray, List.set_cons_zero, List.set_cons_succ])
              refine wpAnyH_take (i := 17) (v := ?_) rfl (by kernel_rfl) (by kernel_rfl) (by kernel_rfl) (fun _ _ _ h => h) (Or.inl ⟨by kernel_rfl, ?_⟩) (by assumption) ?_
              rotate_left
              · (intro w hSw; (try dsimp only at hSw); go_simp; (try with_reducible rfl))
              simp only [Act.put, List.getElem_toArray, List.getElem_cons_succ, List.getElem_cons_zero, List.setIfInBounds_toArray, List.set_cons_zero, List.set_cons_succ]
              refine wpAnyH_take (i := 18) (v := ?_) rfl (by kernel_rfl) (by kernel_rfl) (by kernel_rfl) (fun _ _ _ h => h) (Or.inl ⟨by kernel_rfl, ?_⟩) (by assumption) ?_
              rotate_left
              · (intro w hSw; (try dsimp only at hSw); go_simp; (try with_reducible rfl))
              simp only [Act.put, List.getElem_toArray, List.getElem_cons_succ, List.getElem_cons_zero, List.setIfInBounds_toArray, List.set_cons_zero, List.set_cons_succ]
              refine wpAnyH_ready (rs := [19]) (by kernel_rfl) (by simp) ?_
              refine AllReadyH.cons (o := _) rfl (fun K hK => ?_) AllReadyH.nil
              refine stepo_setU rfl 28 _ _ rfl cb 1 v9 (by rfl) (by rfl) (by obtain ⟨a8, c8, e8⟩ := HZ.q.len; rw [e8]; rfl) infoSs [.slice (some ⟨sb, 0, none⟩) (n + 1) sc, nv] [.slice (some ⟨sb, 0, none⟩) (n + 1) sc, v9] tCp HZ.row (by simp) rfl ?_
              intro U3 R3 O3
              have HZ3 := HZ.store O3 R3
              refine hK.out _ _ (HZ3.cl) (fun hHeld => ?_)
              clear hK K
              (try simp only [Act.put, List.getElem_toArray, List.getElem_cons_succ, List.getElem_cons_zero, List.setIfInBounds_toArray, List.set_cons_zero, List.set_cons_succ])
              refine wpAnyH_done (by kernel_rfl) ?_ _
              refine NoPanic.normal ?_
              have HE := hidI (HF.out _ _ _ _ HZ3)
              clear HZ HZ3 O3 R3 q1 q2 q3 ck9 fr9 hHeld
              go_wp2_with fail
              go_roundw
              case rel => exact ⟨k + 1, by omega, by go_num, HE.out⟩
              case measure => simp [intOf]; omega
            exact AllReadyH.nil
          · have ekn : n = k := by omega
            subst ekn
            have hkn : ¬ (n : Int) + 1 ≤ (n : Int) := by omega
            obtain ⟨T, hT⟩ : ∃ T, SO.rT SO.A0 dr (ss, []) n = T := ⟨_, rfl⟩
            have HG2 : Hid (∀ k f r, (SO.rP pp T k).2 = f :: r → SO.GoodF n f ∧ r.length + (SO.hear ((SO.rP pp T k).1 f.dst.toNat) f).2.length ≤ 1000) := by rw [← hT]; exact HGR.out.g
            rw [hT] at hKe hKn HX
            have H2 : Hid (CH w1 cb n (6 + 7000 * i + 10 * n + 13 * 0) (SO.rP pp T 0).1 (SO.rP pp T 0).2 ps sb (.slice (some ⟨sb, 0, none⟩) (n + 1) sc) [] wr) := ⟨nv, Bs, ys, HX⟩
            have HKE := hidI hKe
            have HKN := hidI hKn
            clear HX hT HGR hKe hKn HDR hDR kc0
            go_wp2_with fail
            go_loopw [11, 12] (fun u11 _ wr => ∃ k : Nat, k ≤ K ∧ u11 = .int .i64 (k : Int) ∧ CH w1 cb n (6 + 7000 * i + 10 * n + 13 * k) (SO.rP pp T k).1 (SO.rP pp T k).2 ps sb (.slice (some ⟨sb, 0, none⟩) (n + 1) sc) [] wr) (fun u11 _ _ => K - (intOf u11).toNat)
            case atStart => exact ⟨0, by omega, rfl, H2.out⟩
            case round =>
              obtain ⟨k, hkK, rfl, hx⟩ := hrel
              clear H2
              obtain ⟨nv, Bs, ys, HX⟩ := hx
              by_cases hkk : k < K
              · have hk500 : (k : Int) < 500 := by omega
                clear HJ2h hEND
                obtain ⟨f, r, hfr⟩ : ∃ f r, (SO.rP pp T k).2 = f :: r := by
                  cases hh : (SO.rP pp T k).2 with
                  | nil => exact absurd hh (HKN.out k hkk)
                  | cons f r => exact ⟨f, r, rfl⟩
                obtain ⟨hgf, hln⟩ := HG2.out k f r hfr
                rw [hfr] at HX
                have kc1 := HX.c1
                obtain ⟨g, off, cap, y, ys', env, hcap, hrg, hsn, HP⟩ := HX.pop
                obtain ⟨ad2, had2⟩ : ∃ ad : Option Addr, (if cap = 1 then some ⟨g, off, none⟩ else some ⟨g, off + 238, none⟩) = ad := ⟨_, rfl⟩
                rw [had2] at HP
                obtain ⟨nv2, hnv2⟩ : ∃ v, Value.slice ad2 r.length (cap - 1) = v := ⟨_, rfl⟩
                have HP' : CK w1 cb n (6 + 7000 * i + 10 * n + 13 * k) (SO.rP pp T k).1 r ps sb (.slice (some ⟨sb, 0, none⟩) (n + 1) sc) (Value.slice ad2 r.length (cap - 1)) nv Bs ys' [] wr := HP
                rw [hnv2] at HP'
                clear HP
                have HP := HP'
                clear HP'
                have hno : nv2.oneCell' = true := by rw [← hnv2]; rfl
                rw [env] at kc1
                have HRG := hidI hrg
                have hYl : (lyS.f y).length = 238 := lyS.len y
                have hiY : (Try.prog.info? tSn).map (·.size) = some (lyS.f y).length := by rw [hYl]; exact infoSn
                have HYO : Hid ((lyS.f y).toArray.all (·.oneCell') = true) := all_one (lyS.one y)
                have hYs : (lyS.f y).toArray.size = 238 := by simp [hYl]
                have hYE : lyS.f y = Value.int .i64 f.dst :: frL f.kind f.frm f.seq f.node zM (.slice y.ra f.rum.length y.rc) := by
                  show snL y.dst y.kind y.frm y.seq y.node zM (.slice y.ra y.rn y.rc) = _
                  rw [hsn.d, hsn.k, hsn.f, hsn.s, hsn.n, hsn.l]; rfl
                have hF0 : FrC (frL f.kind f.frm f.seq f.node zM (.slice y.ra f.rum.length y.rc)) f y.ra y.rc := frC f.dst f.kind f.frm f.seq f.node y.ra y.rc f.rum
                obtain ⟨FL, hFL⟩ : ∃ FL, frL f.kind f.frm f.seq f.node zM (.slice y.ra f.rum.length y.rc) = FL := ⟨_, rfl⟩
                rw [hFL] at hYE hF0
                have hFl : FL.length = 237 := hF0.len
                have hiF : (Try.prog.info? tFr).map (·.size) = some FL.length := by rw [hFl]; exact infoFr
                rw [hYE] at HRG hYl hiY HYO hYs
                have HPB : Hid (∀ V, V = wr.alloc (.cells (Value.int .i64 f.dst :: FL).toArray tSn) → CK w1 cb n (6 + 7000 * i + 10 * n + 13 * k) (SO.rP pp T k).1 r ps sb (.slice (some ⟨sb, 0, none⟩) (n + 1) sc) nv2 nv Bs ys' ((wr.heap.size, .cells (Value.int .i64 f.dst :: FL).toArray tSn (0, 0)) :: []) V ∧ SN V (XG Bs nv cb sb) y f) := fun V hV => by
                  subst hV
                  exact ⟨HP.box _ _, hsn.keep ((Bl.refl wr).alloc _).size (fun g hg hl => ⟨((Bl.refl wr).alloc _).block g hl, hg⟩)⟩
                have hd1 := hgf.d1
                have hd2 := hgf.d2
                have hf1 := hgf.f1
                have hf2 := hgf.f2
                have hr6 := hgf.r6
                have HGF := hidI hgf
                have HLN := hidI hln
                have HHR : Hid (SO.rP pp T (k + 1) = if pp f.dst.toNat f.frm.toNat = true then (SO.up (SO.rP pp T k).1 f.dst.toNat (SO.hear ((SO.rP pp T k).1 f.dst.toNat) f).1, r ++ (SO.hear ((SO.rP pp T k).1 f.dst.toNat) f).2) else ((SO.rP pp T k).1, r)) := by
                  show SO.hp1 pp (SO.rP pp T k) = _
                  unfold SO.hp1
                  rw [hfr]
                have HF0 := hidI hF0
                have HBF : Hid (∀ (V : World) (xb : Nat), V.heap[xb]? = some (.cells (Value.int .i64 f.dst :: FL).toArray tSn (0, 0)) → BF xb f.dst f.frm (.slice y.ra f.rum.length y.rc) FL V) := fun V xb h => boxF hF0 h
                clear HX HP hrg hsn hYE hFL hF0 hgf hln hfr
                generalize Value.int .i64 f.dst :: FL = YL at *
                have hcap1 : (1 : Int) ≤ (r.length : Int) + 1 := by omega
                go_upto_region 20 with (first
                  | (refine wpList_load_mid rfl tSn _ rfl g off rfl YL _ HRG.out humS rfl hiY ?_; clear HRG)
                  | (refine wpList_store_row rfl tSn _ _ rfl wr.heap.size YL.toArray rfl rfl tSn zSn (heap_alloc_new wr _) (by rw [hYs]; exact infoSn) (by rw [hYs, zSn_size]) HYO.out ?_; rw [World.setRow_alloc_new]; clear HYO; obtain ⟨V, hV⟩ : ∃ V, V = wr.alloc (.cells YL.toArray tSn) := ⟨_, rfl⟩; rw [← hV]; have hpb := HPB.out V hV; have kc1V := hpb.1.c1; rw [env] at kc1V; have CKV := hidI hpb; clear hV hpb kc1)
                  | (refine wl_setU rfl 28 _ _ rfl cb 1 nv2 rfl rfl hno infoSs [.slice (some ⟨sb, 0, none⟩) (n + 1) sc, nv] [.slice (some ⟨sb, 0, none⟩) (n + 1) sc, nv2] tCp CKV.out.1.row (by simp) rfl ?_; intro V2 R2 O2; have CK2 := hidI (CKV.out.1.store O2 R2); have SN2 := hidI (CKV.out.2.keep O2.size (fun g hg hl => ⟨O2.block g hl hg.2.2.1, hg⟩)); clear R2 O2 CKV kc1V))
                generalize wr.heap.size = xb at *
                have HC := CK2.out
                have SKX : Hid (∀ V, CK w1 cb n (6 + 7000 * i + 10 * n + 13 * k) (SO.rP pp T k).1 r ps sb (.slice (some ⟨sb, 0, none⟩) (n + 1) sc) nv2 nv2 Bs ys' ((xb, .cells YL.toArray tSn (0, 0)) :: []) V → CL cb sb n sc ps V ∧ BF xb f.dst f.frm (.slice y.ra f.rum.length y.rc) FL V) := fun V h => ⟨h.cl, HBF.out V xb (h.be _ List.mem_cons_self).1⟩
                have hq1 : 0 ≤ f.dst - 1 := by omega
                have hq2 : f.dst - 1 < 6 := by omega
                have hq3 : 0 ≤ f.frm - 1 := by omega
                have hq4 : f.frm - 1 < 6 := by omega
                obtain ⟨dz, hdz⟩ : ∃ dz, (f.dst - 1).toNat = dz := ⟨_, rfl⟩
                obtain ⟨fz, hfz⟩ : ∃ fz, (f.frm - 1).toNat = fz := ⟨_, rfl⟩
                obtain ⟨bd, hbd⟩ : ∃ bd, sd f.dst.toNat = bd := ⟨_, rfl⟩
                obtain ⟨bf, hbf⟩ : ∃ bf, sd f.frm.toNat = bf := ⟨_, rfl⟩
                have SKS : Hid (∀ V, CK w1 cb n (6 + 7000 * i + 10 * n + 13 * k) (SO.rP pp T k).1 r ps sb (.slice (some ⟨sb, 0, none⟩) (n + 1) sc) nv2 nv2 Bs ys' ((xb, .cells YL.toArray tSn (0, 0)) :: []) V → BF xb f.dst f.frm (.slice y.ra f.rum.length y.rc) FL V ∧ SD zb dz fz bd bf V) := fun V h => by
                  refine ⟨(SKX.out V h).2, ?_, ?_⟩
                  · have := (KG.out V h.bl).1 f.dst.toNat (by omega) (by omega)
                    rw [hbd, show f.dst.toNat - 1 = dz by omega] at this
                    exact this
                  · have := (KG.out V h.bl).1 f.frm.toNat (by omega) (by omega)
                    rw [hbf, show f.frm.toNat - 1 = fz by omega] at this
                    exact this
                have hw1 : IntKind.i64.wrap (f.dst - 1) = f.dst - 1 := by simp only [IntKind.wrap, IntKind.bits, IntKind.signed]; simp; omega
                have hw3 : IntKind.i64.wrap (f.frm - 1) = f.frm - 1 := by simp only [IntKind.wrap, IntKind.bits, IntKind.signed]; simp; omega
                have hpq : pp f.dst.toNat f.frm.toNat = (decide (120 ≤ i) || (bd == bf)) := by rw [HPP.out, hbd, hbf]
                obtain ⟨q, hq⟩ : ∃ q, pp f.dst.toNat f.frm.toNat = q := ⟨_, rfl⟩
                rw [hq] at hpq
                have HQ := hidI hq
                clear hq hbd hbf KG
                (try simp only [Act.put, List.getElem_toArray, List.getElem_cons_succ, List.getElem_cons_zero, List.setIfInBounds_toArray, List.set_cons_zero, List.set_cons_succ])
                go_cut [105] (fun s105 wx => s105 = .bool q ∧ V2.drew = wx)
                case first =>
                  clear SN2 HHR HLN HGF HF0 HBF HKE HKN HG2 SKX HQ HPP
                  by_cases h120 : 120 ≤ i
                  · have h120' : (120 : Int) ≤ (i : Int) := by omega
                    have hqt : q = true := by rw [hpq, decide_eq_true h120]; rfl
                    subst hqt
                    clear hpq h120 hdz hfz hq1 hq2 hq3 hq4 hw1 hw3
                    refine wp_region_noPanic ?_
                    refine wp_region_held_drew (S := fun V => BF xb f.dst f.frm (.slice y.ra f.rum.length y.rc) FL V ∧ SD zb dz fz bd bf V) (by kernel_rfl) ((SKS.out _ (HC.drewN 1))) (fun hHeld => ?_)
                    refine wpAnyH_take (i := 0) rfl (by kernel_rfl) (by kernel_rfl) (by kernel_rfl) (fun _ _ _ h => h) (yi_move (by kernel_rfl) rfl rfl) (by assumption) ?_
                    simp only [Act.put, List.getElem_toArray, List.getElem_cons_succ, List.getElem_cons_zero, List.setIfInBounds_toArray, List.set_cons_zero, List.set_cons_succ]
                    refine wpAnyH_take (i := 1) (v := ?_) rfl (by kernel_rfl) (by kernel_rfl) (by kernel_rfl) (fun _ _ _ h => h) (Or.inl ⟨by kernel_rfl, ?_⟩) (by assumption) ?_
                    rotate_left
                    · (intro w hSw; (try dsimp only at hSw); go_simp; (try with_reducible rfl))
                    simp only [Act.put, List.getElem_toArray, List.getElem_cons_succ, List.getElem_cons_zero, List.setIfInBounds_toArray, List.set_cons_zero, List.set_cons_succ]
                    refine wpAnyH_take (i := 2) rfl (by kernel_rfl) (by kernel_rfl) (by kernel_rfl) (fun _ _ _ h => h) (yi_move (by kernel_rfl) rfl rfl) (by assumption) ?_
                    simp only [Act.put, List.getElem_toArray, List.getElem_cons_succ, List.getElem_cons_zero, List.setIfInBounds_toArray, List.set_cons_zero, List.set_cons_succ]
                    refine wpAnyH_take (i := 3) (v := undef) rfl (by kernel_rfl) (by kernel_rfl) (by kernel_rfl) (fun _ _ _ h => h) (Or.inr ⟨by kernel_rfl, rfl⟩) (by assumption) ?_
                    simp only [Act.put, List.getElem_toArray, List.getElem_cons_succ, List.getElem_cons_zero, List.setIfInBounds_toArray, List.set_cons_zero, List.set_cons_succ]
                    refine wpAnyH_take (i := 4) (v := undef) rfl (by kernel_rfl) (by kernel_rfl) (by kernel_rfl) (fun _ _ _ h => h) (Or.inr ⟨by kernel_rfl, rfl⟩) (by assumption) ?_
                    simp only [Act.put, List.getElem_toArray, List.getElem_cons_succ, List.getElem_cons_zero, List.setIfInBounds_toArray, List.set_cons_zero, List.set_cons_succ]
                    refine wpAnyH_take (i := 5) (v := undef) rfl (by kernel_rfl) (by kernel_rfl) (by kernel_rfl) (fun _ _ _ h => h) (Or.inr ⟨by kernel_rfl, rfl⟩) (by assumption) ?_
                    simp only [Act.put, List.getElem_toArray, List.getElem_cons_succ, List.getElem_cons_zero, List.setIfInBounds_toArray, List.set_cons_zero, List.set_cons_succ]
                    refine wpAnyH_take (i := 6) (v := undef) rfl (by kernel_rfl) (by kernel_rfl) (by kernel_rfl) (fun _ _ _ h => h) (Or.inr ⟨by kernel_rfl, rfl⟩) (by assumption) ?_
                    simp only [Act.put, List.getElem_toArray, List.getElem_cons_succ, List.getElem_cons_zero, List.setIfInBounds_toArray, List.set_cons_zero, List.set_cons_succ]
                    refine wpAnyH_take (i := 7) (v := undef) rfl (by kernel_rfl) (by kernel_rfl) (by kernel_rfl) (fun _ _ _ h => h) (Or.inr ⟨by kernel_rfl, rfl⟩) (by assumption) ?_
                    simp only [Act.put, List.getElem_toArray, List.getElem_cons_succ, List.getElem_cons_zero, List.setIfInBounds_toArray, List.set_cons_zero, List.set_cons_succ]
                    refine wpAnyH_take (i := 8) (v := undef) rfl (by kernel_rfl) (by kernel_rfl) (by kernel_rfl) (fun _ _ _ h => h) (Or.inr ⟨by kernel_rfl, rfl⟩) (by assumption) ?_
                    simp only [Act.put, List.getElem_toArray, List.getElem_cons_succ, List.getElem_cons_zero, List.setIfInBounds_toArray, List.set_cons_zero, List.set_cons_succ]
                    refine wpAnyH_take (i := 9) (v := undef) rfl (by kernel_rfl) (by kernel_rfl) (by kernel_rfl) (fun _ _ _ h => h) (Or.inr ⟨by kernel_rfl, rfl⟩) (by assumption) ?_
                    simp only [Act.put, List.getElem_toArray, List.getElem_cons_succ, List.getElem_cons_zero, List.setIfInBounds_toArray, List.set_cons_zero, List.set_cons_succ]
                    refine wpAnyH_take (i := 10) (v := undef) rfl (by kernel_rfl) (by kernel_rfl) (by kernel_rfl) (fun _ _ _ h => h) (Or.inr ⟨by kernel_rfl, rfl⟩) (by assumption) ?_
                    simp only [Act.put, List.getElem_toArray, List.getElem_cons_succ, List.getElem_cons_zero, List.setIfInBounds_toArray, List.set_cons_zero, List.set_cons_succ]
                    refine wpAnyH_take (i := 11) (v := undef) rfl (by kernel_rfl) (by kernel_rfl) (by kernel_rfl) (fun _ _ _ h => h) (Or.inr ⟨by kernel_rfl, rfl⟩) (by assumption) ?_
                    simp only [Act.put, List.getElem_toArray, List.getElem_cons_succ, List.getElem_cons_zero, List.setIfInBounds_toArray, List.set_cons_zero, List.set_cons_succ]
                    refine wpAnyH_take (i := 12) (v := undef) rfl (by kernel_rfl) (by kernel_rfl) (by kernel_rfl) (fun _ _ _ h => h) (Or.inr ⟨by kernel_rfl, rfl⟩) (by assumption) ?_
                    simp only [Act.put, List.getElem_toArray, List.getElem_cons_succ, List.getElem_cons_zero, List.setIfInBounds_toArray, List.set_cons_zero, List.set_cons_succ]
                    refine wpAnyH_take (i := 13) (v := undef) rfl (by kernel_rfl) (by kernel_rfl) (by kernel_rfl) (fun _ _ _ h => h) (Or.inr ⟨by kernel_rfl, rfl⟩) (by assumption) ?_
                    simp only [Act.put, List.getElem_toArray, List.getElem_cons_succ, List.getElem_cons_zero, List.setIfInBounds_toArray, List.set_cons_zero, List.set_cons_succ]
                    refine wpAnyH_take (i := 14) (v := undef) rfl (by kernel_rfl) (by kernel_rfl) (by kernel_rfl) (fun _ _ _ h => h) (Or.inr ⟨by kernel_rfl, rfl⟩) (by assumption) ?_
                    simp only [Act.put, List.getElem_toArray, List.getElem_cons_succ, List.getElem_cons_zero, List.setIfInBounds_toArray, List.set_cons_zero, List.set_cons_succ]
                    refine wpAnyH_take (i := 15) (v := ?_) rfl (by kernel_rfl) (by kernel_rfl) (by kernel_rfl) (fun _ _ _ h => h) (Or.inl ⟨by kernel_rfl, ?_⟩) (by assumption) ?_
                    rotate_left
                    · (intro w hSw; (try dsimp only at hSw); go_simp; (try with_reducible rfl))
                    simp only [Act.put, List.getElem_toArray, List.getElem_cons_succ, List.getElem_cons_zero, List.setIfInBounds_toArray, List.set_cons_zero, List.set_cons_succ]
                    refine wpAnyH_done (by kernel_rfl) ?_ _
                    refine NoPanic.normal ?_
                    clear hHeld
                    go_wp2_with fail
                    go_meet
                    exact ⟨rfl, rfl⟩
                  · have h120' : ¬ (120 : Int) ≤ (i : Int) := by omega
                    rw [decide_eq_false h120] at hpq
                    cases bd <;> cases bf
                    · have hqt : q = true := hpq
                      subst hqt
                      clear hpq h120
                      refine wp_region_noPanic ?_
                      refine wp_region_held_drew (S := fun V => BF xb f.dst f.frm (.slice y.ra f.rum.length y.rc) FL V ∧ SD zb dz fz false false V) (by kernel_rfl) ((SKS.out _ (HC.drewN 1))) (fun hHeld => ?_)
                      refine wpAnyH_take (i := 0) rfl (by kernel_rfl) (by kernel_rfl) (by kernel_rfl) (fun _ _ _ h => h) (yi_move (by kernel_rfl) rfl rfl) (by assumption) ?_
                      simp only [Act.put, List.getElem_toArray, List.getElem_cons_succ, List.getElem_cons_zero, List.setIfInBounds_toArray, List.set_cons_zero, List.set_cons_succ]
                      refine wpAnyH_take (i := 1) (v := ?_) rfl (by kernel_rfl) (by kernel_rfl) (by kernel_rfl) (fun _ _ _ h => h) (Or.inl ⟨by kernel_rfl, ?_⟩) (by assumption) ?_
                      rotate_left
                      · (intro w hSw; (try dsimp only at hSw); go_simp; (try with_reducible rfl))
                      simp only [Act.put, List.getElem_toArray, List.getElem_cons_succ, List.getElem_cons_zero, List.setIfInBounds_toArray, List.set_cons_zero, List.set_cons_succ]
                      refine wpAnyH_take (i := 2) rfl (by kernel_rfl) (by kernel_rfl) (by kernel_rfl) (fun _ _ _ h => h) (yi_move (by kernel_rfl) rfl rfl) (by assumption) ?_
                      simp only [Act.put, List.getElem_toArray, List.getElem_cons_succ, List.getElem_cons_zero, List.setIfInBounds_toArray, List.set_cons_zero, List.set_cons_succ]
                      refine wpAnyH_take (i := 3) (v := ?_) rfl (by kernel_rfl) (by kernel_rfl) (by kernel_rfl) (fun _ _ _ h => h) (Or.inl ⟨by kernel_rfl, ?_⟩) (by assumption) ?_
                      rotate_left
                      · (intro w hSw; (try dsimp only at hSw); go_simp; (try with_reducible rfl))
                      simp only [Act.put, List.getElem_toArray, List.getElem_cons_succ, List.getElem_cons_zero, List.setIfInBounds_toArray, List.set_cons_zero, List.set_cons_succ]
                      refine wpAnyH_take (i := 4) (v := ?_) rfl (by kernel_rfl) (by kernel_rfl) (by kernel_rfl) (fun _ _ _ h => h) (Or.inl ⟨by kernel_rfl, ?_⟩) (by assumption) ?_
                      rotate_left
                      · (intro w hSw; have z1 := hSw.1.k0; go_simp; (try with_reducible rfl))
                      simp only [Act.put, List.getElem_toArray, List.getElem_cons_succ, List.getElem_cons_zero, List.setIfInBounds_toArray, List.set_cons_zero, List.set_cons_succ]
                      refine wpAnyH_take (i := 5) (v := ?_) rfl (by kernel_rfl) (by kernel_rfl) (by kernel_rfl) (fun _ _ _ h => h) (Or.inl ⟨by kernel_rfl, ?_⟩) (by assumption) ?_
                      rotate_left
                      · (intro w hSw; (try dsimp only at hSw); go_simp; (try with_reducible rfl))
                      simp only [Act.put, List.getElem_toArray, List.getElem_cons_succ, List.getElem_cons_zero, List.setIfInBounds_toArray, List.set_cons_zero, List.set_cons_succ]
                      refine wpAnyH_take (i := 6) (v := ?_) rfl (by kernel_rfl) (by kernel_rfl) (by kernel_rfl) (fun _ _ _ h => h) (Or.inl ⟨by kernel_rfl, ?_⟩) (by assumption) ?_
                      rotate_left
                      · (intro w hSw; (try dsimp only at hSw); go_simp; (try with_reducible rfl))
                      simp only [Act.put, List.getElem_toArray, List.getElem_cons_succ, List.getElem_cons_zero, List.setIfInBounds_toArray, List.set_cons_zero, List.set_cons_succ]
                      refine wpAnyH_take (i := 7) (v := ?_) rfl (by kernel_rfl) (by kernel_rfl) (by kernel_rfl) (fun _ _ _ h => h) (Or.inl ⟨by kernel_rfl, ?_⟩) (by assumption) ?_
                      rotate_left
                      · (intro w hSw; have z1 := hSw.2.1; go_simp; (try with_reducible rfl))
                      simp only [Act.put, List.getElem_toArray, List.getElem_cons_succ, List.getElem_cons_zero, List.setIfInBounds_toArray, List.set_cons_zero, List.set_cons_succ]
                      refine wpAnyH_take (i := 8) (v := ?_) rfl (by kernel_rfl) (by kernel_rfl) (by kernel_rfl) (fun _ _ _ h => h) (Or.inl ⟨by kernel_rfl, ?_⟩) (by assumption) ?_
                      rotate_left
                      · (intro w hSw; (try dsimp only at hSw); go_simp; (try with_reducible rfl))
                      simp only [Act.put, List.getElem_toArray, List.getElem_cons_succ, List.getElem_cons_zero, List.setIfInBounds_toArray, List.set_cons_zero, List.set_cons_succ]
                      refine wpAnyH_take (i := 9) (v := ?_) rfl (by kernel_rfl) (by kernel_rfl) (by kernel_rfl) (fun _ _ _ h => h) (Or.inl ⟨by kernel_rfl, ?_⟩) (by assumption) ?_
                      rotate_left
                      · (intro w hSw; (try dsimp only at hSw); go_simp; (try with_reducible rfl))
                      simp only [Act.put, List.getElem_toArray, List.getElem_cons_succ, List.getElem_cons_zero, List.setIfInBounds_toArray, List.set_cons_zero, List.set_cons_succ]
                      refine wpAnyH_take (i := 10) (v := ?_) rfl (by kernel_rfl) (by kernel_rfl) (by kernel_rfl) (fun _ _ _ h => h) (Or.inl ⟨by kernel_rfl, ?_⟩) (by assumption) ?_
                      rotate_left
                      · (intro w hSw; have z1 := hSw.1.k2; go_simp; (try with_reducible rfl))
                      simp only [Act.put, List.getElem_toArray, List.getElem_cons_succ, List.getElem_cons_zero, List.setIfInBounds_toArray, List.set_cons_zero, List.set_cons_succ]
                      refine wpAnyH_take (i := 11) (v := ?_) rfl (by kernel_rfl) (by kernel_rfl) (by kernel_rfl) (fun _ _ _ h => h) (Or.inl ⟨by kernel_rfl, ?_⟩) (by assumption) ?_
                      rotate_left
                      · (intro w hSw; (try dsimp only at hSw); go_simp; (try with_reducible rfl))
                      simp only [Act.put, List.getElem_toArray, List.getElem_cons_succ, List.getElem_cons_zero, List.setIfInBounds_toArray, List.set_cons_zero, List.set_cons_succ]
                      refine wpAnyH_take (i := 12) (v := ?_) rfl (by kernel_rfl) (by kernel_rfl) (by kernel_rfl) (fun _ _ _ h => h) (Or.inl ⟨by kernel_rfl, ?_⟩) (by assumption) ?_
                      rotate_left
                      · (intro w hSw; (try dsimp only at hSw); go_simp; (try with_reducible rfl))
                      simp only [Act.put, List.getElem_toArray, List.getElem_cons_succ, List.getElem_cons_zero, List.setIfInBounds_toArray, List.set_cons_zero, List.set_cons_succ]
                      refine wpAnyH_take (i := 13) (v := ?_) rfl (by kernel_rfl) (by kernel_rfl) (by kernel_rfl) (fun _ _ _ h => h) (Or.inl ⟨by kernel_rfl, ?_⟩) (by assumption) ?_
                      rotate_left
                      · (intro w hSw; have z1 := hSw.2.2; go_simp; (try with_reducible rfl))
                      simp only [Act.put, List.getElem_toArray, List.getElem_cons_succ, List.getElem_cons_zero, List.setIfInBounds_toArray, List.set_cons_zero, List.set_cons_succ]
                      refine wpAnyH_take (i := 14) (v := ?_) rfl (by kernel_rfl) (by kernel_rfl) (by kernel_rfl) (fun _ _ _ h => h) (Or.inl ⟨by kernel_rfl, ?_⟩) (by assumption) ?_
                      rotate_left
                      · (intro w hSw; (try dsimp only at hSw); go_simp; (try with_reducible rfl))
                      simp only [Act.put, List.getElem_toArray, List.getElem_cons_succ, List.getElem_cons_zero, List.setIfInBounds_toArray, List.set_cons_zero, List.set_cons_succ]
                      refine wpAnyH_take (i := 15) (v := ?_) rfl (by kernel_rfl) (by kernel_rfl) (by kernel_rfl) (fun _ _ _ h => h) (Or.inl ⟨by kernel_rfl, ?_⟩) (by assumption) ?_
                      rotate_left
                      · (intro w hSw; (try dsimp only at hSw); go_simp; (try with_reducible rfl))
                      simp only [Act.put, List.getElem_toArray, List.getElem_cons_succ, List.getElem_cons_zero, List.setIfInBounds_toArray, List.set_cons_zero, List.set_cons_succ]
                      refine wpAnyH_done (by kernel_rfl) ?_ _
                      refine NoPanic.normal ?_
                      clear hHeld
                      go_wp2_with fail
                      go_meet
                      exact ⟨rfl, rfl⟩
                    · have hqt : q = false := hpq
                      subst hqt
                      clear hpq h120
                      refine wp_region_noPanic ?_
                      refine wp_region_held_drew (S := fun V => BF xb f.dst f.frm (.slice y.ra f.rum.length y.rc) FL V ∧ SD zb dz fz false true V) (by kernel_rfl) ((SKS.out _ (HC.drewN 1))) (fun hHeld => ?_)
                      refine wpAnyH_take (i := 0) rfl (by kernel_rfl) (by kernel_rfl) (by kernel_rfl) (fun _ _ _ h => h) (yi_move (by kernel_rfl) rfl rfl) (by assumption) ?_
                      simp only [Act.put, List.getElem_toArray, List.getElem_cons_succ, List.getElem_cons_zero, List.setIfInBounds_toArray, List.set_cons_zero, List.set_cons_succ]
                      refine wpAnyH_take (i := 1) (v := ?_) rfl (by kernel_rfl) (by kernel_rfl) (by kernel_rfl) (fun _ _ _ h => h) (Or.inl ⟨by kernel_rfl, ?_⟩) (by assumption) ?_
                      rotate_left
                      · (intro w hSw; (try dsimp only at hSw); go_simp; (try with_reducible rfl))
                      simp only [Act.put, List.getElem_toArray, List.getElem_cons_succ, List.getElem_cons_zero, List.setIfInBounds_toArray, List.set_cons_zero, List.set_cons_succ]
                      refine wpAnyH_take (i := 2) rfl (by kernel_rfl) (by kernel_rfl) (by kernel_rfl) (fun _ _ _ h => h) (yi_move (by kernel_rfl) rfl rfl) (by assumption) ?_
                      simp only [Act.put, List.getElem_toArray, List.getElem_cons_succ, List.getElem_cons_zero, List.setIfInBounds_toArray, List.set_cons_zero, List.set_cons_succ]
                      refine wpAnyH_take (i := 3) (v := ?_) rfl (by kernel_rfl) (by kernel_rfl) (by kernel_rfl) (fun _ _ _ h => h) (Or.inl ⟨by kernel_rfl, ?_⟩) (by assumption) ?_
                      rotate_left
                      · (intro w hSw; (try dsimp only at hSw); go_simp; (try with_reducible rfl))
                      simp only [Act.put, List.getElem_toArray, List.getElem_cons_succ, List.getElem_cons_zero, List.setIfInBounds_toArray, List.set_cons_zero, List.set_cons_succ]
                      refine wpAnyH_take (i := 4) (v := ?_) rfl (by kernel_rfl) (by kernel_rfl) (by kernel_rfl) (fun _ _ _ h => h) (Or.inl ⟨by kernel_rfl, ?_⟩) (by assumption) ?_
                      rotate_left
                      · (intro w hSw; have z1 := hSw.1.k0; go_simp; (try with_reducible rfl))
                      simp only [Act.put, List.getElem_toArray, List.getElem_cons_succ, List.getElem_cons_zero, List.setIfInBounds_toArray, List.set_cons_zero, List.set_cons_succ]
                      refine wpAnyH_take (i := 5) (v := ?_) rfl (by kernel_rfl) (by kernel_rfl) (by kernel_rfl) (fun _ _ _ h => h) (Or.inl ⟨by kernel_rfl, ?_⟩) (by assumption) ?_
                      rotate_left
                      · (intro w hSw; (try dsimp only at hSw); go_simp; (try with_reducible rfl))
                      simp only [Act.put, List.getElem_toArray, List.getElem_cons_succ, List.getElem_cons_zero, List.setIfInBounds_toArray, List.set_cons_zero, List.set_cons_succ]
                      refine wpAnyH_take (i := 6) (v := ?_) rfl (by kernel_rfl) (by kernel_rfl) (by kernel_rfl) (fun _ _ _ h => h) (Or.inl ⟨by kernel_rfl, ?_⟩) (by assumption) ?_
                      rotate_left
                      · (intro w hSw; (try dsimp only at hSw); go_simp; (try with_reducible rfl))
                      simp only [Act.put, List.getElem_toArray, List.getElem_cons_succ, List.getElem_cons_zero, List.setIfInBounds_toArray, List.set_cons_zero, List.set_cons_succ]
                      refine wpAnyH_take (i := 7) (v := ?_) rfl (by kernel_rfl) (by kernel_rfl) (by kernel_rfl) (fun _ _ _ h => h) (Or.inl ⟨by kernel_rfl, ?_⟩) (by assumption) ?_
                      rotate_left
                      · (intro w hSw; have z1 := hSw.2.1; go_simp; (try with_reducible rfl))
                      simp only [Act.put, List.getElem_toArray, List.getElem_cons_succ, List.getElem_cons_zero, List.setIfInBounds_toArray, List.set_cons_zero, List.set_cons_succ]
                      refine wpAnyH_take (i := 8) (v := ?_) rfl (by kernel_rfl) (by kernel_rfl) (by kernel_rfl) (fun _ _ _ h => h) (Or.inl ⟨by kernel_rfl, ?_⟩) (by assumption) ?_
                      rotate_left
                      · (intro w hSw; (try dsimp only at hSw); go_simp; (try with_reducible rfl))
                      simp only [Act.put, List.getElem_toArray, List.getElem_cons_succ, List.getElem_cons_zero, List.setIfInBounds_toArray, List.set_cons_zero, List.set_cons_succ]
                      refine wpAnyH_take (i := 9) (v := ?_) rfl (by kernel_rfl) (by kernel_rfl) (by kernel_rfl) (fun _ _ _ h => h) (Or.inl ⟨by kernel_rfl, ?_⟩) (by assumption) ?_
                      rotate_left
                      · (intro w hSw; (try dsimp only at hSw); go_simp; (try with_reducible rfl))
                      simp only [Act.put, List.getElem_toArray, List.getElem_cons_succ, List.getElem_cons_zero, List.setIfInBounds_toArray, List.set_cons_zero, List.set_cons_succ]
                      refine wpAnyH_take (i := 10) (v := ?_) rfl (by kernel_rfl) (by kernel_rfl) (by kernel_rfl) (fun _ _ _ h => h) (Or.inl ⟨by kernel_rfl, ?_⟩) (by assumption) ?_
                      rotate_left
                      · (intro w hSw; have z1 := hSw.1.k2; go_simp; (try with_reducible rfl))
                      simp only [Act.put, List.getElem_toArray, List.getElem_cons_succ, List.getElem_cons_zero, List.setIfInBounds_toArray, List.set_cons_zero, List.set_cons_succ]
                      refine wpAnyH_take (i := 11) (v := ?_) rfl (by kernel_rfl) (by kernel_rfl) (by kernel_rfl) (fun _ _ _ h => h) (Or.inl ⟨by kernel_rfl, ?_⟩) (by assumption) ?_
                      rotate_left
                      · (intro w hSw; (try dsimp only at hSw); go_simp; (try with_reducible rfl))
                      simp only [Act.put, List.getElem_toArray, List.getElem_cons_succ, List.getElem_cons_zero, List.setIfInBounds_toArray, List.set_cons_zero, List.set_cons_succ]
                      refine wpAnyH_take (i := 12) (v := ?_) rfl (by kernel_rfl) (by kernel_rfl) (by kernel_rfl) (fun _ _ _ h => h) (Or.inl ⟨by kernel_rfl, ?_⟩) (by assumption) ?_
                      rotate_left
                      · (intro w hSw; (try dsimp only at hSw); go_simp; (try with_reducible rfl))
                      simp only [Act.put, List.getElem_toArray, List.getElem_cons_succ, List.getElem_cons_zero, List.setIfInBounds_toArray, List.set_cons_zero, List.set_cons_succ]
                      refine wpAnyH_take (i := 13) (v := ?_) rfl (by kernel_rfl) (by kernel_rfl) (by kernel_rfl) (fun _ _ _ h => h) (Or.inl ⟨by kernel_rfl, ?_⟩) (by assumption) ?_
                      rotate_left
                      · (intro w hSw; have z1 := hSw.2.2; go_simp; (try with_reducible rfl))
                      simp only [Act.put, List.getElem_toArray, List.getElem_cons_succ, List.getElem_cons_zero, List.setIfInBounds_toArray, List.set_cons_zero, List.set_cons_succ]
                      refine wpAnyH_take (i := 14) (v := ?_) rfl (by kernel_rfl) (by kernel_rfl) (by kernel_rfl) (fun _ _ _ h => h) (Or.inl ⟨by kernel_rfl, ?_⟩) (by assumption) ?_
                      rotate_left
                      · (intro w hSw; (try dsimp only at hSw); go_simp; (try with_reducible rfl))
                      simp only [Act.put, List.getElem_toArray, List.getElem_cons_succ, List.getElem_cons_zero, List.setIfInBounds_toArray, List.set_cons_zero, List.set_cons_succ]
                      refine wpAnyH_take (i := 15) (v := ?_) rfl (by kernel_rfl) (by kernel_rfl) (by kernel_rfl) (fun _ _ _ h => h) (Or.inl ⟨by kernel_rfl, ?_⟩) (by assumption) ?_
                      rotate_left
                      · (intro w hSw; (try dsimp only at hSw); go_simp; (try with_reducible rfl))
                      simp only [Act.put, List.getElem_toArray, List.getElem_cons_succ, List.getElem_cons_zero, List.setIfInBounds_toArray, List.set_cons_zero, List.set_cons_succ]
                      refine wpAnyH_done (by kernel_rfl) ?_ _
                      refine NoPanic.normal ?_
                      clear hHeld
                      go_wp2_with fail
                      go_meet
                      exact ⟨rfl, rfl⟩
                    · have hqt : q = false := hpq
                      subst hqt
                      clear hpq h120
                      refine wp_region_noPanic ?_
                      refine wp_region_held_drew (S := fun V => BF xb f.dst f.frm (.slice y.ra f.rum.length y.rc) FL V ∧ SD zb dz fz true false V) (by kernel_rfl) ((SKS.out _ (HC.drewN 1))) (fun hHeld => ?_)
                      refine wpAnyH_take (i := 0) rfl (by kernel_rfl) (by kernel_rfl) (by kernel_rfl) (fun _ _ _ h => h) (yi_move (by kernel_rfl) rfl rfl) (by assumption) ?_
                      simp only [Act.put, List.getElem_toArray, List.getElem_cons_succ, List.getElem_cons_zero, List.setIfInBounds_toArray, List.set_cons_zero, List.set_cons_succ]
                      refine wpAnyH_take (i := 1) (v := ?_) rfl (by kernel_rfl) (by kernel_rfl) (by kernel_rfl) (fun _ _ _ h => h) (Or.inl ⟨by kernel_rfl, ?_⟩) (by assumption) ?_
                      rotate_left
                      · (intro w hSw; (try dsimp only at hSw); go_simp; (try with_reducible rfl))
                      simp only [Act.put, List.getElem_toArray, List.getElem_cons_succ, List.getElem_cons_zero, List.setIfInBounds_toArray, List.set_cons_zero, List.set_cons_succ]
                      refine wpAnyH_take (i := 2) rfl (by kernel_rfl) (by kernel_rfl) (by kernel_rfl) (fun _ _ _ h => h) (yi_move (by kernel_rfl) rfl rfl) (by assumption) ?_
                      simp only [Act.put, List.getElem_toArray, List.getElem_cons_succ, List.getElem_cons_zero, List.setIfInBounds_toArray, List.set_cons_zero, List.set_cons_succ]
                      refine wpAnyH_take (i := 3) (v := ?_) rfl (by kernel_rfl) (by kernel_rfl) (by kernel_rfl) (fun _ _ _ h => h) (Or.inl ⟨by kernel_rfl, ?_⟩) (by assumption) ?_
                      rotate_left
                      · (intro w hSw; (try dsimp only at hSw); go_simp; (try with_reducible rfl))
                      simp only [Act.put, List.getElem_toArray, List.getElem_cons_succ, List.getElem_cons_zero, List.setIfInBounds_toArray, List.set_cons_zero, List.set_cons_succ]
                      refine wpAnyH_take (i := 4) (v := ?_) rfl (by kernel_rfl) (by kernel_rfl) (by kernel_rfl) (fun _ _ _ h => h) (Or.inl ⟨by kernel_rfl, ?_⟩) (by assumption) ?_
                      rotate_left
                      · (intro w hSw; have z1 := hSw.1.k0; go_simp; (try with_reducible rfl))
                      simp only [Act.put, List.getElem_toArray, List.getElem_cons_succ, List.getElem_cons_zero, List.setIfInBounds_toArray, List.set_cons_zero, List.set_cons_succ]
                      refine wpAnyH_take (i := 5) (v := ?_) rfl (by kernel_rfl) (by kernel_rfl) (by kernel_rfl) (fun _ _ _ h => h) (Or.inl ⟨by kernel_rfl, ?_⟩) (by assumption) ?_
                      rotate_left
                      · (intro w hSw; (try dsimp only at hSw); go_simp; (try with_reducible rfl))
                      simp only [Act.put, List.getElem_toArray, List.getElem_cons_succ, List.getElem_cons_zero, List.setIfInBounds_toArray, List.set_cons_zero, List.set_cons_succ]
                      refine wpAnyH_take (i := 6) (v := ?_) rfl (by kernel_rfl) (by kernel_rfl) (by kernel_rfl) (fun _ _ _ h => h) (Or.inl ⟨by kernel_rfl, ?_⟩) (by assumption) ?_
                      rotate_left
                      · (intro w hSw; (try dsimp only at hSw); go_simp; (try with_reducible rfl))
                      simp only [Act.put, List.getElem_toArray, List.getElem_cons_succ, List.getElem_cons_zero, List.setIfInBounds_toArray, List.set_cons_zero, List.set_cons_succ]
                      refine wpAnyH_take (i := 7) (v := ?_) rfl (by kernel_rfl) (by kernel_rfl) (by kernel_rfl) (fun _ _ _ h => h) (Or.inl ⟨by kernel_rfl, ?_⟩) (by assumption) ?_
                      rotate_left
                      · (intro w hSw; have z1 := hSw.2.1; go_simp; (try with_reducible rfl))
                      simp only [Act.put, List.getElem_toArray, List.getElem_cons_succ, List.getElem_cons_zero, List.setIfInBounds_toArray, List.set_cons_zero, List.set_cons_succ]
                      refine wpAnyH_take (i := 8) (v := ?_) rfl (by kernel_rfl) (by kernel_rfl) (by kernel_rfl) (fun _ _ _ h => h) (Or.inl ⟨by kernel_rfl, ?_⟩) (by assumption) ?_
                      rotate_left
                      · (intro w hSw; (try dsimp only at hSw); go_simp; (try with_reducible rfl))
                      simp only [Act.put, List.getElem_toArray, List.getElem_cons_succ, List.getElem_cons_zero, List.setIfInBounds_toArray, List.set_cons_zero, List.set_cons_succ]
                      refine wpAnyH_take (i := 9) (v := ?_) rfl (by kernel_rfl) (by kernel_rfl) (by kernel_rfl) (fun _ _ _ h => h) (Or.inl ⟨by kernel_rfl, ?_⟩) (by assumption) ?_
                      rotate_left
                      · (intro w hSw; (try dsimp only at hSw); go_simp; (try with_reducible rfl))
                      simp only [Act.put, List.getElem_toArray, List.getElem_cons_succ, List.getElem_cons_zero, List.setIfInBounds_toArray, List.set_cons_zero, List.set_cons_succ]
                      refine wpAnyH_take (i := 10) (v := ?_) rfl (by kernel_rfl) (by kernel_rfl) (by kernel_rfl) (fun _ _ _ h => h) (Or.inl ⟨by kernel_rfl, ?_⟩) (by assumption) ?_
                      rotate_left
                      · (intro w hSw; have z1 := hSw.1.k2; go_simp; (try with_reducible rfl))
                      simp only [Act.put, List.getElem_toArray, List.getElem_cons_succ, List.getElem_cons_zero, List.setIfInBounds_toArray, List.set_cons_zero, List.set_cons_succ]
                      refine wpAnyH_take (i := 11) (v := ?_) rfl (by kernel_rfl) (by kernel_rfl) (by kernel_rfl) (fun _ _ _ h => h) (Or.inl ⟨by kernel_rfl, ?_⟩) (by assumption) ?_
                      rotate_left
                      · (intro w hSw; (try dsimp only at hSw); go_simp; (try with_reducible rfl))
                      simp only [Act.put, List.getElem_toArray, List.getElem_cons_succ, List.getElem_cons_zero, List.setIfInBounds_toArray, List.set_cons_zero, List.set_cons_succ]
                      refine wpAnyH_take (i := 12) (v := ?_) rfl (by kernel_rfl) (by kernel_rfl) (by kernel_rfl) (fun _ _ _ h => h) (Or.inl ⟨by kernel_rfl, ?_⟩) (by assumption) ?_
                      rotate_left
                      · (intro w hSw; (try dsimp only at hSw); go_simp; (try with_reducible rfl))
                      simp only [Act.put, List.getElem_toArray, List.getElem_cons_succ, List.getElem_cons_zero, List.setIfInBounds_toArray, List.set_cons_zero, List.set_cons_succ]
                      refine wpAnyH_take (i := 13) (v := ?_) rfl (by kernel_rfl) (by kernel_rfl) (by kernel_rfl) (fun _ _ _ h => h) (Or.inl ⟨by kernel_rfl, ?_⟩) (by assumption) ?_
                      rotate_left
                      · (intro w hSw; have z1 := hSw.2.2; go_simp; (try with_reducible rfl))
                      simp only [Act.put, List.getElem_toArray, List.getElem_cons_succ, List.getElem_cons_zero, List.setIfInBounds_toArray, List.set_cons_zero, List.set_cons_succ]
                      refine wpAnyH_take (i := 14) (v := ?_) rfl (by kernel_rfl) (by kernel_rfl) (by kernel_rfl) (fun _ _ _ h => h) (Or.inl ⟨by kernel_rfl, ?_⟩) (by assumption) ?_
                      rotate_left
                      · (intro w hSw; (try dsimp only at hSw); go_simp; (try with_reducible rfl))
                      simp only [Act.put, List.getElem_toArray, List.getElem_cons_succ, List.getElem_cons_zero, List.setIfInBounds_toArray, List.set_cons_zero, List.set_cons_succ]
                      refine wpAnyH_take (i := 15) (v := ?_) rfl (by kernel_rfl) (by kernel_rfl) (by kernel_rfl) (fun _ _ _ h => h) (Or.inl ⟨by kernel_rfl, ?_⟩) (by assumption) ?_
                      rotate_left
                      · (intro w hSw; (try dsimp only at hSw); go_simp; (try with_reducible rfl))
                      simp only [Act.put, List.getElem_toArray, List.getElem_cons_succ, List.getElem_cons_zero, List.setIfInBounds_toArray, List.set_cons_zero, List.set_cons_succ]
                      refine wpAnyH_done (by kernel_rfl) ?_ _
                      refine NoPanic.normal ?_
                      clear hHeld
                      go_wp2_with fail
                      go_meet
                      exact ⟨rfl, rfl⟩
                    · have hqt : q = true := hpq
                      subst hqt
                      clear hpq h120
                      refine wp_region_noPanic ?_
                      refine wp_region_held_drew (S := fun V => BF xb f.dst f.frm (.slice y.ra f.rum.length y.rc) FL V ∧ SD zb dz fz true true V) (by kernel_rfl) ((SKS.out _ (HC.drewN 1))) (fun hHeld => ?_)
                      refine wpAnyH_take (i := 0) rfl (by kernel_rfl) (by kernel_rfl) (by kernel_rfl) (fun _ _ _ h => h) (yi_move (by kernel_rfl) rfl rfl) (by assumption) ?_
                      simp only [Act.put, List.getElem_toArray, List.getElem_cons_succ, List.getElem_cons_zero, List.setIfInBounds_toArray, List.set_cons_zero, List.set_cons_succ]
                      refine wpAnyH_take (i := 1) (v := ?_) rfl (by kernel_rfl) (by kernel_rfl) (by kernel_rfl) (fun _ _ _ h => h) (Or.inl ⟨by kernel_rfl, ?_⟩) (by assumption) ?_
                      rotate_left
                      · (intro w hSw; (try dsimp only at hSw); go_simp; (try with_reducible rfl))
                      simp only [Act.put, List.getElem_toArray, List.getElem_cons_succ, List.getElem_cons_zero, List.setIfInBounds_toArray, List.set_cons_zero, List.set_cons_succ]
                      refine wpAnyH_take (i := 2) rfl (by kernel_rfl) (by kernel_rfl) (by kernel_rfl) (fun _ _ _ h => h) (yi_move (by kernel_rfl) rfl rfl) (by assumption) ?_
                      simp only [Act.put, List.getElem_toArray, List.getElem_cons_succ, List.getElem_cons_zero, List.setIfInBounds_toArray, List.set_cons_zero, List.set_cons_succ]
                      refine wpAnyH_take (i := 3) (v := ?_) rfl (by kernel_rfl) (by kernel_rfl) (by kernel_rfl) (fun _ _ _ h => h) (Or.inl ⟨by kernel_rfl, ?_⟩) (by assumption) ?_
                      rotate_left
                      · (intro w hSw; (try dsimp only at hSw); go_simp; (try with_reducible rfl))
                      simp only [Act.put, List.getElem_toArray, List.getElem_cons_succ, List.getElem_cons_zero, List.setIfInBounds_toArray, List.set_cons_zero, List.set_cons_succ]
                      refine wpAnyH_take (i := 4) (v := ?_) rfl (by kernel_rfl) (by kernel_rfl) (by kernel_rfl) (fun _ _ _ h => h) (Or.inl ⟨by kernel_rfl, ?_⟩) (by assumption) ?_
                      rotate_left
                      · (intro w hSw; have z1 := hSw.1.k0; go_simp; (try with_reducible rfl))
                      simp only [Act.put, List.getElem_toArray, List.getElem_cons_succ, List.getElem_cons_zero, List.setIfInBounds_toArray, List.set_cons_zero, List.set_cons_succ]
                      refine wpAnyH_take (i := 5) (v := ?_) rfl (by kernel_rfl) (by kernel_rfl) (by kernel_rfl) (fun _ _ _ h => h) (Or.inl ⟨by kernel_rfl, ?_⟩) (by assumption) ?_
                      rotate_left
                      · (intro w hSw; (try dsimp only at hSw); go_simp; (try with_reducible rfl))
                      simp only [Act.put, List.getElem_toArray, List.getElem_cons_succ, List.getElem_cons_zero, List.setIfInBounds_toArray, List.set_cons_zero, List.set_cons_succ]
                      refine wpAnyH_take (i := 6) (v := ?_) rfl (by kernel_rfl) (by kernel_rfl) (by kernel_rfl) (fun _ _ _ h => h) (Or.inl ⟨by kernel_rfl, ?_⟩) (by assumption) ?_
                      rotate_left
                      · (intro w hSw; (try dsimp only at hSw); go_simp; (try with_reducible rfl))
                      simp only [Act.put, List.getElem_toArray, List.getElem_cons_succ, List.getElem_cons_zero, List.setIfInBounds_toArray, List.set_cons_zero, List.set_cons_succ]
                      refine wpAnyH_take (i := 7) (v := ?_) rfl (by kernel_rfl) (by kernel_rfl) (by kernel_rfl) (fun _ _ _ h => h) (Or.inl ⟨by kernel_rfl, ?_⟩) (by assumption) ?_
                      rotate_left
                      · (intro w hSw; have z1 := hSw.2.1; go_simp; (try with_reducible rfl))
                      simp only [Act.put, List.getElem_toArray, List.getElem_cons_succ, List.getElem_cons_zero, List.setIfInBounds_toArray, List.set_cons_zero, List.set_cons_succ]
                      refine wpAnyH_take (i := 8) (v := ?_) rfl (by kernel_rfl) (by kernel_rfl) (by kernel_rfl) (fun _ _ _ h => h) (Or.inl ⟨by kernel_rfl, ?_⟩) (by assumption) ?_
                      rotate_left
                      · (intro w hSw; (try dsimp only at hSw); go_simp; (try with_reducible rfl))
                      simp only [Act.put, List.getElem_toArray, List.getElem_cons_succ, List.getElem_cons_zero, List.setIfInBounds_toArray, List.set_cons_zero, List.set_cons_succ]
                      refine wpAnyH_take (i := 9) (v := ?_) rfl (by kernel_rfl) (by kernel_rfl) (by kernel_rfl) (fun _ _ _ h => h) (Or.inl ⟨by kernel_rfl, ?_⟩) (by assumption) ?_
                      rotate_left
                      · (intro w hSw; (try dsimp only at hSw); go_simp; (try with_reducible rfl))
                      simp only [Act.put, List.getElem_toArray, List.getElem_cons_succ, List.getElem_cons_zero, List.setIfInBounds_toArray, List.set_cons_zero, List.set_cons_succ]
                      refine wpAnyH_take (i := 10) (v := ?_) rfl (by kernel_rfl) (by kernel_rfl) (by kernel_rfl) (fun _ _ _ h => h) (Or.inl ⟨by kernel_rfl, ?_⟩) (by assumption) ?_
                      rotate_left
                      · (intro w hSw; have z1 := hSw.1.k2; go_simp; (try with_reducible rfl))
                      simp only [Act.put, List.getElem_toArray, List.getElem_cons_succ, List.getElem_cons_zero, List.setIfInBounds_toArray, List.set_cons_zero, List.set_cons_succ]
                      refine wpAnyH_take (i := 11) (v := ?_) rfl (by kernel_rfl) (by kernel_rfl) (by kernel_rfl) (fun _ _ _ h => h) (Or.inl ⟨by kernel_rfl, ?_⟩) (by assumption) ?_
                      rotate_left
                      · (intro w hSw; (try dsimp only at hSw); go_simp; (try with_reducible rfl))
                      simp only [Act.put, List.getElem_toArray, List.getElem_cons_succ, List.getElem_cons_zero, List.setIfInBounds_toArray, List.set_cons_zero, List.set_cons_succ]
                      refine wpAnyH_take (i := 12) (v := ?_) rfl (by kernel_rfl) (by kernel_rfl) (by kernel_rfl) (fun _ _ _ h => h) (Or.inl ⟨by kernel_rfl, ?_⟩) (by assumption) ?_
                      rotate_left
                      · (intro w hSw; (try dsimp only at hSw); go_simp; (try with_reducible rfl))
                      simp only [Act.put, List.getElem_toArray, List.getElem_cons_succ, List.getElem_cons_zero, List.setIfInBounds_toArray, List.set_cons_zero, List.set_cons_succ]
                      refine wpAnyH_take (i := 13) (v := ?_) rfl (by kernel_rfl) (by kernel_rfl) (by kernel_rfl) (fun _ _ _ h => h) (Or.inl ⟨by kernel_rfl, ?_⟩) (by assumption) ?_
                      rotate_left
                      · (intro w hSw; have z1 := hSw.2.2; go_simp; (try with_reducible rfl))
                      simp only [Act.put, List.getElem_toArray, List.getElem_cons_succ, List.getElem_cons_zero, List.setIfInBounds_toArray, List.set_cons_zero, List.set_cons_succ]
                      refine wpAnyH_take (i := 14) (v := ?_) rfl (by kernel_rfl) (by kernel_rfl) (by kernel_rfl) (fun _ _ _ h => h) (Or.inl ⟨by kernel_rfl, ?_⟩) (by assumption) ?_
                      rotate_left
                      · (intro w hSw; (try dsimp only at hSw); go_simp; (try with_reducible rfl))
                      simp only [Act.put, List.getElem_toArray, List.getElem_cons_succ, List.getElem_cons_zero, List.setIfInBounds_toArray, List.set_cons_zero, List.set_cons_succ]
                      refine wpAnyH_take (i := 15) (v := ?_) rfl (by kernel_rfl) (by kernel_rfl) (by kernel_rfl) (fun _ _ _ h => h) (Or.inl ⟨by kernel_rfl, ?_⟩) (by assumption) ?_
                      rotate_left
                      · (intro w hSw; (try dsimp only at hSw); go_simp; (try with_reducible rfl))
                      simp only [Act.put, List.getElem_toArray, List.getElem_cons_succ, List.getElem_cons_zero, List.setIfInBounds_toArray, List.set_cons_zero, List.set_cons_succ]
                      refine wpAnyH_done (by kernel_rfl) ?_ _
                      refine NoPanic.normal ?_
                      clear hHeld
                      go_wp2_with fail
                      go_meet
                      exact ⟨rfl, rfl⟩
                case rest =>
                  obtain ⟨rfl, rfl⟩ := hcut
                  have CK3 := hidI (HC.drewN 1)
                  have SN3 := hidI (SN2.out.keep ((Bl.refl V2).drewN 1).size (fun g hg hl => ⟨((Bl.refl V2).drewN 1).block g hl, hg⟩))
                  clear HC CK2 SN2 SKS hdz hfz hpq hq1 hq2 hq3 hq4 hw1 hw3 HPP
                  have eX : V2.drewN 1 = V2.drew := rfl
                  rw [eX] at CK3 SN3
                  clear eX
                  generalize V2.drew = X3 at *
                  have bx3 := (SKX.out _ CK3.out).2
                  have kx0 := bx3.k0
                  have kx2 := bx3.k2
                  have hd0 : 0 ≤ f.dst := by omega
                  have hdn : f.dst < (n : Int) + 1 := by omega
                  clear bx3
                  cases q
                  · have HE : Hid (CH w1 cb n (6 + 7000 * i + 10 * n + 13 * (k + 1)) (SO.rP pp T (k + 1)).1 (SO.rP pp T (k + 1)).2 ps sb (.slice (some ⟨sb, 0, none⟩) (n + 1) sc) [] X3) := by
                      have e : SO.rP pp T (k + 1) = ((SO.rP pp T k).1, r) := by
                        rw [HHR.out, if_neg (by rw [HQ.out]; decide)]
                      show CH _ _ _ _ _ _ _ _ _ _ _
                      rw [e]
                      exact ⟨nv2, Bs, ys', (CK3.out.sub (fun r h => List.mem_cons_of_mem _ h)).more (by omega)⟩
                    clear CK3 SN3 HHR HLN HGF HF0 HBF HKE HKN HG2 SKX HQ
                    go_wp2_with fail
                    go_roundw
                    case rel => exact ⟨k + 1, by omega, by go_num, HE.out⟩
                    case measure => simp [intOf]; omega
                  · have HC3 := CK3.out
                    have hln2 := HLN.out
                    have CH1 : Hid (Calls Try.prog 7 #[.pointer (some ⟨ps f.dst.toNat, 0, none⟩), .agg FL.toArray] (X3.drewN 1) fun e w' => ∃ a c, e = .returned (.slice a (SO.hear ((SO.rP pp T k).1 f.dst.toNat) f).2.length c) ∧ CF w1 cb n (6 + 7000 * i + 10 * n + 13 * k + 13) (SO.up (SO.rP pp T k).1 f.dst.toNat (SO.hear ((SO.rP pp T k).1 f.dst.toNat) f).1) r (SO.hear ((SO.rP pp T k).1 f.dst.toNat) f).2 ps sb (.slice (some ⟨sb, 0, none⟩) (n + 1) sc) nv2 ys' ((xb, .cells YL.toArray tSn (0, 0)) :: []) a w') := (HC3.drewN 1).hear (by omega) (by omega) (by omega) FL f y.ra y.rc HF0.out HGF.out hn6 (SN3.out.r.bl ((Bl.refl X3).drewN 1)) (fun g off e j => (SN3.out.x g off e).1.1 j)
                    have HF2 : Hid (∀ v9 Bs9 ys9 V, CK w1 cb n (6 + 7000 * i + 10 * n + 13 * k + 13) (SO.up (SO.rP pp T k).1 f.dst.toNat (SO.hear ((SO.rP pp T k).1 f.dst.toNat) f).1) (r ++ (SO.hear ((SO.rP pp T k).1 f.dst.toNat) f).2) ps sb (.slice (some ⟨sb, 0, none⟩) (n + 1) sc) v9 v9 Bs9 ys9 ((xb, .cells YL.toArray tSn (0, 0)) :: []) V → CH w1 cb n (6 + 7000 * i + 10 * n + 13 * (k + 1)) (SO.rP pp T (k + 1)).1 (SO.rP pp T (k + 1)).2 ps sb (.slice (some ⟨sb, 0, none⟩) (n + 1) sc) [] V) := fun v9 Bs9 ys9 V h => by
                      rw [HHR.out, if_pos HQ.out]
                      exact ⟨v9, Bs9, ys9, (h.sub (fun r h => List.mem_cons_of_mem _ h)).more (by omega)⟩
                    clear HHR HLN HGF HF0 SN3 CK3 HKE HKN HG2 HQ
                    generalize SO.hear ((SO.rP pp T k).1 f.dst.toNat) f = hh at *
                    generalize SO.up (SO.rP pp T k).1 f.dst.toNat hh.1 = ssn at *
                    have SKY : Hid (∀ a V, CF w1 cb n (6 + 7000 * i + 10 * n + 13 * k + 13) ssn r hh.2 ps sb (.slice (some ⟨sb, 0, none⟩) (n + 1) sc) nv2 ys' ((xb, .cells YL.toArray tSn (0, 0)) :: []) a V → CL cb sb n sc ps V ∧ BF xb f.dst f.frm (.slice y.ra f.rum.length y.rc) FL V) := fun a V h => by
                      obtain ⟨B9, y9, c9, _⟩ := h
                      exact ⟨c9.cl, HBF.out V xb (c9.be _ List.mem_cons_self).1⟩
                    have SC0 : Hid (∀ V, CK w1 cb n (6 + 7000 * i + 10 * n + 13 * k) (SO.rP pp T k).1 r ps sb (.slice (some ⟨sb, 0, none⟩) (n + 1) sc) nv2 nv2 Bs ys' ((xb, .cells YL.toArray tSn (0, 0)) :: []) V → V.cell? ⟨cb, 1, none⟩ = some nv2) := fun V h => h.c1
                    have SC1 : Hid (∀ a V, CF w1 cb n (6 + 7000 * i + 10 * n + 13 * k + 13) ssn r hh.2 ps sb (.slice (some ⟨sb, 0, none⟩) (n + 1) sc) nv2 ys' ((xb, .cells YL.toArray tSn (0, 0)) :: []) a V → V.cell? ⟨cb, 1, none⟩ = some nv2) := fun a V h => by
                      obtain ⟨B9, y9, c9, _⟩ := h
                      exact c9.c1
                    have SKZ : Hid (∀ M st net v r9 B9 y9 V, CK w1 cb n M st net ps sb (.slice (some ⟨sb, 0, none⟩) (n + 1) sc) v r9 B9 y9 ((xb, .cells YL.toArray tSn (0, 0)) :: []) V → CL cb sb n sc ps V ∧ BF xb f.dst f.frm (.slice y.ra f.rum.length y.rc) FL V) := fun M st net v r9 B9 y9 V h => ⟨h.cl, HBF.out V xb (h.be _ List.mem_cons_self).1⟩
                    go_wp2_with fail
                    refine wp_region_noPanic ?_
                    refine wp_region_held_drew (S := fun V => CL cb sb n sc ps V ∧ BF xb f.dst f.frm (.slice y.ra f.rum.length y.rc) FL V) (by kernel_rfl) ((by first | exact SKX.out _ (HC3.drewN 1) | exact SKY.out _ _ (HC3.drewN 1))) (fun hHeld => ?_)
                    refine wpAnyH_take (i := 0) rfl (by kernel_rfl) (by kernel_rfl) (by kernel_rfl) (fun _ _ _ h => h) (yi_move (by kernel_rfl) rfl rfl) (by assumption) ?_
                    simp only [Act.put, List.getElem_toArray, List.getElem_cons_succ, List.getElem_cons_zero, List.setIfInBounds_toArray, List.set_cons_zero, List.set_cons_succ]
                    refine wpAnyH_take (i := 1) rfl (by kernel_rfl) (by kernel_rfl) (by kernel_rfl) (fun _ _ _ h => h) (yi_move (by kernel_rfl) rfl rfl) (by assumption) ?_
                    simp only [Act.put, List.getElem_toArray, List.getElem_cons_succ, List.getElem_cons_zero, List.setIfInBounds_toArray, List.set_cons_zero, List.set_cons_succ]
                    refine wpAnyH_take (i := 2) (v := ?_) rfl (by kernel_rfl) (by kernel_rfl) (by kernel_rfl) (fun _ _ _ h => h) (Or.inl ⟨by kernel_rfl, ?_⟩) (by assumption) ?_
                    rotate_left
                    · (intro w hSw; (try dsimp only at hSw); go_simp; (try with_reducible rfl))
                    simp only [Act.put, List.getElem_toArray, List.getElem_cons_succ, List.getElem_cons_zero, List.setIfInBounds_toArray, List.set_cons_zero, List.set_cons_succ]
                    refine wpAnyH_take (i := 3) (v := ?_) rfl (by kernel_rfl) (by kernel_rfl) (by kernel_rfl) (fun _ _ _ h => h) (Or.inl ⟨by kernel_rfl, ?_⟩) (by assumption) ?_
                    rotate_left
                    · (intro w hSw; (try dsimp only at hSw); go_simp; (try with_reducible rfl))
                    simp only [Act.put, List.getElem_toArray, List.getElem_cons_succ, List.getElem_cons_zero, List.setIfInBounds_toArray, List.set_cons_zero, List.set_cons_succ]
                    refine wpAnyH_take (i := 5) rfl (by kernel_rfl) (by kernel_rfl) (by kernel_rfl) (fun _ _ _ h => h) (yi_move (by kernel_rfl) rfl rfl) (by assumption) ?_
                    simp only [Act.put, List.getElem_toArray, List.getElem_cons_succ, List.getElem_cons_zero, List.setIfInBounds_toArray, List.set_cons_zero, List.set_cons_succ]
                    refine wpAnyH_take (i := 6) (v := ?_) rfl (by kernel_rfl) (by kernel_rfl) (by kernel_rfl) (fun _ _ _ h => h) (Or.inl ⟨by kernel_rfl, ?_⟩) (by assumption) ?_
                    rotate_left
                    · (intro w hSw; (try dsimp only at hSw); go_simp; (try with_reducible rfl))
                    simp only [Act.put, List.getElem_toArray, List.getElem_cons_succ, List.getElem_cons_zero, List.setIfInBounds_toArray, List.set_cons_zero, List.set_cons_succ]
                    refine wpAnyH_take (i := 7) (v := ?_) rfl (by kernel_rfl) (by kernel_rfl) (by kernel_rfl) (fun _ _ _ h => h) (Or.inl ⟨by kernel_rfl, ?_⟩) (by assumption) ?_
                    rotate_left
                    · (intro w hSw; (try dsimp only at hSw); go_simp; (try with_reducible rfl))
                    simp only [Act.put, List.getElem_toArray, List.getElem_cons_succ, List.getElem_cons_zero, List.setIfInBounds_toArray, List.set_cons_zero, List.set_cons_succ]
                    refine wpAnyH_take (i := 8) (v := ?_) rfl (by kernel_rfl) (by kernel_rfl) (by kernel_rfl) (fun _ _ _ h => h) (Or.inl ⟨by kernel_rfl, ?_⟩) (by assumption) ?_
                    rotate_left
                    · (intro w hSw; have z1 := hSw.1.c0; go_simp; (try with_reducible rfl))
                    simp only [Act.put, List.getElem_toArray, List.getElem_cons_succ, List.getElem_cons_zero, List.setIfInBounds_toArray, List.set_cons_zero, List.set_cons_succ]
                    refine wpAnyH_take (i := 9) (v := ?_) rfl (by kernel_rfl) (by kernel_rfl) (by kernel_rfl) (fun _ _ _ h => h) (Or.inl ⟨by kernel_rfl, ?_⟩) (by assumption) ?_
                    rotate_left
                    · (intro w hSw; (try dsimp only at hSw); go_simp; (try with_reducible rfl))
                    simp only [Act.put, List.getElem_toArray, List.getElem_cons_succ, List.getElem_cons_zero, List.setIfInBounds_toArray, List.set_cons_zero, List.set_cons_succ]
                    refine wpAnyH_take (i := 10) (v := ?_) rfl (by kernel_rfl) (by kernel_rfl) (by kernel_rfl) (fun _ _ _ h => h) (Or.inl ⟨by kernel_rfl, ?_⟩) (by assumption) ?_
                    rotate_left
                    · (intro w hSw; have z1 := hSw.2.k0; go_simp; (try with_reducible rfl))
                    simp only [Act.put, List.getElem_toArray, List.getElem_cons_succ, List.getElem_cons_zero, List.setIfInBounds_toArray, List.set_cons_zero, List.set_cons_succ]
                    refine wpAnyH_take (i := 11) (v := ?_) rfl (by kernel_rfl) (by kernel_rfl) (by kernel_rfl) (fun _ _ _ h => h) (Or.inl ⟨by kernel_rfl, ?_⟩) (by assumption) ?_
                    rotate_left
                    · (intro w hSw; (try dsimp only at hSw); go_simp; (try with_reducible rfl))
                    simp only [Act.put, List.getElem_toArray, List.getElem_cons_succ, List.getElem_cons_zero, List.setIfInBounds_toArray, List.set_cons_zero, List.set_cons_succ]
                    refine wpAnyH_take (i := 12) (v := ?_) rfl (by kernel_rfl) (by kernel_rfl) (by kernel_rfl) (fun _ _ _ h => h) (Or.inl ⟨by kernel_rfl, ?_⟩) (by assumption) ?_
                    rotate_left
                    · (intro w hSw; have z1 := hSw.1.p f.dst.toNat (by omega) (by omega); go_simp; (try with_reducible rfl))
                    simp only [Act.put, List.getElem_toArray, List.getElem_cons_succ, List.getElem_cons_zero, List.setIfInBounds_toArray, List.set_cons_zero, List.set_cons_succ]
                    refine wpAnyH_take (i := 13) (v := ?_) rfl (by kernel_rfl) (by kernel_rfl) (by kernel_rfl) (fun _ _ _ h => h) (Or.inl ⟨by kernel_rfl, ?_⟩) (by assumption) ?_
                    rotate_left
                    · (intro w hSw; (try dsimp only at hSw); go_simp; (try with_reducible rfl))
                    simp only [Act.put, List.getElem_toArray, List.getElem_cons_succ, List.getElem_cons_zero, List.setIfInBounds_toArray, List.set_cons_zero, List.set_cons_succ]
                    refine wpAnyH_take (i := 14) (v := .agg (List.toArray FL)) rfl (by kernel_rfl) (by kernel_rfl) (by kernel_rfl) (fun _ _ _ h => h) (yieldsIf_load_mid (by kernel_rfl) _ (.tmp 119) (by kernel_rfl) xb 1 (by kernel_rfl) FL _ (fun W hW => hW.2.rg) humF rfl hiF) (by assumption) ?_
                    simp only [Act.put, List.getElem_toArray, List.getElem_cons_succ, List.getElem_cons_zero, List.setIfInBounds_toArray, List.set_cons_zero, List.set_cons_succ]
                    refine wpAnyH_ready (rs := [4, 15]) (by kernel_rfl) (by simp) ?_
                    refine AllReadyH.cons (o := _) rfl (fun K hK => ?_) ?_
                    · refine stepo_load1 rfl 28 _ rfl cb 1 (by rfl) nv2 (by first | exact (SC0.out _ (HC3.drewN 1)) | exact (SC1.out _ _ (HC3.drewN 1))) undSs (hK.out _ _ ((by first | exact SKX.out _ (HC3.drewN 1) | exact SKY.out _ _ (HC3.drewN 1))) (fun hHeld => ?_))
                      clear hK K
                      (try simp only [Act.put, List.getElem_toArray, List.getElem_cons_succ, List.getElem_cons_zero, List.setIfInBounds_toArray, List.set_cons_zero, List.set_cons_succ])
                      refine wpAnyH_ready (rs := [15]) (by kernel_rfl) (by simp) ?_
                      refine AllReadyH.cons (o := _) rfl (fun K hK => ?_) AllReadyH.nil
                      go_simp
                      go_at_call 7; refine (CH1.out).mono ?_; rintro e V16 ⟨a9, c9, rfl, HB16⟩
                      refine hK.out _ _ ((by first | exact SKX.out _ HB16 | exact SKY.out _ _ HB16)) (fun hHeld => ?_)
                      clear hK K
                      (try simp only [Act.put, List.getElem_toArray, List.getElem_cons_succ, List.getElem_cons_zero, List.setIfInBounds_toArray, List.set_cons_zero, List.set_cons_succ])
                      refine wpAnyH_ready (rs := [16]) (by kernel_rfl) (by simp) ?_
                      refine AllReadyH.cons (o := _) rfl (fun K hK => ?_) AllReadyH.nil
                      obtain ⟨Bs9, ys9, ck9, fr9⟩ := HB16
                      refine stepo_appQ lyS tSn 28 (.agg z) 408 undSs hz1 hz2 (by omega) rfl _ _ rfl nv2 ys' (by rfl) ck9.q a9 ys9 _ _ fr9.len.symm (by rfl) fr9.rs (by have h8 := ck9.len; have h9 := fr9.len; omega) ?_
                      intro v9 w9 q1 q2 q3
                      have HZ := ck9.app fr9 q1 q2 q3
                      refine hK.out _ _ (SKZ.out _ _ _ _ _ _ _ _ HZ) (fun hHeld => ?_)
                      clear hK K
                      (try simp only [Act.put, List.getElem_toArray, List.getElem_cons_succ, List.getElem_cons_zero, List.setIfInBounds_toArray, List.set_cons_zero, List.set_cons_succ])
                      refine wpAnyH_take (i := 17) (v := ?_) rfl (by kernel_rfl) (by kernel_rfl) (by kernel_rfl) (fun _ _ _ h => h) (Or.inl ⟨by kernel_rfl, ?_⟩) (by assumption) ?_
                      rotate_left
                      · (intro w hSw; (try dsimp only at hSw); go_simp; (try with_reducible rfl))
                      simp only [Act.put, List.getElem_toArray, List.getElem_cons_succ, List.getElem_cons_zero, List.setIfInBounds_toArray, List.set_cons_zero, List.set_cons_succ]
                      refine wpAnyH_take (i := 18) (v := ?_) rfl (by kernel_rfl) (by kernel_rfl) (by kernel_rfl) (fun _ _ _ h => h) (Or.inl ⟨by kernel_rfl, ?_⟩) (by assumption) ?_
                      rotate_left
                      · (intro w hSw; (try dsimp only at hSw); go_simp; (try with_reducible rfl))
                      simp only [Act.put, List.getElem_toArray, List.getElem_cons_succ, List.getElem_cons_zero, List.setIfInBounds_toArray, List.set_cons_zero, List.set_cons_succ]
                      refine wpAnyH_ready (rs := [19]) (by kernel_rfl) (by simp) ?_
                      refine AllReadyH.cons (o := _) rfl (fun K hK => ?_) AllReadyH.nil
                      refine stepo_setU rfl 28 _ _ rfl cb 1 v9 (by rfl) (by rfl) (by obtain ⟨a8, c8, e8⟩ := HZ.q.len; rw [e8]; rfl) infoSs [.slice (some ⟨sb, 0, none⟩) (n + 1) sc, nv2] [.slice (some ⟨sb, 0, none⟩) (n + 1) sc, v9] tCp HZ.row (by simp) rfl ?_
                      intro U3 R3 O3
                      have HZ3 := HZ.store O3 R3
                      refine hK.out _ _ (SKZ.out _ _ _ _ _ _ _ _ HZ3) (fun hHeld => ?_)
                      clear hK K
                      (try simp only [Act.put, List.getElem_toArray, List.getElem_cons_succ, List.getElem_cons_zero, List.setIfInBounds_toArray, List.set_cons_zero, List.set_cons_succ])
                      refine wpAnyH_done (by kernel_rfl) ?_ _
                      refine NoPanic.normal ?_
                      have HE := hidI (HF2.out _ _ _ _ HZ3)
                      clear HZ HZ3 O3 R3 q1 q2 q3 ck9 fr9 hHeld
                      go_wp2_with fail
                      go_roundw
                      case rel => exact ⟨k + 1, by omega, by go_num, HE.out⟩
                      case measure => simp [intOf]; omega
                    refine AllReadyH.cons (o := _) rfl (fun K hK => ?_) ?_
                    · go_simp
                      go_at_call 7; refine (CH1.out).mono ?_; rintro e V20 ⟨a9, c9, rfl, HB20⟩
                      refine hK.out _ _ ((by first | exact SKX.out _ HB20 | exact SKY.out _ _ HB20)) (fun hHeld => ?_)
                      clear hK K
                      (try simp only [Act.put, List.getElem_toArray, List.getElem_cons_succ, List.getElem_cons_zero, List.setIfInBounds_toArray, List.set_cons_zero, List.set_cons_succ])
                      refine wpAnyH_ready (rs := [4]) (by kernel_rfl) (by simp) ?_
                      refine AllReadyH.cons (o := _) rfl (fun K hK => ?_) AllReadyH.nil
                      refine stepo_load1 rfl 28 _ rfl cb 1 (by rfl) nv2 (by first | exact (SC0.out _ HB20) | exact (SC1.out _ _ HB20)) undSs (hK.out _ _ ((by first | exact SKX.out _ HB20 | exact SKY.out _ _ HB20)) (fun hHeld => ?_))
                      clear hK K
                      (try simp only [Act.put, List.getElem_toArray, List.getElem_cons_succ, List.getElem_cons_zero, List.setIfInBounds_toArray, List.set_cons_zero, List.set_cons_succ])
                      refine wpAnyH_ready (rs := [16]) (by kernel_rfl) (by simp) ?_
                      refine AllReadyH.cons (o := _) rfl (fun K hK => ?_) AllReadyH.nil
                      obtain ⟨Bs9, ys9, ck9, fr9⟩ := HB20
                      refine stepo_appQ lyS tSn 28 (.agg z) 408 undSs hz1 hz2 (by omega) rfl _ _ rfl nv2 ys' (by rfl) ck9.q a9 ys9 _ _ fr9.len.symm (by rfl) fr9.rs (by have h8 := ck9.len; have h9 := fr9.len; omega) ?_
                      intro v9 w9 q1 q2 q3
                      have HZ := ck9.app fr9 q1 q2 q3
                      refine hK.out _ _ (SKZ.out _ _ _ _ _ _ _ _ HZ) (fun hHeld => ?_)
                      clear hK K
                      (try simp only [Act.put, List.getElem_toArray, List.getElem_cons_succ, List.getElem_cons_zero, List.setIfInBounds_toArray, List.set_cons_zero, List.set_cons_succ])
                      refine wpAnyH_take (i := 17) (v := ?_) rfl (by kernel_rfl) (by kernel_rfl) (by kernel_rfl) (fun _ _ _ h => h) (Or.inl ⟨by kernel_rfl, ?_⟩) (by assumption) ?_
                      rotate_left
                      · (intro w hSw; (try dsimp only at hSw); go_simp; (try with_reducible rfl))
                      simp only [Act.put, List.getElem_toArray, List.getElem_cons_succ, List.getElem_cons_zero, List.setIfInBounds_toArray, List.set_cons_zero, List.set_cons_succ]
                      refine wpAnyH_take (i := 18) (v := ?_) rfl (by kernel_rfl) (by kernel_rfl) (by kernel_rfl) (fun _ _ _ h => h) (Or.inl ⟨by kernel_rfl, ?_⟩) (by assumption) ?_
                      rotate_left
                      · (intro w hSw; (try dsimp only at hSw); go_simp; (try with_reducible rfl))
                      simp only [Act.put, List.getElem_toArray, List.getElem_cons_succ, List.getElem_cons_zero, List.setIfInBounds_toArray, List.set_cons_zero, List.set_cons_succ]
                      refine wpAnyH_ready (rs := [19]) (by kernel_rfl) (by simp) ?_
                      refine AllReadyH.cons (o := _) rfl (fun K hK => ?_) AllReadyH.nil
                      refine stepo_setU rfl 28 _ _ rfl cb 1 v9 (by rfl) (by rfl) (by obtain ⟨a8, c8, e8⟩ := HZ.q.len; rw [e8]; rfl) infoSs [.slice (some ⟨sb, 0, none⟩) (n + 1) sc, nv2] [.slice (some ⟨sb, 0, none⟩) (n + 1) sc, v9] tCp HZ.row (by simp) rfl ?_
                      intro U3 R3 O3
                      have HZ3 := HZ.store O3 R3
                      refine hK.out _ _ (SKZ.out _ _ _ _ _ _ _ _ HZ3) (fun hHeld => ?_)
                      clear hK K
                      (try simp only [Act.put, List.getElem_toArray, List.getElem_cons_succ, List.getElem_cons_zero, List.setIfInBounds_toArray, List.set_cons_zero, List.set_cons_succ])
                      refine wpAnyH_done (by kernel_rfl) ?_ _
                      refine NoPanic.normal ?_
                      have HE := hidI (HF2.out _ _ _ _ HZ3)
                      clear HZ HZ3 O3 R3 q1 q2 q3 ck9 fr9 hHeld
                      go_wp2_with fail
                      go_roundw
                      case rel => exact ⟨k + 1, by omega, by go_num, HE.out⟩
                      case measure => simp [intOf]; omega
                    exact AllReadyH.nil
              · have ekk : K = k := by omega
                subst ekk
                have hnet := HKE.out
                rw [hnet] at HX
                obtain ⟨a7, c7, e7⟩ := HX.q.len
                have hy0 : ys.length = 0 := by rw [HX.len]; rfl
                rw [hy0] at e7
                have kc1 := HX.c1
                rw [e7] at kc1
                have HE : Hid (CH w1 cb n (6 + 7000 * (i + 1)) ss' [] ps sb (.slice (some ⟨sb, 0, none⟩) (n + 1) sc) [] wr) := ⟨nv, Bs, ys, HX.more (by omega)⟩
                clear HX e7 hnet HKE HKN HG2 HPP KG hEND
                by_cases hk5 : (K : Int) < 500
                · go_wp2_with fail
                  go_roundw
                  case rel => exact ⟨i + 1, ss', by omega, by go_num, HE.out, HJ2h.out⟩
                  case measure => simp [intOf]; omega
                · go_wp2_with fail
                  go_roundw
                  case rel => exact ⟨i + 1, ss', by omega, by go_num, HE.out, HJ2h.out⟩
                  case measure => simp [intOf]; omega
    · obtain rfl : i = 520 := by omega
      rw [show ((520 : Nat) : Int) = 520 from rfl]
      have HTL : Hid (∀ i, 1 ≤ i → i ≤ n → ∀ m ∈ K.all (ss i).f, ∃ (j : Nat) (inc : Int), 1 ≤ j ∧ j ≤ n ∧ m = ((j : Int), inc, 0) ∧ 0 ≤ inc ∧ inc ≤ 1) := fun i i1 i2 m hm => HJh.out.told i1 i2 hm
      have hpl : (K.pres (ss 1).f).length = n := HJh.out.pres hn6 (by omega) (by omega)
      have HAL : Hid (∀ U i, Bl wr U → 1 ≤ i → i ≤ n → Calls Try.prog 8 #[.pointer (some ⟨ps i, 0, none⟩)] U fun e w' => ∃ a c, e = .returned (.slice a (K.all (ss i).f).length c) ∧ RS lyM w' a (K.all (ss i).f) ∧ Bl U w') := fun U i hU i1 i2 => (CH.grow HZh.out hU).all i1 i2
      have CPR : Hid (∀ U, Bl wr U → Calls Try.prog 9 #[.pointer (some ⟨ps 1, 0, none⟩)] U fun e w' => ∃ a c, e = .returned (.slice a n c) ∧ Bl U w') := fun U hU => by
        have := (CH.grow HZh.out hU).pres (i := 1) (by omega) (by omega)
        rw [hpl] at this
        exact this
      have HCL : Hid (∀ U, Bl wr U → CL cb sb n sc ps U) := fun U hU => CH.cl (CH.grow HZh.out hU)
      have HEN : Hid (∀ U, Bl wr U → Bl w U) := fun U hU => (hEND.out wr HZh.out.bl).step hU
      clear HZh HJh hi2 hi KG hDR hEND hpl
      generalize hwz : wr = wz at *
      clear hwz
      have hB0 := Bl.refl wz
      go_wp2_with fail
      go_loopw [13, 14, 15] (fun u13 _ _ wr => ∃ i : Nat, i ≤ n ∧ u13 = .int .i64 ((i : Int) + 1) ∧ Bl wz wr) (fun u13 _ _ _ => n + 1 - (intOf u13).toNat)
      case atStart => exact ⟨0, by omega, rfl, hB0⟩
      case round =>
        clear hB0
        obtain ⟨i, hi, rfl, HB⟩ := hrel
        have HBh : Hid (Bl wz wr) := HB
        clear HB
        by_cases hij : i < n
        · have hi1 : (i : Int) + 1 ≤ (n : Int) := by omega
          have htn : ((i : Int) + 1).toNat = i + 1 := by omega
          have hi0 : 0 ≤ (i : Int) + 1 := by omega
          have hin : (i : Int) + 1 < (n : Int) + 1 := by omega
          have kc0 := (HCL.out wr HBh.out).c0
          have kp := (HCL.out wr HBh.out).p (i + 1) (by omega) (by omega)
          have CAL := hidI (HAL.out wr (i + 1) HBh.out (by omega) (by omega))
          have HT := hidI (HTL.out (i + 1) (by omega) (by omega))
          have hL6 := SO.all_len6 (ss (i + 1)).f
          generalize K.all (ss (i + 1)).f = L at *
          go_upto_region 26 with (first
            | go_skip
            | (go_at_call 8; refine (CAL.out).mono ?_; clear CAL kc0 kp; rintro e w6 ⟨a6, c6, rfl, hr6, hb6⟩))
          have HB6 : Hid (Bl wz w6) := HBh.out.step hb6
          have HR6 : Hid (RS lyM w6 a6 L) := hr6
          clear hr6 hb6 htn hi0 hin
          have hB0 := Bl.refl w6
          go_wp2_with fail
          go_loopw [15] (fun u15 wr => ∃ kk : Nat, kk ≤ L.length ∧ u15 = .int .i64 (kk : Int) ∧ Bl w6 wr) (fun u15 _ => L.length - (intOf u15).toNat)
          case atStart => exact ⟨0, by omega, rfl, hB0⟩
          case round =>
            clear hB0
            obtain ⟨kk, hkk, rfl, hBx⟩ := hrel
            have HBx : Hid (Bl w6 wr) := hBx
            clear hBx
            by_cases hkl : kk < L.length
            · obtain ⟨m, hm⟩ : ∃ m, L[kk]? = some m := ⟨L[kk], List.getElem?_eq_getElem hkl⟩
              obtain ⟨jn, inc, j1, j2, hme, _⟩ := HT.out m (List.mem_of_getElem? hm)
              obtain ⟨b2, o2, hae, hb2, hrg⟩ := HR6.out kk m hm
              have hc2 := hrg 2 _ rfl
              rw [hme] at hc2
              rw [show lyM.k = 3 from rfl] at hc2
              rw [← HBx.out.cell hb2] at hc2
              have hkl' : (kk : Int) < (L.length : Int) := by omega
              clear hm hrg hme HT HTL HAL CPR HCL
              subst hae
              go_wp2_with go_skip
              go_roundw
              case rel => exact ⟨kk + 1, by omega, by go_num, HBx.out⟩
              case measure => simp [intOf] <;> omega
            · obtain rfl : kk = L.length := by omega
              have HB9 : Hid (Bl wz wr) := HB6.out.step HBx.out
              clear HBx hkl hkk
              go_wp2_with fail
              go_roundw
              case rel => exact ⟨i + 1, by omega, by go_num, HB9.out⟩
              case measure => simp [intOf] <;> omega
        · obtain rfl : i = n := by omega
          have kc0 := (HCL.out wr HBh.out).c0
          have kp := (HCL.out wr HBh.out).p 1 (by omega) (by omega)
          have CPX := hidI (CPR.out wr HBh.out)
          have hn1' : (1 : Int) < (i : Int) + 1 := by omega
          clear HCL HAL HTL CPR
          go_wp2_with (first
            | go_skip
            | (go_at_call 9; refine (CPX.out).mono ?_; clear CPX kc0 kp; rintro e w6 ⟨a6, c6, rfl, hb6⟩))
          go_ret
          exact ⟨by simp, HEN.out _ (HBh.out.step hb6)⟩
end Go.Proofs.Ytebmgajijjhinaa
