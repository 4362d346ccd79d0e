/- The walk of the law HumFresh. -/
import Derived.Test.YtpgagddofifikaaHuA
import Derived.Deep.CutBlock
import Derived.Deep.DeepCutAuto
namespace Go.Proofs.Ytpgagddofifikaa
open Go.RowKit Go.Maps
set_option linter.unusedVariables false
set_option linter.unusedSimpArgs false

/-- who is told was told least -/
theorem fresh_le {F : HU.St} {T : Int} (ok : HU.Ok F T) {k : Nat} {r s : HU.Ru} (hr : r ∈ HU.lf F) (hs : s ∈ HU.lf F) (h1 : r.1 ∈ HU.told F k) (h2 : s.1 ∉ HU.told F k) : s.2 ≤ r.2 := by
  have rp := HU.rep_tl ok
  unfold HU.told at h1 h2
  obtain ⟨r', hr', e⟩ := List.mem_map.1 h1
  have hr2 : r' = r := rp.same (List.mem_of_mem_take hr') ((HU.mem_tl F r).2 hr) (by rw [e])
  subst hr2
  have hs2 := (HU.mem_tl F s).2 hs
  have hsp := List.take_append_drop k (HU.tl F)
  rw [← hsp, List.mem_append] at hs2
  rcases hs2 with h | h
  · exact absurd (List.mem_map_of_mem h) h2
  · have hp := HU.tl_sorted F
    rw [← hsp, List.pairwise_append] at hp
    have := hp.2.2 r' hr' s h
    rw [HU.leT_iff] at this
    omega
def anyM (l : List K.Me) (j : Nat) (x : K.Me) : Bool := (l.take j).any (fun m => decide (m = x))
theorem anyM_zero (l : List K.Me) (x : K.Me) : anyM l 0 x = false := rfl
theorem anyM_succ {l : List K.Me} {j : Nat} {m : K.Me} (h : l[j]? = some m) (x : K.Me) : anyM l (j + 1) x = (anyM l j x || decide (m = x)) := by
  unfold anyM; rw [List.take_add_one, h]; simp
theorem anyM_all (l : List K.Me) (x : K.Me) : anyM l l.length x = decide (x ∈ l) := by
  unfold anyM
  rw [List.take_length, Bool.eq_iff_iff, List.any_eq_true, decide_eq_true_eq]
  exact ⟨fun ⟨m, h1, h2⟩ => by rw [← of_decide_eq_true h2]; exact h1, fun h => ⟨x, h, by simp⟩⟩
/-- the least of those that are told -/
def Lb (F : HU.St) (k : Nat) (q : Int) : Prop := q ≤ 1048576 ∧ 0 ≤ q ∧ ∀ B, B ≤ 1048576 → (∀ r ∈ HU.lf F, r.1 ∈ HU.told F k → B ≤ r.2) → B ≤ q
theorem Lb.start (F : HU.St) (k : Nat) : Lb F k 1048576 := ⟨by omega, by omega, fun B h _ => h⟩
theorem Lb.step {F : HU.St} {k : Nat} {q : Int} (h : Lb F k q) {r : HU.Ru} (hr : r ∈ HU.lf F) (h1 : r.1 ∈ HU.told F k) (h0 : 0 ≤ r.2) : Lb F k (min q r.2) := ⟨by have := h.1; omega, by have := h.2.1; omega, fun B hB ha => by have := h.2.2 B hB ha; have := ha r hr h1; omega⟩
/-- what is there in the middle of a round -/
structure FRs (w : World) (b : Nat) (T : Int) (F F' : HU.St) (k : Nat) (a8 a9 : Option Addr) (W : World) : Prop where
  h : HA w b T F' [(a9, HU.told F k)] W
  r : RS lyR W a8 (HU.lf F)
theorem FRs.grow {w W W' : World} {b : Nat} {T : Int} {F F' : HU.St} {k : Nat} {a8 a9 : Option Addr} (x : FRs w b T F F' k a8 a9 W) (hb : Bl W W') : FRs w b T F F' k a8 a9 W' := ⟨x.h.grow hb, x.r.bl hb⟩
/-- Left, then Take -/
theorem HA.leftTake {w W0 W : World} {b : Nat} {T : Int} {F : HU.St} (h0 : HA w b T F [] W0) (hb0 : Bl W0 W) {a8 : Option Addr} (hr : RS lyR W a8 (HU.lf F)) (hq : ∀ q off, a8 = some ⟨q, off, none⟩ → W0.heap.size ≤ q) (most : Int) :
    Calls Try.prog 12 #[.pointer (some ⟨b, 0, none⟩), .int .i64 most] W fun e w' => ∃ a c, e = .returned (.slice a (HU.told F (HU.cnt F most)).length c) ∧ FRs w b T F (HU.took F (HU.cnt F most)) (HU.cnt F most) a8 a w' ∧ ∀ k, W0.heap.size ≤ k → k < W.heap.size → w'.heap[k]? = W.heap[k]? := by
  obtain ⟨v0, x0, _⟩ := h0.ex
  have x1 := x0.grow hb0
  refine (Take_x x1 most).mono ?_
  rintro e w' ⟨v', a, c, rfl, r1, r2, r3, r5, r4⟩
  refine ⟨a, c, rfl, ⟨⟨v', r2, fun p hp => ?_⟩, hr.ov r3 (fun q off e => ?_)⟩, fun k h1 h2 => r3.block k h2 (by have := x0.lt; omega) (fun e2 => by have := (x0.ge e2.symm).2; omega)⟩
  · simp at hp; subst hp
    refine ⟨r1, fun _ => ⟨fun q off e => ?_, fun q off e => (r4 q off e).2⟩⟩
    have hq := r4 q off e
    refine ⟨by have := x1.lt; omega, fun e2 => ?_⟩
    rw [r5] at e2
    have := (x1.ge e2.symm).2; omega
  · have := hq q off e
    exact ⟨by have := x0.lt; omega, fun e2 => by have := (x0.ge e2.symm).2; omega⟩
theorem told_len (F : HU.St) (n : Int) : (HU.told F (HU.cnt F n)).length = HU.cnt F n := by
  have := HU.cnt_le F n
  unfold HU.told
  rw [List.length_map, List.length_take]; omega
/-- what Left and Take answer, one behind the other -/
theorem HA.both {w wr : World} {b : Nat} {T : Int} {F : HU.St} (h : HA w b T F [] wr) (C : Array Value) (ty : TypeId) (n : Int) :
    Calls Try.prog 15 #[.pointer (some ⟨b, 0, none⟩)] (wr.alloc (.cells C ty)) fun e w' => ∃ a8 c8, e = .returned (.slice a8 (HU.lf F).length c8) ∧ w'.heap[wr.heap.size]? = some (.cells C ty (0, 0)) ∧ Hid (Calls Try.prog 12 #[.pointer (some ⟨b, 0, none⟩), .int .i64 n] w' fun e w'' => ∃ a c, e = .returned (.slice a (HU.cnt F n) c) ∧ FRs w b T F (HU.took F (HU.cnt F n)) (HU.cnt F n) a8 a w'' ∧ w''.heap[wr.heap.size]? = some (.cells C ty (0, 0))) := by
  have h1 := h.grow ((Bl.refl wr).alloc (.cells C ty))
  refine h1.left.mono ?_
  rintro e w' ⟨a, c, rfl, r1, r2, r3, r4⟩
  refine ⟨a, c, rfl, r3.box, ?_⟩
  refine (h.leftTake (Bl.up r3) r1 (fun q off e => by have := (r4 q off e).1; rw [size_alloc1] at this; omega) n).mono ?_
  rintro e w'' ⟨a9, c9, rfl, q1, q2⟩
  refine ⟨a9, c9, by rw [told_len], q1, ?_⟩
  rw [q2 wr.heap.size (Nat.le_refl _) (lt_heap r3.box)]; exact r3.box
set_option maxRecDepth 8000 in
set_option maxHeartbeats 16000000 in
theorem humFresh_walk (t : Int) (As : List Ac11) (a : Option Addr) (c : Nat) (w : World) (hA : RS lyA w a As) (hok : ∀ x ∈ As, ac11Ok w x) (hn : As.length ≤ maxLen) :
    Calls Try.prog 5 #[.int .i64 t, .slice a As.length c] w fun e w' => e = .returned (.bool true) ∧ Bl w w' := by
  unfold maxLen at hn
  have HRA : Hid (RS lyA w a As) := hA
  have HOK : Hid (∀ x ∈ As, ac11Ok w x) := hok
  have C0 : Hid (Calls Try.prog 6 #[] w fun e w' => e = .returned (.bool true) ∧ Bl w w') := awake_11 w
  have C1 : Hid (∀ W, Calls Try.prog 7 #[.int .i64 t] W fun e w' => ∃ b, e = .returned (.pointer (some ⟨b, 0, none⟩)) ∧ HA W b (tms t) HU.e0 [] w') := fun W => (New_h t W).mono fun e w' ⟨b, h1, h2, h3⟩ => ⟨b, h1, HA.new h2 h3⟩
  have CN1 : Hid (∀ u W, Calls Try.prog 9 #[.pointer none, u] W fun e w' => e = .returned (.tuple #[]) ∧ w' = W) := Push_nil
  have CN2 : Hid (∀ W, Calls Try.prog 12 #[.pointer none, .int .i64 3] W fun e w' => e = .returned (.slice none 0 0) ∧ w' = W) := Take_nil 3
  have CN3 : Hid (∀ W, Calls Try.prog 15 #[.pointer none] W fun e w' => e = .returned (.slice none 0 0) ∧ w' = W) := Left_nil
  obtain ⟨fs, hum⟩ := undAc
  have HT2 : Hid (tms t ≤ 100) := (tms_1 t).2
  generalize tms t = T at *
  clear hA hok
  go_enter Try.func5, Try.ntmps5
  go_wp2_with (first
    | (go_at_call 6; refine (C0.out).mono ?_; clear C0; rintro e w1 ⟨rfl, hb1⟩)
    | (go_at_call 7; refine (C1.out _).mono ?_; clear C1; rintro e w2 ⟨b, rfl, H2⟩))
  have HB1 : Hid (Bl w w1) := hb1
  have HH2 := hidP H2
  clear hb1 H2
  go_loopw [6, 7, 8, 9, 10, 11, 12, 13, 14, 15, 16] (fun u6 _ _ _ _ _ _ _ _ _ _ wr => ∃ (k : Nat) (F : HU.St), k ≤ As.length ∧ k ≤ 100 ∧ u6 = .int .i64 k ∧ HA w1 b T F [] wr) (fun u6 _ _ _ _ _ _ _ _ _ _ _ => As.length - (intOf u6).toNat)
  case atStart => exact ⟨0, HU.e0, Nat.zero_le _, by omega, rfl, HH2.out⟩
  case round =>
    obtain ⟨k, F, hk, hk100, rfl, hx⟩ := hrel
    clear HH2
    have HX := hidP hx
    clear hx
    have hend : ¬ (k < As.length ∧ k < 100) ∨ (k < As.length ∧ k < 100) := by omega
    rcases hend with hend | ⟨hlt, hl100⟩
    · have HBE : Hid (∀ o, Bl w (wr.alloc o)) := fun o => (HB1.out.step HX.out.bl).alloc o
      clear HX HRA HOK
      by_cases h1 : k < As.length
      · obtain rfl : k = 100 := by omega
        go_wp2_with (first
          | go_skip
          | (go_at_call 9; refine (CN1.out _ _).mono ?_; clear CN1; rintro e w' ⟨rfl, hw⟩; rw [hw]; clear hw w')
          | (go_at_call 12; refine (CN2.out _).mono ?_; clear CN2; rintro e w' ⟨rfl, hw⟩; rw [hw]; clear hw w')
          | (go_at_call 15; refine (CN3.out _).mono ?_; clear CN3; rintro e w' ⟨rfl, hw⟩; rw [hw]; clear hw w'))
        go_ret
        exact ⟨rfl, HBE.out _⟩
      · have h1d : decide ((k : Int) < (As.length : Int)) = false := decide_eq_false (by omega)
        go_wp2_with (first
          | go_skip
          | (go_at_call 9; refine (CN1.out _ _).mono ?_; clear CN1; rintro e w' ⟨rfl, hw⟩; rw [hw]; clear hw w')
          | (go_at_call 12; refine (CN2.out _).mono ?_; clear CN2; rintro e w' ⟨rfl, hw⟩; rw [hw]; clear hw w')
          | (go_at_call 15; refine (CN3.out _).mono ?_; clear CN3; rintro e w' ⟨rfl, hw⟩; rw [hw]; clear hw w'))
        go_ret
        exact ⟨rfl, HBE.out _⟩
    · obtain ⟨⟨kd, ⟨xa, xc, ms⟩, nn⟩, hx0⟩ : ∃ x, As[k]? = some x := ⟨As[k], List.getElem?_eq_getElem hlt⟩
      obtain ⟨hms, hml, hn1, hn2⟩ := HOK.out _ (List.mem_of_getElem? hx0)
      simp only at hms hml hn1 hn2
      unfold maxLen at hml
      have hblw : Bl w wr := HB1.out.step HX.out.bl
      obtain ⟨ab, ao, ha, hab, hrg0⟩ := HRA.out.bl hblw k _ hx0
      have HR : Hid (wr.rangeAt ab (ao + k * 3) [.int .i64 kd, .slice xa ms.length xc, .int .i64 nn]) := hrg0
      have HMS : Hid (RS lyM w1 xa ms) := hms.bl HB1.out
      have hkl : (k : Int) < (As.length : Int) := by omega
      have hk1 : (k : Int) < 100 := by omega
      have HXA : Hid (∀ o, HA w1 b T F [] (wr.alloc o)) := fun o => HX.out.grow ((Bl.refl wr).alloc o)
      have HXC : Hid (HA w1 b T F [] wr) := HX.out
      clear hx0 hms hrg0 HRA HOK CN1 CN2 CN3 hab hblw HX
      subst ha
      by_cases h40 : ms.length > 40
      · have h40i : (ms.length : Int) > 40 := by omega
        have HBE : Hid (∀ o, Bl w (wr.alloc o)) := fun o => HB1.out.step (HXA.out o).bl
        clear HXA HMS
        go_wp2_with (first
          | go_skip
          | (refine wpList_load_mid rfl 30 _ rfl ab (ao + k * 3) rfl [.int .i64 kd, .slice xa ms.length xc, .int .i64 nn] _ HR.out hum rfl infoAc ?_; clear HR))
        go_ret
        exact ⟨rfl, HBE.out _⟩
      · have h40i : ¬ ((ms.length : Int) > 40) := by omega
        by_cases hkd : kd = 1
        · have CP : Hid (∀ o, Calls Try.prog 9 #[.pointer (some ⟨b, 0, none⟩), .slice xa ms.length xc] (wr.alloc o) fun e w' => e = .returned (.tuple #[]) ∧ HA w1 b T (HU.push T F ms) [] w') := fun o => (HA.push ((HXA.out o).old HMS.out) (List.mem_cons_self ..) xc (by omega)).mono fun e w' ⟨h1, h2⟩ => ⟨h1, h2.sub (fun p hp => by simp at hp)⟩
          clear HXA HMS
          subst hkd
          go_wp2_with (first
            | go_skip
            | (refine wpList_load_mid rfl 30 _ rfl ab (ao + k * 3) rfl [.int .i64 1, .slice xa ms.length xc, .int .i64 nn] _ HR.out hum rfl infoAc ?_; clear HR)
            | (go_at_call 9; refine (CP.out _).mono ?_; clear CP; rintro e w3 ⟨rfl, H3⟩))
          go_roundw
          case rel => exact ⟨k + 1, _, by omega, by omega, by go_num, H3⟩
          case measure => simp [intOf]; omega
        · have hkdb : (kd == 1) = false := beq_eq_false_iff_ne.2 hkd
          have hok := (HXA.out (.map #[] 0)).ok
          obtain ⟨X3, hX3⟩ : ∃ X3, #[Value.int .i64 kd, .slice xa ms.length xc, .int .i64 nn] = X3 := ⟨_, rfl⟩
          have CL : Hid (Calls Try.prog 15 #[.pointer (some ⟨b, 0, none⟩)] (wr.alloc (.cells #[.int .i64 kd, .slice xa ms.length xc, .int .i64 nn] 30)) fun e w' => ∃ a8 c8, e = .returned (.slice a8 (HU.lf F).length c8) ∧ w'.heap[wr.heap.size]? = some (.cells #[.int .i64 kd, .slice xa ms.length xc, .int .i64 nn] 30 (0, 0)) ∧ Hid (Calls Try.prog 12 #[.pointer (some ⟨b, 0, none⟩), .int .i64 nn] w' fun e w'' => ∃ a c, e = .returned (.slice a (HU.cnt F nn) c) ∧ FRs w1 b T F (HU.took F (HU.cnt F nn)) (HU.cnt F nn) a8 a w'' ∧ w''.heap[wr.heap.size]? = some (.cells #[.int .i64 kd, .slice xa ms.length xc, .int .i64 nn] 30 (0, 0)))) := HXC.out.both _ _ nn
          have HCW : Hid (HU.cnt F nn = (min nn ((HU.lf F).length : Int)).toNat) := by show _ = _; unfold HU.cnt; rw [HU.tl_lf]
          have hlf6 := HU.lf_len F
          have hcn6 : HU.cnt F nn ≤ 6 := by have := HCW.out; omega
          have HTL : Hid ((HU.told F (HU.cnt F nn)).length = HU.cnt F nn) := told_len F nn
          have HFR : Hid (∀ r s, r ∈ HU.lf F → s ∈ HU.lf F → r.1 ∈ HU.told F (HU.cnt F nn) → s.1 ∉ HU.told F (HU.cnt F nn) → s.2 ≤ r.2) := fun r s h1 h2 h3 h4 => fresh_le hok h1 h2 h3 h4
          have HBD : Hid (∀ r ∈ HU.lf F, 0 < r.2 ∧ r.2 ≤ 100) := fun r hr => by
            have h1 := (HU.mem_lf hok r).1 hr
            have h2 := hok.hi r.1.1
            rw [h1.1] at h2
            exact ⟨h1.2.1, Int.le_trans h2 HT2.out⟩
          clear HXA HMS HXC hX3 hok
          generalize HU.took F (HU.cnt F nn) = F' at *
          generalize HU.cnt F nn = cn at *
          go_upto_region 14 with (first
            | go_skip
            | (refine wpList_load_mid rfl 30 _ rfl ab (ao + k * 3) rfl [.int .i64 kd, .slice xa ms.length xc, .int .i64 nn] _ HR.out hum rfl infoAc ?_; clear HR)
            | (go_at_call 15; refine (CL.out).mono ?_; clear CL; rintro e w4 ⟨a8, c8, rfl, hb4, CT⟩; have k42 : w4.cell? ⟨wr.heap.size, 2, none⟩ = some (.int .i64 nn) := (by rw [Lib.cell_of_heap hb4]; rfl))
            | (go_at_call 12; refine (CT.out).mono ?_; clear CT k42 hb4; rintro e w5 ⟨a9, c9, rfl, H5, hb5⟩; have k52 : w5.cell? ⟨wr.heap.size, 2, none⟩ = some (.int .i64 nn) := (by rw [Lib.cell_of_heap hb5]; rfl)))
          obtain ⟨L, hL⟩ : ∃ L, HU.told F cn = L := ⟨_, rfl⟩
          have HLE : Hid (HU.told F cn = L) := hL
          rw [hL] at HTL HFR
          clear hL
          have HH5 := hidP H5
          clear H5
          go_cut [79] (fun s wx => s = .bool false ∧ w5 = wx)
          case first =>
            clear HLE HTL HFR HBD HH5 hb5
            have hcw := HCW.out
            have hg1 : ¬ ((cn : Int) > max nn 0) := by omega
            have hg2 : ¬ ((cn : Int) < min ((HU.lf F).length : Int) (max nn 0)) := by omega
            by_cases hN : nn < 1
            · have hc0 : ((cn : Int) != 0) = false := by rw [bne_eq_false_iff_eq]; omega
              clear hcw HCW
              go_wp2_with (first | go_skip)
              go_meet
              exact ⟨rfl, rfl⟩
            · clear hcw HCW
              go_wp2_with (first | go_skip)
              go_meet
              exact ⟨rfl, rfl⟩
          case rest =>
            obtain ⟨rfl, rfl⟩ := hcut
            clear k52 hb5 HCW
            go_wp2_with fail
            go_loopw [10, 11, 12, 13] (fun v10 v11 _ _ wx => ∃ (i : Nat) (q : Int), i ≤ (HU.lf F).length ∧ v11 = .int .i64 i ∧ v10 = .int .i64 q ∧ Lb F cn q ∧ FRs w1 b T F F' cn a8 a9 wx) (fun _ v11 _ _ _ => (HU.lf F).length - (intOf v11).toNat)
            case atStart => exact ⟨0, 1048576, Nat.zero_le _, rfl, rfl, Lb.start _ _, HH5.out⟩
            case round =>
              obtain ⟨i, q, hi, rfl, rfl, hlb, hf5⟩ := hrel
              clear HH5
              have HF5 := hidP hf5
              have HLB := hidP hlb
              have hq1 : q ≤ 1048576 := hlb.1
              have hq2 : 0 ≤ q := hlb.2.1
              clear hlb hf5
              by_cases hil : i < (HU.lf F).length
              · obtain ⟨r, hr⟩ : ∃ r, (HU.lf F)[i]? = some r := ⟨(HU.lf F)[i], List.getElem?_eq_getElem hil⟩
                have HRI := hidP hr
                have hrm := List.mem_of_getElem? hr
                obtain ⟨hr1, hr2⟩ := HBD.out r hrm
                have hii : (i : Int) < ((HU.lf F).length : Int) := by omega
                have HLS : Hid (r.1 ∈ L → Lb F cn (min q r.2)) := fun h => HLB.out.step hrm (by rw [HLE.out]; exact h) (by omega)
                clear hr hrm
                go_wp2_with fail
                go_loopw [12, 13] (fun v1 v2 wx => ∃ j : Nat, j ≤ cn ∧ v2 = .int .i64 j ∧ v1 = .bool (anyM L j r.1) ∧ FRs w1 b T F F' cn a8 a9 wx) (fun _ v2 _ => cn - (intOf v2).toNat)
                case atStart => exact ⟨0, Nat.zero_le _, rfl, by rw [anyM_zero], HF5.out⟩
                case round =>
                  obtain ⟨j, hj, rfl, rfl, hf6⟩ := hrel
                  clear HF5
                  have HF6 := hidP hf6
                  by_cases hjl : j < cn
                  · obtain ⟨m, hm⟩ : ∃ m, L[j]? = some m := ⟨L[j]'(by rw [HTL.out]; exact hjl), List.getElem?_eq_getElem _⟩
                    obtain ⟨b8, o8, e8, _, rg8⟩ := hf6.r i r HRI.out
                    obtain ⟨b9, o9, e9, _, rg9⟩ := (hf6.h.at' (p := (a9, HU.told F cn)) (by simp)) j m (by rw [HLE.out]; exact hm)
                    have HAS : Hid (anyM L (j + 1) r.1 = (anyM L j r.1 || decide (m = r.1))) := anyM_succ hm r.1
                    have heq := fun W => eqMe m r.1 W
                    have hji : (j : Int) < (cn : Int) := by omega
                    obtain ⟨m0, m1, m2⟩ := m
                    have p0 : wr.cell? ⟨b9, o9 + j * 3, none⟩ = some (.int .i64 m0) := rg9 0 _ rfl
                    have p1 : wr.cell? ⟨b9, o9 + j * 3 + 1, none⟩ = some (.int .i64 m1) := rg9 1 _ rfl
                    have p2 : wr.cell? ⟨b9, o9 + j * 3 + 2, none⟩ = some (.int .i64 m2) := rg9 2 _ rfl
                    have s0 : wr.cell? ⟨b8, o8 + i * 4, none⟩ = some (.int .i64 r.1.1) := rg8 0 _ rfl
                    have s1 : wr.cell? ⟨b8, o8 + i * 4 + 1, none⟩ = some (.int .i64 r.1.2.1) := rg8 1 _ rfl
                    have s2 : wr.cell? ⟨b8, o8 + i * 4 + 2, none⟩ = some (.int .i64 r.1.2.2) := rg8 2 _ rfl
                    subst e8 e9
                    clear rg8 rg9 hm hf6
                    simp only at heq
                    generalize decide ((m0, m1, m2) = r.1) = qe at *
                    cases hq : anyM L j r.1 with
                    | true =>
                      rw [hq] at HAS
                      clear hq heq
                      go_wp2_with fail
                      go_quiet (fail)
                      go_wp2_with fail
                      go_roundw
                      case rel => exact ⟨j + 1, by omega, by go_num, by rw [HAS.out]; rfl, HF6.out.grow ((Bl.refl _).drewN _)⟩
                      case measure => simp [intOf]; omega
                    | false =>
                      rw [hq] at HAS
                      clear hq
                      go_wp2_with fail
                      go_quiet (fail)
                      go_wp2_with fail
                      go_roundw
                      case rel => exact ⟨j + 1, by omega, by go_num, by rw [HAS.out]; rfl, HF6.out.grow ((Bl.refl _).drewN _)⟩
                      case measure => simp [intOf]; omega
                  · obtain rfl : j = cn := by omega
                    have HAL : Hid (anyM L j r.1 = decide (r.1 ∈ L)) := by
                      have := anyM_all L r.1
                      rw [HTL.out] at this; exact this
                    obtain ⟨b8, o8, e8, _, rg8⟩ := hf6.r i r HRI.out
                    have s3 : wr.cell? ⟨b8, o8 + i * 4 + 3, none⟩ = some (.int .i64 r.2) := rg8 3 _ rfl
                    subst e8
                    clear rg8 hf6
                    by_cases hrl : r.1 ∈ L
                    · have HL2 := hidP (HLS.out hrl)
                      rw [HAL.out, decide_eq_true hrl]
                      clear HLS HAL hrl
                      go_wp2_with fail
                      go_roundw
                      case rel => exact ⟨i + 1, _, by omega, by go_num, rfl, HL2.out, HF6.out⟩
                      case measure => simp [intOf]; omega
                    · rw [HAL.out, decide_eq_false hrl]
                      clear HLS HAL hrl
                      go_wp2_with fail
                      go_roundw
                      case rel => exact ⟨i + 1, q, by omega, by go_num, rfl, HLB.out, HF6.out⟩
                      case measure => simp [intOf]; omega
              · obtain rfl : i = (HU.lf F).length := by omega
                have HLC : Hid (∀ s ∈ HU.lf F, s.1 ∉ L → s.2 ≤ q) := fun s hs hsl => HLB.out.2.2 s.2 (by have := (HBD.out s hs).2; omega) (fun r hr hrl => HFR.out r s hr hs (by rw [← HLE.out]; exact hrl) hsl)
                have HII : Hid ((HU.lf F).length ≤ 6) := hlf6
                clear HLB HFR hi hil
                go_wp2_with fail
                go_loopw [14, 15, 16] (fun v14 _ _ wx => ∃ i : Nat, i ≤ (HU.lf F).length ∧ v14 = .int .i64 i ∧ FRs w1 b T F F' cn a8 a9 wx) (fun v14 _ _ _ => (HU.lf F).length - (intOf v14).toNat)
                case atStart => exact ⟨0, Nat.zero_le _, rfl, HF5.out⟩
                case round =>
                  obtain ⟨i, hi, rfl, hf5⟩ := hrel
                  clear HF5
                  have HF5 := hidP hf5
                  clear hf5
                  by_cases hil : i < (HU.lf F).length
                  · obtain ⟨r, hr⟩ : ∃ r, (HU.lf F)[i]? = some r := ⟨(HU.lf F)[i], List.getElem?_eq_getElem hil⟩
                    have HRI := hidP hr
                    have hrm := List.mem_of_getElem? hr
                    obtain ⟨hr1, hr2⟩ := HBD.out r hrm
                    have hii : (i : Int) < ((HU.lf F).length : Int) := by omega
                    have HLS : Hid (r.1 ∉ L → r.2 ≤ q) := fun h => HLC.out r hrm h
                    clear hr hrm
                    go_wp2_with fail
                    go_loopw [15, 16] (fun v1 v2 wx => ∃ j : Nat, j ≤ cn ∧ v2 = .int .i64 j ∧ v1 = .bool (anyM L j r.1) ∧ FRs w1 b T F F' cn a8 a9 wx) (fun _ v2 _ => cn - (intOf v2).toNat)
                    case atStart => exact ⟨0, Nat.zero_le _, rfl, by rw [anyM_zero], HF5.out⟩
                    case round =>
                      obtain ⟨j, hj, rfl, rfl, hf6⟩ := hrel
                      clear HF5
                      have HF6 := hidP hf6
                      by_cases hjl : j < cn
                      · obtain ⟨m, hm⟩ : ∃ m, L[j]? = some m := ⟨L[j]'(by rw [HTL.out]; exact hjl), List.getElem?_eq_getElem _⟩
                        obtain ⟨b8, o8, e8, _, rg8⟩ := hf6.r i r HRI.out
                        obtain ⟨b9, o9, e9, _, rg9⟩ := (hf6.h.at' (p := (a9, HU.told F cn)) (by simp)) j m (by rw [HLE.out]; exact hm)
                        have HAS : Hid (anyM L (j + 1) r.1 = (anyM L j r.1 || decide (m = r.1))) := anyM_succ hm r.1
                        have heq := fun W => eqMe m r.1 W
                        have hji : (j : Int) < (cn : Int) := by omega
                        obtain ⟨m0, m1, m2⟩ := m
                        have p0 : wr.cell? ⟨b9, o9 + j * 3, none⟩ = some (.int .i64 m0) := rg9 0 _ rfl
                        have p1 : wr.cell? ⟨b9, o9 + j * 3 + 1, none⟩ = some (.int .i64 m1) := rg9 1 _ rfl
                        have p2 : wr.cell? ⟨b9, o9 + j * 3 + 2, none⟩ = some (.int .i64 m2) := rg9 2 _ rfl
                        have s0 : wr.cell? ⟨b8, o8 + i * 4, none⟩ = some (.int .i64 r.1.1) := rg8 0 _ rfl
                        have s1 : wr.cell? ⟨b8, o8 + i * 4 + 1, none⟩ = some (.int .i64 r.1.2.1) := rg8 1 _ rfl
                        have s2 : wr.cell? ⟨b8, o8 + i * 4 + 2, none⟩ = some (.int .i64 r.1.2.2) := rg8 2 _ rfl
                        subst e8 e9
                        clear rg8 rg9 hm hf6
                        simp only at heq
                        generalize decide ((m0, m1, m2) = r.1) = qe at *
                        cases hq : anyM L j r.1 with
                        | true =>
                          rw [hq] at HAS
                          clear hq heq
                          go_wp2_with fail
                          go_quiet (fail)
                          go_wp2_with fail
                          go_roundw
                          case rel => exact ⟨j + 1, by omega, by go_num, by rw [HAS.out]; rfl, HF6.out.grow ((Bl.refl _).drewN _)⟩
                          case measure => simp [intOf]; omega
                        | false =>
                          rw [hq] at HAS
                          clear hq
                          go_wp2_with fail
                          go_quiet (fail)
                          go_wp2_with fail
                          go_roundw
                          case rel => exact ⟨j + 1, by omega, by go_num, by rw [HAS.out]; rfl, HF6.out.grow ((Bl.refl _).drewN _)⟩
                          case measure => simp [intOf]; omega
                      · obtain rfl : j = cn := by omega
                        have HAL : Hid (anyM L j r.1 = decide (r.1 ∈ L)) := by
                          have := anyM_all L r.1
                          rw [HTL.out] at this; exact this
                        obtain ⟨b8, o8, e8, _, rg8⟩ := hf6.r i r HRI.out
                        have s3 : wr.cell? ⟨b8, o8 + i * 4 + 3, none⟩ = some (.int .i64 r.2) := rg8 3 _ rfl
                        subst e8
                        clear rg8 hf6
                        by_cases hrl : r.1 ∈ L
                        · rw [HAL.out, decide_eq_true hrl]
                          clear HLS HAL hrl
                          go_wp2_with (first | go_skip)
                          go_roundw
                          case rel => exact ⟨i + 1, by omega, by go_num, HF6.out⟩
                          case measure => simp [intOf]; omega
                        · have hle := HLS.out hrl
                          have hgt : ¬ (r.2 > q) := by omega
                          rw [HAL.out, decide_eq_false hrl]
                          clear HLS HAL hrl
                          go_wp2_with (first | go_skip)
                          go_roundw
                          case rel => exact ⟨i + 1, by omega, by go_num, HF6.out⟩
                          case measure => simp [intOf]; omega
                  · obtain rfl : i = (HU.lf F).length := by omega
                    go_wp2_with fail
                    go_roundw
                    case rel => exact ⟨k + 1, F', by omega, by omega, by go_num, HF5.out.h.sub (fun p hp => by simp at hp)⟩
                    case measure => simp [intOf]; omega
end Go.Proofs.Ytpgagddofifikaa
