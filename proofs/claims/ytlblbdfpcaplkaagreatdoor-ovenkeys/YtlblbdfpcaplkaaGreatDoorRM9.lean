/- The reference's Make. -/
import Derived.Test.YtlblbdfpcaplkaaGreatDoorV6
import Derived.Test.YtlblbdfpcaplkaaGreatDoorOA
namespace Go.Proofs.YtlblbdfpcaplkaaGreatDoor
open Go.RowKit
set_option linter.unusedVariables false
set_option linter.unusedSimpArgs false

theorem rRun_x (code : List UInt8) (ins : List (List UInt8)) (a : Option Addr) (c : Nat) (W : World) (hx : TX W a ins) (hl : code.length ≤ 1000) (hn : ins.length ≤ 1000) (hil : ∀ t ∈ ins, t.length ≤ 9223372036854775807) :
    Calls Tryz.prog 44 #[.string (M.bs code), .slice a ins.length c] W fun e w' => e = .returned (runV (Q.run code ins)) ∧ Below W.heap.size W w' := by
  by_cases h : 64 < code.length ∨ 4 < ins.length
  · have e : Q.run code ins = ⟨4, [], 0⟩ := by
      unfold Q.run
      rw [if_pos (by rcases h with h | h; exact Or.inl h; exact Or.inr (Or.inl h))]
    rw [e]
    exact rRun_long code ins a c W h (by omega) (by omega)
  · exact rRun_at code ins a c W hx (by omega) (by omega) hil
theorem emptyS9 (W : World) : (Instr.buildSlice 22 0 #[]).run Tryz.prog W = .ok (.slice (some ⟨W.heap.size, 0, none⟩) 0 0) (W.alloc (.cells #[] 9)) := by kernel_rfl
set_option maxRecDepth 8000 in
set_option maxHeartbeats 4000000 in
theorem rMake_x (code : List UInt8) (l : List O.Re) (a : Option Addr) (c : Nat) {W : World} (hv : RS lyR W a l) (hl : l.length ≤ 30) (hok : ∀ r ∈ l, ReOk r) (hc : code.length ≤ 1000) :
    Calls Tryz.prog 21 #[.string (M.bs code), .slice a l.length c] W fun e w' => e = .returned (.agg (resV (O.mk code l))) ∧ Bl W w' := by
  have HV : Hid (RS lyR W a l) := hv
  have HO : Hid (∀ r ∈ l, ReOk r) := hok
  have hem := fun U => emptyS9 U
  have hs := M.bs_size code
  obtain ⟨fs, hum⟩ := undRes
  have HWZ : Hid (Bl W (W.alloc (.cells #[.int .i64 0, .string ⟨#[]⟩] 46))) := (Bl.refl W).alloc _
  have HZ0 : Hid ((W.alloc (.cells #[.int .i64 0, .string ⟨#[]⟩] 46)).heap[W.heap.size]? = some (.cells #[.int .i64 0, .string ⟨#[]⟩] 46 (0, 0))) := heap_alloc_new _ _
  have HZs : Hid ((W.alloc (.cells #[.int .i64 0, .string ⟨#[]⟩] 46)).heap.size = W.heap.size + 1) := by show _ = _; simp
  have HS0 : Hid (Bl (W.alloc (.cells #[.int .i64 0, .string ⟨#[]⟩] 46)) ((W.alloc (.cells #[.int .i64 0, .string ⟨#[]⟩] 46)).alloc (.cells #[] 9))) := (Bl.refl _).alloc _
  have HSO : Hid (((W.alloc (.cells #[.int .i64 0, .string ⟨#[]⟩] 46)).alloc (.cells #[] 9)).ownsRow (W.alloc (.cells #[.int .i64 0, .string ⟨#[]⟩] 46)).heap.size 9 1 (.slice (some ⟨W.heap.size + 1, 0, none⟩) 0 0) 0 (flG lyT (blT l 0))) := by
    have := TA.own_new (W.alloc (.cells #[.int .i64 0, .string ⟨#[]⟩] 46)) [] (by unfold maxLen; simp)
    rw [HZs.out] at this ⊢
    exact this
  have HPM : Hid (O.mk code l = if O.bad l = true then (34, []) else (((Q.run code (l.map (·.2))).code : Int), (Q.run code (l.map (·.2))).blob)) := rfl
  clear hv hok
  generalize O.mk code l = RES at *
  go_enter Tryz.func21, Tryz.ntmps21
  go_wp2_with fail
  generalize hZ : (W.alloc (.cells #[.int .i64 0, .string ⟨#[]⟩] 46)) = Z at *
  go_loopw [5, 6] (fun u5 u6 wr => ∃ k : Nat, k ≤ l.length ∧ u6 = .int .i64 k ∧ (∃ a5 c5, u5 = .slice a5 k c5) ∧ O.bad (l.take k) = false ∧ wr.ownsRow Z.heap.size 9 1 u5 k (flG lyT (blT l k)) ∧ Bl Z wr) (fun _ u6 _ => l.length - (intOf u6).toNat)
  case atStart => exact ⟨0, Nat.zero_le _, rfl, ⟨_, _, rfl⟩, rfl, HSO.out, HS0.out⟩
  case round =>
    obtain ⟨k, hk, rfl, ⟨a5, c5, rfl⟩, hbad, hown, hbl⟩ := hrel
    have HOW : Hid (wr.ownsRow Z.heap.size 9 1 (.slice a5 k c5) k (flG lyT (blT l k))) := hown
    have HBR : Hid (Bl Z wr) := hbl
    have HBD : Hid (O.bad (l.take k) = false) := hbad
    have HF : Hid (∀ w1, Bl wr w1 → w1.heap[W.heap.size]? = some (.cells #[.int .i64 0, .string ⟨#[]⟩] 46 (0, 0))) := fun w1 h1 => by
      have := Below.size HBR.out
      have := HZs.out
      rw [Below.block h1 _ (by omega), Below.block HBR.out _ (by omega)]; exact HZ0.out
    clear hown hbl hbad HS0 HSO
    by_cases hlt : k < l.length
    · obtain ⟨r, hr⟩ : ∃ r, l[k]? = some r := ⟨l[k], List.getElem?_eq_getElem hlt⟩
      obtain ⟨b, off, rfl, hb, hrg⟩ := (HV.out.bl HWZ.out).bl HBR.out k r hr
      have HKL : Hid (k = (blT l k).length) := by show _ = _; simp [blT]; omega
      have HN : Hid (blT l (k + 1) = blT l k ++ [r.2]) := blT_succ hr
      have HQ1 : Hid (r.1 ≠ 0 → O.bad l = true) := fun e => by
        unfold O.bad
        exact List.any_eq_true.2 ⟨r, List.mem_of_getElem? hr, decide_eq_true e⟩
      have HQ2 : Hid (r.1 = 0 → O.bad (l.take (k + 1)) = false) := fun e => by
        have := HBD.out
        unfold O.bad at this ⊢
        rw [List.take_add_one, hr, List.any_append, this]
        simp [O.isBad, e]
      obtain ⟨rc, rb⟩ := r
      simp only at HN HQ1 HQ2
      have q0 : wr.cell? ⟨b, off + k * 2, none⟩ = some (.int .i64 rc) := hrg 0 _ rfl
      have q1 : wr.cell? ⟨b, off + k * 2 + 1, none⟩ = some (.string (M.bs rb)) := hrg 1 _ rfl
      by_cases h0 : rc = 0
      · subst h0
        generalize blT l k = KS at *
        clear hr hrg HV HO
        go_wp2_with (refine wl_app1G lyT (w := Z) (W := wr) 9 22 (.string ⟨#[]⟩) 16 undS infoS rfl (by omega) rfl _ _ rfl k KS HKL.out rb _ rfl HBR.out HOW.out rfl (by omega) ?_ _ rfl rfl; intro a' c' w3 h3 hb3 _)
        go_roundw
        case rel => exact ⟨k + 1, by omega, by go_num, ⟨_, _, rfl⟩, HQ2.out rfl, by rw [HN.out]; exact h3, hb3⟩
        case measure => simp [intOf]; omega
      · have h0i : (rc != 0) = true := by simpa using h0
        have HRES : Hid (RES = (34, [])) := by show _ = _; rw [HPM.out, if_pos (HQ1.out h0)]
        have hf := HF.out wr (Bl.refl wr)
        have r0 : wr.cell? ⟨W.heap.size, 0, none⟩ = some (.int .i64 0) := by rw [Lib.cell_of_heap hf]; rfl
        have r1 : wr.cell? ⟨W.heap.size, 1, none⟩ = some (.string ⟨#[]⟩) := by rw [Lib.cell_of_heap hf]; rfl
        have f0 := frozen_rowM hf
        have HRW : Hid _ := hf
        clear hr hrg HV HO h0 hf
        go_wp2_with fail
        (try simp only [Exit.inBlock, Exit.then])
        refine bodyPost_ret (results_cell_row rfl _ _ _ 46 #[.int .i64 34, .string ⟨#[]⟩] (0, 0) _ rfl (heap_setCell_rowM (heap_setCell_rowM HRW.out)) hum rfl infoRes) rfl ?_
        rw [HRES.out]
        exact ⟨rfl, (((HWZ.out.step HBR.out)).set (Nat.le_refl _) _ _).set (Nat.le_refl _) _ _⟩
    · obtain rfl : k = l.length := by omega
      have hall : blT l l.length = l.map (·.2) := by unfold blT; rw [List.take_length]
      have hS : RS lyT wr a5 (l.map (·.2)) := by
        have h := HOW.out
        rw [hall] at h
        have h' : wr.ownsRow Z.heap.size 9 lyT.k (.slice a5 l.length c5) (l.map (·.2)).length (flG lyT (l.map (·.2))) := by rw [List.length_map]; exact h
        obtain ⟨x, y, e, hrs⟩ := owns_rs lyT h'
        simp only [Value.slice.injEq] at e
        rw [e.1]; exact hrs
      have hb0 : O.bad l = false := by have := HBD.out; rw [List.take_length] at this; exact this
      have HRES : Hid (RES = (((Q.run code (l.map (·.2))).code : Int), (Q.run code (l.map (·.2))).blob)) := by show _ = _; rw [HPM.out, hb0]; rfl
      have C7 := rRun_x code (l.map (·.2)) a5 c5 wr (tx_of hS) hc (by rw [List.length_map]; omega) (fun t ht => by
        obtain ⟨r, hr, rfl⟩ := List.mem_map.1 ht
        have := (HO.out r hr).l; omega)
      rw [List.length_map] at C7
      generalize Q.run code (l.map (·.2)) = R at *
      have C7 : Hid (Calls Tryz.prog 44 #[.string (M.bs code), .slice a5 l.length c5] wr fun e w' => e = .returned (.tuple #[.agg #[.int .i64 (R.code : Int), .string (M.bs R.blob)], .int .i64 (R.n : Int)]) ∧ Bl wr w') := C7
      clear hS hall hb0 HPM
      go_wp2_with (go_at_call 44; refine C7.out.mono ?_; clear C7; rintro e w2 ⟨rfl, H2⟩; have hf := HF.out _ (H2.alloc (.cells #[.int .i64 (R.code : Int), .string (M.bs R.blob)] 46)); have r0 : (w2.alloc (.cells #[.int .i64 (R.code : Int), .string (M.bs R.blob)] 46)).cell? ⟨W.heap.size, 0, none⟩ = some (.int .i64 0) := (by rw [Lib.cell_of_heap hf]; rfl); have r1 : (w2.alloc (.cells #[.int .i64 (R.code : Int), .string (M.bs R.blob)] 46)).cell? ⟨W.heap.size, 1, none⟩ = some (.string ⟨#[]⟩) := (by rw [Lib.cell_of_heap hf]; rfl); have f0 := frozen_rowM hf; have HRW : Hid _ := hf; clear hf)
      (try simp only [Exit.inBlock, Exit.then])
      refine bodyPost_ret (results_cell_row rfl _ _ _ 46 #[.int .i64 (R.code : Int), .string (M.bs R.blob)] (0, 0) _ rfl (heap_setCell_rowM (heap_setCell_rowM HRW.out)) hum rfl infoRes) rfl ?_
      rw [HRES.out]
      exact ⟨rfl, (((HWZ.out.step (HBR.out.step H2)).alloc _).set (Nat.le_refl _) _ _).set (Nat.le_refl _) _ _⟩
end Go.Proofs.YtlblbdfpcaplkaaGreatDoor
