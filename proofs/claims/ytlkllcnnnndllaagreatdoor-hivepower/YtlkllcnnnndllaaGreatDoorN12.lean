/- A store's Sync, and Keys where it has no record. -/
import Derived.Test.YtlkllcnnnndllaaGreatDoorN11
namespace Go.Proofs.YtlkllcnnnndllaaGreatDoor
open Go.RowKit Go.Maps
set_option linter.unusedVariables false
set_option linter.unusedSimpArgs false
attribute [local go_sem ↓] zeroSl

set_option maxRecDepth 8000 in
set_option maxHeartbeats 1000000 in
theorem SyncV_x {w W : World} {b : HB} {h : Hv} {st : H.Sh} (x : HW w b h st W) (hm : Sm st) (ho : st.off = false) (hli : st.life = h.life) (ha : st.arm ≠ 1) :
    Calls Tryz.prog 14 #[.pointer (some ⟨b.hv, 0, none⟩)] W fun e' w' => e' = .returned (.int .i64 0) ∧ HW w b h (H.sync (H.act st)) w' := by
  have k0 := x.c0
  have LX : HW w b h st W := x
  have CR : Hid (∀ W', HW w b h st W' → Calls Tryz.prog 29 #[.pointer (some ⟨b.hv, 0, none⟩)] W' fun e' w' => e' = .returned (.int .i64 0) ∧ HW w b h st w') := fun W' y => by
    have hr := reach_x (h := h) (st := st) (b := b) (w := w) (W := W') y
    rw [show rchE h st = 0 by unfold rchE; rw [if_neg (by simp [ho, hli])]] at hr
    refine hr.mono ?_
    rintro e' w' ⟨rfl, n, rfl⟩
    exact ⟨rfl, HX.drewN y n⟩
  have CS : Hid (∀ W', HW w b h st W' → Calls Tryz.prog 37 #[.pointer (some ⟨b.sh, 0, none⟩)] W' fun e' w' => e' = .returned (.int .i64 0) ∧ HW w b h (H.sync (H.act st)) w') := fun W' y => Sync_h y hm ho ha
  clear x hm ho hli ha
  go_enter Tryz.func14, Tryz.ntmps14
  go_wp2_with (first
    | (go_at_call 29; refine (CR.out _ LX).mono ?_; clear CR LX k0; rintro e' w1 ⟨rfl, LX⟩; have k0 := LX.c0)
    | (go_at_call 37; refine (CS.out _ LX).mono ?_; clear CS LX; rintro e' w2 ⟨rfl, LX⟩))
  go_ret
  exact ⟨rfl, LX⟩
set_option maxRecDepth 8000 in
theorem SyncV_nil (W : World) : Calls Tryz.prog 14 #[.pointer none] W fun e w' => e = .returned (.int .i64 2) ∧ w' = W := by
  go_enter Tryz.func14, Tryz.ntmps14
  go_wp2_with (go_at_call 29; refine (reach_nilH _).mono ?_; rintro e w' ⟨rfl, rfl⟩)
  go_ret
  exact ⟨rfl, rfl⟩

abbrev fnOrd : Value := .func (.func 45) #[] #[]
set_option maxRecDepth 8000 in
set_option maxHeartbeats 1000000 in
theorem insNil (W : World) : Calls Tryz.prog 74 #[.slice none 0 0, .int .i64 0, .int .i64 0, fnOrd] W fun e w' => e = .returned (.tuple #[]) ∧ Below W.heap.size W w' := by
  have HB : Hid (Below W.heap.size W W) := Below.refl _ _
  go_enter Tryz.func74, Tryz.ntmps74
  go_wp2_with fail
  go_loopw [8] (fun u8 wr => u8 = .int .i64 1 ∧ Below W.heap.size W wr) (fun _ _ => 0)
  case atStart => exact ⟨rfl, HB.out⟩
  case round =>
    obtain ⟨rfl, hb⟩ := hrel
    go_wp2_with fail
    refine bodyPost_end (results_none rfl _ _ _) rfl ?_
    exact ⟨rfl, hb⟩
set_option maxRecDepth 8000 in
set_option maxHeartbeats 1000000 in
theorem pdqNil (l : Int) (W : World) : Calls Tryz.prog 61 #[.slice none 0 0, .int .i64 0, .int .i64 0, .int .i64 l, fnOrd] W fun e w' => e = .returned (.tuple #[]) ∧ Below W.heap.size W w' := by
  have HB : Hid (Below W.heap.size W W) := Below.refl _ _
  have CI : Hid (∀ W', Below W.heap.size W W' → Calls Tryz.prog 74 #[.slice none 0 0, .int .i64 0, .int .i64 0, fnOrd] W' fun e w' => e = .returned (.tuple #[]) ∧ Below W.heap.size W w') := fun W' hb => by
    refine (insNil W').mono ?_
    rintro e w' ⟨rfl, hb'⟩
    exact ⟨rfl, hb.trans (hb'.mono hb.size)⟩
  go_enter Tryz.func61, Tryz.ntmps61
  go_wp2_with fail
  go_loopw [1, 2] (fun u1 u2 wr => u1 = .int .i64 0 ∧ u2 = .int .i64 0 ∧ Below W.heap.size W wr) (fun _ _ _ => 0)
  case atStart => exact ⟨rfl, rfl, HB.out⟩
  case round =>
    obtain ⟨rfl, rfl, hrel⟩ := hrel
    go_wp2_with (go_at_call 74; refine (CI.out _ hrel).mono ?_; clear CI; rintro e w' ⟨rfl, hb⟩)
    refine bodyPost_ret (results_none rfl _ _ _) rfl ?_
    exact ⟨rfl, hb⟩

set_option maxRecDepth 8000 in
set_option maxHeartbeats 1000000 in
theorem lenB0 (W : World) : Calls Tryz.prog 62 #[.int .u64 0] W fun e w' => ∃ L : Nat, e = .returned (.int .i64 L) ∧ w' = W := by
  have C6 : Hid (∀ W', Calls Tryz.prog 72 #[.int .u64 0] W' fun e w' => ∃ L : Nat, e = .returned (.int .i64 L) ∧ w' = W') := fun W' => by
    refine (Tryz.bits_Len64 0 W' (by omega) (by omega)).mono ?_
    rintro e w' ⟨rfl, rfl⟩
    exact ⟨_, rfl, rfl⟩
  go_enter Tryz.func62, Tryz.ntmps62
  go_wp2_with (go_at_call 72; refine (C6.out _).mono ?_; clear C6; rintro e w' ⟨L, rfl, rfl⟩)
  go_ret
  exact ⟨L, rfl, rfl⟩
set_option maxRecDepth 8000 in
set_option maxHeartbeats 1000000 in
theorem sortNil (W : World) : Calls Tryz.prog 44 #[.slice none 0 0, fnOrd] W fun e w' => e = .returned (.tuple #[]) ∧ Below W.heap.size W w' := by
  have CL : Hid _ := lenB0
  have CP : Hid _ := pdqNil
  go_enter Tryz.func44, Tryz.ntmps44
  go_wp2_with (first
    | (go_at_call 62; refine (lenB0 _).mono ?_; clear CL; rintro e w' ⟨L, rfl, rfl⟩)
    | (go_at_call 61; refine (pdqNil _ _).mono ?_; clear CP; rintro e w' ⟨rfl, hb⟩))
  refine bodyPost_end (results_none rfl _ _ _) rfl ?_
  exact ⟨rfl, hb⟩
set_option maxRecDepth 8000 in
theorem Keys_nil (W : World) : Calls Tryz.prog 20 #[.pointer none] W fun e w' => e = .returned (.slice none 0 0) ∧ w' = W := by
  go_enter Tryz.func20, Tryz.ntmps20
  go_wp2_with fail
  go_ret
  exact ⟨rfl, rfl⟩
set_option maxRecDepth 8000 in
set_option maxHeartbeats 2000000 in
theorem Keys_none {w W : World} {b : HB} {h : Hv} {st : H.Sh} (x : HW w b h st W) (hn : h.es.length ≤ 128) (hr : ∀ (i : Nat) (e : V.En), h.es[i]? = some e → e.kind ≠ V.kr) :
    Calls Tryz.prog 20 #[.pointer (some ⟨b.hv, 0, none⟩)] W fun e' w' => e' = .returned (.slice none 0 0) ∧ HW w b h st w' := by
  have XX : Hid (HW w b h st W) := x
  have k2 := x.c2
  have hsz0 : (svL V.en0).toArray.size = 66 := by rw [List.size_toArray]; exact svL_length zd_length zd_length
  obtain ⟨fs, hum⟩ := und100
  have HST : Hid (∀ W : World, (W.alloc (.cells (svL V.en0).toArray 96)).heap[W.heap.size]? = some (.cells (svL V.en0).toArray 96 (0, 0))) := hst100
  have CS : Hid (∀ W', HW w b h st W' → Calls Tryz.prog 44 #[.slice none 0 0, fnOrd] W' fun e w' => e = .returned (.tuple #[]) ∧ HW w b h st w') := fun W' y => by
    refine (sortNil W').mono ?_
    rintro e w' ⟨rfl, hb⟩
    exact ⟨rfl, HX.step y hb⟩
  clear x
  go_enter Tryz.func20, Tryz.ntmps20
  go_wp2_with fail
  clear k2
  go_loopw [3, 5, 13] (fun u3 u5 u13 wr => ∃ k : Nat, k ≤ h.es.length ∧ u13 = .int .i64 k ∧ u3 = .slice none 0 0 ∧ HW w b h st wr) (fun _ _ u13 _ => h.es.length - (intOf u13).toNat)
  case atStart => exact ⟨0, Nat.zero_le _, rfl, rfl, XX.out⟩
  case round =>
    obtain ⟨k, hk, rfl, rfl, hx⟩ := hrel
    have HX1 : Hid (HW w b h st wr) := hx
    clear XX
    by_cases hlt : k < h.es.length
    · obtain ⟨e, he⟩ : ∃ e, h.es[k]? = some e := ⟨h.es[k], List.getElem?_eq_getElem hlt⟩
      have e32 := hx.e k e he
      have hne := hr k e he
      have HR : Hid (wr.rangeAt b.sl (k * 66) (svL e)) := hx.rng he
      have hi : (Tryz.prog.info? 96).map (·.size) = some (svL e).length := by rw [info100, svL_length e32.d e32.c]
      have hsz : (svL e).toArray.size = 66 := by rw [List.size_toArray]; exact svL_length e32.d e32.c
      have hs1 := svL_all e
      have h0 : (svL e)[0]? = some (.string (M.bs e.kind)) := rfl
      have h00 : ∀ (hh : 0 < (svL e).length), (svL e)[0]'hh = .string (M.bs e.kind) := fun _ => rfl
      have hq : ((M.bs e.kind).toList == (M.bs V.kr).toList) = false := by
        rw [Lib.toList_data, Lib.toList_data, M.bs_toList, M.bs_toList]
        simpa using hne
      have HY : Hid (HW w b h st (wr.alloc (.cells (svL e).toArray 96))) := HX.alloc hx _
      have hkr : (⟨#[114]⟩ : ByteArray) = M.bs V.kr := by rfl
      clear hx he hne hr
      generalize svL e = SL at *
      go_wp2_with (first
        | (refine wpList_load_mid rfl 96 _ rfl b.sl (k * 66) rfl SL _ HR.out hum rfl hi ?_; clear HR)
        | (refine wpList_store_row rfl 96 _ _ rfl wr.heap.size SL.toArray rfl rfl 96 (svL V.en0).toArray (HST.out wr) (by rw [hsz]; exact info100) (by rw [hsz0, hsz]) hs1 ?_; rw [World.setRow_alloc_new]))
      go_roundw
      case rel => exact ⟨k + 1, by omega, by go_num, rfl, HY.out⟩
      case measure => simp [intOf]; omega
    · obtain rfl : k = h.es.length := by omega
      clear hx
      go_wp2_with (go_at_call 44; refine (CS.out _ HX1.out).mono ?_; clear CS; rintro e' w' ⟨rfl, hy⟩)
      go_ret
      exact ⟨rfl, hy⟩
end Go.Proofs.YtlkllcnnnndllaaGreatDoor
