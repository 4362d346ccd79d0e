/- The first free slot: slices.IndexFunc at a store's slots. -/
import Derived.Test.YtlkllcnnnndllaaGreatDoorN4
namespace Go.Proofs.YtlkllcnnnndllaaGreatDoor
open Go.RowKit Go.Maps
set_option linter.unusedVariables false
set_option linter.unusedSimpArgs false

theorem svL_0 (e : V.En) : (svL e).toArray[0]? = some (.string (M.bs e.kind)) := rfl
set_option maxRecDepth 8000 in
theorem free_at (e : V.En) (W : World) : Calls Tryz.prog 66 #[.agg (svL e).toArray] W fun e' w' => e' = .returned (.bool (decide (e.kind = []))) ∧ Below W.heap.size W w' := by
  have h0 := svL_0 e
  have HB : Hid (Below W.heap.size W (W.alloc (.cells (svL e).toArray 96))) := (Below.refl _ W).alloc (Nat.le_refl _) _
  have hq := bs_eqC e.kind []
  obtain ⟨q, hq2⟩ : ∃ q, decide (e.kind = []) = q := ⟨_, rfl⟩
  rw [hq2] at hq ⊢
  have hq3 : (M.bs e.kind).toList.isEmpty = q := by
    rw [← hq2, Lib.toList_data, M.bs_toList]
    cases e.kind <;> simp
  clear hq2
  generalize (svL e).toArray = C at *
  go_enter Tryz.func66, Tryz.ntmps66
  go_wp2_with fail
  go_ret
  exact ⟨rfl, HB.out⟩
/-- the first free slot; -1: none -/
def freeI (es : List V.En) : Int := match es.findIdx? (fun e => decide (e.kind = [])) with | some i => (i : Int) | none => -1
theorem freeI_of {es : List V.En} {k : Nat} (h1 : ∀ i e, i < k → es[i]? = some e → e.kind ≠ []) {e : V.En} (he : es[k]? = some e) (h2 : e.kind = []) : freeI es = (k : Int) := by
  unfold freeI
  have hk : k < es.length := (List.getElem?_eq_some_iff.1 he).1
  have : es.findIdx? (fun e => decide (e.kind = [])) = some k := by
    rw [List.findIdx?_eq_some_iff_getElem]
    refine ⟨hk, ?_, fun j hj => ?_⟩
    · rw [List.getElem?_eq_getElem hk] at he
      rw [Option.some.inj he]; simpa using h2
    · have := h1 j es[j] hj (List.getElem?_eq_getElem (by omega))
      simpa using this
  rw [this]
theorem freeI_none {es : List V.En} (h1 : ∀ i e, i < es.length → es[i]? = some e → e.kind ≠ []) : freeI es = -1 := by
  unfold freeI
  have : es.findIdx? (fun e => decide (e.kind = [])) = none := by
    rw [List.findIdx?_eq_none_iff]
    intro e he
    obtain ⟨i, hi, rfl⟩ := List.getElem_of_mem he
    have := h1 i es[i] hi (List.getElem?_eq_getElem hi)
    simpa using this
  rw [this]
set_option maxRecDepth 8000 in
set_option maxHeartbeats 2000000 in
theorem IndexFunc_x {w W : World} {b : HB} {h : Hv} {st : H.Sh} (x : HW w b h st W) (hn : h.es.length ≤ 128) :
    Calls Tryz.prog 65 #[.slice (some ⟨b.sl, 0, none⟩) h.es.length h.es.length, .func (.func 66) #[] #[]] W fun e' w' => e' = .returned (.int .i64 (freeI h.es)) ∧ HW w b h st w' := by
  have XX : Hid (HW w b h st W) := x
  clear x
  go_enter Tryz.func65, Tryz.ntmps65
  go_wp2_with fail
  go_loopw [5, 8] (fun u5 u8 wr => ∃ k : Nat, k ≤ h.es.length ∧ u8 = .int .i64 k ∧ HW w b h st wr ∧ ∀ i e, i < k → h.es[i]? = some e → e.kind ≠ []) (fun _ u8 _ => h.es.length - (intOf u8).toNat)
  case atStart => exact ⟨0, Nat.zero_le _, rfl, XX.out, fun i e hi => by omega⟩
  case round =>
    obtain ⟨k, hk, rfl, hx, hpre⟩ := hrel
    have HP : Hid (∀ i e, i < k → h.es[i]? = some e → e.kind ≠ []) := hpre
    have HX1 : Hid (HW w b h st wr) := hx
    clear hpre XX
    by_cases hlt : k < h.es.length
    · obtain ⟨e, he⟩ : ∃ e, h.es[k]? = some e := ⟨h.es[k], List.getElem?_eq_getElem hlt⟩
      have e32 := hx.e k e he
      have HR : Hid (wr.rangeAt b.sl (k * 66) (svL e)) := hx.rng he
      have hi : (Tryz.prog.info? 96).map (·.size) = some (svL e).length := by rw [info100, svL_length e32.d e32.c]
      have CF : Hid (Calls Tryz.prog 66 #[.agg (svL e).toArray] wr fun e' w' => e' = .returned (.bool (decide (e.kind = []))) ∧ HW w b h st w') := by
        refine (free_at e wr).mono ?_
        rintro e' w' ⟨rfl, hb⟩
        exact ⟨rfl, HX.step hx hb⟩
      obtain ⟨fs, hum⟩ := und100
      clear hx
      by_cases hf : e.kind = []
      · rw [decide_eq_true hf] at CF
        have HF : Hid (freeI h.es = (k : Int)) := freeI_of HP.out he hf
        clear hf he
        generalize svL e = SL at *
        go_wp2_with (first
          | (refine wpList_load_mid rfl 96 _ rfl b.sl (k * 66) rfl SL _ HR.out hum rfl hi ?_)
          | (go_at_call 66; refine CF.out.mono ?_; rintro e' w' ⟨rfl, hy⟩))
        go_ret
        exact ⟨by rw [HF.out]; rfl, hy⟩
      · rw [decide_eq_false hf] at CF
        have HF : Hid (e.kind ≠ []) := hf
        have HE : Hid (h.es[k]? = some e) := he
        clear hf he
        generalize svL e = SL at *
        go_wp2_with (first
          | (refine wpList_load_mid rfl 96 _ rfl b.sl (k * 66) rfl SL _ HR.out hum rfl hi ?_)
          | (go_at_call 66; refine CF.out.mono ?_; rintro e' w' ⟨rfl, hy⟩))
        go_roundw
        case rel =>
          refine ⟨k + 1, by omega, by go_num, hy, fun i e2 hi he2 => ?_⟩
          rcases (by omega : i < k ∨ i = k) with h' | rfl
          · exact HP.out i e2 h' he2
          · rw [HE.out] at he2; cases he2; exact HF.out
        case measure => simp [intOf]; omega
    · obtain rfl : k = h.es.length := by omega
      have HF : Hid (freeI h.es = -1) := freeI_none HP.out
      clear hx
      go_wp2_with fail
      go_ret
      exact ⟨by rw [HF.out]; rfl, HX1.out⟩
end Go.Proofs.YtlkllcnnnndllaaGreatDoor
