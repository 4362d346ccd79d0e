/- slices.IndexFunc, slices.DeleteFunc at rumours. -/
import Derived.Test.YtebmgajijjhinaaHuS
import Derived.Test.YtebmgajijjhinaaOwS
namespace Go.Proofs.Ytebmgajijjhinaa
open Go.RowKit Go.Maps
set_option linter.unusedVariables false
set_option linter.unusedSimpArgs false

/-- the first place; -1: none -/
def idxR (p : HU.Ru → Bool) (l : List HU.Ru) : Int := match l.findIdx? p with | some i => (i : Int) | none => -1
theorem idxR_of {p : HU.Ru → Bool} {es : List HU.Ru} {k : Nat} (h1 : ∀ i e, i < k → es[i]? = some e → p e = false) {e : HU.Ru} (he : es[k]? = some e) (h2 : p e = true) : idxR p es = (k : Int) := by
  unfold idxR
  have hk : k < es.length := (List.getElem?_eq_some_iff.1 he).1
  have : es.findIdx? p = some k := by
    rw [List.findIdx?_eq_some_iff_getElem]
    refine ⟨hk, ?_, fun j hj => ?_⟩
    · rw [List.getElem?_eq_getElem hk] at he
      rw [Option.some.inj he]; exact h2
    · have := h1 j es[j] hj (List.getElem?_eq_getElem (by omega))
      rw [this]; decide
  rw [this]
theorem idxR_none {p : HU.Ru → Bool} {es : List HU.Ru} (h1 : ∀ i e, i < es.length → es[i]? = some e → p e = false) : idxR p es = -1 := by
  unfold idxR
  have : es.findIdx? p = none := by
    rw [List.findIdx?_eq_none_iff]
    intro e he
    obtain ⟨i, hi, rfl⟩ := List.getElem_of_mem he
    exact h1 i es[i] hi (List.getElem?_eq_getElem hi)
  rw [this]
theorem idxR_cases (p : HU.Ru → Bool) (es : List HU.Ru) : (idxR p es = -1 ∧ ∀ e ∈ es, p e = false) ∨ ∃ (k : Nat) (e : HU.Ru), idxR p es = (k : Int) ∧ es[k]? = some e ∧ p e = true ∧ ∀ (i : Nat) x, i < k → es[i]? = some x → p x = false := by
  unfold idxR
  cases h : es.findIdx? p with
  | none => exact Or.inl ⟨rfl, by simpa using h⟩
  | some k =>
    obtain ⟨hk, h1, h2⟩ := List.findIdx?_eq_some_iff_getElem.1 h
    refine Or.inr ⟨k, es[k], rfl, List.getElem?_eq_getElem hk, h1, fun i x hi hx => ?_⟩
    have := h2 i hi
    rw [List.getElem?_eq_getElem (by omega)] at hx
    rw [← Option.some.inj hx]; simpa using this
set_option maxRecDepth 8000 in
set_option maxHeartbeats 2000000 in
theorem IndexR_c (f : FuncId) (caps : Array Value) (p : HU.Ru → Bool) (l : List HU.Ru) (a : Option Addr) (n c : Nat) (hnl : n = l.length) {w W : World} (HB : Bl w W)
    (hent : ∀ args w, (callFunc f args).run Try.prog w = .ok (.enter f args) w) (hv : RS lyR W a l) (hn : l.length ≤ 100000)
    (hf : ∀ (W' : World) (t : HU.Ru), Bl W W' → Calls Try.prog f (#[.agg (lyR.f t).toArray] ++ caps) W' fun e w' => e = .returned (.bool (p t)) ∧ Bl W' w') :
    Calls Try.prog 70 #[.slice a n c, .func (.func f) #[] caps] W fun e w' => e = .returned (.int .i64 (idxR p l)) ∧ Bl w w' := by
  subst hnl
  have HV : Hid (RS lyR W a l) := hv
  have HF0 : Hid (∀ (W' : World) (t : HU.Ru), Bl W W' → Calls Try.prog f (#[.agg (lyR.f t).toArray] ++ caps) W' fun e w' => e = .returned (.bool (p t)) ∧ Bl W' w') := hf
  have HB0 : Hid (Bl w W) := HB
  obtain ⟨fs, hum⟩ := undRu
  clear hv hf HB
  go_enter Try.func70, Try.ntmps70
  go_wp2_with fail
  go_loopw [5, 8] (fun u5 u8 wr => ∃ k : Nat, k ≤ l.length ∧ u8 = .int .i64 k ∧ (∀ i e, i < k → l[i]? = some e → p e = false) ∧ Bl W wr) (fun _ u8 _ => l.length - (intOf u8).toNat)
  case atStart => exact ⟨0, Nat.zero_le _, rfl, fun i e hi => by omega, Bl.refl W⟩
  case round =>
    obtain ⟨k, hk, rfl, hpre, hbl⟩ := hrel
    have HP : Hid (∀ i e, i < k → l[i]? = some e → p e = false) := hpre
    have HBR : Hid (Bl W wr) := hbl
    clear hpre hbl
    by_cases hlt : k < l.length
    · obtain ⟨t, ht⟩ : ∃ t, l[k]? = some t := ⟨l[k], List.getElem?_eq_getElem hlt⟩
      obtain ⟨b, off, rfl, hb, hr⟩ := HV.out.bl HBR.out k t ht
      have HR : Hid (wr.rangeAt b (off + k * 4) (lyR.f t)) := hr
      obtain ⟨q, hq⟩ : ∃ q, p t = q := ⟨_, rfl⟩
      have CN : Hid (Calls Try.prog f (#[.agg (lyR.f t).toArray] ++ caps) wr fun e w' => e = .returned (.bool q) ∧ Bl W w') := by
        show Calls _ _ _ _ _
        rw [← hq]
        refine (HF0.out wr t HBR.out).mono ?_
        rintro e w' ⟨rfl, hb'⟩
        exact ⟨rfl, HBR.out.step hb'⟩
      have HF : Hid (q = true → idxR p l = (k : Int)) := fun h => idxR_of HP.out ht (by rw [hq]; exact h)
      have HE : Hid (q = false → ∀ i e, i < k + 1 → l[i]? = some e → p e = false) := fun h i e hi he => by
        rcases (by omega : i < k ∨ i = k) with h' | rfl
        · exact HP.out i e h' he
        · rw [ht] at he; cases he; rw [hq]; exact h
      have hi : (Try.prog.info? 115).map (·.size) = some (lyR.f t).length := infoRu
      clear ht hq hr HF0 HV
      generalize lyR.f t = SL at *
      cases q
      · go_wp2_with (first
          | (refine wpList_load_mid rfl 115 _ rfl b (off + k * 4) rfl SL _ HR.out hum rfl hi ?_)
          | (go_at_fn f; refine CN.out.mono ?_; rintro e w' ⟨rfl, hy⟩))
        go_roundw
        case rel => exact ⟨k + 1, by omega, by go_num, HE.out trivial, hy⟩
        case measure => simp [intOf]; omega
      · go_wp2_with (first
          | (refine wpList_load_mid rfl 115 _ rfl b (off + k * 4) rfl SL _ HR.out hum rfl hi ?_)
          | (go_at_fn f; refine CN.out.mono ?_; rintro e w' ⟨rfl, hy⟩))
        go_ret
        exact ⟨by rw [HF.out trivial]; rfl, HB0.out.step hy⟩
    · obtain rfl : k = l.length := by omega
      have HF : Hid (idxR p l = -1) := idxR_none HP.out
      go_wp2_with fail
      go_ret
      exact ⟨by rw [HF.out]; rfl, HB0.out.step HBR.out⟩
theorem isTold_x (r : HU.Ru) (W : World) : Calls Try.prog 61 #[.agg (lyR.f r).toArray] W fun e w' => e = .returned (.bool (decide (r.2 < 1))) ∧ Bl W w' := by
  have HB : Hid (Bl W (W.alloc (.cells (lyR.f r).toArray 115))) := (Bl.refl W).alloc _
  obtain ⟨⟨n, i, s⟩, q⟩ := r
  unfold lyR at *
  simp only at *
  go_enter Try.func61, Try.ntmps61
  go_wp2_with fail
  go_ret
  exact ⟨rfl, HB.out⟩
theorem isNode_x (r : HU.Ru) (m : K.Me) (B : Nat) (W : World) (hB : B < W.heap.size) (hc : W.cell? ⟨B, 0, none⟩ = some (.int .i64 m.1)) : Calls Try.prog 71 (#[.agg (lyR.f r).toArray] ++ #[.pointer (some ⟨B, 0, none⟩)]) W fun e w' => e = .returned (.bool (r.1.1 == m.1)) ∧ Bl W w' := by
  have HB : Hid (Bl W (W.alloc (.cells (lyR.f r).toArray 115))) := (Bl.refl W).alloc _
  have hne : B ≠ W.heap.size := by omega
  show Calls Try.prog 71 #[.agg (lyR.f r).toArray, .pointer (some ⟨B, 0, none⟩)] W _
  obtain ⟨⟨n, i, s⟩, q⟩ := r
  unfold lyR at *
  simp only at *
  generalize m.1 = mm at *
  obtain ⟨z, hz⟩ : ∃ z, (n == mm) = z := ⟨_, rfl⟩
  rw [hz]
  go_enter Try.func71, Try.ntmps71
  go_wp2_with fail
  go_ret
  exact ⟨rfl, HB.out⟩
end Go.Proofs.Ytebmgajijjhinaa
