/- trellis: isReady whole, arrange, allNames. -/
import Derived.Test.YthpdmeoljdmncaaZ5
namespace Go.Proofs.Ythpdmeoljdmncaa
open Go.RowKit
set_option linter.unusedVariables false
set_option linter.unusedSimpArgs false

theorem isReady_x {w W : World} {b : Nat} {g : RC.Gr} {sa aa : Option Addr} {sc ac : Nat} {vn vo : Value} {st : TR.St} (h : KX w b g sa sc aa ac vn vo st W) (t : RC.Ac) (x : Option Addr) (c : Nat) (hv : Strs W.heap.size W (.slice x t.2.1.length c) t.2.1) (hn : t.2.1.length ≤ maxLen) :
    Calls Try.prog 60 #[.pointer (some ⟨b, 0, none⟩), .agg (acL t x c).toArray] W fun e w' => e = .returned (.bool (TR.ready g st.there t)) ∧ Bl W w' := by
  cases hq : decide (TR.setOf (TR.nm g) [t.1] &&& st.there = 0) with
  | false =>
    have e : TR.ready g st.there t = false := by unfold TR.ready; rw [hq]; rfl
    rw [e]; exact isReady_no h t x c hv hn hq
  | true =>
    have e : TR.ready g st.there t = TR.sub (TR.setOf (TR.nm g) t.2.1) st.there := by unfold TR.ready; rw [hq]; rfl
    rw [e]; exact isReady_yes h t x c hv hn hq
theorem indexReady {w W : World} {b : Nat} {g : RC.Gr} {sa aa : Option Addr} {sc ac : Nat} {vn vo : Value} {st : TR.St} (h : KX w b g sa sc aa ac vn vo st W) :
    Calls Try.prog 27 #[.slice aa g.2.length ac, .func (.func 60) #[.pointer (some ⟨b, 0, none⟩)] #[]] W fun e w' => e = .returned (.int .i64 (idxI (TR.ready g st.there) g.2)) ∧ Bl W w' :=
  IndexA_b _ _ (TR.ready g st.there) g.2 aa ac (Bl.refl W) (enters_of Try.func60 (by kernel_rfl) rfl) h.gaW.a h.v.gk.a (fun W' t x c ht hb hs => isReady_x (h.step hb) t x c hs (h.v.gk.b t ht).2.1)
theorem containsMiss {w W : World} {b : Nat} {g : RC.Gr} {sa aa : Option Addr} {sc ac : Nat} {vn vo : Value} {st : TR.St} (h : KX w b g sa sc aa ac vn vo st W) :
    Calls Try.prog 42 #[.slice aa g.2.length ac, .func (.func 43) #[.pointer (some ⟨b, 0, none⟩)] #[]] W fun e w' => e = .returned (.bool (TR.miss g)) ∧ Bl W w' :=
  ContainsA_b _ _ (TR.missA (TR.nm g)) g.2 aa ac (IndexA_b _ _ (TR.missA (TR.nm g)) g.2 aa ac (Bl.refl W) (enters_of Try.func43 (by kernel_rfl) rfl) h.gaW.a h.v.gk.a (fun W' t x c ht hb hs => misses_at (h.step hb) t x c hs (h.v.gk.b t ht).2.1))

/-- what arrange leaves behind -/
def ArrP (w : World) (b : Nat) (g : RC.Gr) (sa : Option Addr) (sc : Nat) (aa : Option Addr) (ac : Nat) (vn : Value) (e : Ending) (w' : World) : Prop :=
  (TR.arr g g.2.length (TR.st0 g) = none ∧ e = .returned (.bool false) ∧ Bl w w') ∨ (∃ st vo, TR.arr g g.2.length (TR.st0 g) = some st ∧ e = .returned (.bool true) ∧ KX w b g sa sc aa ac vn vo st w')
theorem arr_step (g : RC.Gr) (n : Nat) (st : TR.St) : TR.arr g (n + 1) st = match g.2.findIdx? (TR.ready g st.there) with | none => none | some p => TR.arr g n (TR.take g st p) := rfl

set_option maxRecDepth 8000 in
set_option maxHeartbeats 2000000 in
theorem arrange_x {w W : World} {b : Nat} {g : RC.Gr} {sa aa : Option Addr} {sc ac : Nat} {vn vo : Value} (h : KX w b g sa sc aa ac vn vo ⟨0, [], List.replicate 12 0⟩ W) :
    Calls Try.prog 44 #[.pointer (some ⟨b, 0, none⟩)] W (ArrP w b g sa sc aa ac vn) := by
  have h0 := h.c0
  have h1 := h.c1
  have h3 := h.c3
  have f3 := h.fz 3
  have hb := h.lt
  have hl2 := h.v.l2
  have C1 : Hid (Calls Try.prog 33 #[.pointer (some ⟨b, 0, none⟩), .slice sa g.1.length sc] W fun e w' => e = .returned (su (TR.setOf (TR.nm g) g.1)) ∧ w' = W) :=
    setOf_at h g.1 sa sc (Strs.sa h.gaW.s).2 h.v.gk.s
  have K1 := h.setT (TR.setOf (TR.nm g) g.1) (h.v.set_lt _)
  have HK1 : Hid (KX w b g sa sc aa ac vn vo (TR.st0 g) (W.setCell ⟨b, 3, none⟩ (su (TR.setOf (TR.nm g) g.1)))) := K1
  have h1' := K1.c1
  have hb' := K1.lt
  have HARR : Hid (ArrP w b g sa sc aa ac vn = fun e w' => (TR.arr g g.2.length (TR.st0 g) = none ∧ e = .returned (.bool false) ∧ Bl w w') ∨ (∃ st vo, TR.arr g g.2.length (TR.st0 g) = some st ∧ e = .returned (.bool true) ∧ KX w b g sa sc aa ac vn vo st w')) := rfl
  clear h K1
  generalize ArrP w b g sa sc aa ac vn = PP at *
  simp only [] at h3
  go_enter Try.func44, Try.ntmps44
  go_wp2_with (go_at_call 33; refine C1.out.mono ?_; clear C1; rintro e w' ⟨rfl, hw'⟩; rw [hw']; clear hw' w')
  generalize W.setCell ⟨b, 3, none⟩ (su (TR.setOf (TR.nm g) g.1)) = W1 at *
  clear h0 h1 h3 f3 hb
  go_loopw [3, 20] (fun u3 u20 wr => ∃ k : Nat, k ≤ g.2.length ∧ u20 = .int .i64 k ∧ ∃ st vo, KX w b g sa sc aa ac vn vo st wr ∧ st.order.length = k ∧ TR.arr g (g.2.length - k) st = TR.arr g g.2.length (TR.st0 g)) (fun _ u20 _ => g.2.length - (intOf u20).toNat)
  case atStart => exact ⟨0, Nat.zero_le _, rfl, _, _, HK1.out, rfl, rfl⟩
  case round =>
    obtain ⟨k, hk, rfl, st, vo', hx, hol, harr⟩ := hrel
    have HX : Hid (KX w b g sa sc aa ac vn vo' st wr) := hx
    have HA : Hid (TR.arr g (g.2.length - k) st = TR.arr g g.2.length (TR.st0 g)) := harr
    have hc1 := hx.c1
    have hbw := hx.lt
    clear hx harr HK1 h1' hb'
    by_cases hlt : k < g.2.length
    · have CI := indexReady HX.out
      have hs := arr_step g (g.2.length - (k + 1)) st
      rw [show g.2.length - (k + 1) + 1 = g.2.length - k by omega, HA.out] at hs
      cases hf : g.2.findIdx? (TR.ready g st.there) with
      | none =>
        rw [hf] at hs
        have CI2 : Hid (Calls Try.prog 27 #[.slice aa g.2.length ac, .func (.func 60) #[.pointer (some ⟨b, 0, none⟩)] #[]] wr fun e w' => e = .returned (.int .i64 (-1)) ∧ Bl wr w') := by
          have e : idxI (TR.ready g st.there) g.2 = -1 := by unfold idxI; rw [hf]
          rw [e] at CI; exact CI
        have HS : Hid (TR.arr g g.2.length (TR.st0 g) = none) := hs
        clear CI hs hf HA
        go_wp2_with (go_at_call 27; refine CI2.out.mono ?_; clear CI2; rintro e w' ⟨rfl, HB⟩)
        rw [HARR.out]
        exact Or.inl ⟨HS.out, rfl, HX.out.v.bl.step HB⟩
      | some p =>
        rw [hf] at hs
        have hp : p < g.2.length := (List.findIdx?_eq_some_iff_getElem.1 hf).1
        have CI2 : Hid (Calls Try.prog 27 #[.slice aa g.2.length ac, .func (.func 60) #[.pointer (some ⟨b, 0, none⟩)] #[]] wr fun e w' => e = .returned (.int .i64 (p : Int)) ∧ Bl wr w') := by
          have e : idxI (TR.ready g st.there) g.2 = (p : Int) := by unfold idxI; rw [hf]
          rw [e] at CI; exact CI
        have CT : Hid (∀ w2, Bl wr w2 → Calls Try.prog 61 #[.pointer (some ⟨b, 0, none⟩), .int .i64 (p : Int)] w2 fun e w' => e = .returned (.tuple #[]) ∧ ∃ vo', KX w b g sa sc aa ac vn vo' (TR.take g st p) w') := fun w2 hw2 => take_x (HX.out.step hw2) p hp (by omega)
        have HS : Hid (TR.arr g (g.2.length - (k + 1)) (TR.take g st p) = TR.arr g g.2.length (TR.st0 g)) := hs.symm
        have HOL : Hid ((TR.take g st p).order.length = k + 1) := by show _ = _; simp [TR.take, hol]
        clear CI hs hf HA hol
        go_wp2_with (first
          | (go_at_call 27; refine CI2.out.mono ?_; clear CI2; rintro e w' ⟨rfl, HB⟩)
          | (go_at_call 61; refine (CT.out _ HB).mono ?_; clear CT HB; rintro e w' ⟨rfl, vo2, HX2⟩))
        go_roundw
        case rel => exact ⟨k + 1, by omega, by go_num, _, _, HX2, HOL.out, HS.out⟩
        case measure => simp [intOf]; omega
    · obtain rfl : k = g.2.length := by omega
      have HS : Hid (TR.arr g g.2.length (TR.st0 g) = some st) := by
        show _ = _
        rw [← HA.out, Nat.sub_self]; rfl
      clear HA
      go_wp2_with fail
      rw [HARR.out]
      exact Or.inr ⟨_, _, HS.out, rfl, HX.out⟩

theorem Clone_x (l : List (List UInt8)) (a : Option Addr) (c : Nat) (W : World) (hv : TA.TS W a l) (hn : l.length ≤ 100000) :
    Calls Try.prog 56 #[.slice a l.length c] W fun e w' => ∃ v, e = .returned v ∧ w'.ownsRow W.heap.size 9 1 v l.length (l.map encS) ∧ Bl W w' := by
  cases l with
  | nil =>
    cases a with
    | none =>
      refine (Try.slices_Clone_string_nil 0 c W).mono ?_
      rintro e w' ⟨rfl, rfl⟩
      exact ⟨_, rfl, ⟨rfl, Or.inl ⟨rfl, rfl⟩⟩, Bl.refl _⟩
    | some ad =>
      refine (Try.slices_Clone_string_zero ad c W).mono ?_
      rintro e w' ⟨v, rfl, h1, _, h2⟩
      exact ⟨v, rfl, h1, h2⟩
  | cons t r =>
    obtain ⟨b, off, rfl, hb, _⟩ := hv 0 t rfl
    refine (cloneS b off c (t :: r) (Bl.refl W) (fun i u hu => ?_) hn).mono ?_
    · obtain ⟨b2, off2, e, _, hc⟩ := hv i u hu
      cases e; exact hc
    · rintro e w' ⟨a', c', rfl, h1, h2⟩
      exact ⟨_, rfl, h1, h2⟩

def nmT (g : RC.Gr) (k : Nat) : List (List UInt8) := g.1 ++ (g.2.take k).map (·.1)
theorem nmT_succ (g : RC.Gr) (k : Nat) (t : RC.Ac) (h : g.2[k]? = some t) : nmT g (k + 1) = nmT g k ++ [t.1] := by
  unfold nmT; rw [List.take_add_one, h]; simp
theorem nmT_all (g : RC.Gr) : nmT g g.2.length = TR.nm g := by unfold nmT TR.nm; rw [List.take_length]
set_option maxRecDepth 8000 in
set_option maxHeartbeats 2000000 in
theorem allNames_x (g : RC.Gr) (sa : Option Addr) (sc : Nat) (aa : Option Addr) (ac : Nat) (W : World) (hg : GA W.heap.size W g sa sc aa ac) (h1 : g.1.length ≤ 8) (h2 : g.2.length ≤ 12) :
    Calls Try.prog 40 #[.agg (gv g sa sc aa ac)] W fun e w' => ∃ v, e = .returned v ∧ w'.ownsRow W.heap.size 9 1 v (TR.nm g).length ((TR.nm g).map encS) ∧ Bl W w' := by
  have CC : Hid (∀ o, Calls Try.prog 56 #[.slice sa g.1.length sc] (W.alloc o) fun e w' => ∃ v, e = .returned v ∧ w'.ownsRow W.heap.size 9 1 v (nmT g 0).length ((nmT g 0).map encS) ∧ Bl (W.alloc o) w') := fun o => by
    refine (Clone_x g.1 sa sc (W.alloc o) (TA.ts_of (hg.s.bl ((Bl.refl W).alloc o))) (by omega)).mono ?_
    rintro e w' ⟨v, rfl, h3, h4⟩
    refine ⟨v, rfl, ?_, h4⟩
    have e0 : nmT g 0 = g.1 := by simp [nmT]
    rw [e0]
    exact ownsRow_base h3 (by simp)
  have HG : Hid (∀ W', Bl W W' → Acts W'.heap.size W' aa g.2) := fun W' hb => hg.a.bl hb
  have C1 : Hid (∀ T w1, Bl (W.alloc (.cells #[.slice sa g.1.length sc, .slice aa g.2.length ac] T)) w1 → W.heap.size < w1.heap.size ∧ w1.cell? ⟨W.heap.size, 1, none⟩ = some (.slice aa g.2.length ac) ∧ Bl W w1) := fun T w1 h => by
    have hz : W.heap.size < (W.alloc (.cells #[.slice sa g.1.length sc, .slice aa g.2.length ac] T)).heap.size := by simp
    refine ⟨Nat.lt_of_lt_of_le hz (Below.size h), ?_, ((Bl.refl W).alloc _).step h⟩
    rw [h.cell hz, Lib.cell_of_heap (heap_alloc_new W _)]; rfl
  have HALL : Hid (nmT g g.2.length = TR.nm g) := nmT_all g
  have HLE : Hid (∀ k, k ≤ g.2.length → (nmT g k).length ≤ 20) := fun k hk => by simp [nmT]; omega
  obtain ⟨fs, hum⟩ := undAc
  clear hg
  unfold gv
  go_enter Try.func40, Try.ntmps40
  go_wp2_with (go_at_call 56; refine (CC.out _).mono ?_; clear CC; rintro e w1 ⟨v0, rfl, ho0, hb0⟩; obtain ⟨hx1, hx2, HB1⟩ := C1.out _ _ hb0; clear C1 hb0)
  have HO0 : Hid (w1.ownsRow W.heap.size 9 1 v0 (nmT g 0).length ((nmT g 0).map encS)) := ho0
  have HB0 : Hid (Bl W w1) := HB1
  clear ho0 HB1 hx1 hx2
  go_loopw [3, 5, 12] (fun u3 u5 u12 wr => ∃ k : Nat, k ≤ g.2.length ∧ u12 = .int .i64 k ∧ wr.ownsRow W.heap.size 9 1 u3 (nmT g k).length ((nmT g k).map encS) ∧ Bl W wr) (fun _ _ u12 _ => g.2.length - (intOf u12).toNat)
  case atStart => exact ⟨0, Nat.zero_le _, rfl, HO0.out, HB0.out⟩
  case round =>
    obtain ⟨k, hk, rfl, ho, hb⟩ := hrel
    have HO : Hid (wr.ownsRow W.heap.size 9 1 u3 (nmT g k).length ((nmT g k).map encS)) := ho
    have HB : Hid (Bl W wr) := hb
    clear ho hb HO0 HB0
    by_cases hlt : k < g.2.length
    · obtain ⟨t, ht⟩ : ∃ t, g.2[k]? = some t := ⟨g.2[k], List.getElem?_eq_getElem hlt⟩
      obtain ⟨b, off, x, c, rfl, hab, hr, hs⟩ := HG.out _ HB.out k t ht
      have hnm := nmT_succ g k t ht
      have hle := HLE.out k (by omega)
      have hi := infoAc t x c
      have HR : Hid (wr.rangeAt b (off + k * 3) (acL t x c)) := hr
      obtain ⟨n, ins, code⟩ := t
      simp only [] at hnm
      have OWN : Hid (∀ o, ((wr.alloc o).alloc (.cells #[.string (M.bs n)] 9)).ownsRow W.heap.size 9 1 u3 (nmT g k).length ((nmT g k).map encS)) := fun o => ownsRow_belowT HO.out (((Bl.refl wr).alloc o).alloc _)
      have NEW : Hid (∀ o, TA.TS ((wr.alloc o).alloc (.cells #[.string (M.bs n)] 9)) (some ⟨wr.heap.size + 1, 0, none⟩) [n]) := fun o => by
        have := TA.ts_new (wr.alloc o) [n] 9
        simpa [encS] using this
      have hsz : ∀ o, W.heap.size ≤ ((wr.alloc o).alloc (.cells #[.string (M.bs n)] 9)).heap.size := fun o => by
        have := Below.size HB.out
        simp; omega
      have FIN : Hid (∀ o v' w8, w8.ownsRow W.heap.size 9 1 v' (nmT g k ++ [n]).length ((nmT g k ++ [n]).map encS) → ((wr.alloc o).alloc (.cells #[.string (M.bs n)] 9)).grownBy w8 u3.ownBlock → w8.ownsRow W.heap.size 9 1 v' (nmT g (k + 1)).length ((nmT g (k + 1)).map encS) ∧ Bl W w8) := fun o v' w8 h3 h4 => by
        rw [hnm]
        refine ⟨h3, Below.grown ((HB.out.alloc o).alloc _) h4 (hsz o) (fun q hq => (TA.owns_ge HO.out hq).1)⟩
      clear ht hr hs hnm HO
      unfold acL at hi HR
      simp only [] at hi HR
      go_wp2_with (first
        | (refine wpList_load_mid rfl 41 _ rfl b (off + k * 3) rfl _ _ HR.out hum rfl hi ?_; clear HR)
        | (refine TA.wl_app rfl _ _ rfl W.heap.size (nmT g k) u3 rfl (OWN.out _) (some ⟨wr.heap.size + 1, 0, none⟩) [n] 1 1 rfl rfl (NEW.out _) (hsz _) (by simp; omega) (fun v' w8 ho8 hg8 => ?_); obtain ⟨HO8, HB8⟩ := FIN.out _ _ _ ho8 hg8; clear FIN OWN NEW ho8 hg8))
      go_roundw
      case rel => exact ⟨k + 1, by omega, by go_num, HO8, HB8⟩
      case measure => simp [intOf]; omega
    · obtain rfl : k = g.2.length := by omega
      go_wp2_with fail
      go_ret
      exact ⟨_, rfl, by rw [← HALL.out]; exact HO.out, HB.out⟩
end Go.Proofs.Ythpdmeoljdmncaa
