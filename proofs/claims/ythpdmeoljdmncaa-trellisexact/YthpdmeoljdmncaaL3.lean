/- Actions in memory; whether a build can be written. -/
import Derived.Test.YthpdmeoljdmncaaL2
import Derived.Deep.MidRow
namespace Go.Proofs.Ythpdmeoljdmncaa
open Go.RowKit
set_option linter.unusedVariables false

/-- an action's cells -/
def acL (t : RC.Ac) (x : Option Addr) (c : Nat) : List Value := [.string (M.bs t.1), .slice x t.2.1.length c, .string (M.bs t.2.2)]
theorem undAc : ∃ fs, Try.prog.underlying 41 = some (.struct fs) := ⟨_, Try.underlying41⟩
theorem infoAc (t : RC.Ac) (x : Option Addr) (c : Nat) : (Try.prog.info? 41).map (·.size) = some (acL t x c).length := by
  have : (Try.prog.info? 41).map (·.size) = some 3 := by kernel_rfl
  exact this
/-- actions in memory -/
def Acts (B : Nat) (w : World) (a : Option Addr) (l : List RC.Ac) : Prop := ∀ i t, l[i]? = some t → ∃ b off x c, a = some ⟨b, off, none⟩ ∧ b < B ∧ w.rangeAt b (off + i * 3) (acL t x c) ∧ Strs B w (.slice x t.2.1.length c) t.2.1
theorem Acts.below {B B' : Nat} {w w' : World} {a : Option Addr} {l : List RC.Ac} (h : Acts B w a l) (hb : Below B w w') (hB : B ≤ B') : Acts B' w' a l := by
  intro i t ht
  obtain ⟨b, off, x, c, h1, h2, h3, h4⟩ := h i t ht
  refine ⟨b, off, x, c, h1, by omega, fun j v hv => ?_, h4.below hb hB⟩
  rw [hb.cell (p := ⟨b, off + i * 3 + j, none⟩) h2]
  exact h3 j v hv
theorem Acts.bl {w0 w : World} {a : Option Addr} {l : List RC.Ac} (h : Acts w0.heap.size w0 a l) (hb : Bl w0 w) : Acts w.heap.size w a l := h.below hb (Below.size hb)
/-- an action's texts are no longer than a text can be -/
def acOk (t : RC.Ac) : Prop := t.1.length ≤ maxLen ∧ t.2.1.length ≤ maxLen ∧ (∀ s ∈ t.2.1, s.length ≤ maxLen) ∧ t.2.2.length ≤ maxLen

set_option maxHeartbeats 1000000 in
theorem canWriteAction_at (t : RC.Ac) (x : Option Addr) (c : Nat) {w W : World} (HB : Bl w W) (hv : Strs W.heap.size W (.slice x t.2.1.length c) t.2.1) (ht : acOk t) :
    Calls Try.prog 76 #[.agg (acL t x c).toArray] W fun e w' => e = .returned (.bool (RC.canA t)) ∧ Bl w w' := by
  obtain ⟨n, ins, code⟩ := t
  obtain ⟨h1, h2, h3, h4⟩ := ht
  simp only [] at h1 h2 h3 h4 hv
  have hbs := M.bs_size code
  have CI : Hid (∀ W', Calls Try.prog 89 #[.string (M.bs n)] W' fun e w' => e = .returned (.bool (RC.isNm n)) ∧ w' = W') := fun W' => IsName_at n W' h1
  have CA : Hid (∀ W', Bl W W' → Calls Try.prog 74 #[.slice x ins.length c] W' fun e w' => e = .returned (.bool (ins.all RC.isNm)) ∧ w' = W') := fun W' hW => areNames_at ins x c W' (Strs.sa (hv.bl hW)).2 h3 h2
  have HA : Hid (∀ o, Bl W (W.alloc o)) := fun o => (Bl.refl W).alloc o
  have HF : Hid (∀ o, Bl w (W.alloc o)) := fun o => HB.alloc o
  obtain ⟨q1, hq1⟩ : ∃ q, RC.isNm n = q := ⟨_, rfl⟩
  obtain ⟨q3, hq3⟩ : ∃ q, ins.all RC.isNm = q := ⟨_, rfl⟩
  have hca : RC.canA (n, ins, code) = (q1 && decide (ins.length ≤ 4) && q3 && decide (code.length ≤ 64)) := by
    simp only [RC.canA, hq1, hq3]
  rw [hq1] at CI
  rw [hq3] at CA
  rw [hca]
  unfold maxLen at h2 h4
  clear hv HB hq1 hq3 hca h1 h3
  unfold acL
  simp only []
  by_cases h5 : ins.length ≤ 4 <;> by_cases h6 : code.length ≤ 64 <;> cases q1 <;> cases q3
  all_goals
    have h5' : decide (ins.length ≤ 4) = decide ((ins.length : Int) ≤ 4) := by simp; omega
    have h6' : decide (code.length ≤ 64) = decide ((code.length : Int) ≤ 64) := by simp; omega
    rw [h5', h6']
    clear h5' h6'
    have h7 : ((ins.length : Int) ≤ 4) ∨ ¬ ((ins.length : Int) ≤ 4) := by omega
    go_enter Try.func76, Try.ntmps76
    go_wp2_with (first
      | (go_at_call 89; refine (CI.out _).mono ?_; rintro e w' ⟨rfl, rfl⟩)
      | (go_at_call 74; refine (CA.out _ (HA.out _)).mono ?_; rintro e w' ⟨rfl, rfl⟩))
    go_ret
    exact ⟨by first | rfl | (simp_all; done) | (simp_all; omega), HF.out _⟩

set_option maxHeartbeats 1000000 in
theorem notWrite_at (t : RC.Ac) (x : Option Addr) (c : Nat) {w W : World} (HB : Bl w W) (hv : Strs W.heap.size W (.slice x t.2.1.length c) t.2.1) (ht : acOk t) :
    Calls Try.prog 75 #[.agg (acL t x c).toArray] W fun e w' => e = .returned (.bool (!RC.canA t)) ∧ Bl w w' := by
  have CW : Hid (∀ o, Calls Try.prog 76 #[.agg (acL t x c).toArray] (W.alloc o) fun e w' => e = .returned (.bool (RC.canA t)) ∧ Bl w w') := fun o =>
    canWriteAction_at t x c (HB.alloc o) (hv.bl ((Bl.refl W).alloc o)) ht
  obtain ⟨q, hq⟩ : ∃ q, RC.canA t = q := ⟨_, rfl⟩
  rw [hq] at CW ⊢
  clear hv HB ht hq
  unfold acL at CW ⊢
  go_enter Try.func75, Try.ntmps75
  go_wp2_with (go_at_call 76; refine (CW.out _).mono ?_; rintro e w' ⟨rfl, HB⟩)
  go_ret
  exact ⟨rfl, HB⟩

set_option maxRecDepth 8000 in
set_option maxHeartbeats 1000000 in
theorem IndexA_x (l : List RC.Ac) (a : Option Addr) (c : Nat) {w W : World} (HB : Bl w W) (hv : Acts W.heap.size W a l) (hl : ∀ t ∈ l, acOk t) (hn : l.length ≤ maxLen) :
    Calls Try.prog 27 #[.slice a l.length c, .func (.func 75) #[] #[]] W fun e w' => e = .returned (.int .i64 (idxI (fun s => !RC.canA s) l)) ∧ Bl w w' := by
  have HV : Hid (Acts W.heap.size W a l) := hv
  have HL : Hid (∀ t ∈ l, acOk t) := hl
  have HB0 : Hid (Bl w W) := HB
  obtain ⟨fs, hum⟩ := undAc
  clear hv hl HB
  unfold maxLen at hn
  go_enter Try.func27, Try.ntmps27
  go_wp2_with fail
  go_loopw [5, 8] (fun u5 u8 wr => ∃ k : Nat, k ≤ l.length ∧ u8 = .int .i64 k ∧ (∀ i e, i < k → l[i]? = some e → (!RC.canA e) = false) ∧ Bl W wr) (fun _ u8 _ => l.length - (intOf u8).toNat)
  case atStart => exact ⟨0, Nat.zero_le _, rfl, fun i e hi => by omega, Bl.refl W⟩
  case round =>
    obtain ⟨k, hk, rfl, hpre, hbl⟩ := hrel
    have HP : Hid (∀ i e, i < k → l[i]? = some e → (!RC.canA e) = false) := hpre
    have HBR : Hid (Bl W wr) := hbl
    clear hpre hbl
    by_cases hlt : k < l.length
    · obtain ⟨t, ht⟩ : ∃ t, l[k]? = some t := ⟨l[k], List.getElem?_eq_getElem hlt⟩
      obtain ⟨b, off, x, c2, rfl, hb, hr, hs⟩ := HV.out.bl HBR.out k t ht
      have htl := HL.out t (List.mem_of_getElem? ht)
      have HR : Hid (wr.rangeAt b (off + k * 3) (acL t x c2)) := hr
      obtain ⟨q, hq⟩ : ∃ q, (!RC.canA t) = q := ⟨_, rfl⟩
      have CN : Hid (Calls Try.prog 75 #[.agg (acL t x c2).toArray] wr fun e w' => e = .returned (.bool q) ∧ Bl W w') := by
        show Calls _ _ _ _ _
        rw [← hq]; exact notWrite_at t x c2 HBR.out hs htl
      have HF : Hid (q = true → idxI (fun s => !RC.canA s) l = (k : Int)) := fun h => idxI_of HP.out ht (by rw [hq]; exact h)
      have HE : Hid (q = false → ∀ i e, i < k + 1 → l[i]? = some e → (!RC.canA e) = false) := fun h i e hi he => by
        rcases (by omega : i < k ∨ i = k) with h' | rfl
        · exact HP.out i e h' he
        · rw [ht] at he; cases he; rw [hq]; exact h
      have hi := infoAc t x c2
      clear ht hq htl hr hs
      generalize acL t x c2 = SL at *
      cases q
      · go_wp2_with (first
          | (refine wpList_load_mid rfl 41 _ rfl b (off + k * 3) rfl SL _ HR.out hum rfl hi ?_)
          | (go_at_call 75; refine CN.out.mono ?_; rintro e w' ⟨rfl, hy⟩))
        go_roundw
        case rel => exact ⟨k + 1, by omega, by go_num, HE.out trivial, hy⟩
        case measure => simp [intOf]; omega
      · go_wp2_with (first
          | (refine wpList_load_mid rfl 41 _ rfl b (off + k * 3) rfl SL _ HR.out hum rfl hi ?_)
          | (go_at_call 75; refine CN.out.mono ?_; rintro e w' ⟨rfl, hy⟩))
        go_ret
        exact ⟨by rw [HF.out trivial]; rfl, HB0.out.step hy⟩
    · obtain rfl : k = l.length := by omega
      have HF : Hid (idxI (fun s => !RC.canA s) l = -1) := idxI_none HP.out
      go_wp2_with fail
      go_ret
      exact ⟨by rw [HF.out]; rfl, HB0.out.step HBR.out⟩
theorem ContainsA_x (l : List RC.Ac) (a : Option Addr) (c : Nat) {w W : World} (HB : Bl w W) (hv : Acts W.heap.size W a l) (hl : ∀ t ∈ l, acOk t) (hn : l.length ≤ maxLen) :
    Calls Try.prog 42 #[.slice a l.length c, .func (.func 75) #[] #[]] W fun e w' => e = .returned (.bool (l.any fun s => !RC.canA s)) ∧ Bl w w' := by
  obtain ⟨i, hi⟩ : ∃ i, idxI (fun s => !RC.canA s) l = i := ⟨_, rfl⟩
  have CI : Hid (Calls Try.prog 27 #[.slice a l.length c, .func (.func 75) #[] #[]] W fun e w' => e = .returned (.int .i64 i) ∧ Bl w w') := by
    show Calls _ _ _ _ _
    rw [← hi]; exact IndexA_x l a c HB hv hl hn
  have HA : Hid (decide (0 ≤ i) = l.any fun s => !RC.canA s) := by show _ = _; rw [← hi]; exact idxI_any _ l
  clear hi HB hv
  go_enter Try.func42, Try.ntmps42
  go_wp2_with (go_at_call 27; refine CI.out.mono ?_; rintro e w' ⟨rfl, HB⟩)
  go_ret
  exact ⟨by rw [← HA.out]; rfl, HB⟩

/-- a build in memory -/
structure GA (B : Nat) (w : World) (g : RC.Gr) (sa : Option Addr) (sc : Nat) (aa : Option Addr) (ac : Nat) : Prop where
  s : Strs B w (.slice sa g.1.length sc) g.1
  a : Acts B w aa g.2
theorem GA.below {B B' : Nat} {w w' : World} {g : RC.Gr} {sa : Option Addr} {sc : Nat} {aa : Option Addr} {ac : Nat} (h : GA B w g sa sc aa ac) (hb : Below B w w') (hB : B ≤ B') : GA B' w' g sa sc aa ac := ⟨h.s.below hb hB, h.a.below hb hB⟩
theorem GA.bl {w0 w : World} {g : RC.Gr} {sa : Option Addr} {sc : Nat} {aa : Option Addr} {ac : Nat} (h : GA w0.heap.size w0 g sa sc aa ac) (hb : Bl w0 w) : GA w.heap.size w g sa sc aa ac := h.below hb (Below.size hb)
/-- a build's value -/
def gv (g : RC.Gr) (sa : Option Addr) (sc : Nat) (aa : Option Addr) (ac : Nat) : Array Value := #[.slice sa g.1.length sc, .slice aa g.2.length ac]
structure grOk (g : RC.Gr) : Prop where
  s : g.1.length ≤ maxLen
  t : ∀ s ∈ g.1, s.length ≤ maxLen
  a : g.2.length ≤ maxLen
  b : ∀ t ∈ g.2, acOk t
theorem all_any {α : Type} (p : α → Bool) (l : List α) (q : Bool) (h : (l.any fun s => !p s) = q) : l.all p = !q := by rw [← h, any_all]

set_option maxHeartbeats 1000000 in
theorem canBeWritten_at (g : RC.Gr) (sa : Option Addr) (sc : Nat) (aa : Option Addr) (ac : Nat) {w W : World} (HB : Bl w W) (hg : GA W.heap.size W g sa sc aa ac) (hk : grOk g) :
    Calls Try.prog 51 #[.agg (gv g sa sc aa ac)] W fun e w' => e = .returned (.bool (RC.can g)) ∧ Bl w w' := by
  obtain ⟨S, A⟩ := g
  obtain ⟨k1, k2, k3, k4⟩ := hk
  simp only [] at k1 k2 k3 k4
  have CA : Hid (∀ W', Bl W W' → Calls Try.prog 74 #[.slice sa S.length sc] W' fun e w' => e = .returned (.bool (S.all RC.isNm)) ∧ w' = W') := fun W' hW => areNames_at S sa sc W' (Strs.sa (hg.s.bl hW)).2 k2 k1
  have CC : Hid (∀ W', Bl W W' → Calls Try.prog 42 #[.slice aa A.length ac, .func (.func 75) #[] #[]] W' fun e w' => e = .returned (.bool (A.any fun s => !RC.canA s)) ∧ Bl w w') := fun W' hW => ContainsA_x A aa ac (HB.step hW) (hg.a.bl hW) k4 k3
  have HA : Hid (∀ o, Bl W (W.alloc o)) := fun o => (Bl.refl W).alloc o
  have HF : Hid (∀ o, Bl w (W.alloc o)) := fun o => HB.alloc o
  obtain ⟨q1, hq1⟩ : ∃ q, S.all RC.isNm = q := ⟨_, rfl⟩
  obtain ⟨q3, hq3⟩ : ∃ q, (A.any fun s => !RC.canA s) = q := ⟨_, rfl⟩
  have hca : RC.can (S, A) = (decide (S.length ≤ 8) && decide (A.length ≤ 12) && q1 && !q3) := by
    simp only [RC.can, hq1, all_any _ _ _ hq3]
  rw [hq1] at CA
  rw [hq3] at CC
  rw [hca]
  unfold maxLen at k1 k3
  clear hg HB hq1 hq3 hca k2 k4
  unfold gv
  simp only []
  by_cases h5 : S.length ≤ 8 <;> by_cases h6 : A.length ≤ 12 <;> cases q1 <;> cases q3
  all_goals
    have h7 : ((S.length : Int) ≤ 8) ∨ ¬ ((S.length : Int) ≤ 8) := by omega
    go_enter Try.func51, Try.ntmps51
    go_wp2_with (first
      | (go_at_call 74; refine (CA.out _ (HA.out _)).mono ?_; rintro e w' ⟨rfl, rfl⟩)
      | (go_at_call 42; refine (CC.out _ (HA.out _)).mono ?_; rintro e w' ⟨rfl, HX⟩))
    go_ret
    exact ⟨by first | rfl | (simp_all; done) | (simp_all; omega), by first | exact HX | exact HF.out _⟩
end Go.Proofs.Ythpdmeoljdmncaa
