/- The texts HgL HgQ HgT as one. -/
import Derived.Test.YtfbjakhanjbaeaaDoorHq6
import Derived.Test.YtfbjakhanjbaeaaDoorHq1
import Derived.Test.YtfbjakhanjbaeaaDoorHq5
import Derived.Test.YtfbjakhanjbaeaaDoorHq2
/- Records on lists: their order, as they stand. -/
namespace Go.Proofs.YtfbjakhanjbaeaaDoor
open Go.RowKit
set_option linter.unusedVariables false
set_option linter.unusedSimpArgs false
theorem ltB_asym : ∀ (a b : List UInt8), ltB a b = true → ltB b a = false
  | [], _, h => by simp [ltB] at h
  | _ :: _, [], h => by simp [ltB] at h
  | x :: a, y :: b, h => by
    by_cases e : x = y
    · subst e; simp only [ltB, if_true] at h ⊢; exact ltB_asym a b h
    · simp only [ltB, e, if_false, Ne.symm e, decide_eq_true_eq, decide_eq_false_iff_not] at h ⊢; omega
theorem ltB_neg : ∀ (a b c : List UInt8), a.length = b.length → b.length = c.length → ltB a b = false → ltB b c = false → ltB a c = false
  | [], _, _, _, _, _, _ => by simp [ltB]
  | _ :: _, _, [], _, _, _, _ => by simp [ltB]
  | _ :: _, [], _ :: _, h, _, _, _ => by simp at h
  | x :: a, y :: b, z :: c, h1, h2, h3, h4 => by
    have hx : ∀ u v : UInt8, u ≠ v → u.toNat ≠ v.toNat := fun u v h e => h (UInt8.toNat_inj.1 e)
    by_cases e1 : x = y
    · subst e1
      simp only [ltB, if_true] at h3
      by_cases e2 : x = z
      · subst e2
        simp only [ltB, if_true] at h4 ⊢
        exact ltB_neg a b c (by simpa using h1) (by simpa using h2) h3 h4
      · simp only [ltB, e2, if_false] at h4 ⊢; exact h4
    · simp only [ltB, e1, if_false, decide_eq_false_iff_not] at h3
      have n1 := hx x y e1
      by_cases e2 : y = z
      · subst e2
        simp only [ltB, e1, if_false, decide_eq_false_iff_not]; exact h3
      · simp only [ltB, e2, if_false, decide_eq_false_iff_not] at h4
        have n2 := hx y z e2
        have e3 : x ≠ z := fun e => by subst e; omega
        simp only [ltB, e3, if_false, decide_eq_false_iff_not]; omega
theorem ltB_tot : ∀ (a b : List UInt8), a.length = b.length → ltB a b = false → ltB b a = false → a = b
  | [], [], _, _, _ => rfl
  | [], _ :: _, h, _, _ => by simp at h
  | _ :: _, [], h, _, _ => by simp at h
  | x :: a, y :: b, h, h1, h2 => by
    by_cases e : x = y
    · subst e
      simp only [ltB, if_true] at h1 h2
      rw [ltB_tot a b (by simpa using h) h1 h2]
    · simp only [ltB, e, if_false, Ne.symm e, decide_eq_false_iff_not] at h1 h2
      exact absurd (UInt8.toNat_inj.1 (by omega)) e
namespace HG
def lt (x y : R) : Bool := ltB x.k y.k
def eqK (x y : R) : Bool := decide (x.k = y.k)
theorem wk : SS.Wk lt := ⟨fun x y h => ltB_asym _ _ h, fun x y z h1 h2 => ltB_neg _ _ _ (by rw [x.hk, y.hk]) (by rw [y.hk, z.hk]) h1 h2⟩
/-- records as they stand -/
def srt (l : List R) : List R := SS.cpa eqK (SS.iso lt l)
/-- the rising lists, one of each key -/
abbrev Rise (l : List R) : Prop := l.Pairwise fun x y => lt x y = true
theorem lt_ne {x y : R} (h : lt x y = true) : x.k ≠ y.k := fun e => by
  unfold lt at h; rw [e, ltB_self] at h; cases h
theorem eq_of {x y : R} (h1 : lt x y = false) (h2 : lt y x = false) : x.k = y.k := ltB_tot _ _ (by rw [x.hk, y.hk]) h1 h2
theorem go_spec (p : R) (l : List R) (h : SS.Sd lt (p :: l)) : Rise (p :: SS.cpa.go eqK p l) ∧ (∀ z, z ∈ p :: SS.cpa.go eqK p l ↔ (p :: l).find? (fun u => decide (u.k = z.k)) = some z) := by
  induction l generalizing p with
  | nil =>
    refine ⟨List.pairwise_singleton _ _, fun z => ?_⟩
    simp only [SS.cpa.go, List.mem_singleton, List.find?_cons, List.find?_nil]
    by_cases e : p.k = z.k
    · simp only [e, decide_true]; exact ⟨fun h => by rw [h], fun h => (Option.some.inj h).symm⟩
    · simp only [e, decide_false]; exact ⟨fun h => absurd (by rw [h]) e, fun h => by cases h⟩
  | cons y l ih =>
    have hp := List.pairwise_cons.1 h
    have hy := hp.1 y (by simp)
    obtain ⟨i1, i2⟩ := ih y hp.2
    have j1 := List.pairwise_cons.1 i1
    by_cases e : eqK y p = true
    · have ek : y.k = p.k := of_decide_eq_true e
      rw [SS.cpa.go, if_pos e]
      have lt_eq : ∀ z, lt p z = lt y z := fun z => by unfold lt; rw [ek]
      refine ⟨List.pairwise_cons.2 ⟨fun z hz => by rw [lt_eq]; exact j1.1 z hz, j1.2⟩, fun z => ?_⟩
      have h2 := i2 z
      rw [List.find?_cons] at h2 ⊢
      rw [List.mem_cons] at h2 ⊢
      by_cases ez : p.k = z.k
      · simp only [ez, decide_true]
        constructor
        · rintro (h3 | h3)
          · rw [h3]
          · exact absurd (by rw [ek, ez]) (lt_ne (j1.1 z h3))
        · intro h3; exact Or.inl (Option.some.inj h3).symm
      · have ez2 : ¬ y.k = z.k := fun h => ez (ek.symm.trans h)
        have ed : decide (y.k = z.k) = false := decide_eq_false ez2
        simp only [ez, decide_false]
        rw [List.find?_cons, ed]
        simp only [ed] at h2
        rw [← h2]
        constructor
        · rintro (h3 | h3)
          · exact absurd (by rw [h3]) ez
          · exact Or.inr h3
        · rintro (h3 | h3)
          · exact absurd (by rw [h3]) ez2
          · exact Or.inr h3
    · have e' : eqK y p = false := by simpa using e
      have ne : y.k ≠ p.k := of_decide_eq_false e'
      have lpy : lt p y = true := by
        cases hl : lt p y
        · exact absurd (eq_of hl hy).symm ne
        · rfl
      rw [SS.cpa.go, if_neg e]
      refine ⟨List.pairwise_cons.2 ⟨fun z hz => ?_, i1⟩, fun z => ?_⟩
      · rcases List.mem_cons.1 hz with rfl | hz
        · exact lpy
        · exact wk.tr lpy (j1.1 z hz)
      · rw [List.mem_cons, List.find?_cons]
        by_cases ez : p.k = z.k
        · simp only [ez, decide_true]
          constructor
          · rintro (h3 | h3)
            · rw [h3]
            · have : lt p z = true := by
                rcases List.mem_cons.1 h3 with rfl | h3
                · exact lpy
                · exact wk.tr lpy (j1.1 z h3)
              exact absurd ez (lt_ne this)
          · intro h3; exact Or.inl (Option.some.inj h3).symm
        · simp only [ez, decide_false]
          rw [← i2 z]
          constructor
          · rintro (h3 | h3)
            · exact absurd (by rw [h3]) ez
            · exact h3
          · intro h3; exact Or.inr h3
theorem find_filter (l m : List R) (c : List UInt8) (h : l.filter (fun u => decide (u.k = c)) = m.filter (fun u => decide (u.k = c))) : l.find? (fun u => decide (u.k = c)) = m.find? (fun u => decide (u.k = c)) := by
  rw [← List.head?_filter, ← List.head?_filter, h]
/-- WHAT THE RECORDS AS THEY STAND ARE: rising, and of each key the first one -/
theorem srt_rise (l : List R) : Rise (srt l) := by
  unfold srt
  have hs := SS.iso_sd wk l
  cases he : SS.iso lt l with
  | nil => exact List.Pairwise.nil
  | cons p m => rw [he] at hs; exact (go_spec p m hs).1
theorem srt_mem (l : List R) (z : R) : z ∈ srt l ↔ l.find? (fun u => decide (u.k = z.k)) = some z := by
  have hf : (SS.iso lt l).find? (fun u => decide (u.k = z.k)) = l.find? (fun u => decide (u.k = z.k)) := find_filter _ _ _ (SS.iso_filter (·.k) z.k (fun x y h => by
    show lt x y = false
    unfold lt; rw [h]; exact ltB_self _) l)
  rw [← hf]
  unfold srt
  have hs := SS.iso_sd wk l
  cases he : SS.iso lt l with
  | nil => simp [SS.cpa]
  | cons p m => rw [he] at hs; exact (go_spec p m hs).2 z
/-- two rising lists of the same records -/
theorem rise_uniq : ∀ (a b : List R), Rise a → Rise b → (∀ z, z ∈ a ↔ z ∈ b) → a = b
  | [], [], _, _, _ => rfl
  | [], y :: b, _, _, h => by have := (h y).2 (by simp); cases this
  | x :: a, [], _, _, h => by have := (h x).1 (by simp); cases this
  | x :: a, y :: b, h1, h2, h => by
    have p1 := List.pairwise_cons.1 h1
    have p2 := List.pairwise_cons.1 h2
    have exy : x = y := by
      rcases List.mem_cons.1 ((h x).1 (by simp)) with e | e
      · exact e
      · rcases List.mem_cons.1 ((h y).2 (by simp)) with e' | e'
        · exact e'.symm
        · have l1 := p2.1 x e
          have l2 := p1.1 y e'
          have := wk.asym _ _ l1
          rw [l2] at this; cases this
    subst exy
    congr 1
    refine rise_uniq a b p1.2 p2.2 fun z => ?_
    have hz := h z
    constructor
    · intro hm
      rcases List.mem_cons.1 (hz.1 (List.mem_cons_of_mem _ hm)) with e | e
      · subst e; exact absurd rfl (lt_ne (p1.1 z hm))
      · exact e
    · intro hm
      rcases List.mem_cons.1 (hz.2 (List.mem_cons_of_mem _ hm)) with e | e
      · subst e; exact absurd rfl (lt_ne (p2.1 z hm))
      · exact e
theorem srt_filter (l : List R) (p : List UInt8 → Bool) : srt (l.filter fun u => p u.k) = (srt l).filter fun u => p u.k := by
  refine rise_uniq _ _ (srt_rise _) ((srt_rise l).filter _) fun z => ?_
  rw [srt_mem, List.mem_filter, srt_mem]
  cases hp : p z.k
  · constructor
    · intro h
      have := List.find?_some h
      have hm := List.mem_of_find?_eq_some h
      have := (List.mem_filter.1 hm).2
      rw [hp] at this; cases this
    · rintro ⟨_, h⟩; cases h
  · have : (l.filter fun u => p u.k).find? (fun u => decide (u.k = z.k)) = l.find? (fun u => decide (u.k = z.k)) := by
      rw [← List.head?_filter, ← List.head?_filter, List.filter_filter]
      congr 1
      apply List.filter_congr
      intro u _
      by_cases e : u.k = z.k
      · simp [e, hp]
      · simp [e]
    rw [this]; simp
theorem srt_sub (l : List R) (z : R) (h : z ∈ srt l) : z ∈ l := List.mem_of_find?_eq_some ((srt_mem l z).1 h)
theorem go_len (eq : R → R → Bool) (p : R) (l : List R) : (SS.cpa.go eq p l).length ≤ l.length := by
  induction l generalizing p with
  | nil => simp [SS.cpa.go]
  | cons y l ih =>
    have := ih y
    rw [SS.cpa.go]
    by_cases h : eq y p = true
    · rw [if_pos h, List.length_cons]; omega
    · rw [if_neg h, List.length_cons, List.length_cons]; omega
theorem srt_len (l : List R) : (srt l).length ≤ l.length := by
  unfold srt
  have h := SS.iso_len (lt := lt) l
  cases he : SS.iso lt l with
  | nil => simp [SS.cpa]
  | cons p m =>
    rw [he] at h
    have := go_len eqK p m
    simp only [SS.cpa, List.length_cons] at h ⊢; omega
theorem srt_nil : srt [] = [] := rfl
theorem srt_srt (l m : List R) (h : ∀ c : List UInt8, l.find? (fun u => decide (u.k = c)) = m.find? (fun u => decide (u.k = c))) : srt l = srt m :=
  rise_uniq _ _ (srt_rise _) (srt_rise _) fun z => by rw [srt_mem, srt_mem, h]
end HG
end Go.Proofs.YtfbjakhanjbaeaaDoor

/- hedge's ordered: records as they stand, in a row of one's own. -/
namespace Go.Proofs.YtfbjakhanjbaeaaDoor
open Go.RowKit Go.Maps Go.Sort Go.Shelf Go.Lib
set_option linter.unusedVariables false
set_option linter.unusedSimpArgs false
set_option linter.unusedSectionVars false

theorem nilR1 : ∀ W, (binOp .eql 22 (.slice none 0 0) (.slice none 0 0)).run Tryd.prog W = .ok (.bool true) W := fun W => by kernel_rfl
theorem nilR0 : ∀ (ad : Addr) (n c : Nat) W, (binOp .eql 22 (.slice (some ad) n c) (.slice none 0 0)).run Tryd.prog W = .ok (.bool false) W := fun ad n c W => by kernel_rfl
def zRec : List Value := List.replicate 32 (.int .u8 0) ++ (.int .i64 0 :: List.replicate 32 (.int .u8 0))
theorem zRec_size : (Value.agg zRec.toArray).cells.size = 65 := by simp [zRec, Value.cells]
theorem infoRc3 : (Tryd.prog.info? 48).map (fun i => (i.zero, i.size, i.bytes)) = some (some (.agg zRec.toArray), 65, 72) := by kernel_rfl
theorem zeroRc : ∀ w, (zeroValue 48).run Tryd.prog w = .ok (.agg zRec.toArray) w := fun w => by kernel_rfl
/-- a slice of records that lies in memory, whatever else does -/
theorem Clone_no (c : Nat) (W : World) : Calls Tryd.prog 50 #[.slice none 0 0] W fun e w' => e = .returned (.slice none 0 0) ∧ w' = W := by
  have h1 := nilR1
  go_enter Tryd.func50, Tryd.ntmps50
  go_wp2_with fail
  go_ret
  exact ⟨rfl, rfl⟩
/-- a slice that came in: nil, or somewhere -/
def SL (W : World) (v : Value) (l : List HG.R) : Prop := ∃ a c, v = .slice a l.length c ∧ RS lyR W a l ∧ (a = none → l = [] ∧ c = 0)
set_option maxRecDepth 8000 in
theorem Clone_R (l : List HG.R) (v : Value) (W : World) (hv : SL W v l) (hl : l.length ≤ 1000) :
    Calls Tryd.prog 50 #[v] W fun e w' => ∃ v', e = .returned v' ∧ w'.ownsRow W.heap.size 48 65 v' l.length (flG lyR l) ∧ Bl W w' := by
  obtain ⟨a, c, rfl, hrs, hn⟩ := hv
  cases a with
  | none =>
    obtain ⟨rfl, rfl⟩ := hn rfl
    refine (Clone_no 0 W).mono ?_
    rintro e w' ⟨rfl, rfl⟩
    exact ⟨_, rfl, ⟨rfl, Or.inl ⟨rfl, rfl⟩⟩, Bl.refl _⟩
  | some ad =>
    have h1 := nilR0 ad l.length c
    have HR : Hid (RS lyR (W.alloc (.cells #[] 48)) (some ad) l) := hrs.bl ((Bl.refl W).alloc _)
    have HE : Hid ((W.alloc (.cells #[] 48)).ownsRow W.heap.size 48 65 (.slice (some ⟨W.heap.size, 0, none⟩) 0 0) ([] : List HG.R).length (flG lyR [])) := own_empty9 W _ 65
    clear hrs hn
    go_enter Tryd.func50, Tryd.ntmps50
    go_wp2_with (refine wl_appG lyR 48 22 _ 72 undRs infoRc3 zRec_size (by decide) rfl _ _ rfl W.heap.size [] _ rfl (by simp) HE.out (some ad) l l.length c rfl rfl HR.out (by simp; omega) ?_; intro v' w' g1 g2)
    go_ret
    exact ⟨v', rfl, g1, ⟨g2.os, g2.tape, g2.output, by have := g2.size; simp at this; omega, fun k hk => (g2.block k (by simp; omega) (fun e => by have e2 : k = W.heap.size := Option.some.inj e; omega)).trans (Below.heap_alloc _ _ _ hk)⟩⟩

/-- the sort of no records -/
theorem ins_none (a : Option Addr) (c : Nat) (cv : Value) (W : World) : Calls Tryd.prog 68 #[.slice a 0 c, .int .i64 0, .int .i64 0, cv] W fun e w' => e = .returned (.tuple #[]) ∧ w' = W := by
  go_enter Tryd.func68, Tryd.ntmps68
  go_wp2_with fail
  refine wp_loop_rounds 1 ?_
  rw [rounds_succ]
  go_wp2_with fail
  first | refine bodyPost_end (results_none rfl _ _ _) rfl ?_ | refine bodyPost_ret (results_none rfl _ _ _) rfl ?_
  exact ⟨rfl, rfl⟩
theorem stable_none (a : Option Addr) (c : Nat) (cv : Value) (W : World) : Calls Tryd.prog 64 #[.slice a 0 c, .int .i64 0, cv] W fun e w' => e = .returned (.tuple #[]) ∧ w' = W := by
  have C1 := hidI (ins_none a c cv W)
  go_enter Tryd.func64, Tryd.ntmps64
  go_wp2_with fail
  refine wp_loop_rounds 1 ?_
  rw [rounds_succ]
  go_wp2_with (first | go_skip | (go_at_call 68; refine C1.out.mono ?_; rintro e w' ⟨rfl, hw⟩; subst hw; clear C1))
  refine wp_loop_rounds 1 ?_
  rw [rounds_succ]
  go_wp2_with fail
  first | refine bodyPost_end (results_none rfl _ _ _) rfl ?_ | refine bodyPost_ret (results_none rfl _ _ _) rfl ?_
  exact ⟨rfl, rfl⟩
theorem sortS_none (a : Option Addr) (c : Nat) (cv : Value) (W : World) : Calls Tryd.prog 51 #[.slice a 0 c, cv] W fun e w' => e = .returned (.tuple #[]) ∧ w' = W := by
  have C1 := hidI (stable_none a c cv W)
  go_enter Tryd.func51, Tryd.ntmps51
  go_wp2_with (first | go_skip | (go_at_call 64; refine C1.out.mono ?_; rintro e w' ⟨rfl, hw⟩; subst hw; clear C1))
  first | refine bodyPost_end (results_none rfl _ _ _) rfl ?_ | refine bodyPost_ret (results_none rfl _ _ _) rfl ?_
  exact ⟨rfl, rfl⟩
theorem compact_none (a : Option Addr) (c : Nat) (cv : Value) (W : World) : Calls Tryd.prog 53 #[.slice a 0 c, cv] W fun e w' => e = .returned (.slice a 0 c) ∧ w' = W := by
  go_enter Tryd.func53, Tryd.ntmps53
  go_wp2_with fail
  go_ret
  exact ⟨rfl, rfl⟩
theorem e68 : ∀ args w, (callFunc 68 args).run Tryd.prog w = .ok (.enter 68 args) w := enters_of Tryd.func68 (by kernel_rfl) rfl

/-- boxes of the key's and the order's functions lie there -/
def BX (W : World) (bl bk : Nat) : Prop := W.cell? ⟨bl, 0, none⟩ = some (.func (.func 25) #[] #[]) ∧ W.cell? ⟨bk, 0, none⟩ = some (.func (.func 36) #[] #[])
theorem sw_cell {α : Type} [Inhabited α] {enc : α → List Value} {k g : Nat} {W : World} {a : Addr} {v : Value} (h : W.cell? a = some v) (hg : a.block ≠ g) (m : Nat) (dk : Array α) (os : Array Obj) : (sortWorldK enc k W g 0 m dk os).cell? a = some v := by
  unfold sortWorldK
  have h1 : (putRowK enc k (Sort.ahead W m) g 0 dk).cell? a = some v := by rw [cell?_putRowK_other enc k _ _ _ _ _ hg]; exact h
  have := grow_cell h1 0 os
  exact this

theorem sortS_x (l : List HG.R) (hne : l ≠ []) (g cap : Nat) (bl bk N : Nat) (W : World) (ho : W.ownsRow N 48 65 (.slice (some ⟨g, 0, none⟩) l.length cap) l.length (flG lyR l)) (hl : l.length ≤ 1000) (hb : BX W bl bk) (h1 : bl ≠ g) (h2 : bk ≠ g) :
    Calls Tryd.prog 51 #[.slice (some ⟨g, 0, none⟩) l.length cap, .func (.func 52) #[] #[.pointer (some ⟨bl, 0, none⟩), .pointer (some ⟨bk, 0, none⟩)]] W fun e w' =>
      e = .returned (.tuple #[]) ∧ w'.ownsRow N 48 65 (.slice (some ⟨g, 0, none⟩) l.length cap) l.length (flG lyR (SS.iso HG.lt l)) ∧ W.grownBy w' (some g) ∧ BX w' bl bk := by
  letI : Inhabited HG.R := ⟨HG.r0⟩
  have hsw := fun n (d' : Array HG.R) os (hd : d'.size = l.length) => sorted_lay lyR (n := n) (d' := d') (os := os) ho hd
  have hcm : CmpLays Tryd.prog 52 #[.pointer (some ⟨bl, 0, none⟩), .pointer (some ⟨bk, 0, none⟩)] fR 65 ordR g 0 l.length W := fun m os dk hd x y =>
    cmpR_x x y bl bk _ (sw_cell hb.1 h1 m dk os) (sw_cell hb.2 h2 m dk os)
  obtain ⟨hg, hH⟩ : g < W.heap.size ∧ HoldsK fR 65 W g 0 l.toArray := by
    obtain ⟨h0, ⟨h1, _⟩ | ⟨g', cap', cur, h1, h2, h3, h4, h5, h6, h7⟩⟩ := ho
    · cases h1
    · obtain ⟨rfl, _, _⟩ : g = g' ∧ l.length = l.length ∧ cap = cap' := by simpa using h1
      exact ⟨lt_heap h3, holds_lay lyR l h3 h7⟩
  have hlt : ltOf ordR = HG.lt := by
    funext x y
    unfold ltOf ordR HG.lt
    cases h : ltB x.k y.k
    · simp only [Bool.false_eq_true, if_false]; by_cases h' : ltB y.k x.k = true <;> simp [h']
    · simp
  have hw : SS.Wk (ltOf ordR) := by rw [hlt]; exact HG.wk
  have hst := stable_c soP (enc := fR) (w := W) (blk := g) (off := 0) (cap := cap) (g := 52) (cb := #[.pointer (some ⟨bl, 0, none⟩), .pointer (some ⟨bk, 0, none⟩)]) hw l (by omega)
    (insS_c fR_len fR_one hH hg (by simp; omega) egC hcm hw) (symM_c soP fR_len fR_one hH hg (by simp; omega) egC hcm hw) e68 0 #[]
  rw [← sw_start fR 65 W g 0 l.toArray hH, hlt] at hst
  have C1 := hidI hst
  have HSW := hidI hsw
  have HBX := hidI hb
  clear hsw hcm hH hst hlt hw ho hb
  go_enter Tryd.func51, Tryd.ntmps51
  go_wp2_with (first | go_skip | (go_at_call 64; refine C1.out.mono ?_; rintro e w' ⟨rfl, q, os', hw⟩; clear C1))
  first | refine bodyPost_end (results_none rfl _ _ _) rfl ?_ | refine bodyPost_ret (results_none rfl _ _ _) rfl ?_
  subst hw
  obtain ⟨o1, o2⟩ := HSW.out q (SS.iso HG.lt l).toArray os' (by simp [SS.iso_len])
  exact ⟨rfl, o1, o2, sw_cell HBX.out.1 h1 _ _ _, sw_cell HBX.out.2 h2 _ _ _⟩

theorem compact_x (l : List HG.R) (hne : l ≠ []) (g cap : Nat) (bl bk N : Nat) (W : World) (ho : W.ownsRow N 48 65 (.slice (some ⟨g, 0, none⟩) l.length cap) l.length (flG lyR l)) (hl : l.length ≤ 1000) (hb : BX W bl bk) (h2 : bk ≠ g) :
    Calls Tryd.prog 53 #[.slice (some ⟨g, 0, none⟩) l.length cap, .func (.func 54) #[] #[.pointer (some ⟨bk, 0, none⟩)]] W fun e w' =>
      ∃ v', e = .returned v' ∧ w'.ownsRow N 48 65 v' (SS.cpa HG.eqK l).length (flG lyR (SS.cpa HG.eqK l)) ∧ W.grownBy w' (some g) := by
  letI : Inhabited HG.R := ⟨HG.r0⟩
  have hsw := fun n (d' : Array HG.R) os (hd : d'.size = l.length) => sorted_lay lyR (n := n) (d' := d') (os := os) ho hd
  have heq : EqLays Tryd.prog 54 #[.pointer (some ⟨bk, 0, none⟩)] fR 65 HG.eqK g 0 l.length W := fun m os dk hd x y =>
    eqR_x x y bk _ (sw_cell hb.2 h2 m dk os)
  have hlp : 1 ≤ l.length := List.length_pos_iff.2 hne
  obtain ⟨hg, hH, hcap⟩ : g < W.heap.size ∧ HoldsK fR 65 W g 0 l.toArray ∧ l.length ≤ cap := by
    obtain ⟨h0, ⟨h1, _⟩ | ⟨g', cap', cur, h1, h2, h3, h4, h5, h6, h7⟩⟩ := ho
    · cases h1
    · obtain ⟨rfl, _, rfl⟩ : g = g' ∧ l.length = l.length ∧ cap = cap' := by simpa using h1
      exact ⟨lt_heap h3, holds_lay lyR l h3 h7, h4⟩
  have hclr : ∀ (i : Nat) (dk : List HG.R) (m : Nat) (os : Array Obj), dk.length = l.length → i < l.length → ∃ vs, ∀ ty, (Builtin.clear_ #[22] ty #[.slice (some ⟨g, 0 + i * 65, none⟩) (l.length - i) (cap - i)]).run Tryd.prog (sortWorldK fR 65 W g 0 m dk.toArray os) = .ok (.tuple #[]) ((sortWorldK fR 65 W g 0 m dk.toArray os).setCells g (0 + i * 65) vs) := fun i dk m os hd hi => by
    have h5 := (hsw m dk.toArray os (by simpa using hd)).1
    obtain ⟨vs, hvs⟩ := run_clearG lyR hd.symm h5 undRs zeroRc (by rw [zRec_size]; rfl) (fun v hv => by
      simp only [Value.cells, zRec] at hv
      simp only [List.mem_append, List.mem_cons, List.mem_replicate] at hv
      rcases hv with ⟨_, rfl⟩ | rfl | ⟨_, rfl⟩ <;> rfl) (i := i) hi 0 (cap - i)
    refine ⟨vs, fun ty => ?_⟩
    rw [Nat.zero_add]
    exact hvs
  have hc := compact_c koP (enc := fR) (cap := cap) fR_len fR_one hH hg (by omega) hlp hcap egE heq hclr 0 #[]
  rw [← sw_start fR 65 W g 0 l.toArray hH] at hc
  refine Calls.mono hc ?_
  rintro e w' ⟨v, rfl, dk, q, os, vs, hd, ht, rfl, rfl⟩
  obtain ⟨o1, o2⟩ := hsw q dk.toArray os (by simpa using hd)
  have hle : (SS.cpa HG.eqK l).length ≤ dk.length := by rw [← ht, List.length_take]; omega
  have o3 := own_cut lyR hd.symm o1 (i := (SS.cpa HG.eqK l).length) hle vs
  refine ⟨_, rfl, ?_, ?_⟩
  · rw [Nat.zero_add]
    have e1 : dk.toArray.toList.take (SS.cpa HG.eqK l).length = SS.cpa HG.eqK l := ht
    rw [show dk.toArray.toList = dk from rfl] at o1
    have o4 := own_cut lyR hd.symm o1 (i := (SS.cpa HG.eqK l).length) hle vs
    rw [ht] at o4
    exact o4
  · exact o2.trans (grown_setCells _ _ _ _)
end Go.Proofs.YtfbjakhanjbaeaaDoor

/- hedge.Sort: records as they stand. -/
namespace Go.Proofs.YtfbjakhanjbaeaaDoor
open Go.RowKit Go.Maps Go.Sort Go.Shelf Go.Lib
set_option linter.unusedVariables false
set_option linter.unusedSimpArgs false

theorem own_less {N M k n : Nat} {W : World} {T : TypeId} {v : Value} {xs : List Value} (h : W.ownsRow N T k v n xs) (hM : M ≤ N) : W.ownsRow M T k v n xs := by
  obtain ⟨h0, h | ⟨g, cap, cur, h1, h2, h3⟩⟩ := h
  · exact ⟨h0, Or.inl h⟩
  · exact ⟨h0, Or.inr ⟨g, cap, cur, h1, Nat.le_trans hM h2, h3⟩⟩
theorem bl_tr {U V W : World} (h : Bl U V) (k : Bl V W) : Bl U W := Below.trans h (Below.mono k h.size)
theorem bl_of_grown {W W1 W2 : World} {g : Nat} (h1 : Bl W W1) (h2 : W1.grownBy W2 (some g)) (hg : W.heap.size ≤ g) : Bl W W2 :=
  ⟨h2.os.trans h1.os, h2.tape.trans h1.tape, h2.output.trans h1.output, Nat.le_trans h1.size h2.size, fun k hk => (h2.block k (Nat.lt_of_lt_of_le hk h1.size) (fun e => by have := Option.some.inj e; omega)).trans (h1.block k hk)⟩
theorem BX.bl {W V : World} {bl bk : Nat} (h : BX W bl bk) (hb : Bl W V) (h1 : bl < W.heap.size) (h2 : bk < W.heap.size) : BX V bl bk :=
  ⟨by rw [Below.cell hb (p := ⟨bl, 0, none⟩) h1]; exact h.1, by rw [Below.cell hb (p := ⟨bk, 0, none⟩) h2]; exact h.2⟩

set_option maxHeartbeats 2000000 in
set_option maxRecDepth 8000 in
theorem ordered_x (l : List HG.R) (v : Value) (W : World) (hv : SL W v l) (hl : l.length ≤ 1000) :
    Calls Tryd.prog 35 #[v, .func (.func 36) #[] #[], .func (.func 25) #[] #[]] W fun e w' => ∃ v', e = .returned v' ∧ w'.ownsRow W.heap.size 48 65 v' (HG.srt l).length (flG lyR (HG.srt l)) ∧ Bl W w' := by
  obtain ⟨W2, hW2⟩ : ∃ W2, W2 = (W.alloc (.cells #[.func (.func 36) #[] #[]] 62)).alloc (.cells #[.func (.func 25) #[] #[]] 50) := ⟨_, rfl⟩
  have hB2 : Bl W W2 := by rw [hW2]; exact ((Bl.refl W).alloc _).alloc _
  have hs2 : W2.heap.size = W.heap.size + 2 := by rw [hW2]; simp
  have hbx : BX W2 (W.heap.size + 1) W.heap.size := by
    have b0 : W2.heap[W.heap.size]? = some (.cells #[.func (.func 36) #[] #[]] 62 (0, 0)) := by
      rw [hW2, Below.heap_alloc _ _ _ (by simp)]; exact heap_alloc_new _ _
    have b1 : W2.heap[W.heap.size + 1]? = some (.cells #[.func (.func 25) #[] #[]] 50 (0, 0)) := by
      rw [hW2]
      have := heap_alloc_new (W.alloc (.cells #[.func (.func 36) #[] #[]] 62)) (.cells #[.func (.func 25) #[] #[]] 50)
      rwa [World.size_alloc] at this
    exact ⟨cell_of_row _ _ 0 _ _ _ b1, cell_of_row _ _ 0 _ _ _ b0⟩
  have hv2 : SL W2 v l := by
    obtain ⟨a, c, h1, h2, h3⟩ := hv
    exact ⟨a, c, h1, h2.bl hB2, h3⟩
  have C1 := hidI (Clone_R l v W2 hv2 hl)
  rw [hs2] at C1
  have HB2 := hidI hB2
  have HS2 := hidI hs2
  have HBX := hidI hbx
  have HW2 := hidI hW2
  by_cases hne : l = []
  · have CS := hidI sortS_none
    have CC := hidI compact_none
    have HNE := hidI hne
    clear hB2 hs2 hbx hW2 hv2 hv hne
    go_enter Tryd.func35, Tryd.ntmps35
    go_wp2_with (first
      | go_skip
      | (go_at_call 50; rw [← HW2.out]; refine C1.out.mono ?_; clear C1; rintro e w1 ⟨v1, rfl, o1, b1⟩; rw [HNE.out] at o1; obtain ⟨a1, c1, rfl, _⟩ := owns_rs lyR (ks := []) o1)
      | (go_at_call 51; refine (CS.out _ _ _ _).mono ?_; clear CS; rintro e w2 ⟨rfl, hw⟩; subst hw)
      | (go_at_call 53; refine (CC.out _ _ _ _).mono ?_; clear CC; rintro e w3 ⟨rfl, hw⟩; subst hw))
    go_ret
    refine ⟨_, rfl, ?_, bl_tr HB2.out b1⟩
    rw [HNE.out]
    exact own_less o1 (by omega)
  · have CS := hidI (fun g cap N W ho hb h1 h2 => sortS_x l hne g cap (W2.heap.size - 1) (W2.heap.size - 2) N W ho hl hb h1 h2)
    have hne2 : SS.iso HG.lt l ≠ [] := fun e => hne (List.length_eq_zero_iff.1 (by rw [← SS.iso_len (lt := HG.lt) l, e]; rfl))
    have hl2 : (SS.iso HG.lt l).length ≤ 1000 := by rw [SS.iso_len]; exact hl
    have CC := hidI (fun g cap N W ho hb h2 => compact_x (SS.iso HG.lt l) hne2 g cap (W2.heap.size - 1) (W2.heap.size - 2) N W ho hl2 hb h2)
    rw [hs2] at CS CC
    simp only [Nat.add_sub_cancel, show W.heap.size + 2 - 1 = W.heap.size + 1 by omega] at CS CC
    have HL := hidI (SS.iso_len (lt := HG.lt) l)
    rw [SS.iso_len] at CC
    have HO : Hid (∀ (w1 : World) v1, w1.ownsRow (W.heap.size + 2) 48 65 v1 l.length (flG lyR l) → ∃ g c, v1 = .slice (some ⟨g, 0, none⟩) l.length c ∧ W.heap.size + 2 ≤ g) := fun w1 v1 h => by
      obtain ⟨_, ⟨h1, h2⟩ | ⟨g', cap', cur, h1, h2, _⟩⟩ := h
      · exact absurd (List.length_eq_zero_iff.1 h2) hne
      · exact ⟨g', cap', h1, h2⟩
    clear hB2 hs2 hbx hW2 hv2 hv hne hne2 hl2
    go_enter Tryd.func35, Tryd.ntmps35
    go_wp2_with (first
      | go_skip
      | (go_at_call 50; rw [← HW2.out]; refine C1.out.mono ?_; clear C1; rintro e w1 ⟨v1, rfl, o1, b1⟩; obtain ⟨g, c, rfl, hg⟩ := HO.out _ _ o1)
      | (go_at_call 51; refine (CS.out g c _ _ o1 (HBX.out.bl b1 (by rw [HS2.out]; omega) (by rw [HS2.out]; omega)) (by omega) (by omega)).mono ?_; clear CS; rintro e w2 ⟨rfl, o2, g2, x2⟩)
      | (go_at_call 53; refine (CC.out g c _ _ o2 x2 (by omega)).mono ?_; clear CC; rintro e w3 ⟨v3, rfl, o3, g3⟩))
    go_ret
    refine ⟨_, rfl, own_less o3 (by omega), ?_⟩
    exact bl_of_grown (bl_of_grown (bl_tr HB2.out b1) g2 (by omega)) g3 (by omega)
theorem Sort_x (l : List HG.R) (v : Value) (W : World) (hv : SL W v l) (hl : l.length ≤ 1000) :
    Calls Tryd.prog 17 #[v] W fun e w' => ∃ v', e = .returned v' ∧ w'.ownsRow W.heap.size 48 65 v' (HG.srt l).length (flG lyR (HG.srt l)) ∧ Bl W w' := by
  have C1 := hidI (ordered_x l v W hv hl)
  clear hv
  go_enter Tryd.func17, Tryd.ntmps17
  go_wp2_with (first | go_skip | (go_at_call 35; refine C1.out.mono ?_; clear C1; rintro e w1 ⟨v1, rfl, o1, b1⟩))
  go_ret
  exact ⟨_, rfl, o1, b1⟩
end Go.Proofs.YtfbjakhanjbaeaaDoor
