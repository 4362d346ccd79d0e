/- The reference's words. -/
import Derived.Test.YtgjpcddjfmdobaaDoorX7e
namespace Go.Proofs.YtgjpcddjfmdobaaDoor
open Go.RowKit
set_option linter.unusedVariables false

theorem cut_bsR (s : List UInt8) (a b : Nat) : (M.bs s).extract a b = M.bs ((s.drop a).take (b - a)) := by
  rw [Lib.extract_eq]
  simp [M.bs]
theorem owns_noneS (W : World) : (W.alloc (.cells #[] 9)).ownsRow W.heap.size 9 1 (.slice (some ⟨W.heap.size, 0, none⟩) 0 0) ([] : List (List UInt8)).length (([] : List (List UInt8)).map encS) :=
  ⟨rfl, Or.inr ⟨W.heap.size, 0, #[], rfl, Nat.le_refl _, heap_alloc_new W _, Nat.le_refl _, Nat.zero_le _, rfl, rfl⟩⟩
theorem spl_len (c : UInt8) : ∀ s, (RC.spl c s).length ≤ s.length + 1
  | [] => by simp [RC.spl]
  | b :: l => by
    have ih := spl_len c l
    unfold RC.spl
    split
    · simp; omega
    · cases h : RC.spl c l with
      | nil => simp
      | cons x r => rw [h] at ih; simp at ih ⊢; omega
/-- how far the reader of words has come -/
def WI (s : List UInt8) (L : List (List UInt8)) (f k : Nat) : Prop :=
  (k ≤ s.length ∧ f ≤ k ∧ (32 : UInt8) ∉ (s.drop f).take (k - f) ∧ RC.spl 32 s = L ++ RC.spl 32 (s.drop f)) ∨ (k = s.length + 1 ∧ RC.spl 32 s = L)
theorem WI.zero (s : List UInt8) : WI s [] 0 0 := Or.inl ⟨Nat.zero_le _, Nat.le_refl _, by simp, by simp⟩
theorem WI.fin {s : List UInt8} {L : List (List UInt8)} {f : Nat} (h : WI s L f s.length) : f ≤ s.length ∧ (M.bs s).extract f s.length = M.bs (s.drop f) ∧ WI s (L ++ [s.drop f]) (s.length + 1) (s.length + 1) := by
  rcases h with ⟨h1, h2, h3, h4⟩ | ⟨h1, _⟩
  · have e : (s.drop f).take (s.length - f) = s.drop f := List.take_of_length_le (by simp)
    rw [e] at h3
    refine ⟨h2, by rw [cut_bsR, e], Or.inr ⟨rfl, ?_⟩⟩
    rw [h4, RC.spl_not 32 _ h3]
  · omega
theorem drop_split (s : List UInt8) (f k : Nat) (h : f ≤ k) (c : UInt8) (hc : s[k]? = some c) : s.drop f = (s.drop f).take (k - f) ++ c :: s.drop (k + 1) := by
  obtain ⟨hl, he⟩ := List.getElem?_eq_some_iff.1 hc
  have e : s.drop k = c :: s.drop (k + 1) := by rw [List.drop_eq_getElem_cons hl, he]
  rw [← e]
  have : s.drop k = (s.drop f).drop (k - f) := by rw [List.drop_drop]; congr 1; omega
  rw [this, List.take_append_drop]
theorem WI.cut {s : List UInt8} {L : List (List UInt8)} {f k : Nat} (h : WI s L f k) (hk : k < s.length) (hc : s[k]? = some 32) : f ≤ k ∧ (M.bs s).extract f k = M.bs ((s.drop f).take (k - f)) ∧ WI s (L ++ [(s.drop f).take (k - f)]) (k + 1) (k + 1) := by
  rcases h with ⟨h1, h2, h3, h4⟩ | ⟨h1, _⟩
  · refine ⟨h2, cut_bsR s f k, Or.inl ⟨hk, Nat.le_refl _, by simp, ?_⟩⟩
    have e : RC.spl 32 (s.drop f) = (s.drop f).take (k - f) :: RC.spl 32 (s.drop (k + 1)) := by
      conv => lhs; rw [drop_split s f k h2 32 hc]
      exact RC.spl_cut 32 _ _ h3
    rw [h4, e]; simp
  · omega
theorem WI.next {s : List UInt8} {L : List (List UInt8)} {f k : Nat} (h : WI s L f k) (hk : k < s.length) (c : UInt8) (hc : s[k]? = some c) (hne : c ≠ 32) : WI s L f (k + 1) := by
  rcases h with ⟨h1, h2, h3, h4⟩ | ⟨h1, _⟩
  · refine Or.inl ⟨hk, by omega, ?_, h4⟩
    have e : (s.drop f).take (k + 1 - f) = (s.drop f).take (k - f) ++ [c] := by
      rw [show k + 1 - f = (k - f) + 1 by omega, List.take_add_one, List.getElem?_drop, show f + (k - f) = k by omega, hc]; rfl
    rw [e]
    simp only [List.mem_append, List.mem_singleton, not_or]
    exact ⟨h3, fun e => hne e.symm⟩
  · omega
theorem WI.len {s : List UInt8} {L : List (List UInt8)} {f k : Nat} (h : WI s L f k) : L.length ≤ s.length + 1 := by
  have := spl_len 32 s
  rcases h with ⟨_, _, _, h4⟩ | ⟨_, h4⟩ <;> rw [h4] at this
  · simp at this; omega
  · exact this

set_option maxRecDepth 8000 in
set_option maxHeartbeats 2000000 in
theorem rwords_at (s : List UInt8) {w W : World} (HB : Bl w W) (hs : s.length ≤ 10000) :
    Calls Tryd.prog 34 #[.string (M.bs s)] W fun e w' => ∃ v, e = .returned v ∧ w'.ownsRow W.heap.size 9 1 v (RC.spl 32 s).length ((RC.spl 32 s).map encS) ∧ Bl w w' := by
  have hbs := M.bs_size s
  have HB0 : Hid (Bl w W) := HB
  have HO0 : Hid ((W.alloc (.cells #[] 9)).ownsRow W.heap.size 9 1 (.slice (some ⟨W.heap.size, 0, none⟩) 0 0) ([] : List (List UInt8)).length (([] : List (List UInt8)).map encS)) := owns_noneS W
  have HB1 : Hid (Below W.heap.size W (W.alloc (.cells #[] 9))) := (Below.refl _ W).alloc (Nat.le_refl _) _
  clear HB
  go_enter Tryd.func34, Tryd.ntmps34
  go_wp2_with fail
  go_loopw [3, 4, 5] (fun u3 u4 u5 wr => ∃ (k f : Nat) (L : List (List UInt8)), k ≤ s.length + 1 ∧ f ≤ s.length + 1 ∧ u4 = .int .i64 f ∧ u5 = .int .i64 k ∧ WI s L f k ∧ wr.ownsRow W.heap.size 9 1 u3 L.length (L.map encS) ∧ Below W.heap.size W wr) (fun _ _ u5 _ => s.length + 1 - (intOf u5).toNat)
  case atStart => exact ⟨0, 0, [], Nat.zero_le _, Nat.zero_le _, rfl, rfl, WI.zero s, HO0.out, HB1.out⟩
  case round =>
    obtain ⟨k, f, L, hk, hf, rfl, rfl, hw, hown, hbe⟩ := hrel
    clear HO0 HB1
    have hsz := hbe.size
    have hL := hw.len
    have HW : Hid (WI s L f k) := hw
    have HOW : Hid (wr.ownsRow W.heap.size 9 1 u3 L.length (L.map encS)) := hown
    have HBE : Hid (Below W.heap.size W wr) := hbe
    clear hown hbe hw
    by_cases hlt : k ≤ s.length
    · -- a word ends, or it goes on
      have OWN : Hid (∀ o, (wr.alloc o).ownsRow W.heap.size 9 1 u3 L.length (L.map encS)) := fun o => ownsRow_belowT HOW.out ((Bl.refl wr).alloc o)
      have FIN : Hid (∀ o w9, (wr.alloc o).grownBy w9 u3.ownBlock → Below W.heap.size W w9) := fun o w9 hg => by
        have hb : Below W.heap.size W (wr.alloc o) := HBE.out.trans (((Bl.refl wr).alloc o : Below wr.heap.size wr _).mono hsz)
        exact hb.grown hg hb.size (fun q hq => (TA.owns_ge HOW.out hq).1)
      by_cases hend : k = s.length
      · subst hend
        obtain ⟨hfk, hex, hw2⟩ := HW.out.fin
        have HW2 : Hid (WI s (L ++ [s.drop f]) (s.length + 1) (s.length + 1)) := hw2
        have TN : Hid (TA.TS (wr.alloc (.cells #[.string (M.bs (s.drop f))] 9)) (some ⟨wr.heap.size, 0, none⟩) [s.drop f]) := TA.ts_new wr [s.drop f] _
        clear hw2 HW HOW HBE
        generalize s.drop f = p at *
        go_wp2_with (refine TA.wl_app rfl _ _ rfl W.heap.size L _ rfl (OWN.out _) (some ⟨wr.heap.size, 0, none⟩) [p] 1 1 rfl rfl TN.out (by simp; omega) (by simp; omega) ?_; intro v9 w9 hown9 hg9; have HB9 := FIN.out _ _ hg9; clear OWN TN FIN hg9)
        go_roundw
        case rel => exact ⟨s.length + 1, s.length + 1, L ++ [p], Nat.le_refl _, Nat.le_refl _, by go_num, by go_num, HW2.out, hown9, HB9⟩
        case measure => first | (simp [intOf]; done) | (simp [intOf]; omega)
      · have hlt2 : k < s.length := by omega
        have hke : ((k : Int) == (s.length : Int)) = false := by rw [beq_eq_false_iff_ne]; omega
        have hg : s[k]? = some s[k] := List.getElem?_eq_getElem hlt2
        obtain ⟨c, hc⟩ : ∃ c, s[k] = c := ⟨_, rfl⟩
        rw [hc] at hg
        have dS := strR_at s k c hg
        unfold vB at dS
        by_cases h32 : c = 32
        · subst h32
          obtain ⟨hfk, hex, hw2⟩ := HW.out.cut hlt2 hg
          have HW2 : Hid (WI s (L ++ [(s.drop f).take (k - f)]) (k + 1) (k + 1)) := hw2
          have TN : Hid (TA.TS (wr.alloc (.cells #[.string (M.bs ((s.drop f).take (k - f)))] 9)) (some ⟨wr.heap.size, 0, none⟩) [(s.drop f).take (k - f)]) := TA.ts_new wr [(s.drop f).take (k - f)] _
          clear hw2 HW HOW HBE hg hc
          generalize (s.drop f).take (k - f) = p at *
          go_wp2_with (refine TA.wl_app rfl _ _ rfl W.heap.size L _ rfl (OWN.out _) (some ⟨wr.heap.size, 0, none⟩) [p] 1 1 rfl rfl TN.out (by simp; omega) (by simp; omega) ?_; intro v9 w9 hown9 hg9; have HB9 := FIN.out _ _ hg9; clear OWN TN FIN hg9)
          go_roundw
          case rel => exact ⟨k + 1, k + 1, L ++ [p], by omega, by omega, by go_num, by go_num, HW2.out, hown9, HB9⟩
          case measure => first | (simp [intOf]; done) | (simp [intOf]; omega)
        · have HW2 : Hid (WI s L f (k + 1)) := HW.out.next hlt2 c hg h32
          have hcb : ((c.toNat : Int) == 32) = false := by
            rw [beq_eq_false_iff_ne]
            intro e
            exact h32 (UInt8.toNat_inj.1 (by rw [show (32 : UInt8).toNat = 32 from rfl]; omega))
          clear HW h32 hg hc OWN FIN
          go_wp2_with fail
          go_roundw
          case rel => exact ⟨k + 1, f, L, by omega, hf, rfl, by go_num, HW2.out, HOW.out, HBE.out⟩
          case measure => first | (simp [intOf]; done) | (simp [intOf]; omega)
    · obtain rfl : k = s.length + 1 := by omega
      have e : RC.spl 32 s = L := by
        rcases HW.out with ⟨h1, _⟩ | ⟨_, h⟩
        · omega
        · exact h
      have HE : Hid (RC.spl 32 s = L) := e
      clear e HW
      go_wp2_with fail
      go_ret
      exact ⟨_, rfl, by rw [HE.out]; exact HOW.out, HB0.out.step HBE.out⟩
end Go.Proofs.YtgjpcddjfmdobaaDoor
