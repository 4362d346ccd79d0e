/- RecipeReads: what a text is read as is the document's: the law answers true for every text. -/
import Derived.Test.YtgjpcddjfmdobaaDoorX7j
import Derived.Test.YtgjpcddjfmdobaaDoorX7d
import Derived.Test.YtgjpcddjfmdobaaDoorL17
namespace Go.Proofs.YtgjpcddjfmdobaaDoor
open Go.RowKit
set_option linter.unusedVariables false
set_option linter.unusedSimpArgs false

theorem ga_none (W : World) : GA W.heap.size W ([], []) none 0 none 0 := ⟨Or.inl ⟨rfl, none, 0, rfl⟩, fun i t ht => by simp at ht⟩
theorem can_small {g : RC.Gr} (h : RC.can g = true) : smallG g := by
  obtain ⟨h1, h2, _, h4⟩ := RC.can_parts h
  exact ⟨by omega, by omega, fun t ht => by have := (RC.canA_parts (h4 t ht)).2.1; omega⟩
theorem both_parse (t : List UInt8) (hl : t.length ≤ maxLen) : ∃ (g : RC.Gr) (n c : Nat), smallG g ∧
    (∀ w W : World, Bl w W → MX W → Calls Tryd.prog 17 #[.string (M.bs t)] W fun e w' => ∃ sa sc aa ac, e = .returned (.tuple #[.agg (gv g sa sc aa ac), .int .i64 n, .int .i64 c]) ∧ GA w'.heap.size w' g sa sc aa ac ∧ Bl w w') ∧
    (∀ w W : World, Bl w W → Calls Tryd.prog 18 #[.string (M.bs t)] W fun e w' => ∃ sa sc aa ac, e = .returned (.tuple #[.agg (gv g sa sc aa ac), .int .i64 n, .int .i64 c]) ∧ GA w'.heap.size w' g sa sc aa ac ∧ Bl w w') := by
  by_cases h8 : 8192 < t.length
  · refine ⟨([], []), 0, 4, ⟨by simp, by simp, fun t ht => by simp at ht⟩, fun w W h _ => ?_, fun w W h => ?_⟩
    · refine (Parse_long t h h8 hl).mono ?_
      rintro e w' ⟨rfl, hb⟩
      exact ⟨none, 0, none, 0, rfl, ga_none w', hb⟩
    · refine (rParse_long t h h8 hl).mono ?_
      rintro e w' ⟨rfl, hb⟩
      exact ⟨none, 0, none, 0, rfl, ga_none w', hb⟩
  · have h8' : t.length ≤ 8192 := by omega
    cases hP : RC.P ([], []) 1 t with
    | inl g =>
      have hs : smallG g := can_small (RC.parse_some t g (by rw [RC.parse_eq t h8']; exact hP)).1
      refine ⟨g, 0, 0, hs, fun w W h hm => ?_, fun w W h => ?_⟩
      · have := Parse_x t h hm h8'
        rw [hP] at this
        exact this
      · have := rParse_x t h h8'
        rw [hP] at this
        exact this
    | inr kc =>
      obtain ⟨k, c⟩ := kc
      refine ⟨([], []), k, c, ⟨by simp, by simp, fun t ht => by simp at ht⟩, fun w W h hm => ?_, fun w W h => ?_⟩
      · have := Parse_x t h hm h8'
        rw [hP] at this
        refine this.mono ?_
        rintro e w' ⟨rfl, hb⟩
        exact ⟨none, 0, none, 0, rfl, ga_none w', hb⟩
      · have := rParse_x t h h8'
        rw [hP] at this
        refine this.mono ?_
        rintro e w' ⟨rfl, hb⟩
        exact ⟨none, 0, none, 0, rfl, ga_none w', hb⟩
theorem box_range {W W' : World} {T : TypeId} {x y : Value} (h : Bl (W.alloc (.cells #[x, y] T)) W') : W'.rangeAt W.heap.size 0 [x, y] := fun j u hu => by
  rw [Nat.zero_add, Bl.cell h (by simp), Lib.cell_of_heap (heap_alloc_new W _)]
  rcases j with _ | _ | j
  · cases hu; rfl
  · cases hu; rfl
  · simp at hu
set_option maxRecDepth 8000 in
set_option maxHeartbeats 4000000 in
theorem reads_walk (l : List UInt8) (W : World) (hm : MX W) (hl : l.length ≤ maxLen) :
    Calls Tryd.prog 4 #[.string (M.bs l)] W fun e w' => e = .returned (.bool true) ∧ Bl W w' := by
  obtain ⟨g, n, c, hs, hp, hq⟩ := both_parse l hl
  have CW : Hid (Calls Tryd.prog 9 #[] W fun e w' => e = .returned (.bool true) ∧ Bl W w') := awake_x (Bl.refl W) hm
  have CP : Hid (∀ W', Bl W W' → Calls Tryd.prog 17 #[.string (M.bs l)] W' fun e w' => ∃ sa sc aa ac, e = .returned (.tuple #[.agg (gv g sa sc aa ac), .int .i64 n, .int .i64 c]) ∧ GA w'.heap.size w' g sa sc aa ac ∧ Bl W w') := fun W' h => hp W W' h (hm.bl h)
  have CQ : Hid (∀ W', Calls Tryd.prog 18 #[.string (M.bs l)] W' fun e w' => ∃ sa sc aa ac, e = .returned (.tuple #[.agg (gv g sa sc aa ac), .int .i64 n, .int .i64 c]) ∧ GA w'.heap.size w' g sa sc aa ac ∧ Bl W' w') := fun W' => hq W' W' (Bl.refl W')
  have CS : Hid (∀ W' sa sc aa ac ta tc ba bc, GA W'.heap.size W' g sa sc aa ac → GA W'.heap.size W' g ta tc ba bc → Calls Tryd.prog 14 #[.agg (gv g sa sc aa ac), .agg (gv g ta tc ba bc)] W' fun e w' => e = .returned (.bool true) ∧ Bl W' w') := fun W' sa sc aa ac ta tc ba bc h1 h2 => by
    have := rSame_x g g sa sc aa ac ta tc ba bc (Bl.refl W') h1 h2 hs hs
    rw [decide_eq_true (rfl : g = g)] at this
    exact this
  have z1 : ((n : Int) == (n : Int)) = true := by simp
  have z2 : ((c : Int) == (c : Int)) = true := by simp
  clear hp hq hm hs
  unfold gv at CP CQ CS
  obtain ⟨fs, hum⟩ := undG
  go_enter Tryd.func4, Tryd.ntmps4
  go_wp2_with (first
    | (go_at_call 9; refine CW.out.mono ?_; rintro e w1 ⟨rfl, HB⟩; clear CW)
    | (go_at_call 17; refine (CP.out _ HB).mono ?_; clear HB CP; rintro e w2 ⟨sa, sc, aa, ac, rfl, hg2, HB2⟩)
    | (go_at_call 18; refine (CQ.out _).mono ?_; rintro e w3 ⟨ta, tc, ba, bc, rfl, hg3, HB3⟩; have RN1 : Hid (∀ o, (w3.alloc o).rangeAt w2.heap.size 0 [.slice sa g.1.length sc, .slice aa g.2.length ac]) := (fun o => box_range (HB3.alloc o)); have RN2 : Hid (∀ T, (w3.alloc (.cells #[.slice ta g.1.length tc, .slice ba g.2.length bc] T)).rangeAt w3.heap.size 0 [.slice ta g.1.length tc, .slice ba g.2.length bc]) := (fun T => box_range (Bl.refl _)); have HGS : Hid (∀ o, GA (w3.alloc o).heap.size (w3.alloc o) g sa sc aa ac ∧ GA (w3.alloc o).heap.size (w3.alloc o) g ta tc ba bc) := (fun o => ⟨(hg2.bl ((Bl.refl w2).alloc _)).bl (HB3.alloc o), hg3.bl ((Bl.refl w3).alloc o)⟩); have HFF : Hid (∀ o, Bl W (w3.alloc o)) := (fun o => (HB2.alloc _).step (HB3.alloc o)); clear CQ hg2 hg3 HB2 HB3)
    | (refine wpList_load_mid rfl 25 _ rfl w2.heap.size 0 rfl _ _ (RN1.out _) hum rfl (by rw [infoG]; rfl) ?_; clear RN1)
    | (refine wpList_load_mid rfl 25 _ rfl w3.heap.size 0 rfl _ _ (RN2.out _) hum rfl (by rw [infoG]; rfl) ?_; clear RN2)
    | (go_at_call 14; refine (CS.out _ _ _ _ _ _ _ _ _ (HGS.out _).1 (HGS.out _).2).mono ?_; rintro e w4 ⟨rfl, HB4⟩; replace HB4 := (HFF.out _).step HB4; clear CS HGS HFF))
  go_ret
  exact ⟨rfl, HB4⟩
end Go.Proofs.YtgjpcddjfmdobaaDoor
