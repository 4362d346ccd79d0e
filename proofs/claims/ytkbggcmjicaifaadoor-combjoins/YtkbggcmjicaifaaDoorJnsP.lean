/- PROVED: for every manifest, all texts and every place the law CombJoins returns true and leaves its arguments as they were: what fits where, and what is joined, is what the document says. No condition; the tables start and roundWords hold what the program's text lays in them (the card ties them). -/
import Derived.Test.YtkbggcmjicaifaaDoorJns
import Derived.Test.YtkbggcmjicaifaaDoorOpM
import Derived.Test.YtkbggcmjicaifaaDoorLaid
import Derived.Test.YtkbggcmjicaifaaDoorCards
import Derived.Test.YtkbggcmjicaifaaDoorTie
import Derived.SevenTiedAt
import Derived.ChangeOld
import Derived.Below
import Derived.ShutString
namespace Go.Proofs.YtkbggcmjicaifaaDoor.combJoins
open Go.ChangeShapes Go.WideShapes Go.ChangeAt Go.WideMaps Go.WideElems Go.RowKit
open Go.ChangeMaps (open_string shut_string)
set_option linter.unusedVariables false

theorem door_met (os : Os) (args : Array Value) : laidMetH Tryd.prog Rows.combJoinsRow.laid ((World.doorLaid Tryd.prog 400 os).forCall (fun _ _ => 0) ⟨#[], args, []⟩).memory :=
  laidMetH_of_parts3 (fuel := 8) (laidMet_of_run' 8 (by kernel_rfl) (by kernel_rfl)) (by kernel_rfl) (by kernel_rfl)

theorem open_cap {H : Type} {enc : TypeId × Value → H} {W : World} {a : Option Addr} {n c : Nat} {d : DataW H} {p : List MemPlace}
    (h : DataW.Trod enc Tryd.prog W 0 (fun _ => true) true 22 (.slice a n c) d p) : n ≤ c ∧ c ≤ maxLen ∧ (a = none → n = 0 ∧ c = 0) := by
  obtain ⟨fuel, hf⟩ := h
  have hf' : DataW.trod enc Tryd.prog W 0 (fun _ => true) true fuel 22 [.slice a n c] = some (d, p) := by simpa [Value.cells] using hf
  rcases open_strings Tryd.underlying22 Tryd.underlying9 cellsString hf' with ⟨hcs, hx⟩ | ⟨x, len, cap, ss, hcs, _, hl, hm, hz, hx, hcell, hws⟩
  · simp only [List.cons.injEq, and_true, Value.slice.injEq] at hcs
    obtain ⟨rfl, rfl, rfl⟩ := hcs
    exact ⟨Nat.le_refl _, Nat.zero_le _, fun _ => ⟨rfl, rfl⟩⟩
  · simp only [List.cons.injEq, and_true, Value.slice.injEq] at hcs
    obtain ⟨rfl, rfl, rfl⟩ := hcs
    exact ⟨hl, hm, fun h => by cases h⟩
theorem fits_first (sz : Int) (P L : List (List UInt8)) : ∀ n, n ≤ L.length → ∃ j, j ≤ n ∧ (∀ k, k < j → fitsB sz P (k : Int) (L.getD k []) = true) ∧ (j < n → fitsB sz P (j : Int) (L.getD j []) = false)
  | 0, _ => ⟨0, Nat.le_refl _, fun k h => by omega, fun h => by omega⟩
  | n + 1, hn => by
    obtain ⟨j, h1, h2, h3⟩ := fits_first sz P L n (by omega)
    by_cases hj : j < n
    · exact ⟨j, by omega, h2, fun _ => h3 hj⟩
    · obtain rfl : j = n := by omega
      cases hf : fitsB sz P (j : Int) (L.getD j []) with
      | true => exact ⟨j + 1, by omega, fun k hk => by
          rcases (by omega : k < j ∨ k = j) with h | rfl
          · exact h2 k h
          · exact hf, fun h => by omega⟩
      | false => exact ⟨j, by omega, h2, fun _ => hf⟩
theorem walk (wh : List UInt8) (sz : Int) (pa : Option Addr) (pc : Nat) (P : List (List UInt8)) (hw : wh.length = 32) (hz : -9223372036854775808 ≤ sz ∧ sz < 9223372036854775808) (hPn : P.length ≤ maxLen)
    (L : List (List UInt8)) (a : Option Addr) (c : Nat) (hn : L.length ≤ maxLen) (hl : ∀ t ∈ L, t.length ≤ maxLen) (hcc : L.length ≤ c ∧ c ≤ maxLen ∧ (a = none → L.length = 0 ∧ c = 0)) (x : Int) (hx : -9223372036854775808 ≤ x ∧ x < 9223372036854775808) (w : World) (hG : GW w)
    (hP : Dgs w.heap.size w pa P) (hS : Strs w.heap.size w (.slice a L.length c) L) :
    Calls Tryd.prog 5 #[.agg (mv wh sz pa P.length pc), .slice a L.length c, .int .i64 x] w fun e w' => e = .returned (.bool true) ∧ Below w.heap.size w w' := by
  have hmx : maxLen ≤ 9223372036854775807 := by decide
  have hc := hcc.1
  have hv : TX w a L := fun i t ht => strs_at hS i t ht
  have hB : Below w.heap.size w (w.alloc (.cells (mv wh sz pa P.length pc) 34)) := (Below.refl _ w).alloc (Nat.le_refl _) _
  have tx : ∀ W, GB (w.alloc (.cells (mv wh sz pa P.length pc) 34)) W → TX W a L := fun W g => (hv.below hB (Nat.le_refl _)).below g.b (Nat.le_refl _)
  by_cases h1 : 40 < P.length ∨ 40 < L.length
  · exact combJoins_great wh sz pa P.length pc a L.length c x w hw hG (fun W g => great_many wh sz pa P.length pc a L.length c W hw (by omega) (by omega) h1)
  · rcases first_long L 1000 with hall | ⟨j, t, g1, g2, g3⟩
    · have hP8 : P.length ≤ 40 := by omega
      have hL8 : L.length ≤ 40 := by omega
      by_cases hno : goodB sz P.length = false ∨ L.length ≠ P.length
      · exact combJoins_go wh sz P pa pc L a c x w hw hG hP hv hP8 hL8 hall [] 1
          (fun W g d u => join_arg wh sz pa P.length pc a L.length c W hw (by omega) (by omega) hno)
          (fun W d u => rjoin_arg wh sz pa P.length pc a L.length c W hw (by omega) (by omega) hno)
      · have hgd : goodB sz P.length = true := by
          cases h : goodB sz P.length with
          | true => rfl
          | false => exact absurd (Or.inl h) hno
        have hln : L.length = P.length := Classical.byContradiction fun h => hno (Or.inr h)
        obtain ⟨j, hj, f1, f2⟩ := fits_first sz P L L.length (Nat.le_refl _)
        have key : ∀ (X : List UInt8) (E : Int), ((j < L.length ∧ X = [] ∧ E = 5) ∨ (j = L.length ∧ S.sha L.flatten = wh ∧ X = L.flatten ∧ E = 0) ∨ (j = L.length ∧ S.sha L.flatten ≠ wh ∧ X = [] ∧ E = 5)) →
            Calls Tryd.prog 5 #[.agg (mv wh sz pa P.length pc), .slice a L.length c, .int .i64 x] w fun e w' => e = .returned (.bool true) ∧ Below w.heap.size w w' := fun X E hX =>
          combJoins_go wh sz P pa pc L a c x w hw hG hP hv hP8 hL8 hall X E
            (fun W g d u => join_loop wh sz P pa pc L a c W hw g d u hc hgd hln (fun t ht => by have := hall t ht; omega) j hj f1 f2 X E hX)
            (fun W d u => rjoin_loop wh sz P pa pc L a c W hw d u hc hgd hln hall j hj f1 f2 X E hX)
        by_cases hjl : j < L.length
        · exact key [] 5 (Or.inl ⟨hjl, rfl, rfl⟩)
        · by_cases hs : S.sha L.flatten = wh
          · exact key L.flatten 0 (Or.inr (Or.inl ⟨by omega, hs, rfl, rfl⟩))
          · exact key [] 5 (Or.inr (Or.inr ⟨by omega, hs, rfl, rfl⟩))
    · have hj : j < L.length := (List.getElem?_eq_some_iff.1 g1).1
      exact combJoins_great wh sz pa P.length pc a L.length c x w hw hG (fun W g => great_loop wh sz pa P.length pc L a c W hw (by omega) (by omega) (tx W g) j (by omega) (fun i u hi hu => g3 i u hi hu)
        (fun u hu => by rw [g1] at hu; obtain rfl := Option.some.inj hu; exact ⟨g2, Nat.le_trans (hl t (mem_of g1)) hmx⟩) true (by show _ = _; simp [hj]))


set_option maxRecDepth 100000 in
theorem lifted (os : Os) (started : os.Started) (H : Type) (enc : TypeId × Value → H) :
    ReturnsInHanded {} Tryd.checked os 5 .any (fun w args => (Rows.combJoinsSpec.pre enc Tryd.prog Tryd.f5 [] false w args ∧ laidMetH Tryd.prog Rows.combJoinsRow.laid w) ∧ sizedMet enc Tryd.prog Tryd.f5 (OpenSpec.ofChange Rows.combJoinsSpec) false w args)
      (Rows.combJoinsSpec.post enc Tryd.prog Tryd.f5 false true false false) := by
  refine returnsInHanded_of_change_and (C := Tryd.checked) (X := fun w _ => laidMetH Tryd.prog Rows.combJoinsRow.laid w) (fun _ _ _ hh h => h.of_heap hh) own started (by kernel_rfl) Tryd.func5
    (ChangeSpec.witness_shaped (enc := enc) (C := Tryd.checked) (os := os) (X := fun w _ => laidMetH Tryd.prog Rows.combJoinsRow.laid w) false (World.doorLaid Tryd.prog 400 os) #[.agg zero34, .slice none 0 0, .int .i64 0] 8 rfl (World.shaped_of_RefB (by kernel_rfl) (by kernel_rfl)) (by kernel_rfl) (by kernel_rfl) (by kernel_rfl) (door_met os _)) ?_
  intro W base args ds gs before hval0 hW _ _ hL _
  have hval : ∀ (j : Nat) t v, Tryd.f5.params[j]? = some t → args[j]? = some v → Value.okWide Tryd.prog W .any base t v := hval0
  have hW' := hW
  obtain ⟨p, q, hA0, hV, rfl, hfz, hnd⟩ := hW
  have hA : DataW.TrodAll enc Tryd.prog W 0 (fun _ => true) true Tryd.f5.params.toList args.toList ds p := hA0
  rw [Tryd.params5] at hA hval
  obtain ⟨v0, vs0, d0, ds0, p0, q0, hargs, rfl, rfl, h0, r0⟩ := trodAll_cons hA
  obtain ⟨v1, vs1, d1, ds1, p1, q1, rfl, rfl, rfl, h1, r1⟩ := trodAll_cons r0
  obtain ⟨v2, vs2, d2, ds2, p2, q2, rfl, rfl, rfl, h2, r2⟩ := trodAll_cons r1
  obtain ⟨rfl, rfl, rfl⟩ := trodAll_nil r2
  obtain rfl : args = #[v0, v1, v2] := by cases args; simp_all
  obtain ⟨rfl, rfl⟩ := trodVars_none hV
  have k0 := h0
  have k1 := h1
  have k2 := h2
  have lt0 : ∀ x ∈ p0, x.block < W.heap.size := by obtain ⟨m, hm⟩ := k0; exact DataW.trod_lt m _ _ _ hm
  have lt1 : ∀ x ∈ p1, x.block < W.heap.size := by obtain ⟨m, hm⟩ := k1; exact DataW.trod_lt m _ _ _ hm
  have lt2 : ∀ x ∈ p2, x.block < W.heap.size := by obtain ⟨m, hm⟩ := k2; exact DataW.trod_lt m _ _ _ hm
  obtain ⟨wh0, sz0, pa0, pc0, ps0, rfl, hw0, hz0, hp0, hn0⟩ := open_mani (hval 0 34 v0 rfl rfl) h0
  obtain ⟨a1, c1, l1, rfl, hv1, hn1, hl1, _⟩ := open_texts (hval 1 22 v1 rfl rfl) h1
  have hc1 := open_cap k1
  obtain ⟨x2, rfl, rfl, rfl, y2⟩ := open_int Tryd.underlying3 (hval 2 3 v2 rfl rfl) h2
  have z2 := wf_i64 y2
  clear hA0 hval0
  refine (walk wh0 sz0 pa0 pc0 ps0 hw0 hz0 hn0 l1 a1 c1 hn1 hl1 hc1 x2 z2 W (of_laid hL) hp0 hv1).mono fun e W' ⟨he, bel⟩ => ?_
  subst he
  exact ⟨_, rfl, _, _, _, [], _, [], hW', trodAll_mk1 (shut_bool Tryd.underlying4 _), (trodAll_cons_mk (Below.trod laidOut (by kernel_rfl) (of_decide_eq_true (by kernel_rfl)) k0 bel lt0) (trodAll_cons_mk (Below.trod laidOut (by kernel_rfl) (of_decide_eq_true (by kernel_rfl)) k1 bel lt1) (trodAll_cons_mk (Below.trod laidOut (by kernel_rfl) (of_decide_eq_true (by kernel_rfl)) k2 bel lt2) trodAll_mk0))), rfl, bel.frame _, fun h => by cases h⟩

theorem over : Rows.CombJoinsSaid :=
  OpenClaim.holds_of_wide 5 Tryd.f5 rfl rfl rfl rfl rfl rfl rfl ⟨rfl, rfl, rfl, rfl, rfl⟩ rfl rfl rfl rfl rfl (by kernel_rfl) Tryd.func5 (by kernel_rfl)
    (of_decide_eq_true (by kernel_rfl)) (by unfold Func.isWrapper; first | (rw [if_pos (by decide +kernel)]; kernel_rfl) | (rw [if_neg (by decide +kernel)]; exact ⟨rfl, rfl⟩))
    (fun os started H enc _ => lifted os started H enc)

theorem proved : Rows.CombJoinsCardSaid :=
  Claim7.holds_tied_plain_at .later [] [.data, .data] true _ false
    over (fun _ h => by cases h) (by kernel_rfl) (fun _ h => by cases h) combJoins_row_tie rfl ⟨rfl, rfl⟩ (by kernel_rfl) rfl
    (fun f fn hf hfn => by
      obtain rfl : f = 5 := Option.some.inj ((show Tryd.prog.funcNamed "apiary/apiarylaw03.CombJoins" = some 5 by kernel_rfl).symm.trans hf) |>.symm
      obtain rfl : fn = Tryd.f5 := (Option.some.inj (Tryd.func5.symm.trans hfn)).symm
      exact ⟨by kernel_rfl, fun j t ht => by
        rw [Tryd.params5] at ht
        rcases j with _ | _ | _ | j
        · obtain rfl : t = 34 := by simpa using ht.symm
          kernel_rfl
        · obtain rfl : t = 22 := by simpa using ht.symm
          kernel_rfl
        · obtain rfl : t = 3 := by simpa using ht.symm
          kernel_rfl
        · simp at ht⟩)
    (by kernel_rfl)
end Go.Proofs.YtkbggcmjicaifaaDoor.combJoins
