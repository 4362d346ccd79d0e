/- PROVED: for all manifests m and n and all bytes s the law CombWrites returns true and leaves its arguments as they were: a manifest's bytes, when two are the same, and what bytes are read as, are the reference's. The tables start and roundWords hold what the program's text lays in them (the card ties them). -/
import Derived.Test.YtahdmhenkjbimaaDoorCw
import Derived.Test.YtahdmhenkjbimaaDoorOpM
import Derived.Test.YtahdmhenkjbimaaDoorLaid
import Derived.Test.YtahdmhenkjbimaaDoorCards
import Derived.Test.YtahdmhenkjbimaaDoorTie
import Derived.SevenTiedAt
import Derived.ChangeOld
import Derived.Below
import Derived.ShutString
import Derived.Deep.DeepHandedRow
import Derived.Deep.DeepWitnessRowRef
import Derived.SizedLaws
namespace Go.Proofs.YtahdmhenkjbimaaDoor.combWrites
open Go.ChangeShapes Go.WideShapes Go.ChangeAt Go.WideMaps Go.WideElems Go.RowKit
open Go.ChangeMaps (open_string shut_string)
set_option linter.unusedVariables false

theorem door_met (os : Os) (args : Array Value) : laidMetH Tryd.prog Rows.combWritesRow.laid ((World.doorLaid Tryd.prog 400 os).forCall (fun _ _ => 0) ⟨#[], args, []⟩).memory :=
  laidMetH_of_parts3 (fuel := 8) (laidMet_of_run' 8 (by kernel_rfl) (by kernel_rfl)) (by kernel_rfl) (by kernel_rfl)

theorem great_no (wh : List UInt8) (sz : Int) (pa : Option Addr) (n pc : Nat) (W : World) (hw : wh.length = 32) (hn : n ≤ 40) : Calls Tryd.prog 5 #[.agg (mv wh sz pa n pc), .slice none 0 0] W fun e w' => e = .returned (.bool false) ∧ Below W.heap.size W w' :=
  great_loop wh sz pa n pc [] none 0 W hw hn (by simp) (fun i t h => by simp at h) 0 (Nat.le_refl _) (fun i u h => by omega) (fun u h => by simp at h) false (by show false = _; rfl)
theorem walk (wh1 : List UInt8) (sz1 : Int) (pa1 : Option Addr) (pc1 : Nat) (P1 : List (List UInt8)) (hw1 : wh1.length = 32) (hz1 : -9223372036854775808 ≤ sz1 ∧ sz1 < 9223372036854775808) (hn1 : P1.length ≤ maxLen)
    (wh2 : List UInt8) (sz2 : Int) (pa2 : Option Addr) (pc2 : Nat) (P2 : List (List UInt8)) (hw2 : wh2.length = 32) (hz2 : -9223372036854775808 ≤ sz2 ∧ sz2 < 9223372036854775808) (hn2 : P2.length ≤ maxLen)
    (s0 : ByteArray) (hs0 : s0.size ≤ 140737488355328) (w : World) (hG : GW w) (hp1 : Dgs w.heap.size w pa1 P1) (hp2 : Dgs w.heap.size w pa2 P2) :
    Calls Tryd.prog 3 #[.agg (mv wh1 sz1 pa1 P1.length pc1), .agg (mv wh2 sz2 pa2 P2.length pc2), .string s0] w fun e w' => e = .returned (.bool true) ∧ Below w.heap.size w w' := by
  have hmx : maxLen ≤ 9223372036854775807 := by decide
  obtain ⟨s, rfl⟩ : ∃ s, s0 = M.bs s := ⟨s0.data.toList, (M.bs_of s0).symm⟩
  have hs : s.length ≤ 140737488355328 := by have := M.bs_size s; omega
  have s1 := mv_size wh1 sz1 pa1 P1.length pc1 hw1
  have s2 := mv_size wh2 sz2 pa2 P2.length pc2 hw2
  by_cases h1 : 40 < P1.length
  · exact cw_g1 _ _ _ w hG s1 s2 (fun W _ => great_many wh1 sz1 pa1 P1.length pc1 none 0 0 W hw1 (by omega) (by omega) (Or.inl h1))
  by_cases h2 : 40 < P2.length
  · exact cw_g2 _ _ _ w hG s1 s2 (fun W _ => great_no wh1 sz1 pa1 P1.length pc1 W hw1 (by omega)) (fun W _ => great_many wh2 sz2 pa2 P2.length pc2 none 0 0 W hw2 (by omega) (by omega) (Or.inl h2))
  have T1 := fun W (_ : GB ((w.alloc (.cells (mv wh1 sz1 pa1 P1.length pc1) 26)).alloc (.cells (mv wh2 sz2 pa2 P2.length pc2) 26)) W) => great_no wh1 sz1 pa1 P1.length pc1 W hw1 (by omega)
  have T2 := fun W (_ : GB ((w.alloc (.cells (mv wh1 sz1 pa1 P1.length pc1) 26)).alloc (.cells (mv wh2 sz2 pa2 P2.length pc2) 26)) W) => great_no wh2 sz2 pa2 P2.length pc2 W hw2 (by omega)
  have hB0 : Below w.heap.size w ((w.alloc (.cells (mv wh1 sz1 pa1 P1.length pc1) 26)).alloc (.cells (mv wh2 sz2 pa2 P2.length pc2) 26)) := ((Below.refl _ w).alloc (Nat.le_refl _) _).alloc (by simp) _
  have hD1 : ∀ W, GB ((w.alloc (.cells (mv wh1 sz1 pa1 P1.length pc1) 26)).alloc (.cells (mv wh2 sz2 pa2 P2.length pc2) 26)) W → Dgs W.heap.size W pa1 P1 := fun W g => (hp1.below hB0 hB0.size).below g.b g.b.size
  have hD2 : ∀ W, GB ((w.alloc (.cells (mv wh1 sz1 pa1 P1.length pc1) 26)).alloc (.cells (mv wh2 sz2 pa2 P2.length pc2) 26)) W → Dgs W.heap.size W pa2 P2 := fun W g => (hp2.below hB0 hB0.size).below g.b g.b.size
  obtain ⟨X, E, E1, E2⟩ : ∃ (X : ByteArray) (E : Int), (∀ W, GB ((w.alloc (.cells (mv wh1 sz1 pa1 P1.length pc1) 26)).alloc (.cells (mv wh2 sz2 pa2 P2.length pc2) 26)) W → Calls Tryd.prog 6 #[.agg (mv wh1 sz1 pa1 P1.length pc1)] W fun r w' => r = .returned (.tuple #[.string X, .int .i64 E]) ∧ Below W.heap.size W w') ∧
      (∀ W, GB ((w.alloc (.cells (mv wh1 sz1 pa1 P1.length pc1) 26)).alloc (.cells (mv wh2 sz2 pa2 P2.length pc2) 26)) W → Calls Tryd.prog 7 #[.agg (mv wh1 sz1 pa1 P1.length pc1)] W fun r w' => r = .returned (.tuple #[.string X, .int .i64 E]) ∧ Below W.heap.size W w') := by
    cases hg1 : goodB sz1 P1.length with
    | false => exact ⟨_, _, fun W _ => Encode_no wh1 sz1 pa1 P1.length pc1 W hw1 hg1, fun W _ => rEncode_no wh1 sz1 pa1 P1.length pc1 W hw1 hg1⟩
    | true => exact ⟨_, _, fun W g => Encode_at wh1 sz1 P1 pa1 pc1 W hw1 (hD1 W g) hg1, fun W g => rEncode_at wh1 sz1 P1 pa1 pc1 W hw1 (hD1 W g) hg1⟩
  have S1 := fun W (g : GB ((w.alloc (.cells (mv wh1 sz1 pa1 P1.length pc1) 26)).alloc (.cells (mv wh2 sz2 pa2 P2.length pc2) 26)) W) => Same_at wh1 wh2 sz1 sz2 pa1 pa2 P1 P2 pc1 pc2 W hw1 hw2 (by omega) (by omega) (hD1 W g) (hD2 W g)
  have S2 := fun W (g : GB ((w.alloc (.cells (mv wh1 sz1 pa1 P1.length pc1) 26)).alloc (.cells (mv wh2 sz2 pa2 P2.length pc2) 26)) W) => rSame_at wh1 wh2 sz1 sz2 pa1 pa2 P1 P2 pc1 pc2 W hw1 hw2 (by omega) (by omega) (hD1 W g) (hD2 W g)
  rcases both_decode s hs with ⟨d1, d2⟩ | ⟨a, n, D, ha, hD, hl, d1, d2⟩
  · refine cw_all _ _ s w hG s1 s2 X E 3 _ T1 T2 E1 E2 S1 S2 (fun W _ => ?_)
    refine (d1 W).mono ?_
    rintro e w' ⟨rfl, hb⟩
    refine ⟨zero34, zero34_size, mv_one _ _ _ _ _, rfl, hb, fun W' _ => ?_⟩
    refine (d2 W').mono ?_
    rintro e w'' ⟨rfl, hb'⟩
    refine ⟨zero34, zero34_size, mv_one _ _ _ _ _, rfl, hb', fun W3 _ => ?_⟩
    have h := rSame_at d0 d0 0 0 none none [] [] 0 0 W3 (by simp [d0]) (by simp [d0]) (by simp) (by simp) (fun i d h => by simp at h) (fun i d h => by simp at h)
    rw [sameB_self] at h
    exact h
  · refine cw_all _ _ s w hG s1 s2 X E 0 _ T1 T2 E1 E2 S1 S2 (fun W _ => ?_)
    refine (d1 W).mono ?_
    rintro e w' ⟨pa, pc, rfl, hg, hb⟩
    refine ⟨mv a n pa D.length pc, mv_size _ _ _ _ _ ha, mv_one _ _ _ _ _, rfl, hb, fun W' hW' => ?_⟩
    refine (d2 W').mono ?_
    rintro e w'' ⟨qa, qc, rfl, hg', hb'⟩
    refine ⟨mv a n qa D.length qc, mv_size _ _ _ _ _ ha, mv_one _ _ _ _ _, rfl, hb', fun W3 hW3 => ?_⟩
    have h := rSame_at a a n n pa qa D D pc qc W3 ha ha (by omega) (by omega) (((hg.below hW' hW'.size).below hb' hb'.size).below hW3 hW3.size) (hg'.below hW3 hW3.size)
    rw [sameB_self] at h
    exact h

theorem contract (H : Type) (enc : TypeId × Value → H) (W : World) (base : Nat) (args : Array Value) (ds gs : List (DataW H)) (before : List MemPlace)
    (hval0 : ∀ (j : Nat) t v, Tryd.f3.params[j]? = some t → args[j]? = some v → Value.okWide Tryd.prog W .any base t v)
    (hW : DataW.Whole enc Tryd.prog Tryd.f3.params.toList Rows.combWritesSpec.vars false W args.toList ds gs before) (hsz : (DataW.weightsEach Tryd.prog (Tryd.f3.params.toList ++ (OpenSpec.ofChange Rows.combWritesSpec).bare.plain.varTypes Tryd.prog) (ds ++ gs)).all (· ≤ reachBytes) = true) (hL : laidMetH Tryd.prog Rows.combWritesRow.laid W) :
    Calls Tryd.prog 3 args W fun e W' => ∃ v, e = .returned v ∧ Rows.combWritesSpec.post enc Tryd.prog Tryd.f3 false true false false W args v W' := by
  have hval : ∀ (j : Nat) t v, Tryd.f3.params[j]? = some t → args[j]? = some v → Value.okWide Tryd.prog W .any base t v := hval0
  have hW' := hW
  obtain ⟨p, q, hA0, hV, rfl, hfz, hnd⟩ := hW
  have hA : DataW.TrodAll enc Tryd.prog W 0 (fun _ => true) true Tryd.f3.params.toList args.toList ds p := hA0
  rw [Tryd.params3] at hA hval
  obtain ⟨v0, vs0, d0, ds0, p0, q0, hargs, rfl, rfl, h0, r0⟩ := trodAll_cons hA
  obtain ⟨v1, vs1, d1, ds1, p1, q1, rfl, rfl, rfl, h1, r1⟩ := trodAll_cons r0
  obtain ⟨v2, vs2, d2, ds2, p2, q2, rfl, rfl, rfl, h2, r2⟩ := trodAll_cons r1
  obtain ⟨rfl, rfl, rfl⟩ := trodAll_nil r2
  obtain rfl : args = #[v0, v1, v2] := by cases args; simp_all
  obtain ⟨rfl, rfl⟩ := trodVars_none hV
  have k0 := h0
  have k1 := h1
  have k2 := h2
  have lt0 : ∀ x ∈ p0, x.block < W.heap.size := by obtain ⟨m, hm⟩ := k0; exact DataW.trod_lt m _ _ _ hm
  have lt1 : ∀ x ∈ p1, x.block < W.heap.size := by obtain ⟨m, hm⟩ := k1; exact DataW.trod_lt m _ _ _ hm
  have lt2 : ∀ x ∈ p2, x.block < W.heap.size := by obtain ⟨m, hm⟩ := k2; exact DataW.trod_lt m _ _ _ hm
  obtain ⟨wh0, sz0, pa0, pc0, ps0, rfl, hw0, hz0, hp0, hn0⟩ := open_mani (hval 0 26 v0 rfl rfl) h0
  obtain ⟨wh1, sz1, pa1, pc1, ps1, rfl, hw1, hz1, hp1, hn1⟩ := open_mani (hval 1 26 v1 rfl rfl) h1
  obtain ⟨a2, rfl, rfl, rfl, w2⟩ := open_string Tryd.underlying9 (hval 2 9 v2 rfl rfl) h2
  clear hA0 hval0
  have hb : a2.data.toList.length ≤ reachBytes := sized_string hsz (j := 2) (t := 9) rfl rfl
  have hrb : reachBytes = 140737488351232 := rfl
  have hse : a2.data.toList.length = a2.size := (Lib.size_eq a2).symm
  refine (walk wh0 sz0 pa0 pc0 ps0 hw0 hz0 hn0 wh1 sz1 pa1 pc1 ps1 hw1 hz1 hn1 a2 (by omega) W (of_laid hL) hp0 hp1).mono fun e W' ⟨he, bel⟩ => ?_
  subst he
  exact ⟨_, rfl, _, _, _, [], _, [], hW', trodAll_mk1 (shut_bool Tryd.underlying4 _), (trodAll_cons_mk (Below.trod laidOut (by kernel_rfl) (of_decide_eq_true (by kernel_rfl)) k0 bel lt0) (trodAll_cons_mk (Below.trod laidOut (by kernel_rfl) (of_decide_eq_true (by kernel_rfl)) k1 bel lt1) (trodAll_cons_mk (shut_string Tryd.underlying9 w2) trodAll_mk0))), rfl, bel.frame _, fun h => by cases h⟩

theorem any_some {α : Type} {o : Option α} {p : α → Bool} (h : o.any p = true) : ∃ x, o = some x ∧ p x = true := by
  cases o with
  | none => simp at h
  | some x => exact ⟨x, rfl, h⟩
set_option maxRecDepth 100000 in
theorem reads (os : Os) {H : Type} (enc : TypeId × Value → H) : ∃ x, DataW.whole enc Tryd.prog ((World.doorLaid Tryd.prog 400 os).forCall (fun _ _ => 0) ⟨#[], #[.agg zero34, .agg zero34, .string ByteArray.empty], []⟩).memory Tryd.f3.params.toList Rows.combWritesSpec.vars false #[Value.agg zero34, .agg zero34, .string ByteArray.empty].toList 8 = some x := by
  have h : (DataW.whole enc Tryd.prog ((World.doorLaid Tryd.prog 400 os).forCall (fun _ _ => 0) ⟨#[], #[.agg zero34, .agg zero34, .string ByteArray.empty], []⟩).memory Tryd.f3.params.toList Rows.combWritesSpec.vars false #[Value.agg zero34, .agg zero34, .string ByteArray.empty].toList 8).any (fun _ => true) = true := by kernel_rfl
  obtain ⟨x, h1, _⟩ := any_some h
  exact ⟨x, h1⟩

set_option maxRecDepth 100000 in
theorem lifted (os : Os) (started : os.Started) (H : Type) (enc : TypeId × Value → H) (F : Stop.Interp) :
    ReturnsInHanded {} Tryd.checked os 3 .any ((OpenSpec.ofChange Rows.combWritesSpec).preRow enc Tryd.prog Tryd.f3 Rows.combWritesRow.domain false Rows.combWritesRow.laid) (((OpenSpec.ofChange Rows.combWritesSpec).at F).post enc Tryd.prog Tryd.f3 false true false false) := by
  obtain ⟨x, hx⟩ := reads os enc
  refine returnsInHanded_of_row (C := Tryd.checked) (s := OpenSpec.ofChange Rows.combWritesSpec) own started (by kernel_rfl) Tryd.func3
    (witness_row_atRef (enc := enc) (C := Tryd.checked) false (World.doorLaid Tryd.prog 400 os) #[.agg zero34, .agg zero34, .string ByteArray.empty] rfl (by kernel_rfl) (by kernel_rfl) (by kernel_rfl)
      (OpenSpec.preRow_of_cond 8 hx rfl (fun k hk => by cases hk) (by kernel_rfl) (door_met os _))) ?_
  intro W base args ds gs before hval hW _ _ hsz hL _ _
  exact contract H enc W base args ds gs before hval hW hsz hL

theorem said : Rows.CombWritesSaid :=
  OpenClaim.holds_of_cond 3 Tryd.f3 rfl rfl rfl rfl rfl rfl rfl ⟨rfl, rfl, rfl, rfl, rfl⟩ rfl rfl rfl rfl rfl (by kernel_rfl) Tryd.func3 (by kernel_rfl)
    (of_decide_eq_true (by kernel_rfl)) (by unfold Func.isWrapper; first | (rw [if_pos (by decide +kernel)]; kernel_rfl) | (rw [if_neg (by decide +kernel)]; exact ⟨rfl, rfl⟩))
    (fun os started H enc _ F => by rw [OpenClaim.pre_eq_preRow]; exact lifted os started H enc F)

theorem proved : Rows.CombWritesCardSaid :=
  Claim7.holds_tied_plain_at .later [] [.data, .data] true _ false
    said (fun _ h => by cases h) (by kernel_rfl) (fun _ h => by cases h) combWrites_row_tie rfl ⟨rfl, rfl⟩ (by kernel_rfl) rfl
    (fun f fn hf hfn => by
      obtain rfl : f = 3 := Option.some.inj ((show Tryd.prog.funcNamed "apiary/apiarylaw03.CombWrites" = some 3 by kernel_rfl).symm.trans hf) |>.symm
      obtain rfl : fn = Tryd.f3 := (Option.some.inj (Tryd.func3.symm.trans hfn)).symm
      exact ⟨by kernel_rfl, fun j t ht => by
        rw [Tryd.params3] at ht
        rcases j with _ | _ | _ | j
        · obtain rfl : t = 26 := by simpa using ht.symm
          kernel_rfl
        · obtain rfl : t = 26 := by simpa using ht.symm
          kernel_rfl
        · obtain rfl : t = 9 := by simpa using ht.symm
          kernel_rfl
        · simp at ht⟩)
    (by kernel_rfl)
end Go.Proofs.YtahdmhenkjbimaaDoor.combWrites
