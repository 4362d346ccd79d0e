/- put, Push. -/
import Derived.Test.YtebmgajijjhinaaHuH
import Derived.Deep.RegionLaw
namespace Go.Proofs.Ytebmgajijjhinaa
open Go.RowKit Go.Maps
set_option linter.unusedVariables false
set_option linter.unusedSimpArgs false

theorem OV.set {w W W' : World} {b : Nat} {v v' : Value} {T : Int} {F F' : HU.St} {l l' : List HU.Ru} (h : HL w b v T F l W) (hg : W.grownBy W' v.ownBlock) (hv : ∀ g, v'.ownBlock = some g → v.ownBlock = some g ∨ W.heap.size ≤ g) : OV b v v' W (W'.setCell ⟨b, 1, none⟩ v') := by
  have h2 := grown_setCell W' b 1 v'
  refine ⟨h2.os.trans hg.os, h2.tape.trans hg.tape, h2.output.trans hg.output, Nat.le_trans hg.size h2.size, fun k hk hb hne => ?_, hv⟩
  rw [h2.block k (Nat.lt_of_lt_of_le hk hg.size) (fun e => hb (Option.some.inj e))]
  exact hg.block k hk hne
set_option maxRecDepth 8000 in
set_option maxHeartbeats 4000000 in
theorem put_x {w W : World} {b : Nat} {v : Value} {T : Int} {F : HU.St} {l : List HU.Ru} (x : HL w b v T F l W) (m : K.Me) (hm : K.Good m) :
    Calls Try.prog 56 #[.pointer (some ⟨b, 0, none⟩), .agg (meV m)] W fun e w' => e = .returned (.tuple #[]) ∧ ∃ v' l', HL w b v' T (HU.set1 F T m) l' w' ∧ OV b v v' W w' := by
  obtain ⟨a, c, rfl, hrs⟩ := owns_rs lyR x.own
  have hlen := x.len
  have hT0 : 0 < T := by have := x.t1; omega
  have hok : HU.Ok (HU.set1 F T m) T := HU.ok_set1 x.ok hm (by omega)
  have eg : ∀ args w, (callFunc 71 args).run Try.prog w = .ok (.enter 71 args) w := enters_of Try.func71 (by kernel_rfl) rfl
  have CI : Hid (Calls Try.prog 70 #[.slice a l.length c, .func (.func 71) #[] #[.pointer (some ⟨W.heap.size, 0, none⟩)]] (((W.alloc (.cells (meV m) 54)).alloc (.cells (lyR.f (m, T)).toArray 115)).drew) fun e w' => e = .returned (.int .i64 (idxR (fun r => r.1.1 == m.1) l)) ∧ Bl W w' ∧ w'.heap[W.heap.size + 1]? = some (.cells (lyR.f (m, T)).toArray 115 (0, 0))) := by
    have hb : Bl (W.alloc (.cells (meV m) 54)) (((W.alloc (.cells (meV m) 54)).alloc (.cells (lyR.f (m, T)).toArray 115)).drew) := ((Bl.refl _).alloc _).drew
    have hb0 : Bl ((W.alloc (.cells (meV m) 54)).alloc (.cells (lyR.f (m, T)).toArray 115)) (((W.alloc (.cells (meV m) 54)).alloc (.cells (lyR.f (m, T)).toArray 115)).drew) := (Bl.refl _).drew
    refine (IndexR_c _ _ _ l a _ c rfl (Bl.refl _) eg (hrs.bl hb.up) (by omega) (fun W2 t hb2 => by
      have hbx := (hb.step hb2).box
      exact isNode_x t m W.heap.size W2 (lt_heap hbx) (by rw [Lib.cell_of_heap hbx]; rfl))).mono ?_
    rintro e w' ⟨rfl, h2⟩
    have h3 := (hb0.step h2).box
    rw [size_alloc1] at h3
    exact ⟨rfl, hb.up.step h2, h3⟩
  have HX : Hid (∀ W', Bl W W' → HL w b (.slice a l.length c) T F l W' ∧ W'.cell? ⟨b, 1, none⟩ = some (.slice a l.length c) ∧ W'.frozen? ⟨b, 1, none⟩ = false) := fun W' hb => ⟨x.grow hb, (x.grow hb).c1, (x.grow hb).fz 1⟩
  have c00 := x.c0
  have cx1 := (x.grow ((Bl.refl W).alloc (.cells (meV m) 54))).c0
  have cxa := fun o => (x.grow (((Bl.refl W).alloc (.cells (meV m) 54)).alloc o)).c0
  have cxb := fun o => (x.grow (((Bl.refl W).alloc (.cells (meV m) 54)).alloc o)).c1
  obtain ⟨fs, hum⟩ := undRu
  rcases idxR_cases (fun r : HU.Ru => r.1.1 == m.1) l with ⟨hi, hall⟩ | ⟨k, r, hi, hk, hr, hpre⟩
  · rw [hi] at CI
    have hR : Hid (HU.Rep (l ++ [(m, T)]) (HU.set1 F T m)) := HU.rep_app x.rep hm hT0 (fun r hr e => by have := hall r hr; simp [e] at this)
    have hws : w.heap.size ≤ W.heap.size := Below.size x.bl
    have FIN : Hid (∀ (w3 w8 : World) (o : Obj) (g cap' : Nat), Bl W w3 → (w3.drew.alloc o).grownBy w8 (Value.slice a l.length c).ownBlock → w8.ownsRow w.heap.size 115 4 (.slice (some ⟨g, 0, none⟩) (l.length + 1) cap') (l.length + 1) (flG lyR l ++ lyR.f (m, T)) → ((Value.slice a l.length c).ownBlock = some g ∨ g = w3.heap.size + 1) → w8.cell? ⟨b, 1, none⟩ = some (.slice a l.length c) ∧ w8.frozen? ⟨b, 1, none⟩ = false ∧ HL w b (.slice (some ⟨g, 0, none⟩) (l.length + 1) cap') T (HU.set1 F T m) (l ++ [(m, T)]) (w8.setCell ⟨b, 1, none⟩ (.slice (some ⟨g, 0, none⟩) (l.length + 1) cap')) ∧ OV b (.slice a l.length c) (.slice (some ⟨g, 0, none⟩) (l.length + 1) cap') W (w8.setCell ⟨b, 1, none⟩ (.slice (some ⟨g, 0, none⟩) (l.length + 1) cap'))) := fun w3 w8 o g cap' hb3 hg8 ho8 hgg => by
      have hb4 : Bl W (w3.drew.alloc o) := hb3.drew.alloc o
      have x4 := x.grow hb4
      have hrow8 : w8.heap[b]? = some (.cells #[.int .i64 T, .slice a l.length c] 117 (0, 0)) := by rw [hg8.block b x4.lt x4.ne]; exact x4.row
      have hbl8 : Bl w w8 := (OV.grown (b := b) hg8).below x4.bl x4.b0 (fun g e => (x4.ge e).1)
      refine ⟨by rw [Lib.cell_of_heap hrow8]; rfl, by simp [World.frozen?, hrow8], field_set (l' := l ++ [(m, T)]) hrow8 ?_ x.b0 hbl8 hR.out hok x.t1 x.t2, ?_⟩
      · rw [List.length_append, flG_app]; simpa [flG] using ho8
      · refine (OV.bl hb4).trans (OV.set (F' := F) (l' := l) x4 hg8 (fun q hq => ?_))
        cases hq
        rcases hgg with h | h
        · exact Or.inl h
        · right; rw [h, size_alloc1]; exact Nat.le_refl _
    have OWN : Hid (∀ w3 o, Bl W w3 → (w3.drew.alloc o).ownsRow w.heap.size 115 4 (.slice a l.length c) l.length (flG lyR l)) := fun w3 o hb => (x.grow (hb.drew.alloc o)).own
    have HC4 : Hid (∀ w3 o, Bl W w3 → (w3.alloc o).cell? ⟨b, 1, none⟩ = some (.slice a l.length c)) := fun w3 o hb => (x.grow (hb.alloc o)).c1
    obtain ⟨i0, hi0, hz0, hz1, hz2⟩ := info_partsT infoRu3
    clear hall hi hrs hok eg x
    obtain ⟨n, i, s⟩ := m
    unfold meV at *
    simp only at *
    have HFE : Hid (∀ w3 : World, (w3.drew.alloc (.cells #[.int .i64 n, .int .i64 i, .int .i64 s, .int .i64 T] 115)).rangeAt w3.heap.size 0 (lyR.f ((n, i, s), T))) := fun w3 => range4 (heap_alloc_new w3.drew _)
    have CI2 : Hid (Calls Try.prog 70 #[.slice a l.length c, .func (.func 71) #[] #[.pointer (some ⟨W.heap.size, 0, none⟩)]] (((W.alloc (.cells #[.int .i64 n, .int .i64 i, .int .i64 s] 54)).alloc (.cells #[.int .i64 n, .int .i64 i, .int .i64 s, .int .i64 T] 115)).drew) fun e w' => e = .returned (.int .i64 (-1)) ∧ Bl W w' ∧ w'.heap[W.heap.size + 1]? = some (.cells #[.int .i64 n, .int .i64 i, .int .i64 s, .int .i64 T] 115 (0, 0))) := CI.out
    clear CI
    go_enter Try.func56, Try.ntmps56
    go_wp2_with fail
    go_region
    all_goals go_wp2_with (first
      | (go_at_call 70; refine (CI2.out).mono ?_; clear CI2 cx1 cxa cxb c00; rintro e w3 ⟨rfl, hb3, hx3⟩; obtain ⟨_, c1, f1⟩ := HX.out _ hb3; have c4 := fun o => HC4.out w3 o hb3; have e0 : w3.cell? ⟨W.heap.size + 1, 0, none⟩ = some (.int .i64 n) := (by rw [Lib.cell_of_heap hx3]; rfl); have e1 : w3.cell? ⟨W.heap.size + 1, 1, none⟩ = some (.int .i64 i) := (by rw [Lib.cell_of_heap hx3]; rfl); have e2 : w3.cell? ⟨W.heap.size + 1, 2, none⟩ = some (.int .i64 s) := (by rw [Lib.cell_of_heap hx3]; rfl); have e3 : w3.cell? ⟨W.heap.size + 1, 3, none⟩ = some (.int .i64 T) := (by rw [Lib.cell_of_heap hx3]; rfl)))
    all_goals go_region_law (refine step_append_lies _ (by rfl) _ _ 113 (by rfl) w.heap.size 115 i0 _ 4 32 undRs hi0 hz0 hz1 hz2 rfl (by decide) _ l.length _ (by rfl) (OWN.out w3 _ hb3) ⟨w3.heap.size, 0, none⟩ 1 1 (lyR.f ((n, i, s), T)) (by rfl) rfl (fun j u hu => by rw [Addr.add_mid]; exact HFE.out w3 j u hu) (lyR.one _) (by decide) (by unfold maxLen; omega) (by omega) (by have := Below.size hb3; simp; omega) (w3.heap.size + 1) (by simp) ?_; intro g cap' w8 hown8 hgrow8 hat8 hlt8; obtain ⟨c8, f8, H8, O8⟩ := FIN.out _ _ _ _ _ hb3 hgrow8 hown8 hat8)
    all_goals
      go_wp2_with fail
      refine bodyPost_end (results_none rfl _ _ _) rfl ?_
      exact ⟨rfl, _, _, H8, O8⟩
  · rw [hi] at CI
    have hkl : k < l.length := (List.getElem?_eq_some_iff.1 hk).1
    have hR : Hid (HU.Rep (l.set k (m, T)) (HU.set1 F T m)) := HU.rep_set x.rep hm hT0 hk (by simpa using hr)
    have hws : w.heap.size ≤ W.heap.size := Below.size x.bl
    obtain ⟨g, rfl⟩ : ∃ g, a = some ⟨g, 0, none⟩ := by
      obtain ⟨_, ⟨h1, h2⟩ | ⟨g', cap', cur, h1, _⟩⟩ := x.own
      · omega
      · simp only [Value.slice.injEq] at h1
        exact ⟨g', h1.1⟩
    have FIN : Hid (∀ w3, Bl W w3 → HL w b (.slice (some ⟨g, 0, none⟩) l.length c) T (HU.set1 F T m) (l.set k (m, T)) (w3.setCells g (k * 4) (lyR.f (m, T))) ∧ OV b (.slice (some ⟨g, 0, none⟩) l.length c) (.slice (some ⟨g, 0, none⟩) l.length c) W (w3.setCells g (k * 4) (lyR.f (m, T)))) := fun w3 hb3 => by
      have x3 := x.grow hb3
      have h1 := own_setG lyR rfl x3.own hkl (m, T)
      have h2 := grown_setCells (lyR.f (m, T)) w3 g (k * 4)
      refine ⟨x3.turn (l' := l.set k (m, T)) h2 ?_ hR.out hok, (OV.bl hb3).trans (OV.grown h2)⟩
      rw [List.length_set]; exact h1
    have TH : Hid (∀ w3 : World, Bl W w3 → w3.there g (k * 4) 4) := fun w3 hb3 => owns_there lyR (x.grow hb3).own (i := k) (o := 0) (m := 4) (by show k * 4 + 0 + 4 ≤ l.length * 4; omega)
    have hki : (k : Int) < (l.length : Int) := by omega
    have hk0 : decide ((k : Int) < 0) = false := decide_eq_false (by omega)
    clear hi hrs hok eg x hk hr hpre
    obtain ⟨n, i, s⟩ := m
    unfold meV at *
    simp only at *
    have CI2 : Hid (Calls Try.prog 70 #[.slice (some ⟨g, 0, none⟩) l.length c, .func (.func 71) #[] #[.pointer (some ⟨W.heap.size, 0, none⟩)]] (((W.alloc (.cells #[.int .i64 n, .int .i64 i, .int .i64 s] 54)).alloc (.cells #[.int .i64 n, .int .i64 i, .int .i64 s, .int .i64 T] 115)).drew) fun e w' => e = .returned (.int .i64 (k : Int)) ∧ Bl W w' ∧ w'.heap[W.heap.size + 1]? = some (.cells #[.int .i64 n, .int .i64 i, .int .i64 s, .int .i64 T] 115 (0, 0))) := CI.out
    clear CI
    go_enter Try.func56, Try.ntmps56
    go_wp2_with fail
    go_region
    all_goals go_wp2_with (first
      | (go_at_call 70; refine (CI2.out).mono ?_; clear CI2 cx1 cxa cxb c00; rintro e w3 ⟨rfl, hb3, hx3⟩; obtain ⟨_, c1, f1⟩ := HX.out _ hb3; have e0 : w3.cell? ⟨W.heap.size + 1, 0, none⟩ = some (.int .i64 n) := (by rw [Lib.cell_of_heap hx3]; rfl); have e1 : w3.cell? ⟨W.heap.size + 1, 1, none⟩ = some (.int .i64 i) := (by rw [Lib.cell_of_heap hx3]; rfl); have e2 : w3.cell? ⟨W.heap.size + 1, 2, none⟩ = some (.int .i64 s) := (by rw [Lib.cell_of_heap hx3]; rfl); have e3 : w3.cell? ⟨W.heap.size + 1, 3, none⟩ = some (.int .i64 T) := (by rw [Lib.cell_of_heap hx3]; rfl)))
    all_goals
      have th := TH.out _ hb3
      obtain ⟨q0, p0⟩ := th 0 (by omega)
      obtain ⟨q1, p1⟩ := th 1 (by omega)
      obtain ⟨q2, p2⟩ := th 2 (by omega)
      obtain ⟨q3, p3⟩ := th 3 (by omega)
      rw [Nat.add_zero] at q0 p0
      obtain ⟨z0, y0⟩ := Option.isSome_iff_exists.1 q0
      obtain ⟨z1, y1⟩ := Option.isSome_iff_exists.1 q1
      obtain ⟨z2, y2⟩ := Option.isSome_iff_exists.1 q2
      obtain ⟨z3, y3⟩ := Option.isSome_iff_exists.1 q3
      obtain ⟨H8, O8⟩ := FIN.out w3.drew hb3.drew
      have HH8 := hidP H8
      have HO8 := hidP O8
      clear q0 q1 q2 q3 th H8 O8
      go_region
      all_goals
        go_wp2_with fail
        refine bodyPost_end (results_none rfl _ _ _) rfl ?_
        exact ⟨rfl, _, _, HH8.out, HO8.out⟩
end Go.Proofs.Ytebmgajijjhinaa
