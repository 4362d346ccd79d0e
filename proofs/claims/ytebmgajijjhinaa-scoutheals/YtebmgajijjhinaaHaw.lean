/- The law's awake. -/
import Derived.Test.YtebmgajijjhinaaHuK
namespace Go.Proofs.Ytebmgajijjhinaa
open Go.RowKit Go.Maps
set_option linter.unusedVariables false
set_option linter.unusedSimpArgs false

/-- slices that lie apart from the hum -/
def Asd (b : Nat) (v : Value) (L : List (Option Addr × List K.Me)) (W : World) : Prop := ∀ p ∈ L, RS lyM W p.1 p.2 ∧ (p.2 ≠ [] → Apart b v p.1 ∧ ∀ q off, p.1 = some ⟨q, off, none⟩ → q < W.heap.size)
theorem Asd.ov {b : Nat} {v v' : Value} {L : List (Option Addr × List K.Me)} {W W' : World} (h : Asd b v L W) (ho : OV b v v' W W') : Asd b v' L W' := fun p hp => by
  obtain ⟨h1, h2⟩ := h p hp
  refine ⟨?_, fun hne => ⟨(h2 hne).1.ov ho (h2 hne).2, fun q off e => Nat.lt_of_lt_of_le ((h2 hne).2 q off e) ho.size⟩⟩
  by_cases hne : p.2 = []
  · rw [hne]; exact RS.nil _ _ _
  · exact h1.ov ho (h2 hne).1
/-- a hum in order, and slices beside it -/
structure HA (w : World) (b : Nat) (T : Int) (F : HU.St) (L : List (Option Addr × List K.Me)) (W : World) : Prop where
  ex : ∃ v, HL w b v T F (HU.tl F) W ∧ Asd b v L W
theorem HA.grow {w W W' : World} {b : Nat} {T : Int} {F : HU.St} {L : List (Option Addr × List K.Me)} (h : HA w b T F L W) (hb : Bl W W') : HA w b T F L W' := by
  obtain ⟨v, h1, h2⟩ := h.ex
  exact ⟨v, h1.grow hb, h2.ov (OV.bl hb)⟩
theorem HA.bl {w W : World} {b : Nat} {T : Int} {F : HU.St} {L : List (Option Addr × List K.Me)} (h : HA w b T F L W) : Bl w W := by
  obtain ⟨v, h1, h2⟩ := h.ex
  exact h1.bl
theorem HA.ok {w W : World} {b : Nat} {T : Int} {F : HU.St} {L : List (Option Addr × List K.Me)} (h : HA w b T F L W) : HU.Ok F T := by
  obtain ⟨v, h1, h2⟩ := h.ex
  exact h1.ok
theorem HA.at' {w W : World} {b : Nat} {T : Int} {F : HU.St} {L : List (Option Addr × List K.Me)} (h : HA w b T F L W) {p : Option Addr × List K.Me} (hp : p ∈ L) : RS lyM W p.1 p.2 := by
  obtain ⟨v, h1, h2⟩ := h.ex
  exact (h2 p hp).1
theorem HA.sub {w W : World} {b : Nat} {T : Int} {F : HU.St} {L L' : List (Option Addr × List K.Me)} (h : HA w b T F L W) (hs : ∀ p ∈ L', p ∈ L) : HA w b T F L' W := by
  obtain ⟨v, h1, h2⟩ := h.ex
  exact ⟨v, h1, fun p hp => h2 p (hs p hp)⟩
theorem HA.take {w W : World} {b : Nat} {T : Int} {F : HU.St} {L : List (Option Addr × List K.Me)} (h : HA w b T F L W) (most : Int) :
    Calls Try.prog 40 #[.pointer (some ⟨b, 0, none⟩), .int .i64 most] W fun e w' => ∃ a c, e = .returned (.slice a (HU.told F (HU.cnt F most)).length c) ∧ HA w b T (HU.took F (HU.cnt F most)) ((a, HU.told F (HU.cnt F most)) :: L) w' := by
  obtain ⟨v, h1, h2⟩ := h.ex
  refine (Take_x h1 most).mono ?_
  rintro e w' ⟨v', a, c, rfl, r1, r2, r3, r5, r4⟩
  refine ⟨a, c, rfl, v', r2, fun p hp => ?_⟩
  rcases List.mem_cons.1 hp with rfl | hp
  · refine ⟨r1, fun _ => ⟨fun q off e => ?_, fun q off e => (r4 q off e).2⟩⟩
    have hq := r4 q off e
    refine ⟨by have := h1.lt; omega, fun e2 => ?_⟩
    rw [r5] at e2
    have := (h1.ge e2.symm).2; omega
  · exact h2.ov r3 p hp
theorem HA.push {w W : World} {b : Nat} {T : Int} {F : HU.St} {L : List (Option Addr × List K.Me)} (h : HA w b T F L W) {ms : List K.Me} {a : Option Addr} (ha : (a, ms) ∈ L) (c : Nat) (hn : ms.length ≤ 1000) :
    Calls Try.prog 38 #[.pointer (some ⟨b, 0, none⟩), .slice a ms.length c] W fun e w' => e = .returned (.tuple #[]) ∧ HA w b T (HU.push T F ms) L w' := by
  obtain ⟨v, h1, h2⟩ := h.ex
  obtain ⟨r1, r2⟩ := h2 _ ha
  refine (Push_x h1 ms a c r1 (fun e => (r2 e).1) hn).mono ?_
  rintro e w' ⟨rfl, v', q1, q2⟩
  exact ⟨rfl, v', q1, h2.ov q2⟩
/-- a hum, made; slices that were there lie beside it -/
theorem HA.new {W w' : World} {b : Nat} {t : Int} (hb : b = W.heap.size) (h : HL W b (.slice none 0 0) (tms t) HU.e0 [] w') : HA W b (tms t) HU.e0 [] w' :=
  ⟨_, by rw [HU.tl_e0]; exact h, fun p hp => by simp at hp⟩
theorem HA.old {w W : World} {b : Nat} {T : Int} {F : HU.St} {L : List (Option Addr × List K.Me)} (h : HA w b T F L W) {a : Option Addr} {ms : List K.Me} (hr : RS lyM w a ms) : HA w b T F ((a, ms) :: L) W := by
  obtain ⟨v, h1, h2⟩ := h.ex
  refine ⟨v, h1, fun p hp => ?_⟩
  rcases List.mem_cons.1 hp with rfl | hp
  · refine ⟨hr.bl h1.bl, fun hne => ?_⟩
    have hl : ∀ q off, a = some ⟨q, off, none⟩ → q < w.heap.size := fun q off e => by
      obtain ⟨x, r, hx⟩ := List.exists_cons_of_ne_nil hne
      obtain ⟨q', off', e', hq, _⟩ := hr 0 x (by show ms[0]? = _; rw [show ms = x :: r from hx]; rfl)
      rw [e] at e'
      cases e'; exact hq
    refine ⟨fun q off e => ?_, fun q off e => ?_⟩
    · have hq := hl q off e
      exact ⟨by have := h1.b0; omega, fun e2 => by have := (h1.ge e2.symm).1; omega⟩
    · have hq := hl q off e
      have := Below.size h1.bl; omega
  · exact h2 p hp
/-- a slice made just now -/
theorem HA.made {w W : World} {b : Nat} {T : Int} {F : HU.St} {L : List (Option Addr × List K.Me)} (h : HA w b T F L W) (C : Array Value) (t : TypeId) (ms : List K.Me) (hC : C.toList = flG lyM ms) : HA w b T F ((some ⟨W.heap.size, 0, none⟩, ms) :: L) (W.alloc (.cells C t)) := by
  obtain ⟨v, h1, h2⟩ := h.ex
  have hb : Bl W (W.alloc (.cells C t)) := (Bl.refl W).alloc _
  refine ⟨v, h1.grow hb, fun p hp => ?_⟩
  rcases List.mem_cons.1 hp with rfl | hp
  · refine ⟨fun i x hx => ?_, fun _ => ⟨fun q off e => ?_, fun q off e => ?_⟩⟩
    · refine ⟨W.heap.size, 0, rfl, by simp, fun j u hu => ?_⟩
      obtain ⟨p1, z1, e1, e2⟩ := flG_at lyM ms hx
      rw [Lib.cell_of_heap (heap_alloc_new W _), ← Array.getElem?_toList, hC, e1, Nat.zero_add, List.getElem?_append_right (by omega), e2, Nat.add_sub_cancel_left, List.getElem?_append_left (by have := (List.getElem?_eq_some_iff.1 hu).1; omega)]
      exact hu
    · cases e
      exact ⟨by have := h1.lt; omega, fun e2 => by have := (h1.ge e2.symm).2; omega⟩
    · cases e; simp
  · exact (h2.ov (OV.bl hb)) p hp
/-- what the document's example comes to -/
def f1 : HU.St := HU.push 2 HU.e0 [(1, 0, 0), (2, 0, 0)]
theorem tl_of {F : HU.St} {T : Int} (ok : HU.Ok F T) (l : List HU.Ru) (h1 : l.Perm (HU.lf F)) (h2 : l.Pairwise (fun a b => HU.leT a b = true)) : HU.tl F = l := (HU.tl_uniq ok ((HU.rep_lf ok).of_perm h1) h2).symm
theorem ok_f1 : HU.Ok f1 2 := HU.ok_push (by decide) _ (HU.ok_e0 (by decide))
theorem lf_f1 : HU.lf f1 = [((1, 0, 0), 2), ((2, 0, 0), 2)] := by decide
theorem tl_f1 : HU.tl f1 = [((1, 0, 0), 2), ((2, 0, 0), 2)] := tl_of ok_f1 _ (by rw [lf_f1]) (by decide)
theorem cnt_f1 : HU.cnt f1 1 = 1 := by unfold HU.cnt; rw [tl_f1]; decide
def f2 : HU.St := fun i => if i = 1 then ((1, 0, 0), 1) else f1 i
theorem took_f1 : HU.took f1 1 = f2 := by
  funext i
  unfold HU.took HU.inT f2
  rw [tl_f1]
  by_cases h : i = 1
  · subst h; decide
  · have h' : ¬ (1 : Int) = i := fun e => h e.symm
    simp [h, h']
theorem told_f1 : HU.told f1 1 = [(1, 0, 0)] := by unfold HU.told; rw [tl_f1]; rfl
theorem ok_f2 : HU.Ok f2 2 := by rw [← took_f1]; exact HU.ok_took ok_f1 _
theorem lf_f2 : HU.lf f2 = [((1, 0, 0), 1), ((2, 0, 0), 2)] := by decide
theorem tl_f2 : HU.tl f2 = [((2, 0, 0), 2), ((1, 0, 0), 1)] := tl_of ok_f2 _ (by rw [lf_f2]; decide) (by decide)
theorem cnt_f2 : HU.cnt f2 1 = 1 := by unfold HU.cnt; rw [tl_f2]; decide
def f3 : HU.St := fun i => if i = 2 then ((2, 0, 0), 1) else f2 i
theorem took_f2 : HU.took f2 1 = f3 := by
  funext i
  unfold HU.took HU.inT f3
  rw [tl_f2]
  by_cases h : i = 2
  · subst h; decide
  · have h' : ¬ (2 : Int) = i := fun e => h e.symm
    simp [h, h']
theorem told_f2 : HU.told f2 1 = [(2, 0, 0)] := by unfold HU.told; rw [tl_f2]; rfl
theorem ok_f3 : HU.Ok f3 2 := by rw [← took_f2]; exact HU.ok_took ok_f2 _
theorem lf_f3 : HU.lf f3 = [((1, 0, 0), 1), ((2, 0, 0), 1)] := by decide
theorem tl_f3 : HU.tl f3 = [((1, 0, 0), 1), ((2, 0, 0), 1)] := tl_of ok_f3 _ (by rw [lf_f3]) (by decide)
theorem cnt_f3 : HU.cnt f3 9 = 2 := by unfold HU.cnt; rw [tl_f3]; decide
def f4 : HU.St := fun i => if i = 1 then ((1, 0, 0), 0) else if i = 2 then ((2, 0, 0), 0) else f3 i
theorem took_f3 : HU.took f3 2 = f4 := by
  funext i
  unfold HU.took HU.inT f4
  rw [tl_f3]
  by_cases h : i = 1
  · subst h; decide
  · by_cases h2 : i = 2
    · subst h2; decide
    · have h' : ¬ (1 : Int) = i := fun e => h e.symm
      have h2' : ¬ (2 : Int) = i := fun e => h2 e.symm
      simp [h, h', h2, h2']
theorem told_f3 : (HU.told f3 2).length = 2 := by unfold HU.told; rw [tl_f3]; rfl
theorem ok_f4 : HU.Ok f4 2 := by rw [← took_f3]; exact HU.ok_took ok_f3 _
theorem lf_f4 : HU.lf f4 = [] := by decide
theorem tl_f4 : HU.tl f4 = [] := tl_of ok_f4 _ (by rw [lf_f4]) (by decide)
theorem told_f4 (k : Nat) : HU.told f4 k = [] := by unfold HU.told; rw [tl_f4]; simp
theorem took_f4 (k : Nat) : HU.took f4 k = f4 := by
  funext i
  unfold HU.took HU.inT
  rw [tl_f4]; simp
end Go.Proofs.Ytebmgajijjhinaa
