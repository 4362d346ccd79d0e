/- For HumExact: both hums, a theorem a call. -/
import Derived.Test.YtpgagddofifikaaHR4
namespace Go.Proofs.Ytpgagddofifikaa
open Go.RowKit Go.Maps
set_option linter.unusedVariables false
set_option linter.unusedSimpArgs false

theorem HA.pushO {w W : World} {b : Nat} {T : Int} {F : HU.St} (h : HA w b T F [] W) {ms : List K.Me} {a : Option Addr} (hr : RS lyM w a ms) (c : Nat) (hn : ms.length ≤ 1000) :
    Calls Try.prog 9 #[.pointer (some ⟨b, 0, none⟩), .slice a ms.length c] W fun e w' => e = .returned (.tuple #[]) ∧ HA w b T (HU.push T F ms) [] w' ∧ ∀ (q : Nat) (C : Array Value) (t : TypeId), W.heap[q]? = some (.cells C t (0, 0)) → t ≠ 50 → t ≠ 48 → w'.heap[q]? = some (.cells C t (0, 0)) := by
  obtain ⟨v, h1, h2⟩ := (h.old hr).ex
  obtain ⟨r1, r2⟩ := h2 _ (List.mem_cons_self ..)
  refine (Push_x h1 ms a c r1 (fun e => (r2 e).1) hn).mono ?_
  rintro e w' ⟨rfl, v', q1, q2⟩
  refine ⟨rfl, ⟨v', q1, fun p hp => by simp at hp⟩, fun q C t hq t1 t2 => ?_⟩
  rw [q2.block q (lt_heap hq) (tags hq h1.row t1) (fun e => ?_)]
  · exact hq
  · obtain ⟨D, hD⟩ := own_tag h1.own e.symm
    exact tags hq hD t2 rfl
/-- both hums, and a call in a block of its own -/
structure EX (w : World) (b r : Nat) (T : Int) (F G : HU.St) (xb : Nat) (X : Array Value) (W : World) : Prop where
  h : HA w b T F [] W
  g : RH W r T G
  x : W.heap[xb]? = some (.cells X 30 (0, 0))
  rb : w.heap.size ≤ r
variable {w W W' : World} {b r xb : Nat} {T : Int} {F G : HU.St} {X : Array Value}
theorem EX.grow (e : EX w b r T F G xb X W) (hb : Bl W W') : EX w b r T F G xb X W' := ⟨e.h.grow hb, e.g.grow hb, by rw [Below.block hb _ (lt_heap e.x)]; exact e.x, e.rb⟩
theorem EX.off (e : EX w b r T F G xb X W) {G' : HU.St} (ho : Of1 r W W') (hg : RH W' r T G') : EX w b r T F G' xb X W' := by
  obtain ⟨C, h1, h2⟩ := e.g
  refine ⟨e.h.off h1 (by decide) (by decide) e.rb ⟨ho.os, ho.tape, ho.output, ho.size, fun k hk hb => ho.block k hk (fun e => hb (by rw [e]))⟩, hg, ?_, e.rb⟩
  rw [ho.block xb (lt_heap e.x) (tags e.x h1 (by decide))]; exact e.x
theorem EX.pushA (e : EX w b r T F G xb X W) {ms : List K.Me} {a : Option Addr} (hr : RS lyM w a ms) (c : Nat) (hn : ms.length ≤ 1000) :
    Calls Try.prog 9 #[.pointer (some ⟨b, 0, none⟩), .slice a ms.length c] W fun e w' => e = .returned (.tuple #[]) ∧ EX w b r T (HU.push T F ms) G xb X w' := by
  refine (e.h.pushO hr c hn).mono ?_
  rintro e' w' ⟨rfl, h1, h2⟩
  obtain ⟨C, g1, g2⟩ := e.g
  exact ⟨rfl, h1, ⟨C, h2 _ _ _ g1 (by decide) (by decide), g2⟩, h2 _ _ _ e.x (by decide) (by decide), e.rb⟩
theorem EX.pushB (e : EX w b r T F G xb X W) {ms : List K.Me} {a : Option Addr} (hr : RS lyM w a ms) (c : Nat) (hn : ms.length ≤ 1000) :
    Calls Try.prog 10 #[.pointer (some ⟨r, 0, none⟩), .slice a ms.length c] W fun e w' => e = .returned (.tuple #[]) ∧ EX w b r T F (HU.push T G ms) xb X w' := by
  refine (rPush_x e.g ms a c (hr.bl e.h.bl) (fun hne off ha => ?_) hn).mono ?_
  · obtain ⟨x, l, hx⟩ := List.exists_cons_of_ne_nil hne
    obtain ⟨q', off', e', hq, _⟩ := hr 0 x (by rw [hx]; rfl)
    rw [ha] at e'
    cases e'
    have := e.rb; omega
  · rintro e' w' ⟨rfl, h1, h2⟩
    exact ⟨rfl, e.off h2 h1⟩
/-- what was told, in memory apart from the reference -/
structure EY (w : World) (b r : Nat) (T : Int) (F G : HU.St) (xb : Nat) (X : Array Value) (a : Option Addr) (l : List K.Me) (W : World) : Prop where
  e : EX w b r T F G xb X W
  l : RS lyM W a l
  n : ∀ q off, a = some ⟨q, off, none⟩ → q ≠ r
theorem EX.takeA (e : EX w b r T F G xb X W) (most : Int) :
    Calls Try.prog 12 #[.pointer (some ⟨b, 0, none⟩), .int .i64 most] W fun e w' => ∃ a c, e = .returned (.slice a (HU.told F (HU.cnt F most)).length c) ∧ EY w b r T (HU.took F (HU.cnt F most)) G xb X a (HU.told F (HU.cnt F most)) w' := by
  refine (e.h.takeO most).mono ?_
  rintro e' w' ⟨a, c, rfl, h1, h2, h3, h4⟩
  obtain ⟨C, g1, g2⟩ := e.g
  exact ⟨a, c, rfl, ⟨h1, ⟨C, h4 _ _ _ g1 (by decide) (by decide), g2⟩, h4 _ _ _ e.x (by decide) (by decide), e.rb⟩, h2, fun q off e => by have := h3 q off e; have := lt_heap g1; omega⟩
theorem EY.takeB {F' : HU.St} {a : Option Addr} {l : List K.Me} (e : EY w b r T F' G xb X a l W) (ok : HU.Ok G T) (hT : T ≤ 100) (most : Int) :
    Calls Try.prog 13 #[.pointer (some ⟨r, 0, none⟩), .int .i64 most] W fun e w' => ∃ a2 c2, e = .returned (.slice a2 (HU.told G (HU.cnt G most)).length c2) ∧ RS lyM w' a2 (HU.told G (HU.cnt G most)) ∧ EY w b r T F' (HU.took G (HU.cnt G most)) xb X a l w' := by
  refine (rTake_x e.e.g ok hT most).mono ?_
  rintro e' w' ⟨a2, c2, rfl, h1, h2, h3⟩
  exact ⟨a2, c2, rfl, h1, e.e.off h3 h2, e.l.offs h3 (fun off _ e2 => e.n _ _ e2 rfl), e.n⟩
/-- what is left, of both -/
theorem EX.leftA (e : EX w b r T F G xb X W) :
    Calls Try.prog 15 #[.pointer (some ⟨b, 0, none⟩)] W fun e w' => ∃ a c, e = .returned (.slice a (HU.lf F).length c) ∧ RS lyR w' a (HU.lf F) ∧ EX w b r T F G xb X w' := by
  refine e.h.left.mono ?_
  rintro e' w' ⟨a, c, rfl, h1, h2, h3, h4⟩
  exact ⟨a, c, rfl, h1, e.grow h3⟩
theorem EX.leftB (e : EX w b r T F G xb X W) {a8 : Option Addr} {l : List HU.Ru} (h8 : RS lyR W a8 l) :
    Calls Try.prog 16 #[.pointer (some ⟨r, 0, none⟩)] W fun e w' => ∃ a c, e = .returned (.slice a (HU.lf G).length c) ∧ RS lyR w' a (HU.lf G) ∧ RS lyR w' a8 l ∧ EX w b r T F G xb X w' := by
  refine (rLeft_x e.g).mono ?_
  rintro e' w' ⟨a, c, rfl, h1, h2⟩
  exact ⟨a, c, rfl, h1, h8.bl h2, e.grow h2⟩
theorem EX.sameR (e : EX w b r T F G xb X W) (l : List HU.Ru) (a1 a2 : Option Addr) (c1 c2 : Nat) (h1 : RS lyR W a1 l) (h2 : RS lyR W a2 l) (hl : l.length ≤ 6) :
    Calls Try.prog 14 #[.slice a1 l.length c1, .slice a2 l.length c2] W fun e w' => e = .returned (.bool true) ∧ EX w b r T F G xb X w' := by
  refine (rSame_x l l a1 a2 c1 c2 W h1 h2 (by unfold maxLen; omega) (by unfold maxLen; omega)).mono ?_
  rintro e' w' ⟨rfl, n, rfl⟩
  exact ⟨by simp, e.grow ((Bl.refl _).drewN n)⟩
theorem EX.sameM (e : EX w b r T F G xb X W) (l : List K.Me) (a1 a2 : Option Addr) (c1 c2 : Nat) (h1 : RS lyM W a1 l) (h2 : RS lyM W a2 l) (hl : l.length ≤ 6) :
    Calls Try.prog 11 #[.slice a1 l.length c1, .slice a2 l.length c2] W fun e w' => e = .returned (.bool true) ∧ EX w b r T F G xb X w' := by
  refine (Same_x l l a1 a2 c1 c2 W h1 h2 (by unfold maxLen; omega) (by unfold maxLen; omega)).mono ?_
  rintro e' w' ⟨rfl, n, rfl⟩
  exact ⟨by simp, e.grow ((Bl.refl _).drewN n)⟩
end Go.Proofs.Ytpgagddofifikaa
