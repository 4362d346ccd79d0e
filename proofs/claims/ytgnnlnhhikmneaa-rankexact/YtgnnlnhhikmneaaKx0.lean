/- Both views side by side: what the law RankExact knows. -/
import Derived.Test.YtgnnlnhhikmneaaKr4
import Derived.Test.YtgnnlnhhikmneaaKnO
import Derived.Test.YtgnnlnhhikmneaaKst
namespace Go.Proofs.Ytgnnlnhhikmneaa
open Go.RowKit Go.Maps
set_option linter.unusedVariables false
set_option linter.unusedSimpArgs false

structure E2 (w : World) (q b r : Nat) (f g : K.Vw) (N : Nat) (r1 r2 : List (Option Addr × List K.Me)) (is : List (Option Addr × List Int)) (W : World) : Prop where
  vt : VT w q b f N W
  rv : RV W r g
  hr : w.heap.size ≤ r
  rs1 : ∀ p ∈ r1, RS lyM W p.1 p.2 ∧ ∀ off, p.2 ≠ [] → p.1 ≠ some ⟨r, off, none⟩
  rs2 : ∀ p ∈ r2, RS lyM W p.1 p.2
  rsi : ∀ p ∈ is, RS lyI W p.1 p.2
theorem E2.grow {w W W' : World} {q b r : Nat} {f g : K.Vw} {N : Nat} {r1 r2 : List (Option Addr × List K.Me)} {is : List (Option Addr × List Int)} (h : E2 w q b r f g N r1 r2 is W) (hb : Bl W W') : E2 w q b r f g N r1 r2 is W' :=
  ⟨h.vt.grow hb, h.rv.grow hb, h.hr, fun p hp => ⟨(h.rs1 p hp).1.bl hb, (h.rs1 p hp).2⟩, fun p hp => (h.rs2 p hp).bl hb, fun p hp => (h.rsi p hp).bl hb⟩
theorem E2.bare {w W : World} {q b r : Nat} {f g : K.Vw} {N : Nat} {r1 r2 : List (Option Addr × List K.Me)} {is : List (Option Addr × List Int)} (h : E2 w q b r f g N r1 r2 is W) : E2 w q b r f g N [] [] [] W :=
  ⟨h.vt, h.rv, h.hr, fun p hp => by simp at hp, fun p hp => by simp at hp, fun p hp => by simp at hp⟩
theorem E2.rb {w W : World} {q b r : Nat} {f g : K.Vw} {N : Nat} {r1 r2 : List (Option Addr × List K.Me)} {is : List (Option Addr × List Int)} (h : E2 w q b r f g N r1 r2 is W) : r ≠ b := fun e => by
  obtain ⟨C, h1, _⟩ := h.rv
  obtain ⟨es, c, h2⟩ := h.vt.mp.isMap
  rw [e, h2] at h1; cases h1
theorem E2.rq {w W : World} {q b r : Nat} {f g : K.Vw} {N : Nat} {r1 r2 : List (Option Addr × List K.Me)} {is : List (Option Addr × List Int)} (h : E2 w q b r f g N r1 r2 is W) : r ≠ q := fun e => by
  obtain ⟨C, h1, h3⟩ := h.rv
  have h2 := h.vt.row
  rw [← e, h1] at h2
  simp only [Option.some.injEq, Obj.cells.injEq] at h2
  have := h3.size
  rw [h2.1] at this
  simp at this
/-- a list of the law's own -/
theorem E2.ne {w W : World} {q b r : Nat} {f g : K.Vw} {N : Nat} {r1 r2 : List (Option Addr × List K.Me)} {is : List (Option Addr × List Int)} (h : E2 w q b r f g N r1 r2 is W) {a : Option Addr} {l : List K.Me} (hv : RS lyM w a l) : ∀ off, l ≠ [] → a ≠ some ⟨r, off, none⟩ := fun off hl e => by
  obtain ⟨x, t, rfl⟩ := List.exists_cons_of_ne_nil hl
  obtain ⟨b', o', h1, h2, _⟩ := hv 0 x rfl
  rw [e] at h1
  simp only [Option.some.injEq, Addr.mk.injEq] at h1
  have := h.hr
  omega
theorem E2.merge {w W : World} {q b r : Nat} {f g : K.Vw} {N : Nat} (h : E2 w q b r f g N [] [] [] W) (l : List K.Me) (a : Option Addr) (c : Nat) (hv : RS lyM w a l) (hl : l.length ≤ 1000) (hN : N ≤ 100000) (hok : ∀ m ∈ l, i64 m.1) :
    Calls Try.prog 11 #[.pointer (some ⟨q, 0, none⟩), .slice a l.length c] W fun e w' => ∃ a' c', e = .returned (.slice a' (K.tak f l).length c') ∧ E2 w q b r (K.mrg f l) g (N + l.length) [(a', K.tak f l)] [] [] w' := by
  refine (Merge_o h.vt l a c (hv.bl h.vt.bl) hl hN hok).mono ?_
  rintro e w' ⟨a', c', h1, h2, h3, h4, h5⟩
  refine ⟨a', c', h1, h3, h.rv.off h4 h.rb, h.hr, fun p hp => ?_, fun p hp => by simp at hp, fun p hp => by simp at hp⟩
  simp at hp; subst hp
  exact ⟨h2, fun off _ e => by have := h5 r off e; have := h.rv.lt; omega⟩
theorem E2.rmerge {w W : World} {q b r : Nat} {f g : K.Vw} {N : Nat} {p : Option Addr × List K.Me} (h : E2 w q b r f g N [p] [] [] W) (l : List K.Me) (a : Option Addr) (c : Nat) (hv : RS lyM w a l) (hl : l.length ≤ 1000) :
    Calls Try.prog 12 #[.pointer (some ⟨r, 0, none⟩), .slice a l.length c] W fun e w' => ∃ a' c', e = .returned (.slice a' (K.tak g l).length c') ∧ E2 w q b r f (K.mrg g l) N [] [(a', K.tak g l), p] [] w' := by
  refine (rMerge_x h.rv l a c (hv.bl h.vt.bl) (h.ne hv) hl).mono ?_
  rintro e w' ⟨a', c', h1, h2, h3, h4⟩
  refine ⟨a', c', h1, h.vt.off h4 h.rq h.rb h.hr, h3, h.hr, fun p hp => by simp at hp, fun x hx => ?_, fun p hp => by simp at hp⟩
  rcases List.mem_cons.1 hx with rfl | hx
  · exact h2
  · simp at hx; subst hx
    exact (h.rs1 x (by simp)).1.offs h4 (h.rs1 x (by simp)).2
theorem E2.same {w W : World} {q b r : Nat} {f g : K.Vw} {N : Nat} {r1 r2 : List (Option Addr × List K.Me)} {is : List (Option Addr × List Int)} (h : E2 w q b r f g N r1 r2 is W) (l : List K.Me) (a1 a2 : Option Addr) (c1 c2 : Nat) (h1 : (a1, l) ∈ r2) (h2 : (a2, l) ∈ r2) (hl : l.length ≤ 9223372036854775807) :
    Calls Try.prog 10 #[.slice a1 l.length c1, .slice a2 l.length c2] W fun e w' => e = .returned (.bool true) ∧ E2 w q b r f g N r1 r2 is w' :=
  (Same_x l l a1 a2 c1 c2 W (h.rs2 _ h1) (h.rs2 _ h2) (Nat.le_trans hl (by decide)) (Nat.le_trans hl (by decide))).mono fun e w' ⟨he, n, hn⟩ => ⟨by rw [he]; simp, by rw [hn]; exact h.grow ((Bl.refl W).drewN n)⟩
theorem E2.ints {w W : World} {q b r : Nat} {f g : K.Vw} {N : Nat} {r1 r2 : List (Option Addr × List K.Me)} {is : List (Option Addr × List Int)} (h : E2 w q b r f g N r1 r2 is W) (l : List Int) (a1 a2 : Option Addr) (c1 c2 : Nat) (h1 : (a1, l) ∈ is) (h2 : (a2, l) ∈ is) (hl : l.length ≤ 9223372036854775807) :
    Calls Try.prog 15 #[.slice a1 l.length c1, .slice a2 l.length c2] W fun e w' => e = .returned (.bool true) ∧ E2 w q b r f g N r1 r2 is w' :=
  (Ints_x l l a1 a2 c1 c2 W (h.rsi _ h1) (h.rsi _ h2) (Nat.le_trans hl (by decide)) (Nat.le_trans hl (by decide))).mono fun e w' ⟨he, n, hn⟩ => ⟨by rw [he]; simp, by rw [hn]; exact h.grow ((Bl.refl W).drewN n)⟩
theorem E2.all {w W : World} {q b r : Nat} {f g : K.Vw} {N : Nat} {r1 r2 : List (Option Addr × List K.Me)} {is : List (Option Addr × List Int)} (h : E2 w q b r f g N r1 r2 is W) :
    Calls Try.prog 13 #[.pointer (some ⟨q, 0, none⟩)] W fun e w' => ∃ a' c', e = .returned (.slice a' (K.all f).length c') ∧ E2 w q b r f g N r1 ((a', K.all f) :: r2) is w' :=
  (All_g h.vt.getC).mono fun e w' ⟨a, c, he, h1, h2⟩ => ⟨a, c, he, (h.grow h2).vt, (h.grow h2).rv, h.hr, (h.grow h2).rs1, fun p hp => by
    rcases List.mem_cons.1 hp with rfl | hp
    · exact h1
    · exact (h.grow h2).rs2 p hp, (h.grow h2).rsi⟩
theorem E2.rall {w W : World} {q b r : Nat} {f g : K.Vw} {N : Nat} {r1 r2 : List (Option Addr × List K.Me)} {is : List (Option Addr × List Int)} (h : E2 w q b r f g N r1 r2 is W) :
    Calls Try.prog 14 #[.pointer (some ⟨r, 0, none⟩)] W fun e w' => ∃ a' c', e = .returned (.slice a' (K.all g).length c') ∧ E2 w q b r f g N r1 ((a', K.all g) :: r2) is w' :=
  (rAll_x h.rv).mono fun e w' ⟨a, c, he, h1, h2⟩ => ⟨a, c, he, (h.grow h2).vt, (h.grow h2).rv, h.hr, (h.grow h2).rs1, fun p hp => by
    rcases List.mem_cons.1 hp with rfl | hp
    · exact h1
    · exact (h.grow h2).rs2 p hp, (h.grow h2).rsi⟩
theorem E2.pres {w W : World} {q b r : Nat} {f g : K.Vw} {N : Nat} {r1 r2 : List (Option Addr × List K.Me)} {is : List (Option Addr × List Int)} (h : E2 w q b r f g N r1 r2 is W) :
    Calls Try.prog 16 #[.pointer (some ⟨q, 0, none⟩)] W fun e w' => ∃ a' c', e = .returned (.slice a' (K.pres f).length c') ∧ E2 w q b r f g N r1 r2 ((a', K.pres f) :: is) w' :=
  (Present_g h.vt.getC).mono fun e w' ⟨a, c, he, h1, h2⟩ => ⟨a, c, he, (h.grow h2).vt, (h.grow h2).rv, h.hr, (h.grow h2).rs1, (h.grow h2).rs2, fun p hp => by
    rcases List.mem_cons.1 hp with rfl | hp
    · exact h1
    · exact (h.grow h2).rsi p hp⟩
theorem E2.rpres {w W : World} {q b r : Nat} {f g : K.Vw} {N : Nat} {r1 r2 : List (Option Addr × List K.Me)} {is : List (Option Addr × List Int)} (h : E2 w q b r f g N r1 r2 is W) (hg : K.Ok g) :
    Calls Try.prog 17 #[.pointer (some ⟨r, 0, none⟩)] W fun e w' => ∃ a' c', e = .returned (.slice a' (K.pres g).length c') ∧ E2 w q b r f g N r1 r2 ((a', K.pres g) :: is) w' :=
  (rPresent_x h.rv hg).mono fun e w' ⟨a, c, he, h1, h2⟩ => ⟨a, c, he, (h.grow h2).vt, (h.grow h2).rv, h.hr, (h.grow h2).rs1, (h.grow h2).rs2, fun p hp => by
    rcases List.mem_cons.1 hp with rfl | hp
    · exact h1
    · exact (h.grow h2).rsi p hp⟩
end Go.Proofs.Ytgnnlnhhikmneaa
