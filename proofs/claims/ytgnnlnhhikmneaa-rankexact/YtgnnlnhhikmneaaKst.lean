/- A view of the law's, and members in blocks of their own beside it. -/
import Derived.Test.YtgnnlnhhikmneaaKaw
namespace Go.Proofs.Ytgnnlnhhikmneaa
open Go.RowKit Go.Maps
set_option linter.unusedVariables false
set_option linter.unusedSimpArgs false

structure RT (w : World) (q b : Nat) (f : K.Vw) (N : Nat) (bx : List (Nat × K.Me)) (W : World) : Prop where
  vt : VT w q b f N W
  bx : ∀ p ∈ bx, Bx W p.1 p.2
theorem RT.grow {w W W' : World} {q b : Nat} {f : K.Vw} {N : Nat} {bx : List (Nat × K.Me)} (h : RT w q b f N bx W) (hb : Bl W W') : RT w q b f N bx W' := ⟨h.vt.grow hb, fun p hp => (h.bx p hp).grow hb⟩
theorem RT.new {w W : World} {q b : Nat} {f : K.Vw} {N : Nat} {bx : List (Nat × K.Me)} (h : RT w q b f N bx W) (m : K.Me) : RT w q b f N ((W.heap.size, m) :: bx) (W.alloc (.cells #[.int .i64 m.1, .int .i64 m.2.1, .int .i64 m.2.2] 28)) := by
  have y := h.grow ((Bl.refl W).alloc (.cells #[.int .i64 m.1, .int .i64 m.2.1, .int .i64 m.2.2] 28))
  refine ⟨y.vt, fun p hp => ?_⟩
  rcases List.mem_cons.1 hp with rfl | hp
  · exact Bx.new W m
  · exact y.bx p hp
theorem RT.bare {w W : World} {q b : Nat} {f : K.Vw} {N : Nat} {bx : List (Nat × K.Me)} (h : RT w q b f N bx W) : RT w q b f N [] W := ⟨h.vt, fun p hp => by simp at hp⟩
theorem RT.get {w W : World} {q b : Nat} {f : K.Vw} {N : Nat} {bx : List (Nat × K.Me)} (h : RT w q b f N bx W) (k : Int) (hk : i64 k) (m : K.Me) (y : Bool) (hm : gv f k = m) (hy : (f k).isSome = y) :
    Calls Try.prog 22 #[.pointer (some ⟨q, 0, none⟩), .int .i64 k] W fun e w' => e = .returned (.tuple #[.agg #[.int .i64 m.1, .int .i64 m.2.1, .int .i64 m.2.2], .bool y]) ∧ RT w q b f N bx w' := by
  subst hm hy
  exact (Get_x h.vt k hk).mono fun e w' ⟨h1, h2⟩ => ⟨h1, h.grow h2⟩
theorem RT.good {w W : World} {q b : Nat} {f : K.Vw} {N : Nat} {bx : List (Nat × K.Me)} (h : RT w q b f N bx W) (m : K.Me) (y : Bool) (hy : K.good m = y) :
    Calls Try.prog 18 #[.agg #[.int .i64 m.1, .int .i64 m.2.1, .int .i64 m.2.2]] W fun e w' => e = .returned (.bool y) ∧ RT w q b f N bx w' := by
  subst hy
  exact (Good_0 m W).mono fun e w' ⟨h1, h2⟩ => ⟨h1, h.grow h2⟩
theorem RT.above {w W : World} {q b : Nat} {f : K.Vw} {N : Nat} {bx : List (Nat × K.Me)} (h : RT w q b f N bx W) (m o : K.Me) (y : Bool) (hy : K.above m o = y) :
    Calls Try.prog 20 #[.agg #[.int .i64 m.1, .int .i64 m.2.1, .int .i64 m.2.2], .agg #[.int .i64 o.1, .int .i64 o.2.1, .int .i64 o.2.2]] W fun e w' => e = .returned (.bool y) ∧ RT w q b f N bx w' := by
  subst hy
  exact (Above_0 m o W).mono fun e w' ⟨h1, h2⟩ => ⟨h1, h.grow h2⟩
theorem Bx.off {W W' : World} {b g : Nat} {m : K.Me} (h : Bx W b m) (ho : Of1 g W W') {f : K.Vw} {N : Nat} (hm : VM W g f N) : Bx W' b m := by
  obtain ⟨es, c, hh⟩ := hm.isMap
  unfold Bx at *
  rw [ho.block b (lt_heap h) (fun e => by rw [e, hh] at h; cases h)]; exact h
theorem RT.merge {w W : World} {q b : Nat} {f : K.Vw} {N : Nat} {bx : List (Nat × K.Me)} (h : RT w q b f N bx W) (l : List K.Me) (a : Option Addr) (c : Nat) (hv : RS lyM W a l) (hl : l.length ≤ 1000) (hN : N ≤ 100000) (hok : ∀ m ∈ l, i64 m.1) (t : Nat) (g : K.Vw) (ht : (K.tak f l).length = t) (hg : K.mrg f l = g) :
    Calls Try.prog 11 #[.pointer (some ⟨q, 0, none⟩), .slice a l.length c] W fun e w' => ∃ a' c', e = .returned (.slice a' t c') ∧ RT w q b g (N + l.length) bx w' := by
  subst ht hg
  exact (Merge_x h.vt l a c hv hl hN hok).mono fun e w' ⟨a', c', h1, h2, h3, h4⟩ => ⟨a', c', h1, h3, fun p hp => (h.bx p hp).off h4 h.vt.mp⟩
/-- one word comes -/
theorem RT.merge1 {w W : World} {q b : Nat} {f : K.Vw} {N : Nat} {bx : List (Nat × K.Me)} (h : RT w q b f N bx W) (m : K.Me) (n : Nat) (hn : n = W.heap.size) (hN : N ≤ 100000) (hok : i64 m.1) (t : Nat) (g : K.Vw) (ht : (K.tak f [m]).length = t) (hg : K.stp f m = g) :
    Calls Try.prog 11 #[.pointer (some ⟨q, 0, none⟩), .slice (some ⟨n, 0, none⟩) 1 1] (W.alloc (.cells #[.int .i64 m.1, .int .i64 m.2.1, .int .i64 m.2.2] 28)) fun e w' => ∃ a' c', e = .returned (.slice a' t c') ∧ RT w q b g (N + 1) bx w' := by
  subst hn
  exact RT.merge (h.grow ((Bl.refl W).alloc _)) [m] _ 1 (rs_new lyM W _ [m] _ rfl) (by simp) hN (fun x hx => by simp at hx; subst hx; exact hok) t g ht hg
end Go.Proofs.Ytgnnlnhhikmneaa
